/-
  No cell of these rows narrows 'for every input' (looked for: loops, veiled, ifaces, maps, wideKeys, modest, calm, conditions, laid).
  DERIVED. THE GIVEN ROWS OF THIS SEAT. 6 by the template 'for every input the law returns true; each argument reads behind the call as it read before'; 0 by the template 'total and deterministic' (their statements: YtmjdndhfmfjbiabTotals.lean).
  GIVEN WITH THE SEED: the statements are not yours to turn. If you find one false, say at which input.
  Laid BY PROGRAM, IN A SANDBOX (cutbox-rows.mjs): the forced cells as the released guide's own fill.sh prints them over the translation a6ec32617c97bc81… (all of the seat's roots in one cut). By AI agents, Wed Nov 11 2026. No macro, syntax, notation, axiom, sorry.
-/
import Derived.Test.YtmjdndhfmfjbiabChecked
import GoSem.Claim
import GoSem.ClaimJoined
import GoSem.ClaimMapViews
import Derived.JoinedTies
import Derived.KernelRfl
namespace Go.Proofs.Ytmjdndhfmfjbiab
/- THE CELL 'sum', in the pinned program and in every row, IS THE sha256 OF THE DUMP (.gsa) THAT YtmjdndhfmfjbiabProg.lean LOADS. Nothing in Lean hashes anything: it is a label: what it is worth is what the hold of that sum in a sandbox is worth. -/
noncomputable def Try.pinned : Pinned := { name := "ytmjdndhfmfjbiab", sum := "a6ec32617c97bc8117d379d9ca947be58e28d90687a764cfc75a24d82c058bc0", checked := Try.checked }
namespace Rows
def none {H : Type} : Left H := { results := [], args := [] }

/-- 'heraldkeep.Order': WHATEVER THE INPUT: true; the input reads as it did. -/
def orderSpec : ChangeSpec := { name := "order", fn := fun _ => fun
  | [d1, d2] => { results := [.lit (.bool true)], args := [d1, d2] }
  | _ => none }
def orderRow : OpenClaim := { program := "ytmjdndhfmfjbiab", sum := "a6ec32617c97bc8117d379d9ca947be58e28d90687a764cfc75a24d82c058bc0", func := "herald/heraldkeep.Order", spec := "order", apart := false }
def OrderSaid : Prop := orderRow.holds Try.pinned (OpenSpec.ofChange orderSpec)

/-- ITS FALSE NEIGHBOUR: 'it returns false'. Refute it at one input. -/
def orderWrong : ChangeSpec := { name := "order", fn := fun _ => fun
  | [d1, d2] => { results := [.lit (.bool false)], args := [d1, d2] }
  | _ => none }
def OrderWrongFalsely : Prop := orderRow.holds Try.pinned (OpenSpec.ofChange orderWrong)

/-- 'heraldkeep.Moved': WHATEVER THE INPUT: true; the input reads as it did. -/
def movedSpec : ChangeSpec := { name := "moved", fn := fun _ => fun
  | [d1, d2, d3] => { results := [.lit (.bool true)], args := [d1, d2, d3] }
  | _ => none }
def movedRow : OpenClaim := { program := "ytmjdndhfmfjbiab", sum := "a6ec32617c97bc8117d379d9ca947be58e28d90687a764cfc75a24d82c058bc0", func := "herald/heraldkeep.Moved", spec := "moved", apart := false }
def MovedSaid : Prop := movedRow.holds Try.pinned (OpenSpec.ofChange movedSpec)

/-- ITS FALSE NEIGHBOUR: 'it returns false'. Refute it at one input. -/
def movedWrong : ChangeSpec := { name := "moved", fn := fun _ => fun
  | [d1, d2, d3] => { results := [.lit (.bool false)], args := [d1, d2, d3] }
  | _ => none }
def MovedWrongFalsely : Prop := movedRow.holds Try.pinned (OpenSpec.ofChange movedWrong)

/-- 'heraldkeep.Prefix': WHATEVER THE INPUT: true; the input reads as it did. -/
def prefixSpec : ChangeSpec := { name := "prefix", fn := fun _ => fun
  | [d1, d2, d3, d4] => { results := [.lit (.bool true)], args := [d1, d2, d3, d4] }
  | _ => none }
def prefixRow : OpenClaim := { program := "ytmjdndhfmfjbiab", sum := "a6ec32617c97bc8117d379d9ca947be58e28d90687a764cfc75a24d82c058bc0", func := "herald/heraldkeep.Prefix", spec := "prefix", apart := false }
def PrefixSaid : Prop := prefixRow.holds Try.pinned (OpenSpec.ofChange prefixSpec)

/-- ITS FALSE NEIGHBOUR: 'it returns false'. Refute it at one input. -/
def prefixWrong : ChangeSpec := { name := "prefix", fn := fun _ => fun
  | [d1, d2, d3, d4] => { results := [.lit (.bool false)], args := [d1, d2, d3, d4] }
  | _ => none }
def PrefixWrongFalsely : Prop := prefixRow.holds Try.pinned (OpenSpec.ofChange prefixWrong)

/-- 'heraldkeep.Others': WHATEVER THE INPUT: true; the input reads as it did. -/
def othersSpec : ChangeSpec := { name := "others", fn := fun _ => fun
  | [d1, d2, d3, d4, d5, d6] => { results := [.lit (.bool true)], args := [d1, d2, d3, d4, d5, d6] }
  | _ => none }
def othersRow : OpenClaim := { program := "ytmjdndhfmfjbiab", sum := "a6ec32617c97bc8117d379d9ca947be58e28d90687a764cfc75a24d82c058bc0", func := "herald/heraldkeep.Others", spec := "others", apart := false }
def OthersSaid : Prop := othersRow.holds Try.pinned (OpenSpec.ofChange othersSpec)

/-- ITS FALSE NEIGHBOUR: 'it returns false'. Refute it at one input. -/
def othersWrong : ChangeSpec := { name := "others", fn := fun _ => fun
  | [d1, d2, d3, d4, d5, d6] => { results := [.lit (.bool false)], args := [d1, d2, d3, d4, d5, d6] }
  | _ => none }
def OthersWrongFalsely : Prop := othersRow.holds Try.pinned (OpenSpec.ofChange othersWrong)

/-- 'heraldkeep.Refused': WHATEVER THE INPUT: true; the input reads as it did. -/
def refusedSpec : ChangeSpec := { name := "refused", fn := fun _ => fun
  | [d1, d2, d3, d4, d5] => { results := [.lit (.bool true)], args := [d1, d2, d3, d4, d5] }
  | _ => none }
def refusedRow : OpenClaim := { program := "ytmjdndhfmfjbiab", sum := "a6ec32617c97bc8117d379d9ca947be58e28d90687a764cfc75a24d82c058bc0", func := "herald/heraldkeep.Refused", spec := "refused", apart := false }
def RefusedSaid : Prop := refusedRow.holds Try.pinned (OpenSpec.ofChange refusedSpec)

/-- ITS FALSE NEIGHBOUR: 'it returns false'. Refute it at one input. -/
def refusedWrong : ChangeSpec := { name := "refused", fn := fun _ => fun
  | [d1, d2, d3, d4, d5] => { results := [.lit (.bool false)], args := [d1, d2, d3, d4, d5] }
  | _ => none }
def RefusedWrongFalsely : Prop := refusedRow.holds Try.pinned (OpenSpec.ofChange refusedWrong)

/-- 'heraldkeep.Full': WHATEVER THE INPUT: true; the input reads as it did. -/
def fullSpec : ChangeSpec := { name := "full", fn := fun _ => fun
  | [d1, d2] => { results := [.lit (.bool true)], args := [d1, d2] }
  | _ => none }
def fullRow : OpenClaim := { program := "ytmjdndhfmfjbiab", sum := "a6ec32617c97bc8117d379d9ca947be58e28d90687a764cfc75a24d82c058bc0", func := "herald/heraldkeep.Full", spec := "full", apart := false }
def FullSaid : Prop := fullRow.holds Try.pinned (OpenSpec.ofChange fullSpec)

/-- ITS FALSE NEIGHBOUR: 'it returns false'. Refute it at one input. -/
def fullWrong : ChangeSpec := { name := "full", fn := fun _ => fun
  | [d1, d2] => { results := [.lit (.bool false)], args := [d1, d2] }
  | _ => none }
def FullWrongFalsely : Prop := fullRow.holds Try.pinned (OpenSpec.ofChange fullWrong)

/- THE SECOND FORM. 'bulk': how many values and letters a reading holds, each counted each time it is reached (what is shared counts as often as it is met; a slice's spare places count too). A statement '..UptoSaid' is the law's where the arguments, and the package variables that the reading takes, are together of bulk at most 1048576: NARROWER than '..Said'. Prove '..Said' where nothing that the law and all that it calls make is longer than what came in: it says more and counts as full. Else prove '..UptoSaid'. A law counts once. -/
mutual
def uptoBulk {H : Type} : DataW H → Nat
  | .lit (.string bytes) => bytes.length + 1
  | .lit _ => 1
  | .nil => 1
  | .ptr d => uptoBulk d + 1
  | .slice elems spare => uptoBulkAll elems + uptoBulkAll spare + 1
  | .agg parts => uptoBulkAll parts + 1
  | .iface _ d => uptoBulk d + 1
  | .map entries => uptoBulkEntries entries + 1
  | .held _ => 1
def uptoBulkAll {H : Type} : List (DataW H) → Nat
  | [] => 0
  | d :: r => uptoBulk d + uptoBulkAll r
def uptoBulkEntries {H : Type} : List (Lit × DataW H) → Nat
  | [] => 0
  | x :: r => uptoBulkEntry x + uptoBulkEntries r
def uptoBulkEntry {H : Type} : Lit × DataW H → Nat
  | (.string bytes, d) => bytes.length + uptoBulk d + 1
  | (_, d) => uptoBulk d + 1
 end
def uptoSmall : (H : Type) → List (DataW H) → Bool := fun _ ds => decide (uptoBulkAll ds ≤ 1048576)
def OpenSpec.upto (s : _root_.Go.ChangeSpec) : _root_.Go.OpenSpec := { _root_.Go.OpenSpec.ofChange s with cond := some uptoSmall }

/-- 'heraldkeep.Order', WHERE WHAT IT READS IS OF BULK AT MOST 1048576: true; the input reads as it did. -/
def orderUptoRow : OpenClaim := { program := "ytmjdndhfmfjbiab", sum := "a6ec32617c97bc8117d379d9ca947be58e28d90687a764cfc75a24d82c058bc0", func := "herald/heraldkeep.Order", spec := "order", apart := false, narrowed := true }
def OrderUptoSaid : Prop := orderUptoRow.holds Try.pinned (OpenSpec.upto orderSpec)

/-- 'heraldkeep.Moved', WHERE WHAT IT READS IS OF BULK AT MOST 1048576: true; the input reads as it did. -/
def movedUptoRow : OpenClaim := { program := "ytmjdndhfmfjbiab", sum := "a6ec32617c97bc8117d379d9ca947be58e28d90687a764cfc75a24d82c058bc0", func := "herald/heraldkeep.Moved", spec := "moved", apart := false, narrowed := true }
def MovedUptoSaid : Prop := movedUptoRow.holds Try.pinned (OpenSpec.upto movedSpec)

/-- 'heraldkeep.Prefix', WHERE WHAT IT READS IS OF BULK AT MOST 1048576: true; the input reads as it did. -/
def prefixUptoRow : OpenClaim := { program := "ytmjdndhfmfjbiab", sum := "a6ec32617c97bc8117d379d9ca947be58e28d90687a764cfc75a24d82c058bc0", func := "herald/heraldkeep.Prefix", spec := "prefix", apart := false, narrowed := true }
def PrefixUptoSaid : Prop := prefixUptoRow.holds Try.pinned (OpenSpec.upto prefixSpec)

/-- 'heraldkeep.Others', WHERE WHAT IT READS IS OF BULK AT MOST 1048576: true; the input reads as it did. -/
def othersUptoRow : OpenClaim := { program := "ytmjdndhfmfjbiab", sum := "a6ec32617c97bc8117d379d9ca947be58e28d90687a764cfc75a24d82c058bc0", func := "herald/heraldkeep.Others", spec := "others", apart := false, narrowed := true }
def OthersUptoSaid : Prop := othersUptoRow.holds Try.pinned (OpenSpec.upto othersSpec)

/-- 'heraldkeep.Refused', WHERE WHAT IT READS IS OF BULK AT MOST 1048576: true; the input reads as it did. -/
def refusedUptoRow : OpenClaim := { program := "ytmjdndhfmfjbiab", sum := "a6ec32617c97bc8117d379d9ca947be58e28d90687a764cfc75a24d82c058bc0", func := "herald/heraldkeep.Refused", spec := "refused", apart := false, narrowed := true }
def RefusedUptoSaid : Prop := refusedUptoRow.holds Try.pinned (OpenSpec.upto refusedSpec)

/-- 'heraldkeep.Full', WHERE WHAT IT READS IS OF BULK AT MOST 1048576: true; the input reads as it did. -/
def fullUptoRow : OpenClaim := { program := "ytmjdndhfmfjbiab", sum := "a6ec32617c97bc8117d379d9ca947be58e28d90687a764cfc75a24d82c058bc0", func := "herald/heraldkeep.Full", spec := "full", apart := false, narrowed := true }
def FullUptoSaid : Prop := fullUptoRow.holds Try.pinned (OpenSpec.upto fullSpec)

end Rows
end Go.Proofs.Ytmjdndhfmfjbiab
