/-
  No cell of these rows narrows 'for every input' (looked for: loops, veiled, ifaces, maps, wideKeys, modest, calm, conditions, laid).
  DERIVED. THE GIVEN ROWS OF THIS SEAT. 8 by the template 'for every input the law returns true; each argument reads behind the call as it read before'; 0 by the template 'total and deterministic' (their statements: YtmjdndhfmfjbiaaGreatTotals.lean).
  GIVEN WITH THE SEED: the statements are not yours to turn. If you find one false, say at which input.
  Laid BY PROGRAM, IN A SANDBOX (cutbox-rows.mjs): the forced cells as the released guide's own fill.sh prints them over the translation 8abe4738a471b227… (all of the seat's roots in one cut). By AI agents, Wed Nov 11 2026. No macro, syntax, notation, axiom, sorry.
-/
import Derived.Test.YtmjdndhfmfjbiaaGreatChecked
import GoSem.Claim
import GoSem.ClaimJoined
import GoSem.ClaimMapViews
import Derived.JoinedTies
import Derived.KernelRfl
namespace Go.Proofs.YtmjdndhfmfjbiaaGreat
/- THE CELL 'sum', in the pinned program and in every row, IS THE sha256 OF THE DUMP (.gsa) THAT YtmjdndhfmfjbiaaGreatProg.lean LOADS. Nothing in Lean hashes anything: it is a label: what it is worth is what the hold of that sum in a sandbox is worth. -/
noncomputable def Tryz.pinned : Pinned := { name := "ytmjdndhfmfjbiaagreat", sum := "8abe4738a471b2273d597ad4a7d37c502becdcf8f415de0b57b3080a978eb75e", checked := Tryz.checked }
namespace Rows
def none {H : Type} : Left H := { results := [], args := [] }

/-- 'heraldlaw.News': WHATEVER THE INPUT: true; the input reads as it did. -/
def newsSpec : ChangeSpec := { name := "news", fn := fun _ => fun
  | [d] => { results := [.lit (.bool true)], args := [d] }
  | _ => none }
def newsRow : OpenClaim := { program := "ytmjdndhfmfjbiaagreat", sum := "8abe4738a471b2273d597ad4a7d37c502becdcf8f415de0b57b3080a978eb75e", func := "herald/heraldlaw.News", spec := "news", recurses := true, apart := false }
def NewsSaid : Prop := newsRow.holds Tryz.pinned (OpenSpec.ofChange newsSpec)

/-- ITS FALSE NEIGHBOUR: 'it returns false'. Refute it at one input. -/
def newsWrong : ChangeSpec := { name := "news", fn := fun _ => fun
  | [d] => { results := [.lit (.bool false)], args := [d] }
  | _ => none }
def NewsWrongFalsely : Prop := newsRow.holds Tryz.pinned (OpenSpec.ofChange newsWrong)

/-- 'heraldlaw.Subs': WHATEVER THE INPUT: true; the input reads as it did. -/
def subsSpec : ChangeSpec := { name := "subs", fn := fun _ => fun
  | [d1, d2] => { results := [.lit (.bool true)], args := [d1, d2] }
  | _ => none }
def subsRow : OpenClaim := { program := "ytmjdndhfmfjbiaagreat", sum := "8abe4738a471b2273d597ad4a7d37c502becdcf8f415de0b57b3080a978eb75e", func := "herald/heraldlaw.Subs", spec := "subs", recurses := true, apart := false }
def SubsSaid : Prop := subsRow.holds Tryz.pinned (OpenSpec.ofChange subsSpec)

/-- ITS FALSE NEIGHBOUR: 'it returns false'. Refute it at one input. -/
def subsWrong : ChangeSpec := { name := "subs", fn := fun _ => fun
  | [d1, d2] => { results := [.lit (.bool false)], args := [d1, d2] }
  | _ => none }
def SubsWrongFalsely : Prop := subsRow.holds Tryz.pinned (OpenSpec.ofChange subsWrong)

/-- 'heraldlaw.Sends': WHATEVER THE INPUT: true; the input reads as it did. -/
def sendsSpec : ChangeSpec := { name := "sends", fn := fun _ => fun
  | [d1, d2] => { results := [.lit (.bool true)], args := [d1, d2] }
  | _ => none }
def sendsRow : OpenClaim := { program := "ytmjdndhfmfjbiaagreat", sum := "8abe4738a471b2273d597ad4a7d37c502becdcf8f415de0b57b3080a978eb75e", func := "herald/heraldlaw.Sends", spec := "sends", recurses := true, apart := false }
def SendsSaid : Prop := sendsRow.holds Tryz.pinned (OpenSpec.ofChange sendsSpec)

/-- ITS FALSE NEIGHBOUR: 'it returns false'. Refute it at one input. -/
def sendsWrong : ChangeSpec := { name := "sends", fn := fun _ => fun
  | [d1, d2] => { results := [.lit (.bool false)], args := [d1, d2] }
  | _ => none }
def SendsWrongFalsely : Prop := sendsRow.holds Tryz.pinned (OpenSpec.ofChange sendsWrong)

/-- 'heraldlaw.Waits': WHATEVER THE INPUT: true; the input reads as it did. -/
def waitsSpec : ChangeSpec := { name := "waits", fn := fun _ => fun
  | [d1, d2] => { results := [.lit (.bool true)], args := [d1, d2] }
  | _ => none }
def waitsRow : OpenClaim := { program := "ytmjdndhfmfjbiaagreat", sum := "8abe4738a471b2273d597ad4a7d37c502becdcf8f415de0b57b3080a978eb75e", func := "herald/heraldlaw.Waits", spec := "waits", recurses := true, apart := false }
def WaitsSaid : Prop := waitsRow.holds Tryz.pinned (OpenSpec.ofChange waitsSpec)

/-- ITS FALSE NEIGHBOUR: 'it returns false'. Refute it at one input. -/
def waitsWrong : ChangeSpec := { name := "waits", fn := fun _ => fun
  | [d1, d2] => { results := [.lit (.bool false)], args := [d1, d2] }
  | _ => none }
def WaitsWrongFalsely : Prop := waitsRow.holds Tryz.pinned (OpenSpec.ofChange waitsWrong)

/-- 'heraldlaw.Writes': WHATEVER THE INPUT: true; the input reads as it did. -/
def writesSpec : ChangeSpec := { name := "writes", fn := fun _ => fun
  | [d1, d2] => { results := [.lit (.bool true)], args := [d1, d2] }
  | _ => none }
def writesRow : OpenClaim := { program := "ytmjdndhfmfjbiaagreat", sum := "8abe4738a471b2273d597ad4a7d37c502becdcf8f415de0b57b3080a978eb75e", func := "herald/heraldlaw.Writes", spec := "writes", recurses := true, apart := false }
def WritesSaid : Prop := writesRow.holds Tryz.pinned (OpenSpec.ofChange writesSpec)

/-- ITS FALSE NEIGHBOUR: 'it returns false'. Refute it at one input. -/
def writesWrong : ChangeSpec := { name := "writes", fn := fun _ => fun
  | [d1, d2] => { results := [.lit (.bool false)], args := [d1, d2] }
  | _ => none }
def WritesWrongFalsely : Prop := writesRow.holds Tryz.pinned (OpenSpec.ofChange writesWrong)

/-- 'heraldlaw.Returns': WHATEVER THE INPUT: true; the input reads as it did. -/
def returnsSpec : ChangeSpec := { name := "returns", fn := fun _ => fun
  | [d1, d2] => { results := [.lit (.bool true)], args := [d1, d2] }
  | _ => none }
def returnsRow : OpenClaim := { program := "ytmjdndhfmfjbiaagreat", sum := "8abe4738a471b2273d597ad4a7d37c502becdcf8f415de0b57b3080a978eb75e", func := "herald/heraldlaw.Returns", spec := "returns", recurses := true, apart := false }
def ReturnsSaid : Prop := returnsRow.holds Tryz.pinned (OpenSpec.ofChange returnsSpec)

/-- ITS FALSE NEIGHBOUR: 'it returns false'. Refute it at one input. -/
def returnsWrong : ChangeSpec := { name := "returns", fn := fun _ => fun
  | [d1, d2] => { results := [.lit (.bool false)], args := [d1, d2] }
  | _ => none }
def ReturnsWrongFalsely : Prop := returnsRow.holds Tryz.pinned (OpenSpec.ofChange returnsWrong)

/-- 'heraldlaw.Turns': WHATEVER THE INPUT: true; the input reads as it did. -/
def turnsSpec : ChangeSpec := { name := "turns", fn := fun _ => fun
  | [d1, d2] => { results := [.lit (.bool true)], args := [d1, d2] }
  | _ => none }
def turnsRow : OpenClaim := { program := "ytmjdndhfmfjbiaagreat", sum := "8abe4738a471b2273d597ad4a7d37c502becdcf8f415de0b57b3080a978eb75e", func := "herald/heraldlaw.Turns", spec := "turns", recurses := true, apart := false }
def TurnsSaid : Prop := turnsRow.holds Tryz.pinned (OpenSpec.ofChange turnsSpec)

/-- ITS FALSE NEIGHBOUR: 'it returns false'. Refute it at one input. -/
def turnsWrong : ChangeSpec := { name := "turns", fn := fun _ => fun
  | [d1, d2] => { results := [.lit (.bool false)], args := [d1, d2] }
  | _ => none }
def TurnsWrongFalsely : Prop := turnsRow.holds Tryz.pinned (OpenSpec.ofChange turnsWrong)

/-- 'heraldlaw.All': WHATEVER THE INPUT: true; the input reads as it did. -/
def allSpec : ChangeSpec := { name := "all", fn := fun _ => fun
  | [d1, d2] => { results := [.lit (.bool true)], args := [d1, d2] }
  | _ => none }
def allRow : OpenClaim := { program := "ytmjdndhfmfjbiaagreat", sum := "8abe4738a471b2273d597ad4a7d37c502becdcf8f415de0b57b3080a978eb75e", func := "herald/heraldlaw.All", spec := "all", recurses := true, apart := false }
def AllSaid : Prop := allRow.holds Tryz.pinned (OpenSpec.ofChange allSpec)

/-- ITS FALSE NEIGHBOUR: 'it returns false'. Refute it at one input. -/
def allWrong : ChangeSpec := { name := "all", fn := fun _ => fun
  | [d1, d2] => { results := [.lit (.bool false)], args := [d1, d2] }
  | _ => none }
def AllWrongFalsely : Prop := allRow.holds Tryz.pinned (OpenSpec.ofChange allWrong)

/- THE SECOND FORM. 'bulk': how many values and letters a reading holds, each counted each time it is reached (what is shared counts as often as it is met; a slice's spare places count too). A statement '..UptoSaid' is the law's where the arguments, and the package variables that the reading takes, are together of bulk at most 1048576: NARROWER than '..Said'. Prove '..Said' where nothing that the law and all that it calls make is longer than what came in: it says more and counts as full. Else prove '..UptoSaid'. A law counts once. -/
mutual
def uptoBulk {H : Type} : DataW H → Nat
  | .lit (.string bytes) => bytes.length + 1
  | .lit _ => 1
  | .nil => 1
  | .ptr d => uptoBulk d + 1
  | .slice elems spare => uptoBulkAll elems + uptoBulkAll spare + 1
  | .agg parts => uptoBulkAll parts + 1
  | .iface _ d => uptoBulk d + 1
  | .map entries => uptoBulkEntries entries + 1
  | .held _ => 1
def uptoBulkAll {H : Type} : List (DataW H) → Nat
  | [] => 0
  | d :: r => uptoBulk d + uptoBulkAll r
def uptoBulkEntries {H : Type} : List (Lit × DataW H) → Nat
  | [] => 0
  | x :: r => uptoBulkEntry x + uptoBulkEntries r
def uptoBulkEntry {H : Type} : Lit × DataW H → Nat
  | (.string bytes, d) => bytes.length + uptoBulk d + 1
  | (_, d) => uptoBulk d + 1
 end
def uptoSmall : (H : Type) → List (DataW H) → Bool := fun _ ds => decide (uptoBulkAll ds ≤ 1048576)
def OpenSpec.upto (s : _root_.Go.ChangeSpec) : _root_.Go.OpenSpec := { _root_.Go.OpenSpec.ofChange s with cond := some uptoSmall }

/-- 'heraldlaw.News', WHERE WHAT IT READS IS OF BULK AT MOST 1048576: true; the input reads as it did. -/
def newsUptoRow : OpenClaim := { program := "ytmjdndhfmfjbiaagreat", sum := "8abe4738a471b2273d597ad4a7d37c502becdcf8f415de0b57b3080a978eb75e", func := "herald/heraldlaw.News", spec := "news", recurses := true, apart := false, narrowed := true }
def NewsUptoSaid : Prop := newsUptoRow.holds Tryz.pinned (OpenSpec.upto newsSpec)

/-- 'heraldlaw.Subs', WHERE WHAT IT READS IS OF BULK AT MOST 1048576: true; the input reads as it did. -/
def subsUptoRow : OpenClaim := { program := "ytmjdndhfmfjbiaagreat", sum := "8abe4738a471b2273d597ad4a7d37c502becdcf8f415de0b57b3080a978eb75e", func := "herald/heraldlaw.Subs", spec := "subs", recurses := true, apart := false, narrowed := true }
def SubsUptoSaid : Prop := subsUptoRow.holds Tryz.pinned (OpenSpec.upto subsSpec)

/-- 'heraldlaw.Sends', WHERE WHAT IT READS IS OF BULK AT MOST 1048576: true; the input reads as it did. -/
def sendsUptoRow : OpenClaim := { program := "ytmjdndhfmfjbiaagreat", sum := "8abe4738a471b2273d597ad4a7d37c502becdcf8f415de0b57b3080a978eb75e", func := "herald/heraldlaw.Sends", spec := "sends", recurses := true, apart := false, narrowed := true }
def SendsUptoSaid : Prop := sendsUptoRow.holds Tryz.pinned (OpenSpec.upto sendsSpec)

/-- 'heraldlaw.Waits', WHERE WHAT IT READS IS OF BULK AT MOST 1048576: true; the input reads as it did. -/
def waitsUptoRow : OpenClaim := { program := "ytmjdndhfmfjbiaagreat", sum := "8abe4738a471b2273d597ad4a7d37c502becdcf8f415de0b57b3080a978eb75e", func := "herald/heraldlaw.Waits", spec := "waits", recurses := true, apart := false, narrowed := true }
def WaitsUptoSaid : Prop := waitsUptoRow.holds Tryz.pinned (OpenSpec.upto waitsSpec)

/-- 'heraldlaw.Writes', WHERE WHAT IT READS IS OF BULK AT MOST 1048576: true; the input reads as it did. -/
def writesUptoRow : OpenClaim := { program := "ytmjdndhfmfjbiaagreat", sum := "8abe4738a471b2273d597ad4a7d37c502becdcf8f415de0b57b3080a978eb75e", func := "herald/heraldlaw.Writes", spec := "writes", recurses := true, apart := false, narrowed := true }
def WritesUptoSaid : Prop := writesUptoRow.holds Tryz.pinned (OpenSpec.upto writesSpec)

/-- 'heraldlaw.Returns', WHERE WHAT IT READS IS OF BULK AT MOST 1048576: true; the input reads as it did. -/
def returnsUptoRow : OpenClaim := { program := "ytmjdndhfmfjbiaagreat", sum := "8abe4738a471b2273d597ad4a7d37c502becdcf8f415de0b57b3080a978eb75e", func := "herald/heraldlaw.Returns", spec := "returns", recurses := true, apart := false, narrowed := true }
def ReturnsUptoSaid : Prop := returnsUptoRow.holds Tryz.pinned (OpenSpec.upto returnsSpec)

/-- 'heraldlaw.Turns', WHERE WHAT IT READS IS OF BULK AT MOST 1048576: true; the input reads as it did. -/
def turnsUptoRow : OpenClaim := { program := "ytmjdndhfmfjbiaagreat", sum := "8abe4738a471b2273d597ad4a7d37c502becdcf8f415de0b57b3080a978eb75e", func := "herald/heraldlaw.Turns", spec := "turns", recurses := true, apart := false, narrowed := true }
def TurnsUptoSaid : Prop := turnsUptoRow.holds Tryz.pinned (OpenSpec.upto turnsSpec)

/-- 'heraldlaw.All', WHERE WHAT IT READS IS OF BULK AT MOST 1048576: true; the input reads as it did. -/
def allUptoRow : OpenClaim := { program := "ytmjdndhfmfjbiaagreat", sum := "8abe4738a471b2273d597ad4a7d37c502becdcf8f415de0b57b3080a978eb75e", func := "herald/heraldlaw.All", spec := "all", recurses := true, apart := false, narrowed := true }
def AllUptoSaid : Prop := allUptoRow.holds Tryz.pinned (OpenSpec.upto allSpec)

end Rows
end Go.Proofs.YtmjdndhfmfjbiaaGreat
