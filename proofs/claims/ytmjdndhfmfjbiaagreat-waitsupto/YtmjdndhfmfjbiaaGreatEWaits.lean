import Derived.Test.YtmjdndhfmfjbiaaGreatM21
import Derived.Test.YtmjdndhfmfjbiaaGreatM34
namespace Go.Proofs.YtmjdndhfmfjbiaaGreat
open Go.RowKit Go.Deep Go.ChangeShapes Go.WideShapes
open Go.ChangeMaps (open_string shut_string)

set_option maxRecDepth 100000 in
theorem waitsWalk (P : Prog) (room : Int) (l : List OpD) (ao : Option Addr) (n cap : Nat) (w : World) (hn : l.length = n) (hlen : n ≤ 1048576) (hc : ScriptAt w ao l) (hs : ∀ o ∈ l, Sane o) :
    Calls Tryz.prog 6 #[.int .i64 room, .slice ao n cap] w fun e w' => e = .returned (.bool true) ∧ Below w.heap.size w w' := by
  have HP : Hid (Calls Tryz.prog 11 #[.int .i64 room, .slice ao n cap, aimV ⟨true, true, false, false, false⟩] w fun e w' => e = .returned (.bool true) ∧ Below w.heap.size w w') :=
    lawPlays P ⟨true, true, false, false, false⟩ (fun w G c b v S x F R ends h hb => looks110 P w G c b v S x F R ends false false h hb) room l ao n cap w hn hlen hc hs
  clear hn hc hs
  go_enter Tryz.func6, Tryz.ntmps6
  go_wp2_with fail
  refine HP.out.mono ?_
  rintro e w1 ⟨rfl, hb⟩
  go_wp2_with fail
  go_ret
  exact ⟨rfl, hb⟩

set_option maxRecDepth 100000 in
theorem waitsContract (P : Prog) (H : Type) (enc : TypeId × Value → H) (W : World) (base : Nat) (args : Array Value) (ds gs : List (DataW H)) (before : List MemPlace)
    (hval : ∀ (j : Nat) t v, Tryz.f6.params[j]? = some t → args[j]? = some v → Value.okWide Tryz.prog W .any base t v)
    (hW : DataW.Whole enc Tryz.prog Tryz.f6.params.toList Rows.waitsSpec.vars false W args.toList ds gs before) (hk : Rows.uptoSmall H (ds ++ gs) = true) :
    Calls Tryz.prog 6 args W fun e W' => ∃ v, e = .returned v ∧ Rows.waitsSpec.post enc Tryz.prog Tryz.f6 false true false false W args v W' := by
  have hW' := hW
  obtain ⟨p, q, hA0, hV, rfl, hfz, hnd⟩ := hW
  have hA : DataW.TrodAll enc Tryz.prog W 0 (fun _ => true) true Tryz.f6.params.toList args.toList ds p := hA0
  rw [Tryz.params6] at hA hval
  obtain ⟨v0, vs0, d0, ds0, p0, q0, hargs, rfl, rfl, h0, r0⟩ := trodAll_cons hA
  obtain ⟨v1, vs1, d1, ds1, p1, q1, rfl, rfl, rfl, h1, r1⟩ := trodAll_cons r0
  obtain ⟨rfl, rfl, rfl⟩ := trodAll_nil r1
  obtain rfl := arr2z hargs
  obtain ⟨rfl, rfl⟩ := trodVars_none hV
  obtain ⟨n, rfl, rfl, rfl, hwf⟩ := open_int Tryz.underlying3 (hval 0 3 v0 rfl rfl) h0
  have hd1 := small2 hk
  obtain ⟨ao, m, cap, l, rfl, hm, hl, hsc, hsa⟩ := open_script (hval 1 26 v1 rfl rfl) h1 hd1
  clear hA0
  simp only [List.append_nil] at hW'
  have hlt : ∀ x ∈ p1, x.block < W.heap.size := fun x hx => hW'.lt x (by simp [hx])
  refine (waitsWalk P n l ao m cap W hl hm hsc hsa).mono fun e W' ⟨he, hg⟩ => ?_
  subst he
  exact ⟨_, rfl, _, _, _, [], _, [], hW', trodAll_mk1 (shut_bool Tryz.underlying4 _), trodAll_cons_mk (shut_int Tryz.underlying3 hwf) (trodAll_cons_mk (Below.trod laidOut (by kernel_rfl) (of_decide_eq_true (by kernel_rfl)) h1 hg hlt) trodAll_mk0), rfl, hg.frame _, fun h => by cases h⟩

set_option maxRecDepth 100000 in
theorem waitsLifted (P : Prog) (os : Os) (started : os.Started) (H : Type) (enc : TypeId × Value → H) (F : Stop.Interp) :
    ReturnsInHanded {} Tryz.checked os 6 .any ((Rows.OpenSpec.upto Rows.waitsSpec).pre6 enc Tryz.prog Tryz.f6 Rows.waitsUptoRow.domain false) (((Rows.OpenSpec.upto Rows.waitsSpec).at F).post enc Tryz.prog Tryz.f6 false true false false) := by
  refine returnsInHanded_of_cond (C := Tryz.checked) (s := Rows.OpenSpec.upto Rows.waitsSpec) (k := Rows.uptoSmall) rfl ownZ started (by kernel_rfl) Tryz.func6
    (OpenSpec.witness (enc := enc) (C := Tryz.checked) (s := Rows.OpenSpec.upto Rows.waitsSpec) (k := Rows.uptoSmall) rfl false ⟨#[], #[.int .i64 0, .slice none 0 0], []⟩ 8 (by kernel_rfl) (by kernel_rfl) (by kernel_rfl)
      (x := ([.lit (.int .i64 0), .nil], [], [])) (by kernel_rfl) rfl (by kernel_rfl)) ?_
  intro W base args ds gs before hval hW _ hk _
  exact waitsContract P H enc W base args ds gs before hval hW hk

theorem waits_of (P : Prog) : Rows.WaitsUptoSaid :=
  OpenClaim.holds_of_cond 6 Tryz.f6 rfl rfl rfl rfl rfl rfl rfl ⟨rfl, rfl, rfl, rfl, rfl⟩ rfl rfl rfl rfl rfl (by kernel_rfl) Tryz.func6 (by kernel_rfl)
    (of_decide_eq_true (by kernel_rfl)) (by unfold Func.isWrapper; first | (rw [if_pos (by decide +kernel)]; kernel_rfl) | (rw [if_neg (by decide +kernel)]; exact ⟨rfl, rfl⟩))
    (fun os started H enc _ F => waitsLifted P os started H enc F)
end Go.Proofs.YtmjdndhfmfjbiaaGreat

namespace Go.Proofs.YtmjdndhfmfjbiaaGreat
open Go.RowKit
theorem waits_holds : Rows.WaitsUptoSaid := waits_of theProg
end Go.Proofs.YtmjdndhfmfjbiaaGreat
