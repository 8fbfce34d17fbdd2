import Derived.Test.YtmjdndhfmfjbiaaFitsW
import Derived.Test.YtmjdndhfmfjbiaaMath4
import Derived.ProofKit
import Derived.OpenShut
import Derived.JoinedCond
namespace Go.Proofs.Ytmjdndhfmfjbiaa
open Go.RowKit Go.ChangeShapes Go.WideShapes Go.ChangeAt
open Go.ChangeMaps (open_string shut_string)


theorem topIsFilter (s : ByteArray) (w : World) (hs : s.size ≤ maxLen) :
    Calls Try.prog 26 #[.string s] w fun e w' => e = .returned (.bool (M.isPathM true s)) ∧ Below w.heap.size w w' := by
  go_enter Try.func26, Try.ntmps26
  go_wp2_with fail
  refine (topIsPath s true _ hs).mono ?_
  rintro e w1 ⟨rfl, hb⟩
  go_wp2_with fail
  go_ret
  exact ⟨rfl, hb⟩

theorem topIsTopic (s : ByteArray) (w : World) (hs : s.size ≤ maxLen) :
    Calls Try.prog 27 #[.string s] w fun e w' => e = .returned (.bool (M.isPathM false s)) ∧ Below w.heap.size w w' := by
  go_enter Try.func27, Try.ntmps27
  go_wp2_with fail
  refine (topIsPath s false _ hs).mono ?_
  rintro e w1 ⟨rfl, hb⟩
  go_wp2_with fail
  go_ret
  exact ⟨rfl, hb⟩

theorem isPathM_size {wild : Bool} {s : ByteArray} (h : M.isPathM wild s = true) : s.size ≤ 15 := by
  simp [M.isPathM] at h
  exact h.1.1

/-- The program's Fits, at every two texts. -/
theorem heraldFits (f t : ByteArray) (w : World) (hf : f.size ≤ maxLen) (ht : t.size ≤ maxLen) :
    Calls Try.prog 7 #[.string f, .string t] w fun e w' => e = .returned (.tuple #[.bool (M.fitsM f t), .int .i64 (M.fitsE f t)]) ∧ Below w.heap.size w w' := by
  cases h1 : M.isPathM true f
  · have HV : Hid (M.fitsM f t = false ∧ M.fitsE f t = 4) := by simp [M.fitsM, M.fitsE, h1, Hid]
    go_enter Try.func7, Try.ntmps7
    go_wp2_with fail
    refine (topIsFilter f _ hf).mono ?_
    rintro e w1 ⟨rfl, hb⟩
    go_wp2_with fail
    go_ret2
    exact ⟨by rw [HV.out.1, HV.out.2]; rfl, hb⟩
  · have HS1 := isPathM_size h1
    cases h2 : M.isPathM false t
    · have HV : Hid (M.fitsM f t = false ∧ M.fitsE f t = 3) := by simp [M.fitsM, M.fitsE, h1, h2, Hid]
      go_enter Try.func7, Try.ntmps7
      go_wp2_with fail
      refine (topIsFilter f _ hf).mono ?_
      rintro e w1 ⟨rfl, hb⟩
      go_wp2_with fail
      refine (topIsTopic t _ ht).mono ?_
      rintro e w2 ⟨rfl, hb2⟩
      go_wp2_with fail
      go_ret2
      exact ⟨by rw [HV.out.1, HV.out.2]; rfl, hb.trans (hb2.mono hb.size)⟩
    · have HS2 := isPathM_size h2
      have HV : Hid (M.fitsM f t = M.alongM (M.wordsM f) (M.wordsM t) ∧ M.fitsE f t = 0) := by simp [M.fitsM, M.fitsE, h1, h2, Hid]
      go_enter Try.func7, Try.ntmps7
      go_wp2_with fail
      refine (topIsFilter f _ hf).mono ?_
      rintro e w1 ⟨rfl, hb⟩
      go_wp2_with fail
      refine (topIsTopic t _ ht).mono ?_
      rintro e w2 ⟨rfl, hb2⟩
      go_wp2_with fail
      refine (topFits f t _ (by omega) (by omega)).mono ?_
      rintro e w3 ⟨rfl, hb3⟩
      have hb12 := hb.trans (hb2.mono hb.size)
      go_wp2_with fail
      go_ret2
      exact ⟨by rw [HV.out.1, HV.out.2]; rfl, hb12.trans (hb3.mono hb12.size)⟩

theorem refFits (f t : ByteArray) (w : World) (hf : f.size ≤ 1048576) (ht : t.size ≤ 1048576) :
    Calls Try.prog 8 #[.string f, .string t] w fun e w' => e = .returned (.tuple #[.bool (M.fitsM f t), .int .i64 (M.fitsE f t)]) ∧ Below w.heap.size w w' := by
  cases h1 : M.isPathM true f
  · have HV : Hid (M.fitsM f t = false ∧ M.fitsE f t = 4) := by simp [M.fitsM, M.fitsE, h1, Hid]
    go_enter Try.func8, Try.ntmps8
    go_wp2_with fail
    refine (refIsFilter f _ hf).mono ?_
    rintro e w1 ⟨rfl, hb⟩
    go_wp2_with fail
    go_ret2
    exact ⟨by rw [HV.out.1, HV.out.2]; rfl, hb⟩
  · cases h2 : M.isPathM false t
    · have HV : Hid (M.fitsM f t = false ∧ M.fitsE f t = 3) := by simp [M.fitsM, M.fitsE, h1, h2, Hid]
      go_enter Try.func8, Try.ntmps8
      go_wp2_with fail
      refine (refIsFilter f _ hf).mono ?_
      rintro e w1 ⟨rfl, hb⟩
      go_wp2_with fail
      refine (refIsTopic t _ ht).mono ?_
      rintro e w2 ⟨rfl, hb2⟩
      go_wp2_with fail
      go_ret2
      exact ⟨by rw [HV.out.1, HV.out.2]; rfl, hb.trans (hb2.mono hb.size)⟩
    · have HV : Hid (M.fitsM f t = M.alongM (M.wordsM f) (M.wordsM t) ∧ M.fitsE f t = 0) := by simp [M.fitsM, M.fitsE, h1, h2, Hid]
      go_enter Try.func8, Try.ntmps8
      go_wp2_with fail
      refine (refIsFilter f _ hf).mono ?_
      rintro e w1 ⟨rfl, hb⟩
      go_wp2_with fail
      refine (refIsTopic t _ ht).mono ?_
      rintro e w2 ⟨rfl, hb2⟩
      go_wp2_with fail
      refine (refFit f t _ (by omega) (by omega)).mono ?_
      rintro e w3 ⟨rfl, hb3⟩
      have hb12 := hb.trans (hb2.mono hb.size)
      go_wp2_with fail
      go_ret2
      exact ⟨by rw [HV.out.1, HV.out.2]; rfl, hb12.trans (hb3.mono hb12.size)⟩

theorem fittingWalk (f t : ByteArray) (w : World) (hf : f.size ≤ 1048576) (ht : t.size ≤ 1048576) :
    Calls Try.prog 3 #[.string f, .string t] w fun e w' => e = .returned (.bool true) ∧ Below w.heap.size w w' := by
  go_enter Try.func3, Try.ntmps3
  go_wp2_with fail
  refine (heraldFits f t _ (by unfold maxLen; omega) (by unfold maxLen; omega)).mono ?_
  rintro e w1 ⟨rfl, hb⟩
  go_wp2_with fail
  refine (refFits f t _ hf ht).mono ?_
  rintro e w2 ⟨rfl, hb2⟩
  generalize M.fitsM f t = b
  generalize M.fitsE f t = n
  have hbb : (b == b) = true := by simp
  have hnn : (n == n) = true := by simp
  go_wp2
  go_ret
  exact ⟨by simp, hb.trans (hb2.mono hb.size)⟩

theorem arr2 {args : Array Value} {a b : Value} (h : args.toList = [a, b]) : args = #[a, b] := by cases args; simp only at h; rw [h]

theorem own : ownKnob Try.prog.godebug = none := by kernel_rfl

theorem short2 {H : Type} {s t : ByteArray} (hk : Rows.uptoSmall H [.lit (.string s.data.toList), .lit (.string t.data.toList)] = true) : s.size ≤ 1048576 ∧ t.size ≤ 1048576 := by
  have h : Rows.uptoBulkAll [DataW.lit (H := H) (.string s.data.toList), DataW.lit (H := H) (.string t.data.toList)] ≤ 1048576 := of_decide_eq_true hk
  simp only [Rows.uptoBulkAll, Rows.uptoBulk] at h
  have e : s.data.toList.length = s.size := by rw [Array.length_toList]; rfl
  have e' : t.data.toList.length = t.size := by rw [Array.length_toList]; rfl
  omega

set_option maxRecDepth 100000 in
theorem fittingContract (H : Type) (enc : TypeId × Value → H) (W : World) (base : Nat) (args : Array Value) (ds gs : List (DataW H)) (before : List MemPlace)
    (hval : ∀ (j : Nat) t v, Try.f3.params[j]? = some t → args[j]? = some v → Value.okWide Try.prog W .any base t v)
    (hW : DataW.Whole enc Try.prog Try.f3.params.toList Rows.fittingSpec.vars false W args.toList ds gs before) (hk : Rows.uptoSmall H (ds ++ gs) = true) :
    Calls Try.prog 3 args W fun e W' => ∃ v, e = .returned v ∧ Rows.fittingSpec.post enc Try.prog Try.f3 false true false false W args v W' := by
  have hW' := hW
  obtain ⟨p, q, hA0, hV, rfl, hfz, hnd⟩ := hW
  have hA : DataW.TrodAll enc Try.prog W 0 (fun _ => true) true Try.f3.params.toList args.toList ds p := hA0
  rw [Try.params3] at hA hval
  obtain ⟨v0, vs0, d0, ds0, p0, q0, hargs, rfl, rfl, h0, r0⟩ := trodAll_cons hA
  obtain ⟨v1, vs1, d1, ds1, p1, q1, rfl, rfl, rfl, h1, r1⟩ := trodAll_cons r0
  obtain ⟨rfl, rfl, rfl⟩ := trodAll_nil r1
  obtain rfl := arr2 hargs
  obtain ⟨rfl, rfl⟩ := trodVars_none hV
  obtain ⟨s, rfl, rfl, rfl, hmax⟩ := open_string Try.underlying9 (hval 0 9 v0 rfl rfl) h0
  obtain ⟨t, rfl, rfl, rfl, hmax'⟩ := open_string Try.underlying9 (hval 1 9 v1 rfl rfl) h1
  clear hA0
  simp only [List.append_nil] at hW' hk
  have hsh := short2 hk
  refine (fittingWalk s t W hsh.1 hsh.2).mono fun e W' ⟨he, hg⟩ => ?_
  subst he
  exact ⟨_, rfl, _, _, _, [], [], [], hW', trodAll_mk1 (shut_bool Try.underlying4 _), trodAll_cons_mk (shut_string Try.underlying9 hmax) (trodAll_cons_mk (shut_string Try.underlying9 hmax') trodAll_mk0), rfl, hg.frame _, fun h => by cases h⟩

set_option maxRecDepth 100000 in
theorem fittingLifted (os : Os) (started : os.Started) (H : Type) (enc : TypeId × Value → H) (F : Stop.Interp) :
    ReturnsInHanded {} Try.checked os 3 .any ((Rows.OpenSpec.upto Rows.fittingSpec).pre6 enc Try.prog Try.f3 Rows.fittingUptoRow.domain false) (((Rows.OpenSpec.upto Rows.fittingSpec).at F).post enc Try.prog Try.f3 false true false false) := by
  refine returnsInHanded_of_cond (C := Try.checked) (s := Rows.OpenSpec.upto Rows.fittingSpec) (k := Rows.uptoSmall) rfl own started (by kernel_rfl) Try.func3
    (OpenSpec.witness (enc := enc) (C := Try.checked) (s := Rows.OpenSpec.upto Rows.fittingSpec) (k := Rows.uptoSmall) rfl false ⟨#[], #[.string .empty, .string .empty], []⟩ 8 (by kernel_rfl) (by kernel_rfl) (by kernel_rfl)
      (x := ([.lit (.string []), .lit (.string [])], [], [])) (by kernel_rfl) rfl (by kernel_rfl)) ?_
  intro W base args ds gs before hval hW _ hk _
  exact fittingContract H enc W base args ds gs before hval hW hk

theorem fitting_holds : Rows.FittingUptoSaid :=
  OpenClaim.holds_of_cond 3 Try.f3 rfl rfl rfl rfl rfl rfl rfl ⟨rfl, rfl, rfl, rfl, rfl⟩ rfl rfl rfl rfl rfl (by kernel_rfl) Try.func3 (by kernel_rfl)
    (of_decide_eq_true (by kernel_rfl)) (by unfold Func.isWrapper; first | (rw [if_pos (by decide +kernel)]; kernel_rfl) | (rw [if_neg (by decide +kernel)]; exact ⟨rfl, rfl⟩))
    (fun os started H enc _ F => fittingLifted os started H enc F)
end Go.Proofs.Ytmjdndhfmfjbiaa
