import Derived.Test.YtmjdndhfmfjbiaaKBuild
import Derived.Deep.RegionWith
namespace Go.Proofs.Ytmjdndhfmfjbiaa
open Go.RowKit

set_option maxHeartbeats 400000 in
theorem keepFits (f t : ByteArray) (want : Bool) (w : World) (hf : f.size ≤ maxLen) (ht : t.size ≤ maxLen) (h0 : M.fitsE f t = 0) :
    Calls Try.prog 12 #[.string f, .string t, .bool want] w fun e w' => e = .returned (.bool (M.fitsM f t == want)) ∧ Below w.heap.size w w' := by
  have H0 : Hid (M.fitsE f t = 0) := h0
  clear h0
  go_enter Try.func12, Try.ntmps12
  go_wp2_with fail
  refine (heraldFits f t _ hf ht).mono ?_
  rintro e w1 ⟨rfl, hb⟩
  rw [H0.out]
  go_wp2_with fail
  go_ret
  exact ⟨rfl, hb⟩

/-- What 'stroke' answers. -/
def Stroke (s : ByteArray) (i : Int) : Prop := (i = -1 ∧ M.Plain s) ∨ ∃ k : Nat, i = (k : Int) ∧ M.CutAt s k

theorem cut_here (s : ByteArray) (k : Nat) (h : k < s.size) (hb : (s[k]'h).toNat = 47) (hn : (47 : UInt8) ∉ (M.L s).take k) : M.CutAt s k := by
  refine ⟨h, ?_, hn⟩
  have hk : k < (M.L s).length := by rw [M.L_len]; exact h
  have e1 : M.L s = (M.L s).take k ++ (M.L s).drop k := (List.take_append_drop k (M.L s)).symm
  have e2 : (M.L s)[k] = 47 := by
    have := M.L_get s k h
    rw [List.getElem?_eq_getElem hk] at this
    rw [Option.some.inj this]
    exact UInt8.toNat.inj hb
  rw [List.drop_eq_getElem_cons hk, e2] at e1
  exact e1

theorem no_cut_step (s : ByteArray) (k : Nat) (h : k < s.size) (hb : ¬ (s[k]'h).toNat = 47) (hn : (47 : UInt8) ∉ (M.L s).take k) : (47 : UInt8) ∉ (M.L s).take (k + 1) := by
  rw [List.take_add_one, M.L_get s k h]
  simp only [List.mem_append, not_or]
  refine ⟨hn, ?_⟩
  simp only [Option.toList_some, List.mem_singleton]
  intro e
  exact hb (by rw [← e]; rfl)

set_option maxHeartbeats 400000 in
theorem keepStroke (s : ByteArray) (w : World) (hs : s.size ≤ maxLen) :
    Calls Try.prog 13 #[.string s] w fun e w' => (∃ i : Int, e = .returned (.int .i64 i) ∧ Stroke s i) ∧ w' = w := by
  unfold maxLen at hs
  go_enter Try.func13, Try.ntmps13
  go_wp2
  go_loop [3] (fun i => ∃ k : Nat, k ≤ s.size ∧ i = .int .i64 k ∧ (47 : UInt8) ∉ (M.L s).take k) (fun i => s.size - (intOf i).toNat)
  case atStart => exact ⟨0, Nat.zero_le _, rfl, by simp⟩
  case round =>
    obtain ⟨k, hk, rfl, hl⟩ := hrel
    have HL : Hid ((47 : UInt8) ∉ (M.L s).take k) := hl
    clear hl
    by_cases hlt : k < s.size
    · by_cases h47 : (s[k]'hlt).toNat = 47
      · have ht : (((s[k]'hlt).toNat : Int) == 47) = true := by simp [h47]
        have H47 : Hid ((s[k]'hlt).toNat = 47) := h47
        clear h47
        go_wp2
        go_ret
        exact ⟨⟨_, rfl, .inr ⟨k, rfl, cut_here s k hlt H47.out HL.out⟩⟩, rfl⟩
      · have ht : (((s[k]'hlt).toNat : Int) == 47) = false := by simp; omega
        have H47 : Hid (¬ (s[k]'hlt).toNat = 47) := h47
        clear h47
        go_wp2
        go_round
        case rel => exact ⟨k + 1, by omega, by go_num, no_cut_step s k hlt H47.out HL.out⟩
        case measure => simp [intOf]; omega
    · go_wp2
      go_ret
      exact ⟨⟨_, rfl, .inl ⟨rfl, by
        have := HL.out
        rwa [List.take_of_length_le (by rw [M.L_len]; omega)] at this⟩⟩, rfl⟩

theorem path_size {wild : Bool} {s : ByteArray} (h : M.isPathM wild s = true) : s.size ≤ maxLen := by
  have := isPathM_size h
  unfold maxLen; omega

theorem i64_small (n : Int) (h0 : 0 ≤ n) (h1 : n ≤ 9223372036854775807) : IntKind.i64.wrap n = n := by rw [IntKind.wrap_i64]; omega

theorem ext_size (s : ByteArray) (a b : Nat) (h : s.size ≤ maxLen) : (s.extract a b).size ≤ maxLen := by
  simp only [ByteArray.size_extract]; omega

set_option maxRecDepth 100000 in
set_option maxHeartbeats 2000000 in
theorem levelsWalk (rf rt : ByteArray) (w : World) (hf : rf.size ≤ maxLen) (ht : rt.size ≤ maxLen) :
    Calls Try.prog 4 #[.string rf, .string rt] w fun e w' => e = .returned (.bool true) ∧ Below w.heap.size w w' := by
  go_enter Try.func4, Try.ntmps4
  go_wp2_with fail
  refine (keepFilter rf _ hf).mono ?_
  rintro e w1 ⟨⟨f, rfl, pf⟩, b1⟩
  go_wp2_with fail
  refine (keepTopic rt _ ht).mono ?_
  rintro e w2 ⟨⟨t, rfl, pt⟩, b2⟩
  have hfs := isPathM_size pf
  have hts := isPathM_size pt
  have PF : Hid (M.isPathM true f = true) := pf
  have PT : Hid (M.isPathM false t = true) := pt
  have b12 := b1.trans (b2.mono b1.size)
  clear pf pt b1 b2 hf ht
  obtain ⟨s1, s2⟩ := M.lev_self PT.out
  obtain ⟨s3, s4⟩ := M.lev_hash PT.out
  have S2 : Hid (M.fitsM t t = true) := s2
  have S3 : Hid (M.fitsE ⟨#[35]⟩ t = 0) := s3
  have S4 : Hid (M.fitsM ⟨#[35]⟩ t = true) := s4
  have S1 : Hid (M.fitsE t t = 0) := s1
  clear s1 s2 s3 s4
  go_wp2_with fail
  refine (keepFits t t true _ (path_size PT.out) (path_size PT.out) S1.out).mono ?_
  rintro e w3 ⟨rfl, b3⟩
  rw [S2.out]
  go_wp2_with fail
  refine (keepFits ⟨#[35]⟩ t true _ (by decide) (path_size PT.out) S3.out).mono ?_
  rintro e w4 ⟨rfl, b4⟩
  rw [S4.out]
  have b13 := b12.trans (b3.mono b12.size)
  have b14 := b13.trans (b4.mono b13.size)
  clear b12 b13 b3 b4
  go_wp2_with fail
  refine (keepStroke f _ (path_size PF.out)).mono ?_
  rintro e w5 ⟨⟨i, rfl, si⟩, rfl⟩
  go_wp2_with fail
  refine (keepStroke t _ (path_size PT.out)).mono ?_
  rintro e w6 ⟨⟨j, rfl, sj⟩, rfl⟩
  cases h35 : (f.toList == [35])
  · rcases si with ⟨rfl, pi⟩ | ⟨i, rfl, ci⟩
    · rcases sj with ⟨rfl, pj⟩ | ⟨j, rfl, cj⟩
      · obtain ⟨e0, ev⟩ := M.lev_one PF.out PT.out pi h35 pj
        have E0 : Hid (M.fitsE f t = 0) := e0
        have EV : Hid (M.fitsM f t = ((f.toList == [43]) || (f.toList == t.toList))) := ev
        clear e0 ev
        cases h43 : (f.toList == [43])
        all_goals
          rw [h43] at EV
          go_wp2_with fail
          refine (keepFits f t _ _ (path_size PF.out) (path_size PT.out) E0.out).mono ?_
          rintro e w7 ⟨rfl, b7⟩
          go_wp2_with fail
          go_ret
          exact ⟨ret_bool (by rw [EV.out]; simp), b14.trans (b7.mono b14.size)⟩
      · obtain ⟨e0, ev⟩ := M.lev_one_cut PF.out PT.out pi h35 cj
        have E0 : Hid (M.fitsE f t = 0) := e0
        have EV : Hid (M.fitsM f t = false) := ev
        clear e0 ev cj
        go_wp2_with fail
        refine (keepFits f t _ _ (path_size PF.out) (path_size PT.out) E0.out).mono ?_
        rintro e w7 ⟨rfl, b7⟩
        go_wp2_with fail
        go_ret
        exact ⟨ret_bool (by rw [EV.out]; simp), b14.trans (b7.mono b14.size)⟩
    · rcases sj with ⟨rfl, pj⟩ | ⟨j, rfl, cj⟩
      · obtain ⟨e1, e0, ev⟩ := M.lev_cut_one PF.out PT.out ci pj
        have hi := ci.1
        have E1 : Hid (M.fitsE (f.extract 0 i) t = 0) := e1
        have E0 : Hid (M.fitsE f t = 0) := e0
        have EV : Hid (M.fitsM f t = (M.fitsM (f.extract 0 i) t && ((f.extract (i + 1) f.size).toList == [35]))) := ev
        clear e0 e1 ev ci
        go_wp2_with fail
        refine (heraldFits (f.extract 0 i) t _ (ext_size f 0 i (path_size PF.out)) (path_size PT.out)).mono ?_
        rintro e w7 ⟨rfl, b7⟩
        rw [E1.out]
        have b17 := b14.trans (b7.mono b14.size)
        clear b14 b7
        generalize M.fitsM (f.extract 0 i) t = v at *
        cases v
        all_goals
          go_wp2_with fail
          refine (keepFits f t _ _ (path_size PF.out) (path_size PT.out) E0.out).mono ?_
          rintro e w8 ⟨rfl, b8⟩
          rw [EV.out]
          go_wp2_with fail
          go_ret
          exact ⟨ret_bool (by simp), b17.trans (b8.mono b17.size)⟩
      · obtain ⟨e1, e2, e0, ev⟩ := M.lev_cut_cut PF.out PT.out ci cj
        have hi := ci.1
        have hj := cj.1
        have E1 : Hid (M.fitsE (f.extract 0 i) (t.extract 0 j) = 0) := e1
        have E2 : Hid (M.fitsE (f.extract (i + 1) f.size) (t.extract (j + 1) t.size) = 0) := e2
        have E0 : Hid (M.fitsE f t = 0) := e0
        have EV : Hid (M.fitsM f t = (M.fitsM (f.extract 0 i) (t.extract 0 j) && M.fitsM (f.extract (i + 1) f.size) (t.extract (j + 1) t.size))) := ev
        clear e0 e1 e2 ev ci cj
        have hi1 : (i : Int) + 1 ≤ (f.size : Int) := by omega
        have hi0 : (0 : Int) ≤ (i : Int) + 1 := by omega
        have hti : ((i : Int) + 1).toNat = i + 1 := by omega
        have hwi : IntKind.i64.wrap ((i : Int) + 1) = (i : Int) + 1 := i64_small _ (by omega) (by omega)
        have hwj : IntKind.i64.wrap ((j : Int) + 1) = (j : Int) + 1 := i64_small _ (by omega) (by omega)
        have hj1 : (j : Int) + 1 ≤ (t.size : Int) := by omega
        have hj0 : (0 : Int) ≤ (j : Int) + 1 := by omega
        have htj : ((j : Int) + 1).toNat = j + 1 := by omega
        go_wp2_with fail
        go_region_with (go_at_call 7; refine (heraldFits (f.extract 0 i) (t.extract 0 j) _ (ext_size f 0 i (path_size PF.out)) (ext_size t 0 j (path_size PT.out))).mono ?_; rintro e w7 ⟨rfl, b7⟩; rw [E1.out]; have b17 := b14.drew.trans (b7.mono b14.drew.size); clear b7)
        all_goals
          go_wp2_with fail
          go_region_with (go_at_call 7; refine (heraldFits (f.extract (i + 1) f.size) (t.extract (j + 1) t.size) _ (ext_size f _ _ (path_size PF.out)) (ext_size t _ _ (path_size PT.out))).mono ?_; rintro e w8 ⟨rfl, b8⟩; rw [E2.out]; have b18 := b17.drew.trans (b8.mono b17.drew.size); clear b8)
          all_goals
            generalize M.fitsM (f.extract 0 i) (t.extract 0 j) = u at *
            generalize M.fitsM (f.extract (i + 1) f.size) (t.extract (j + 1) t.size) = v at *
            cases u
            all_goals
              go_wp2_with fail
              refine (keepFits f t _ _ (path_size PF.out) (path_size PT.out) E0.out).mono ?_
              rintro e w9 ⟨rfl, b9⟩
              rw [EV.out]
              simp only [Bool.false_and, Bool.true_and, beq_self_eq_true]
              go_wp2_with fail
              go_ret
              exact ⟨rfl, b18.trans (b9.mono b18.size)⟩
  · go_wp2_with fail
    go_ret
    exact ⟨rfl, b14⟩

open Go.ChangeShapes Go.WideShapes Go.ChangeAt
open Go.ChangeMaps (open_string shut_string)

set_option maxRecDepth 100000 in
theorem levelsLifted (os : Os) (started : os.Started) (H : Type) (enc : TypeId × Value → H) :
    ReturnsInHanded {} Try.checked os 4 .any (Rows.levelsSpec.pre6 enc Try.prog Try.f4 Rows.levelsRow.domain false) (Rows.levelsSpec.post enc Try.prog Try.f4 false true false false) := by
  refine returnsInHanded_of_change (C := Try.checked) own started (by kernel_rfl) Try.func4
    (ChangeSpec.witness6 (enc := enc) (C := Try.checked) false ⟨#[], #[.string .empty, .string .empty], []⟩ 8 (by kernel_rfl) (by kernel_rfl) (by kernel_rfl) (by kernel_rfl)) ?_
  intro W base args ds gs before hval0 hW hcnd _
  have hval : ∀ (j : Nat) t v, Try.f4.params[j]? = some t → args[j]? = some v → Value.okWide Try.prog W .any base t v := hval0
  have hW' := hW
  obtain ⟨p, q, hA0, hV, rfl, hfz, hnd⟩ := hW
  have hA : DataW.TrodAll enc Try.prog W 0 (fun _ => true) true Try.f4.params.toList args.toList ds p := hA0
  rw [Try.params4] at hA hval
  obtain ⟨v0, vs0, d0, ds0, p0, q0, hargs, rfl, rfl, h0, r0⟩ := trodAll_cons hA
  obtain ⟨v1, vs1, d1, ds1, p1, q1, rfl, rfl, rfl, h1, r1⟩ := trodAll_cons r0
  obtain ⟨rfl, rfl, rfl⟩ := trodAll_nil r1
  obtain rfl := arr2 hargs
  obtain ⟨rfl, rfl⟩ := trodVars_none hV
  obtain ⟨s, rfl, rfl, rfl, hmax⟩ := open_string Try.underlying9 (hval 0 9 v0 rfl rfl) h0
  obtain ⟨t, rfl, rfl, rfl, hmax'⟩ := open_string Try.underlying9 (hval 1 9 v1 rfl rfl) h1
  clear hA0 hval0 hcnd
  simp only [List.append_nil] at hW'
  refine (levelsWalk s t W hmax hmax').mono fun e W' ⟨he, hg⟩ => ?_
  subst he
  exact ⟨_, rfl, _, _, _, [], [], [], hW', trodAll_mk1 (shut_bool Try.underlying4 _), trodAll_cons_mk (shut_string Try.underlying9 hmax) (trodAll_cons_mk (shut_string Try.underlying9 hmax') trodAll_mk0), rfl, hg.frame _, fun h => by cases h⟩

theorem levels_holds : Rows.LevelsSaid :=
  OpenClaim.holds_of_wide 4 Try.f4 rfl rfl rfl rfl rfl rfl rfl ⟨rfl, rfl, rfl, rfl, rfl⟩ rfl rfl rfl rfl rfl (by kernel_rfl) Try.func4 (by kernel_rfl)
    (of_decide_eq_true (by kernel_rfl)) (by unfold Func.isWrapper; first | (rw [if_pos (by decide +kernel)]; kernel_rfl) | (rw [if_neg (by decide +kernel)]; exact ⟨rfl, rfl⟩))
    (fun os started H enc _ => levelsLifted os started H enc)
end Go.Proofs.Ytmjdndhfmfjbiaa
