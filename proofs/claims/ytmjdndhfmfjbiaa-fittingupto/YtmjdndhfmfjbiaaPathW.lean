import Derived.Test.YtmjdndhfmfjbiaaAlongW
namespace Go.Proofs.Ytmjdndhfmfjbiaa
open Go.RowKit

set_option maxRecDepth 100000 in
set_option maxHeartbeats 1000000 in
theorem refIsTopic (s : ByteArray) (w : World) (hs : s.size ≤ 1048576) :
    Calls Try.prog 30 #[.string s] w fun e w' => e = .returned (.bool (M.isPathM false s)) ∧ Below w.heap.size w w' := by
  go_enter Try.func30, Try.ntmps30
  go_wp2_with fail
  refine (refWordsE s _ hs).mono ?_
  rintro e w1 ⟨g, c, rfl, a1, a2, a3, a4⟩
  have hmem := M.words_mem s
  have hlen := M.wordsM_len s
  have HG : Hid (M.partsM false (M.wordsM s) = true → M.isPathM false s = (decide (s.size ≤ 15) && decide ((M.wordsM s).length ≤ 4))) := M.isPathM_good
  have HB : Hid (M.partsM false (M.wordsM s) = false → M.isPathM false s = false) := M.isPathM_bad
  generalize hws : M.wordsM s = ws at *
  clear hws
  have A3 : Hid _ := a3
  have HM : Hid _ := hmem
  clear a3 hmem
  go_wp2_with fail
  go_loop [4] (fun i => ∃ k : Nat, k ≤ ws.length ∧ i = .int .i64 k ∧ M.partsM false ws = M.partsM false (ws.drop k)) (fun i => ws.length - (intOf i).toNat)
  case atStart => exact ⟨0, Nat.zero_le _, rfl, rfl⟩
  case round =>
    obtain ⟨k, hk, rfl, hl⟩ := hrel
    have HL : Hid _ := hl
    clear hl
    by_cases hlt : k < ws.length
    · obtain ⟨x, hx⟩ : ∃ x, ws[k]? = some x := ⟨_, List.getElem?_eq_getElem hlt⟩
      have HP : Hid _ := M.parts_drop false ws k x hx
      have HX : x.size ≤ maxLen := by
        have := HM.out x (List.mem_of_getElem? hx)
        unfold maxLen; omega
      obtain ⟨b, o, e, hc⟩ := A3.out k x hx
      simp only [Option.some.injEq, Addr.mk.injEq] at e
      obtain ⟨rfl, rfl, -⟩ := e
      simp only [Nat.zero_add] at hc
      clear hx
      cases hw : M.isWordM x
      · go_wp2_with (go_at_call 54; refine (refIsWord x _ HX).mono ?_; rintro e w2 ⟨rfl, rfl⟩)
        go_ret
        exact ⟨ret_bool (HB.out (by rw [HL.out, HP.out]; simp [M.partM, hw])).symm, a4⟩
      · go_wp2_with (go_at_call 54; refine (refIsWord x _ HX).mono ?_; rintro e w2 ⟨rfl, rfl⟩)
        go_round
        case rel => exact ⟨k + 1, by omega, by go_num, by rw [HL.out, HP.out]; simp [M.partM, hw]⟩
        case measure => simp [intOf]; omega
    · have HE : Hid (M.isPathM false s = (decide (s.size ≤ 15) && decide (ws.length ≤ 4))) := HG.out (by rw [HL.out]; exact M.parts_end _ _ _ (by omega))
      by_cases h15 : s.size ≤ 15
      all_goals
        go_wp2_with fail
        go_ret
        exact ⟨ret_bool (by rw [HE.out]; simp [h15] <;> omega), a4⟩

set_option maxRecDepth 100000 in
set_option maxHeartbeats 1000000 in
theorem refIsFilter (s : ByteArray) (w : World) (hs : s.size ≤ 1048576) :
    Calls Try.prog 29 #[.string s] w fun e w' => e = .returned (.bool (M.isPathM true s)) ∧ Below w.heap.size w w' := by
  go_enter Try.func29, Try.ntmps29
  go_wp2_with fail
  refine (refWordsE s _ hs).mono ?_
  rintro e w1 ⟨g, c, rfl, a1, a2, a3, a4⟩
  have hmem := M.words_mem s
  have hlen := M.wordsM_len s
  have HG : Hid (M.partsM true (M.wordsM s) = true → M.isPathM true s = (decide (s.size ≤ 15) && decide ((M.wordsM s).length ≤ 4))) := M.isPathM_good
  have HB : Hid (M.partsM true (M.wordsM s) = false → M.isPathM true s = false) := M.isPathM_bad
  generalize hws : M.wordsM s = ws at *
  clear hws
  have A3 : Hid _ := a3
  have HM : Hid _ := hmem
  clear a3 hmem
  go_wp2_with fail
  go_loop [4] (fun i => ∃ k : Nat, k ≤ ws.length ∧ i = .int .i64 k ∧ M.partsM true ws = M.partsM true (ws.drop k)) (fun i => ws.length - (intOf i).toNat)
  case atStart => exact ⟨0, Nat.zero_le _, rfl, rfl⟩
  case round =>
    obtain ⟨k, hk, rfl, hl⟩ := hrel
    have HL : Hid _ := hl
    clear hl
    by_cases hlt : k < ws.length
    · obtain ⟨x, hx⟩ : ∃ x, ws[k]? = some x := ⟨_, List.getElem?_eq_getElem hlt⟩
      have HP : Hid _ := M.parts_drop true ws k x hx
      have HX : x.size ≤ maxLen := by
        have := HM.out x (List.mem_of_getElem? hx)
        unfold maxLen; omega
      obtain ⟨b, o, e, hc⟩ := A3.out k x hx
      simp only [Option.some.injEq, Addr.mk.injEq] at e
      obtain ⟨rfl, rfl, -⟩ := e
      simp only [Nat.zero_add] at hc
      clear hx
      cases hlast : ((k : Int) == (ws.length : Int) - 1)
      all_goals
        rw [hlast] at HP
        cases hw : M.isWordM x
        · cases h43 : (x.toList == [43])
          · cases h35 : (x.toList == [35])
            all_goals
              go_wp2_with (go_at_call 54; refine (refIsWord x _ HX).mono ?_; rintro e w2 ⟨rfl, rfl⟩)
              first
                | (go_ret; exact ⟨ret_bool (HB.out (by rw [HL.out, HP.out]; simp [M.partM, hw, h43, h35])).symm, a4⟩)
                | (go_round
                   case rel => exact ⟨k + 1, by omega, by go_num, by rw [HL.out, HP.out]; simp [M.partM, h43, h35]⟩
                   case measure => simp [intOf]; omega)
          · go_wp2_with (go_at_call 54; refine (refIsWord x _ HX).mono ?_; rintro e w2 ⟨rfl, rfl⟩)
            go_round
            case rel => exact ⟨k + 1, by omega, by go_num, by rw [HL.out, HP.out]; simp [M.partM, h43]⟩
            case measure => simp [intOf]; omega
        · go_wp2_with (go_at_call 54; refine (refIsWord x _ HX).mono ?_; rintro e w2 ⟨rfl, rfl⟩)
          go_round
          case rel => exact ⟨k + 1, by omega, by go_num, by rw [HL.out, HP.out]; simp [M.partM, hw]⟩
          case measure => simp [intOf]; omega
    · have HE : Hid (M.isPathM true s = (decide (s.size ≤ 15) && decide (ws.length ≤ 4))) := HG.out (by rw [HL.out]; exact M.parts_end _ _ _ (by omega))
      by_cases h15 : s.size ≤ 15
      all_goals
        go_wp2_with fail
        go_ret
        exact ⟨ret_bool (by rw [HE.out]; simp [h15] <;> omega), a4⟩
end Go.Proofs.Ytmjdndhfmfjbiaa
