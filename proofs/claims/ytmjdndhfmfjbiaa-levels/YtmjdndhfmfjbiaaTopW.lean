import Derived.Test.YtmjdndhfmfjbiaaPathW
namespace Go.Proofs.Ytmjdndhfmfjbiaa
open Go.RowKit

set_option maxHeartbeats 400000 in
theorem topIsWild (x : ByteArray) (last : Bool) (w : World) :
    Calls Try.prog 66 #[.string x, .bool last] w fun e w' => e = .returned (.bool ((x.toList == [43]) || ((x.toList == [35]) && last))) ∧ w' = w := by
  cases h43 : (x.toList == [43])
  · cases h35 : (x.toList == [35])
    all_goals
      go_enter Try.func66, Try.ntmps66
      go_wp2
      go_ret
      exact ⟨by simp, rfl⟩
  · go_enter Try.func66, Try.ntmps66
    go_wp2
    go_ret
    exact ⟨by simp, rfl⟩

set_option maxRecDepth 100000 in
set_option maxHeartbeats 1000000 in
theorem topIsPath (s : ByteArray) (wild : Bool) (w : World) (hs : s.size ≤ maxLen) :
    Calls Try.prog 51 #[.string s, .bool wild] w fun e w' => e = .returned (.bool (M.isPathM wild s)) ∧ Below w.heap.size w w' := by
  unfold maxLen at hs
  by_cases h15 : s.size ≤ 15
  · go_enter Try.func51, Try.ntmps51
    go_wp2_with fail
    refine (topWordsE s _ (by omega)).mono ?_
    rintro e w1 ⟨g, c, rfl, a1, a2, a3, a4⟩
    have hmem := M.words_mem s
    have hlen := M.wordsM_len s
    have HG : Hid (M.partsM wild (M.wordsM s) = true → M.isPathM wild s = (decide (s.size ≤ 15) && decide ((M.wordsM s).length ≤ 4))) := M.isPathM_good
    have HB : Hid (M.partsM wild (M.wordsM s) = false → M.isPathM wild s = false) := M.isPathM_bad
    have HL4 : Hid (¬ (M.wordsM s).length ≤ 4 → M.isPathM wild s = false) := fun h => by simp [M.isPathM, h]
    generalize hws : M.wordsM s = ws at *
    clear hws
    have A3 : Hid _ := a3
    have HM : Hid _ := hmem
    clear a3 hmem
    by_cases h4 : ws.length ≤ 4
    · go_wp2_with fail
      go_loop [6] (fun i => ∃ k : Nat, k ≤ ws.length ∧ i = .int .i64 k ∧ M.partsM wild ws = M.partsM wild (ws.drop k)) (fun i => ws.length - (intOf i).toNat)
      case atStart => exact ⟨0, Nat.zero_le _, rfl, rfl⟩
      case round =>
        obtain ⟨k, hk, rfl, hl⟩ := hrel
        have HL : Hid _ := hl
        clear hl
        by_cases hlt : k < ws.length
        · obtain ⟨x, hx⟩ : ∃ x, ws[k]? = some x := ⟨_, List.getElem?_eq_getElem hlt⟩
          have HP : Hid _ := M.parts_drop wild ws k x hx
          have HX : x.size ≤ maxLen := by
            have := HM.out x (List.mem_of_getElem? hx)
            unfold maxLen; omega
          obtain ⟨b, o, e, hc⟩ := A3.out k x hx
          simp only [Option.some.injEq, Addr.mk.injEq] at e
          obtain ⟨rfl, rfl, -⟩ := e
          simp only [Nat.zero_add] at hc
          clear hx
          cases hlast : ((k : Int) == (ws.length : Int) - 1)
          all_goals
            rw [hlast] at HP
            cases hw : M.isWordM x
            all_goals
              cases wild
              · go_wp2_with (first | (go_at_call 65; refine (topIsWord x _ HX).mono ?_; rintro e w2 ⟨rfl, rfl⟩) | (go_at_call 66; refine (topIsWild x _ _).mono ?_; rintro e w2 ⟨rfl, rfl⟩))
                first
                  | (go_ret; exact ⟨ret_bool (HB.out (by rw [HL.out, HP.out]; simp [M.partM, hw])).symm, a4⟩)
                  | (go_round
                     case rel => exact ⟨k + 1, by omega, by go_num, by rw [HL.out, HP.out]; simp [M.partM, hw]⟩
                     case measure => simp [intOf]; omega)
              · cases h43 : (x.toList == [43])
                all_goals
                  cases h35 : (x.toList == [35])
                  all_goals
                    go_wp2_with (first | (go_at_call 65; refine (topIsWord x _ HX).mono ?_; rintro e w2 ⟨rfl, rfl⟩) | (go_at_call 66; refine (topIsWild x _ _).mono ?_; rintro e w2 ⟨rfl, rfl⟩))
                    first
                      | (go_ret; exact ⟨ret_bool (HB.out (by rw [HL.out, HP.out]; simp [M.partM, hw, h43, h35])).symm, a4⟩)
                      | (go_round
                         case rel => exact ⟨k + 1, by omega, by go_num, by rw [HL.out, HP.out]; simp [M.partM, hw, h43, h35]⟩
                         case measure => simp [intOf]; omega)
        · have HE : Hid (M.isPathM wild s = (decide (s.size ≤ 15) && decide (ws.length ≤ 4))) := HG.out (by rw [HL.out]; exact M.parts_end _ _ _ (by omega))
          go_wp2_with fail
          go_ret
          exact ⟨ret_bool (by rw [HE.out]; simp [h15, h4]), a4⟩
    · go_wp2_with fail
      go_ret
      exact ⟨ret_bool (HL4.out h4).symm, a4⟩
  · have HE : Hid (M.isPathM wild s = false) := by simp [M.isPathM, Hid, h15]
    go_enter Try.func51, Try.ntmps51
    go_wp2_with fail
    go_ret
    exact ⟨ret_bool HE.out.symm, Below.refl _ _⟩
end Go.Proofs.Ytmjdndhfmfjbiaa
