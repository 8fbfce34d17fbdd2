import Derived.Test.YtmjdndhfmfjbiaaKWord
import Derived.Test.YtmjdndhfmfjbiaaMath3
namespace Go.Proofs.Ytmjdndhfmfjbiaa
open Go.RowKit

theorem word_size {x : ByteArray} (h : M.isWordL (M.L x) = true) : x.size ≤ 3 := by rw [← M.L_len]; exact (M.word_len h).2

set_option maxRecDepth 100000 in
set_option maxHeartbeats 1000000 in
theorem keepTopic (s : ByteArray) (w : World) (hs : s.size ≤ maxLen) :
    Calls Try.prog 11 #[.string s] w fun e w' => (∃ x, e = .returned (.string x) ∧ M.isPathM false x = true) ∧ Below w.heap.size w w' := by
  unfold maxLen at hs
  cases h0 : s.toList.isEmpty
  · have hp : 0 < s.size := by
      rw [M.L_toList] at h0
      rw [← M.L_len]
      cases hl : M.L s with
      | nil => rw [hl] at h0; cases h0
      | cons _ _ => simp
    have hby := (s[0]'hp).toNat_lt
    go_enter Try.func11, Try.ntmps11
    go_wp2_with fail
    refine (keepWord _ _ (by omega) (by omega)).mono ?_
    rintro e w1 ⟨⟨x, rfl, hx⟩, hb1⟩
    go_wp2_with fail
    go_loopw [3, 4] (fun v i wr => ∃ (k : Nat) (x : ByteArray), 1 ≤ k ∧ k ≤ 4 ∧ k ≤ s.size ∧ i = .int .i64 k ∧ v = .string x ∧ M.TInv k x ∧ Below w.heap.size w wr) (fun _ i _ => s.size - (intOf i).toNat)
    case atStart => exact ⟨1, x, by omega, by omega, by omega, rfl, rfl, M.tinv_one hx, hb1⟩
    case round =>
      obtain ⟨k, y, hk1, hk4, hks, rfl, rfl, hy, hbr⟩ := hrel
      have HY : Hid (M.TInv k y) := hy
      have hyz := hy.1
      clear hy hx hb1
      by_cases hlt : k < s.size
      · by_cases hl4 : k < 4
        · have hby := (s[k]'hlt).toNat_lt
          go_wp2_with (go_at_call 32; refine (keepWord _ _ (by omega) (by omega)).mono ?_; rintro e w2 ⟨⟨z, rfl, hz⟩, hb2⟩; have hzz := word_size hz)
          go_roundw
          case rel => exact ⟨k + 1, _, by omega, by omega, by omega, by go_num, rfl, M.tinv_succ HY.out hl4 (by assumption), hbr.trans ((by assumption : Below wr.heap.size wr _).mono hbr.size)⟩
          case measure => simp [intOf]; omega
        · go_wp2_with fail
          go_ret
          exact ⟨⟨_, rfl, M.tinv_end HY.out hk4⟩, hbr⟩
      · go_wp2_with fail
        go_ret
        exact ⟨⟨_, rfl, M.tinv_end HY.out hk4⟩, hbr⟩
  · go_enter Try.func11, Try.ntmps11
    go_wp2_with fail
    go_ret
    exact ⟨⟨_, rfl, by rw [M.isPath_L]; decide⟩, Below.refl _ _⟩

theorem byte_le (c : UInt8) : (c.toNat : Int) ≤ 255 := by have := c.toNat_lt; omega

theorem okW_word {x : ByteArray} (h : M.isWordL (M.L x) = true) : M.okW (M.L x) = true := by simp [M.okW, h]
theorem hash_path : M.isPathM true ⟨#[35]⟩ = true := by rw [M.isPath_L]; decide
theorem plus_ok : M.okW (M.L ⟨#[43]⟩) = true := by decide

set_option maxRecDepth 100000 in
set_option maxHeartbeats 2000000 in
theorem keepFilter (s : ByteArray) (w : World) (hs : s.size ≤ maxLen) :
    Calls Try.prog 10 #[.string s] w fun e w' => (∃ x, e = .returned (.string x) ∧ M.isPathM true x = true) ∧ Below w.heap.size w w' := by
  unfold maxLen at hs
  go_enter Try.func10, Try.ntmps10
  go_wp2_with fail
  go_loopw [3, 4] (fun v i wr => ∃ (k : Nat) (x : ByteArray), k ≤ 4 ∧ k ≤ s.size ∧ i = .int .i64 k ∧ v = .string x ∧ M.FInv k x ∧ Below w.heap.size w wr) (fun _ i _ => s.size - (intOf i).toNat)
  case atStart => exact ⟨0, _, by omega, by omega, rfl, rfl, ⟨by decide, .inl ⟨rfl, rfl⟩⟩, Below.refl _ _⟩
  case round =>
    obtain ⟨k, y, hk4, hks, rfl, rfl, hy, hbr⟩ := hrel
    have HY : Hid (M.FInv k y) := hy
    have hyz := hy.1
    clear hy
    by_cases hlt : k < s.size
    · by_cases hl4 : k < 4
      · have hby := (s[k]'hlt).toNat_lt
        generalize hcc : (((s[k]'hlt).toNat : Nat) : Int) = c
        by_cases hk0 : 0 < k
        · go_wp2_with (go_at_call 32; refine (keepWord _ _ (by omega) (by omega)).mono ?_; rintro e w2 ⟨⟨z, rfl, hz⟩, hb2⟩; have hzz := word_size hz)
          · go_roundw
            case rel => exact ⟨k + 1, _, by omega, by omega, by go_num, rfl, M.finv_succ HY.out hk0 hl4 plus_ok, hbr⟩
            case measure => simp [intOf]; omega
          · go_roundw
            case rel => exact ⟨k + 1, _, by omega, by omega, by go_num, rfl, M.finv_succ HY.out hk0 hl4 plus_ok, hbr⟩
            case measure => simp [intOf]; omega
          · go_ret
            exact ⟨⟨_, rfl, M.finv_hash HY.out hk0 hl4⟩, hbr⟩
          · go_roundw
            case rel => exact ⟨k + 1, _, by omega, by omega, by go_num, rfl, M.finv_succ HY.out hk0 hl4 (okW_word (by assumption)), hbr.trans ((by assumption : Below wr.heap.size wr _).mono hbr.size)⟩
            case measure => simp [intOf]; omega
        · obtain rfl : k = 0 := by omega
          go_wp2_with (go_at_call 32; refine (keepWord _ _ (by omega) (by omega)).mono ?_; rintro e w2 ⟨⟨z, rfl, hz⟩, hb2⟩; have hzz := word_size hz)
          · go_roundw
            case rel => exact ⟨1, _, by omega, by omega, by go_num, rfl, M.finv_zero HY.out plus_ok, hbr⟩
            case measure => simp [intOf]; omega
          · go_roundw
            case rel => exact ⟨1, _, by omega, by omega, by go_num, rfl, M.finv_zero HY.out plus_ok, hbr⟩
            case measure => simp [intOf]; omega
          · go_ret
            exact ⟨⟨_, rfl, M.finv_hash0 HY.out⟩, hbr⟩
          · go_roundw
            case rel => exact ⟨1, _, by omega, by omega, by go_num, rfl, M.finv_zero HY.out (okW_word (by assumption)), hbr.trans ((by assumption : Below wr.heap.size wr _).mono hbr.size)⟩
            case measure => simp [intOf]; omega
      · rcases M.finv_end HY.out hk4 with he | ⟨he, hp⟩
        all_goals
          go_wp2_with fail
          go_ret
        · exact ⟨⟨_, rfl, hash_path⟩, hbr⟩
        · exact ⟨⟨_, rfl, hp⟩, hbr⟩
    · rcases M.finv_end HY.out hk4 with he | ⟨he, hp⟩
      all_goals
        go_wp2_with fail
        go_ret
      · exact ⟨⟨_, rfl, hash_path⟩, hbr⟩
      · exact ⟨⟨_, rfl, hp⟩, hbr⟩
end Go.Proofs.Ytmjdndhfmfjbiaa
