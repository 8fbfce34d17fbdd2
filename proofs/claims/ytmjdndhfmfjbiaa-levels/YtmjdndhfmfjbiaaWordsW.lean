import Derived.Test.YtmjdndhfmfjbiaaRows
import Derived.Test.YtmjdndhfmfjbiaaMath
import Derived.WalkKit
import Derived.WalkSpells
namespace Go.Proofs.Ytmjdndhfmfjbiaa
open Go.RowKit

theorem infoStr : (Try.prog.info? 9).map (fun i => (i.zero, i.size, i.bytes)) = some (some (.string ⟨#[]⟩), 1, 16) := by kernel_rfl

theorem ret_bool {a b : Bool} (h : a = b) : Ending.returned (.bool a) = .returned (.bool b) := by rw [h]

set_option maxHeartbeats 400000 in
theorem refIsWord (s : ByteArray) (w : World) (hs : s.size ≤ maxLen) :
    Calls Try.prog 54 #[.string s] w fun e w' => e = .returned (.bool (M.isWordM s)) ∧ w' = w := by
  unfold maxLen at hs
  go_enter Try.func54, Try.ntmps54
  go_wp2
  go_loop [3] (fun i => ∃ k : Nat, k ≤ s.size ∧ i = .int .i64 k ∧ M.lettersTo s k = true) (fun i => s.size - (intOf i).toNat)
  case atStart => exact ⟨0, Nat.zero_le _, rfl, rfl⟩
  case round =>
    obtain ⟨k, hk, rfl, hl⟩ := hrel
    by_cases hlt : k < s.size
    · go_wp2
      · go_ret
        exact ⟨ret_bool (M.isWordM_bad s k hlt (by omega)).symm, rfl⟩
      · go_round
        case rel => exact ⟨k + 1, by omega, by go_num, M.lettersTo_step s k hlt hl (by omega)⟩
        case measure => simp [intOf]; omega
      · go_ret
        exact ⟨ret_bool (M.isWordM_bad s k hlt (by omega)).symm, rfl⟩
    · have e : k = s.size := by omega
      subst e
      have HE : Hid _ := M.isWordM_end s hl
      go_wp2
      · go_ret
        exact ⟨ret_bool (by rw [HE.out]; have : 1 ≤ s.size := by omega
                            simp [this]; omega), rfl⟩
      · go_ret
        exact ⟨ret_bool (by rw [HE.out]; have : ¬ 1 ≤ s.size := by omega
                            simp [this]), rfl⟩

set_option maxHeartbeats 400000 in
theorem topIsWord (s : ByteArray) (w : World) (hs : s.size ≤ maxLen) :
    Calls Try.prog 65 #[.string s] w fun e w' => e = .returned (.bool (M.isWordM s)) ∧ w' = w := by
  unfold maxLen at hs
  by_cases h1 : 1 ≤ s.size ∧ s.size ≤ 3
  · obtain ⟨h1, h3⟩ := h1
    go_enter Try.func65, Try.ntmps65
    go_wp2
    go_loop [3] (fun i => ∃ k : Nat, k ≤ s.size ∧ i = .int .i64 k ∧ M.lettersTo s k = true) (fun i => s.size - (intOf i).toNat)
    case atStart => exact ⟨0, Nat.zero_le _, rfl, rfl⟩
    case round =>
      obtain ⟨k, hk, rfl, hl⟩ := hrel
      by_cases hlt : k < s.size
      · go_wp2
        · go_ret
          exact ⟨ret_bool (M.isWordM_bad s k hlt (by omega)).symm, rfl⟩
        · go_round
          case rel => exact ⟨k + 1, by omega, by go_num, M.lettersTo_step s k hlt hl (by omega)⟩
          case measure => simp [intOf]; omega
        · go_ret
          exact ⟨ret_bool (M.isWordM_bad s k hlt (by omega)).symm, rfl⟩
      · have e : k = s.size := by omega
        subst e
        have HE : Hid _ := M.isWordM_end s hl
        go_wp2
        go_ret
        exact ⟨ret_bool (by rw [HE.out]; simp [h1, h3]), rfl⟩
  · have HE : M.isWordM s = false := by
      have : (decide (1 ≤ s.size) && decide (s.size ≤ 3)) = false := by
        by_cases a : 1 ≤ s.size
        · have : ¬ s.size ≤ 3 := by omega
          simp [this]
        · simp [a]
      simp [M.isWordM, this]
    have HH : Hid _ := HE
    clear HE
    by_cases h2 : s.size < 1
    all_goals
      go_enter Try.func65, Try.ntmps65
      go_wp2
      go_ret
      exact ⟨ret_bool HH.out.symm, rfl⟩
end Go.Proofs.Ytmjdndhfmfjbiaa
