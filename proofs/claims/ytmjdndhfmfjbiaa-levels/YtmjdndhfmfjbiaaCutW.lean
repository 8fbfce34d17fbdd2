import Derived.Test.YtmjdndhfmfjbiaaWordsW
namespace Go.Proofs.Ytmjdndhfmfjbiaa
open Go.RowKit

/-- What the loop of 'words' holds behind k bytes. -/
def CutRel (s : ByteArray) (w : World) (v a i : Value) (wr : World) : Prop :=
  ∃ k : Nat, k ≤ s.size ∧ i = .int .i64 k ∧ a = .int .i64 ((M.cutTo s k).2 : Nat) ∧
    wr.ownsRow w.heap.size 9 1 v (M.cutTo s k).1.length ((M.cutTo s k).1.map Value.string) ∧ Below w.heap.size w wr

theorem strs_oneCell (l : List ByteArray) : ∀ u ∈ l.map Value.string, u.oneCell' = true := by
  intro u hu
  obtain ⟨_, _, rfl⟩ := List.mem_map.1 hu
  rfl

theorem str_one (x : ByteArray) : ∀ u ∈ [Value.string x], u.oneCell' = true := by
  intro u hu
  simp at hu; subst hu; rfl

theorem cut_hit_rel {s : ByteArray} {w wr w1 : World} {v v' : Value} {k : Nat} {o : Obj} (h : M.bt s k = 47)
    (hown : wr.ownsRow w.heap.size 9 1 v (M.cutTo s k).1.length ((M.cutTo s k).1.map Value.string)) (hb : Below w.heap.size w wr)
    (hown' : w1.ownsRow w.heap.size 9 1 v' ((M.cutTo s k).1.length + 1) ((M.cutTo s k).1.map Value.string ++ [.string (s.extract (M.cutTo s k).2 k)])) (hg : (wr.alloc o).grownBy w1 v.ownBlock) :
    w1.ownsRow w.heap.size 9 1 v' (M.cutTo s (k + 1)).1.length ((M.cutTo s (k + 1)).1.map Value.string) ∧ Below w.heap.size w w1 := by
  refine ⟨by rw [M.cutTo_hit s k h]; simpa using hown', (hb.alloc hb.size o).grown hg (by have := hb.size; simp; omega) (fun j hj => (hown.lt j hj).1)⟩

theorem cut_end {s : ByteArray} {w wr w1 : World} {v v' : Value} {o : Obj}
    (hown : wr.ownsRow w.heap.size 9 1 v (M.cutTo s s.size).1.length ((M.cutTo s s.size).1.map Value.string)) (hb : Below w.heap.size w wr)
    (hown' : w1.ownsRow w.heap.size 9 1 v' ((M.cutTo s s.size).1.length + 1) ((M.cutTo s s.size).1.map Value.string ++ [.string (s.extract (M.cutTo s s.size).2 s.size)])) (hg : (wr.alloc o).grownBy w1 v.ownBlock) :
    w1.ownsRow w.heap.size 9 1 v' (M.wordsM s).length ((M.wordsM s).map Value.string) ∧ Below w.heap.size w w1 := by
  refine ⟨by simpa [M.wordsM] using hown', (hb.alloc hb.size o).grown hg (by have := hb.size; simp; omega) (fun j hj => (hown.lt j hj).1)⟩

set_option maxRecDepth 100000 in
set_option maxHeartbeats 800000 in
theorem refWords (s : ByteArray) (w : World) (hs : s.size ≤ 1048576) :
    Calls Try.prog 53 #[.string s] w fun e w' => ∃ v, e = .returned v ∧ w'.ownsRow w.heap.size 9 1 v (M.wordsM s).length ((M.wordsM s).map Value.string) ∧ Below w.heap.size w w' := by
  obtain ⟨i0, hi, hz0, hz1, hz2⟩ := info_parts infoStr
  go_enter Try.func53, Try.ntmps53
  go_wp2
  go_loopw [3, 4, 5] (fun v a i wr => CutRel s w v a i wr) (fun _ _ i _ => s.size - (intOf i).toNat)
  case atStart => exact ⟨0, Nat.zero_le _, rfl, rfl, World.ownsRow_nil _ _ _ _, Below.refl _ _⟩
  case round =>
    obtain ⟨k, hk, rfl, rfl, hown, hnx⟩ := hrel
    have hle := M.cutTo_le s k
    obtain ⟨hle1, hle2⟩ := hle
    have hsz := hnx.size
    by_cases hlt : k < s.size
    · have hget := M.bt_get s k hlt
      by_cases h47 : M.bt s k = 47
      · have ht : (((s[k]'hlt).toNat : Int) == 47) = true := by rw [hget]; simp [h47]
        have H47 : Hid _ := h47
        clear hget h47
        go_wp2_with (first | (at_builtin; refine wpList_append_own _ rfl _ _ 62 rfl w.heap.size 9 i0 (.string ⟨#[]⟩) 1 16 Try.underlying62 hi hz0 hz1 hz2 rfl (by decide) _ _ _ rfl (hown.alloc _) ⟨wr.heap.size, 0, none⟩ 1 1 [.string (s.extract (M.cutTo s k).2 k)] rfl rfl (cell_one_new _ _ _) (str_one _) (by unfold maxLen; omega) (by omega) (by simp; omega) ?_))
        intro v' w1 hown' hgrow _
        have R := cut_hit_rel H47.out hown hnx hown' hgrow
        have E : Hid (M.cutTo s (k + 1) = ((M.cutTo s k).1 ++ [s.extract (M.cutTo s k).2 k], k + 1)) := M.cutTo_hit s k H47.out
        clear hown' hgrow hown
        go_wp2
        go_roundw
        case rel => exact ⟨k + 1, by omega, by go_num, by rw [E.out]; go_num, R.1, R.2⟩
        case measure => simp [intOf]; omega
      · have ht : (((s[k]'hlt).toNat : Int) == 47) = false := by rw [hget]; simp; omega
        have H47 : Hid _ := h47
        clear hget h47
        have E : Hid (M.cutTo s (k + 1) = M.cutTo s k) := M.cutTo_miss s k H47.out
        go_wp2
        go_roundw
        case rel => exact ⟨k + 1, by omega, by go_num, by rw [E.out], by rw [E.out]; exact hown, hnx⟩
        case measure => simp [intOf]; omega
    · obtain rfl : k = s.size := by omega
      go_wp2_with (first | (at_builtin; refine wpList_append_own _ rfl _ _ 62 rfl w.heap.size 9 i0 (.string ⟨#[]⟩) 1 16 Try.underlying62 hi hz0 hz1 hz2 rfl (by decide) _ _ _ rfl (hown.alloc _) ⟨wr.heap.size, 0, none⟩ 1 1 [.string (s.extract (M.cutTo s s.size).2 s.size)] rfl rfl (cell_one_new _ _ _) (str_one _) (by unfold maxLen; omega) (by omega) (by simp; omega) ?_))
      intro v' w1 hown' hgrow _
      go_wp2
      go_ret
      exact ⟨_, rfl, cut_end hown hnx hown' hgrow⟩

set_option maxRecDepth 100000 in
set_option maxHeartbeats 800000 in
theorem topWords (s : ByteArray) (w : World) (hs : s.size ≤ 1048576) :
    Calls Try.prog 52 #[.string s] w fun e w' => ∃ v, e = .returned v ∧ w'.ownsRow w.heap.size 9 1 v (M.wordsM s).length ((M.wordsM s).map Value.string) ∧ Below w.heap.size w w' := by
  obtain ⟨i0, hi, hz0, hz1, hz2⟩ := info_parts infoStr
  go_enter Try.func52, Try.ntmps52
  go_wp2
  go_loopw [3, 4, 5] (fun v a i wr => CutRel s w v a i wr) (fun _ _ i _ => s.size - (intOf i).toNat)
  case atStart => exact ⟨0, Nat.zero_le _, rfl, rfl, World.ownsRow_nil _ _ _ _, Below.refl _ _⟩
  case round =>
    obtain ⟨k, hk, rfl, rfl, hown, hnx⟩ := hrel
    have hle := M.cutTo_le s k
    obtain ⟨hle1, hle2⟩ := hle
    have hsz := hnx.size
    by_cases hlt : k < s.size
    · have hget := M.bt_get s k hlt
      by_cases h47 : M.bt s k = 47
      · have ht : (((s[k]'hlt).toNat : Int) == 47) = true := by rw [hget]; simp [h47]
        have H47 : Hid _ := h47
        clear hget h47
        go_wp2_with (first | (at_builtin; refine wpList_append_own _ rfl _ _ 62 rfl w.heap.size 9 i0 (.string ⟨#[]⟩) 1 16 Try.underlying62 hi hz0 hz1 hz2 rfl (by decide) _ _ _ rfl (hown.alloc _) ⟨wr.heap.size, 0, none⟩ 1 1 [.string (s.extract (M.cutTo s k).2 k)] rfl rfl (cell_one_new _ _ _) (str_one _) (by unfold maxLen; omega) (by omega) (by simp; omega) ?_))
        intro v' w1 hown' hgrow _
        have R := cut_hit_rel H47.out hown hnx hown' hgrow
        have E : Hid (M.cutTo s (k + 1) = ((M.cutTo s k).1 ++ [s.extract (M.cutTo s k).2 k], k + 1)) := M.cutTo_hit s k H47.out
        clear hown' hgrow hown
        go_wp2
        go_roundw
        case rel => exact ⟨k + 1, by omega, by go_num, by rw [E.out]; go_num, R.1, R.2⟩
        case measure => simp [intOf]; omega
      · have ht : (((s[k]'hlt).toNat : Int) == 47) = false := by rw [hget]; simp; omega
        have H47 : Hid _ := h47
        clear hget h47
        have E : Hid (M.cutTo s (k + 1) = M.cutTo s k) := M.cutTo_miss s k H47.out
        go_wp2
        go_roundw
        case rel => exact ⟨k + 1, by omega, by go_num, by rw [E.out], by rw [E.out]; exact hown, hnx⟩
        case measure => simp [intOf]; omega
    · obtain rfl : k = s.size := by omega
      go_wp2_with (first | (at_builtin; refine wpList_append_own _ rfl _ _ 62 rfl w.heap.size 9 i0 (.string ⟨#[]⟩) 1 16 Try.underlying62 hi hz0 hz1 hz2 rfl (by decide) _ _ _ rfl (hown.alloc _) ⟨wr.heap.size, 0, none⟩ 1 1 [.string (s.extract (M.cutTo s s.size).2 s.size)] rfl rfl (cell_one_new _ _ _) (str_one _) (by unfold maxLen; omega) (by omega) (by simp; omega) ?_))
      intro v' w1 hown' hgrow _
      go_wp2
      go_ret
      exact ⟨_, rfl, cut_end hown hnx hown' hgrow⟩
end Go.Proofs.Ytmjdndhfmfjbiaa
