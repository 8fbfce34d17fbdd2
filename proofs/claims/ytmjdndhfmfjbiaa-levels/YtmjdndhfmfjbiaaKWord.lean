import Derived.Test.YtmjdndhfmfjbiaaFitting
import Derived.Test.YtmjdndhfmfjbiaaMath2
import Derived.Test.YtmjdndhfmfjbiaaConv
import Derived.Deep.OwnRows
import Derived.Laws.BytesArg
namespace Go.Proofs.Ytmjdndhfmfjbiaa
open Go.RowKit

theorem word_ok (cs : List Int) (h1 : 1 ≤ cs.length) (h3 : cs.length ≤ 3) (h : ∀ c ∈ cs, 97 ≤ c ∧ c ≤ 122) : M.isWordL (M.L ⟨(cs.map fun n => UInt8.ofNat n.toNat).toArray⟩) = true := by
  simp only [M.isWordL, M.L, List.length_map, h1, h3, decide_true, Bool.and_true, List.all_map, List.all_eq_true]
  intro c hc
  obtain ⟨a, b⟩ := h c hc
  have e : (UInt8.ofNat c.toNat).toNat = c.toNat := by
    rw [UInt8.toNat_ofNat']; omega
  simp only [Function.comp, M.letterU, M.letterB, e, Bool.and_eq_true, decide_eq_true_eq]
  omega

set_option maxRecDepth 100000 in
set_option maxHeartbeats 1000000 in
theorem keepWord1 (b : Int) (w : World) (h0 : 0 ≤ b) (h1 : b ≤ 255) (hn : b / 9 % 3 = 0) :
    Calls Try.prog 32 #[.int .i64 b] w fun e w' => (∃ x, e = .returned (.string x) ∧ M.isWordL (M.L x) = true) ∧ Below w.heap.size w w' := by
  have hmk : ∀ w : World, (Instr.makeSlice 66 (.int .i64 1) (.int .i64 1)).run Try.prog w = .ok (.slice (some ⟨w.heap.size, 0, none⟩) 1 1) (w.alloc (.cells #[(.int .u8 0)] 5)) := fun w => by kernel_rfl
  have hcv := conv_new w [97 + b % 3]
  simp only [List.length_cons, List.length_nil, List.map_cons, List.map_nil, Nat.zero_add] at hcv
  go_enter Try.func32, Try.ntmps32
  go_wp2_with fail
  refine wp_loop_rounds 2 ?_
  rw [rounds_succ]
  go_wp2_with fail
  rw [rounds_succ]
  go_wp2_with fail
  go_ret
  exact ⟨⟨_, rfl, word_ok [97 + b % 3] (by simp) (by simp) (by simp; omega)⟩, (Below.refl _ _).alloc (Nat.le_refl _) _⟩

set_option maxRecDepth 100000 in
set_option maxHeartbeats 1000000 in
theorem keepWord2 (b : Int) (w : World) (h0 : 0 ≤ b) (h1 : b ≤ 255) (hn : b / 9 % 3 = 1) :
    Calls Try.prog 32 #[.int .i64 b] w fun e w' => (∃ x, e = .returned (.string x) ∧ M.isWordL (M.L x) = true) ∧ Below w.heap.size w w' := by
  have hmk : ∀ w : World, (Instr.makeSlice 66 (.int .i64 2) (.int .i64 2)).run Try.prog w = .ok (.slice (some ⟨w.heap.size, 0, none⟩) 2 2) (w.alloc (.cells #[(.int .u8 0), (.int .u8 0)] 5)) := fun w => by kernel_rfl
  have hcv := conv_new w [97 + b % 3, 97 + (b + b / 3) % 3]
  simp only [List.length_cons, List.length_nil, List.map_cons, List.map_nil, Nat.zero_add, Nat.reduceAdd] at hcv
  go_enter Try.func32, Try.ntmps32
  go_wp2_with fail
  refine wp_loop_rounds 3 ?_
  rw [rounds_succ]
  go_wp2_with fail
  rw [rounds_succ]
  go_wp2_with fail
  rw [rounds_succ]
  go_wp2_with fail
  go_ret
  exact ⟨⟨_, rfl, word_ok [97 + b % 3, 97 + (b + b / 3) % 3] (by simp) (by simp) (by simp; omega)⟩, (Below.refl _ _).alloc (Nat.le_refl _) _⟩

set_option maxRecDepth 100000 in
set_option maxHeartbeats 1000000 in
theorem keepWord3 (b : Int) (w : World) (h0 : 0 ≤ b) (h1 : b ≤ 255) (hn : b / 9 % 3 = 2) :
    Calls Try.prog 32 #[.int .i64 b] w fun e w' => (∃ x, e = .returned (.string x) ∧ M.isWordL (M.L x) = true) ∧ Below w.heap.size w w' := by
  have hmk : ∀ w : World, (Instr.makeSlice 66 (.int .i64 3) (.int .i64 3)).run Try.prog w = .ok (.slice (some ⟨w.heap.size, 0, none⟩) 3 3) (w.alloc (.cells #[(.int .u8 0), (.int .u8 0), (.int .u8 0)] 5)) := fun w => by kernel_rfl
  have hcv := conv_new w [97 + b % 3, 97 + (b + b / 3) % 3, 97 + (b + 2 * (b / 3)) % 3]
  simp only [List.length_cons, List.length_nil, List.map_cons, List.map_nil, Nat.zero_add, Nat.reduceAdd] at hcv
  go_enter Try.func32, Try.ntmps32
  go_wp2_with fail
  refine wp_loop_rounds 4 ?_
  rw [rounds_succ]
  go_wp2_with fail
  rw [rounds_succ]
  go_wp2_with fail
  rw [rounds_succ]
  go_wp2_with fail
  rw [rounds_succ]
  go_wp2_with fail
  go_ret
  exact ⟨⟨_, rfl, word_ok [97 + b % 3, 97 + (b + b / 3) % 3, 97 + (b + 2 * (b / 3)) % 3] (by simp) (by simp) (by simp; omega)⟩, (Below.refl _ _).alloc (Nat.le_refl _) _⟩

theorem keepWord (b : Int) (w : World) (h0 : 0 ≤ b) (h1 : b ≤ 255) :
    Calls Try.prog 32 #[.int .i64 b] w fun e w' => (∃ x, e = .returned (.string x) ∧ M.isWordL (M.L x) = true) ∧ Below w.heap.size w w' := by
  rcases (show b / 9 % 3 = 0 ∨ b / 9 % 3 = 1 ∨ b / 9 % 3 = 2 from by omega) with h | h | h
  · exact keepWord1 b w h0 h1 h
  · exact keepWord2 b w h0 h1 h
  · exact keepWord3 b w h0 h1 h
end Go.Proofs.Ytmjdndhfmfjbiaa
