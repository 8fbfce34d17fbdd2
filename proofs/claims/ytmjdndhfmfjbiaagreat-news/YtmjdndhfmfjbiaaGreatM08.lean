import Derived.Test.YtmjdndhfmfjbiaaGreatM07
import Derived.Test.YtmjdndhfmfjbiaaGreatM01
namespace Go.Proofs.YtmjdndhfmfjbiaaGreat
open Go.RowKit

/-- The six cells of an operation's own block. -/
theorem cells6 {w w1 : World} {k a b c d : Int} {s : ByteArray} (hb : Below (w.alloc (opObj k a b c d s)).heap.size (w.alloc (opObj k a b c d s)) w1) :
    w1.cell? ⟨w.heap.size, 0, none⟩ = some (.int .i64 k) ∧ w1.cell? ⟨w.heap.size, 1, none⟩ = some (.int .i64 a) ∧ w1.cell? ⟨w.heap.size, 2, none⟩ = some (.int .i64 b) ∧
      w1.cell? ⟨w.heap.size, 3, none⟩ = some (.int .i64 c) ∧ w1.cell? ⟨w.heap.size, 4, none⟩ = some (.int .i64 d) ∧ w1.cell? ⟨w.heap.size, 5, none⟩ = some (.string s) :=
  ⟨cell_later hb (by simp), cell_later hb (by simp), cell_later hb (by simp), cell_later hb (by simp), cell_later hb (by simp), cell_later hb (by simp)⟩

def subErr (fi : Int) (len : Nat) : Int := if 0 ≤ fi then 6 else if 6 ≤ len then 8 else 0
def noneErr (fi : Int) : Int := if fi < 0 then 7 else 0
def knownB (a : Int) : Bool := decide (0 ≤ a) && decide (a < 8)

set_option maxRecDepth 100000 in
set_option maxHeartbeats 4000000 in
theorem refWrong1u (B : Nat) (x : RefV) (S : RefS) (a b c d : Int) (s : ByteArray) (w : World) (hr : Rep w B x S) (hs : s.size ≤ 1048576) (hu : knownB a = false) :
    Calls Tryz.prog 68 #[.pointer (some ⟨B, 0, none⟩), .agg #[.int .i64 1, .int .i64 a, .int .i64 b, .int .i64 c, .int .i64 d, .string s]] w fun e w' =>
      e = .returned (.int .i64 (2)) ∧ Below w.heap.size w w' := by
  have HR : Hid (Rep w B x S) := hr
  clear hr
  by_cases h0 : 0 ≤ a
  · have h8 : ¬ a < 8 := by
      intro h
      simp [knownB, h0, h] at hu
    clear hu
    go_enter Tryz.func68, Tryz.ntmps68
    go_wp2_with fail
    refine (refIsTopic s _ hs).mono ?_
    rintro e w1 ⟨rfl, hb1⟩
    have b1 := cells6 hb1
    have j5 := b1.2.2.2.2.2
    clear b1
    go_wp2_with fail
    refine (refIsFilter s _ hs).mono ?_
    rintro e w2 ⟨rfl, hb2⟩
    have hb3 : Below (w.alloc (opObj 1 a b c d s)).heap.size (w.alloc (opObj 1 a b c d s)) w2 := hb1.trans (hb2.mono hb1.size)
    obtain ⟨j0, j1, j2, j3, j4, j5'⟩ := cells6 hb3
    have r2 := HR.out.below ((below_one w _).trans (hb3.mono (by simp)))
    have HB : Hid (Below w.heap.size w w2) := (below_one w _).trans (hb3.mono (by simp))
    have hxw : w.heap.size < w2.heap.size := by have := hb3.size; simp at this; omega
    clear hb1 hb2 j5
    go_wp2_with fail
    go_ret
    exact ⟨rfl, HB.out⟩
  · clear hu
    go_enter Tryz.func68, Tryz.ntmps68
    go_wp2_with fail
    refine (refIsTopic s _ hs).mono ?_
    rintro e w1 ⟨rfl, hb1⟩
    have b1 := cells6 hb1
    have j5 := b1.2.2.2.2.2
    clear b1
    go_wp2_with fail
    refine (refIsFilter s _ hs).mono ?_
    rintro e w2 ⟨rfl, hb2⟩
    have hb3 : Below (w.alloc (opObj 1 a b c d s)).heap.size (w.alloc (opObj 1 a b c d s)) w2 := hb1.trans (hb2.mono hb1.size)
    obtain ⟨j0, j1, j2, j3, j4, j5'⟩ := cells6 hb3
    have r2 := HR.out.below ((below_one w _).trans (hb3.mono (by simp)))
    have HB : Hid (Below w.heap.size w w2) := (below_one w _).trans (hb3.mono (by simp))
    have hxw : w.heap.size < w2.heap.size := by have := hb3.size; simp at this; omega
    clear hb1 hb2 j5
    go_wp2_with fail
    go_ret
    exact ⟨rfl, HB.out⟩

set_option maxRecDepth 100000 in
set_option maxHeartbeats 4000000 in
theorem refWrong2u (B : Nat) (x : RefV) (S : RefS) (a b c d : Int) (s : ByteArray) (w : World) (hr : Rep w B x S) (hs : s.size ≤ 1048576) (hu : knownB a = false) :
    Calls Tryz.prog 68 #[.pointer (some ⟨B, 0, none⟩), .agg #[.int .i64 2, .int .i64 a, .int .i64 b, .int .i64 c, .int .i64 d, .string s]] w fun e w' =>
      e = .returned (.int .i64 (2)) ∧ Below w.heap.size w w' := by
  have HR : Hid (Rep w B x S) := hr
  clear hr
  by_cases h0 : 0 ≤ a
  · have h8 : ¬ a < 8 := by
      intro h
      simp [knownB, h0, h] at hu
    clear hu
    go_enter Tryz.func68, Tryz.ntmps68
    go_wp2_with fail
    refine (refIsTopic s _ hs).mono ?_
    rintro e w1 ⟨rfl, hb1⟩
    have b1 := cells6 hb1
    have j5 := b1.2.2.2.2.2
    clear b1
    go_wp2_with fail
    refine (refIsFilter s _ hs).mono ?_
    rintro e w2 ⟨rfl, hb2⟩
    have hb3 : Below (w.alloc (opObj 2 a b c d s)).heap.size (w.alloc (opObj 2 a b c d s)) w2 := hb1.trans (hb2.mono hb1.size)
    obtain ⟨j0, j1, j2, j3, j4, j5'⟩ := cells6 hb3
    have r2 := HR.out.below ((below_one w _).trans (hb3.mono (by simp)))
    have HB : Hid (Below w.heap.size w w2) := (below_one w _).trans (hb3.mono (by simp))
    have hxw : w.heap.size < w2.heap.size := by have := hb3.size; simp at this; omega
    clear hb1 hb2 j5
    go_wp2_with fail
    go_ret
    exact ⟨rfl, HB.out⟩
  · clear hu
    go_enter Tryz.func68, Tryz.ntmps68
    go_wp2_with fail
    refine (refIsTopic s _ hs).mono ?_
    rintro e w1 ⟨rfl, hb1⟩
    have b1 := cells6 hb1
    have j5 := b1.2.2.2.2.2
    clear b1
    go_wp2_with fail
    refine (refIsFilter s _ hs).mono ?_
    rintro e w2 ⟨rfl, hb2⟩
    have hb3 : Below (w.alloc (opObj 2 a b c d s)).heap.size (w.alloc (opObj 2 a b c d s)) w2 := hb1.trans (hb2.mono hb1.size)
    obtain ⟨j0, j1, j2, j3, j4, j5'⟩ := cells6 hb3
    have r2 := HR.out.below ((below_one w _).trans (hb3.mono (by simp)))
    have HB : Hid (Below w.heap.size w w2) := (below_one w _).trans (hb3.mono (by simp))
    have hxw : w.heap.size < w2.heap.size := by have := hb3.size; simp at this; omega
    clear hb1 hb2 j5
    go_wp2_with fail
    go_ret
    exact ⟨rfl, HB.out⟩

set_option maxRecDepth 100000 in
set_option maxHeartbeats 4000000 in
theorem refWrong7u (B : Nat) (x : RefV) (S : RefS) (a b c d : Int) (s : ByteArray) (w : World) (hr : Rep w B x S) (hs : s.size ≤ 1048576) (hu : knownB a = false) :
    Calls Tryz.prog 68 #[.pointer (some ⟨B, 0, none⟩), .agg #[.int .i64 7, .int .i64 a, .int .i64 b, .int .i64 c, .int .i64 d, .string s]] w fun e w' =>
      e = .returned (.int .i64 (2)) ∧ Below w.heap.size w w' := by
  have HR : Hid (Rep w B x S) := hr
  clear hr
  by_cases h0 : 0 ≤ a
  · have h8 : ¬ a < 8 := by
      intro h
      simp [knownB, h0, h] at hu
    clear hu
    go_enter Tryz.func68, Tryz.ntmps68
    go_wp2_with fail
    refine (refIsTopic s _ hs).mono ?_
    rintro e w1 ⟨rfl, hb1⟩
    have b1 := cells6 hb1
    have j5 := b1.2.2.2.2.2
    clear b1
    go_wp2_with fail
    refine (refIsFilter s _ hs).mono ?_
    rintro e w2 ⟨rfl, hb2⟩
    have hb3 : Below (w.alloc (opObj 7 a b c d s)).heap.size (w.alloc (opObj 7 a b c d s)) w2 := hb1.trans (hb2.mono hb1.size)
    obtain ⟨j0, j1, j2, j3, j4, j5'⟩ := cells6 hb3
    have r2 := HR.out.below ((below_one w _).trans (hb3.mono (by simp)))
    have HB : Hid (Below w.heap.size w w2) := (below_one w _).trans (hb3.mono (by simp))
    have hxw : w.heap.size < w2.heap.size := by have := hb3.size; simp at this; omega
    clear hb1 hb2 j5
    go_wp2_with fail
    go_ret
    exact ⟨rfl, HB.out⟩
  · clear hu
    go_enter Tryz.func68, Tryz.ntmps68
    go_wp2_with fail
    refine (refIsTopic s _ hs).mono ?_
    rintro e w1 ⟨rfl, hb1⟩
    have b1 := cells6 hb1
    have j5 := b1.2.2.2.2.2
    clear b1
    go_wp2_with fail
    refine (refIsFilter s _ hs).mono ?_
    rintro e w2 ⟨rfl, hb2⟩
    have hb3 : Below (w.alloc (opObj 7 a b c d s)).heap.size (w.alloc (opObj 7 a b c d s)) w2 := hb1.trans (hb2.mono hb1.size)
    obtain ⟨j0, j1, j2, j3, j4, j5'⟩ := cells6 hb3
    have r2 := HR.out.below ((below_one w _).trans (hb3.mono (by simp)))
    have HB : Hid (Below w.heap.size w w2) := (below_one w _).trans (hb3.mono (by simp))
    have hxw : w.heap.size < w2.heap.size := by have := hb3.size; simp at this; omega
    clear hb1 hb2 j5
    go_wp2_with fail
    go_ret
    exact ⟨rfl, HB.out⟩

set_option maxRecDepth 100000 in
set_option maxHeartbeats 4000000 in
theorem refWrong1f (B : Nat) (x : RefV) (S : RefS) (a b c d : Int) (s : ByteArray) (w : World) (hr : Rep w B x S) (hs : s.size ≤ 1048576) (h0 : 0 ≤ a) (h8 : a < 8) (hp : M.isPathM true s = false) :
    Calls Tryz.prog 68 #[.pointer (some ⟨B, 0, none⟩), .agg #[.int .i64 1, .int .i64 a, .int .i64 b, .int .i64 c, .int .i64 d, .string s]] w fun e w' =>
      e = .returned (.int .i64 (4)) ∧ Below w.heap.size w w' := by
  have HR : Hid (Rep w B x S) := hr
  clear hr
  go_enter Tryz.func68, Tryz.ntmps68
  go_wp2_with fail
  refine (refIsTopic s _ hs).mono ?_
  rintro e w1 ⟨rfl, hb1⟩
  have b1 := cells6 hb1
  have j5 := b1.2.2.2.2.2
  clear b1
  go_wp2_with fail
  refine (refIsFilter s _ hs).mono ?_
  rintro e w2 ⟨rfl, hb2⟩
  have hb3 : Below (w.alloc (opObj 1 a b c d s)).heap.size (w.alloc (opObj 1 a b c d s)) w2 := hb1.trans (hb2.mono hb1.size)
  obtain ⟨j0, j1, j2, j3, j4, j5'⟩ := cells6 hb3
  have r2 := HR.out.below ((below_one w _).trans (hb3.mono (by simp)))
  have HB : Hid (Below w.heap.size w w2) := (below_one w _).trans (hb3.mono (by simp))
  have hxw : w.heap.size < w2.heap.size := by have := hb3.size; simp at this; omega
  clear hb1 hb2 j5
  go_wp2_with fail
  go_ret
  exact ⟨rfl, HB.out⟩

set_option maxRecDepth 100000 in
set_option maxHeartbeats 4000000 in
theorem refWrong2f (B : Nat) (x : RefV) (S : RefS) (a b c d : Int) (s : ByteArray) (w : World) (hr : Rep w B x S) (hs : s.size ≤ 1048576) (h0 : 0 ≤ a) (h8 : a < 8) (hp : M.isPathM true s = false) :
    Calls Tryz.prog 68 #[.pointer (some ⟨B, 0, none⟩), .agg #[.int .i64 2, .int .i64 a, .int .i64 b, .int .i64 c, .int .i64 d, .string s]] w fun e w' =>
      e = .returned (.int .i64 (4)) ∧ Below w.heap.size w w' := by
  have HR : Hid (Rep w B x S) := hr
  clear hr
  go_enter Tryz.func68, Tryz.ntmps68
  go_wp2_with fail
  refine (refIsTopic s _ hs).mono ?_
  rintro e w1 ⟨rfl, hb1⟩
  have b1 := cells6 hb1
  have j5 := b1.2.2.2.2.2
  clear b1
  go_wp2_with fail
  refine (refIsFilter s _ hs).mono ?_
  rintro e w2 ⟨rfl, hb2⟩
  have hb3 : Below (w.alloc (opObj 2 a b c d s)).heap.size (w.alloc (opObj 2 a b c d s)) w2 := hb1.trans (hb2.mono hb1.size)
  obtain ⟨j0, j1, j2, j3, j4, j5'⟩ := cells6 hb3
  have r2 := HR.out.below ((below_one w _).trans (hb3.mono (by simp)))
  have HB : Hid (Below w.heap.size w w2) := (below_one w _).trans (hb3.mono (by simp))
  have hxw : w.heap.size < w2.heap.size := by have := hb3.size; simp at this; omega
  clear hb1 hb2 j5
  go_wp2_with fail
  go_ret
  exact ⟨rfl, HB.out⟩

set_option maxRecDepth 100000 in
set_option maxHeartbeats 4000000 in
theorem refWrong1p (B : Nat) (x : RefV) (S : RefS) (n : Nat) (b c d : Int) (s : ByteArray) (w : World) (hr : Rep w B x S) (hs : s.size ≤ 1048576) (hn : n < 8) (hp : M.isPathM true s = true) :
    Calls Tryz.prog 68 #[.pointer (some ⟨B, 0, none⟩), .agg #[.int .i64 1, .int .i64 (n : Int), .int .i64 b, .int .i64 c, .int .i64 d, .string s]] w fun e w' =>
      e = .returned (.int .i64 (subErr (findM (fun f => f.toList == s.toList) (S.fil n) 0) (S.fil n).length)) ∧ Below w.heap.size w w' := by
  have HR : Hid (Rep w B x S) := hr
  clear hr
  have h0 : (0 : Int) ≤ (n : Int) := by omega
  have h8 : (n : Int) < 8 := by omega
  go_enter Tryz.func68, Tryz.ntmps68
  go_wp2_with fail
  refine (refIsTopic s _ hs).mono ?_
  rintro e w1 ⟨rfl, hb1⟩
  have b1 := cells6 hb1
  have j5 := b1.2.2.2.2.2
  clear b1
  go_wp2_with fail
  refine (refIsFilter s _ hs).mono ?_
  rintro e w2 ⟨rfl, hb2⟩
  have hb3 : Below (w.alloc (opObj 1 (n : Int) b c d s)).heap.size (w.alloc (opObj 1 (n : Int) b c d s)) w2 := hb1.trans (hb2.mono hb1.size)
  obtain ⟨j0, j1, j2, j3, j4, j5'⟩ := cells6 hb3
  have r2 := HR.out.below ((below_one w _).trans (hb3.mono (by simp)))
  have HB : Hid (Below w.heap.size w w2) := (below_one w _).trans (hb3.mono (by simp))
  have hxw : w.heap.size < w2.heap.size := by have := hb3.size; simp at this; omega
  clear hb1 hb2 j5
  obtain ⟨af, cf, hvf, q1, q2, hcf⟩ := (r2.fil n hn).form
  obtain ⟨aq, cq, hvq, -, -, -⟩ := (r2.que n hn).form
  have cfil := r2.cells.fil n hn
  have cque := r2.cells.que n hn
  have clost := r2.cells.lost n hn
  rw [hvf] at cfil
  rw [hvq] at cque
  have Q2 : Hid (cf ≤ maxLen) := q2
  unfold maxLen at q2
  have HC : Hid (CellsAt w2 af ((S.fil n).map Value.string)) := hcf
  have hBl := r2.cells.lt
  clear r2 hb3 hvf hvq hcf
  go_wp2_with fail
  go_region_held3 (fun w' => w'.cell? ⟨w.heap.size, 1, none⟩ = some (.int .i64 (n : Int)) ∧ w'.cell? ⟨w.heap.size, 5, none⟩ = some (.string s) ∧ w'.cell? ⟨B, 4 + n * 3, none⟩ = some (.slice af (S.fil n).length cf) ∧ w'.cell? ⟨B, 4 + n * 3 + 1, none⟩ = some (.slice aq (S.que n).length cq) ∧ w'.cell? ⟨B, 4 + n * 3 + 2, none⟩ = some (.int .i64 (S.lost n)))
    (first | (go_keep; done) | exact ⟨cell_later hb4 j1, cell_later hb4 j5', cell_later hb4 cfil, cell_later hb4 cque, cell_later hb4 clost⟩)
    (first | (go_at_call 97; refine (refHas (S.fil n) af cf _ _ s _ q1 Q2.out (by exact HC.out)).mono ?_; rintro e w4 ⟨rfl, hb4⟩))
  generalize hfi : findM (fun f => f.toList == s.toList) (S.fil n) 0 = fi at *
  have cfil4 := cell_later hb4 cfil
  have j04 := cell_later hb4 j0
  have j14 := cell_later hb4 j1
  have HB4 : Hid (Below w.heap.size w w4) := HB.out.drew.trans (hb4.mono HB.out.size)
  have HFI : Hid (findM (fun f => f.toList == s.toList) (S.fil n) 0 = fi) := hfi
  clear hfi
  by_cases hf : 0 ≤ fi
  · go_wp2_with fail
    go_ret
    exact ⟨ret_int (by unfold subErr; rw [HFI.out, if_pos hf]), HB4.out⟩
  · by_cases h6 : 6 ≤ (S.fil n).length
    · go_wp2_with fail
      go_quiet (fail)
      go_wp2_with fail
      go_ret
      exact ⟨ret_int (by unfold subErr; rw [HFI.out, if_neg (by omega), if_pos h6]), below_drewN HB4.out⟩
    · go_wp2_with fail
      go_quiet (fail)
      go_wp2_with fail
      go_ret
      exact ⟨ret_int (by unfold subErr; rw [HFI.out, if_neg (by omega), if_neg h6]), below_drewN HB4.out⟩

set_option maxRecDepth 100000 in
set_option maxHeartbeats 4000000 in
theorem refWrong2p (B : Nat) (x : RefV) (S : RefS) (n : Nat) (b c d : Int) (s : ByteArray) (w : World) (hr : Rep w B x S) (hs : s.size ≤ 1048576) (hn : n < 8) (hp : M.isPathM true s = true) :
    Calls Tryz.prog 68 #[.pointer (some ⟨B, 0, none⟩), .agg #[.int .i64 2, .int .i64 (n : Int), .int .i64 b, .int .i64 c, .int .i64 d, .string s]] w fun e w' =>
      e = .returned (.int .i64 (noneErr (findM (fun f => f.toList == s.toList) (S.fil n) 0))) ∧ Below w.heap.size w w' := by
  have HR : Hid (Rep w B x S) := hr
  clear hr
  have h0 : (0 : Int) ≤ (n : Int) := by omega
  have h8 : (n : Int) < 8 := by omega
  go_enter Tryz.func68, Tryz.ntmps68
  go_wp2_with fail
  refine (refIsTopic s _ hs).mono ?_
  rintro e w1 ⟨rfl, hb1⟩
  have b1 := cells6 hb1
  have j5 := b1.2.2.2.2.2
  clear b1
  go_wp2_with fail
  refine (refIsFilter s _ hs).mono ?_
  rintro e w2 ⟨rfl, hb2⟩
  have hb3 : Below (w.alloc (opObj 2 (n : Int) b c d s)).heap.size (w.alloc (opObj 2 (n : Int) b c d s)) w2 := hb1.trans (hb2.mono hb1.size)
  obtain ⟨j0, j1, j2, j3, j4, j5'⟩ := cells6 hb3
  have r2 := HR.out.below ((below_one w _).trans (hb3.mono (by simp)))
  have HB : Hid (Below w.heap.size w w2) := (below_one w _).trans (hb3.mono (by simp))
  have hxw : w.heap.size < w2.heap.size := by have := hb3.size; simp at this; omega
  clear hb1 hb2 j5
  obtain ⟨af, cf, hvf, q1, q2, hcf⟩ := (r2.fil n hn).form
  obtain ⟨aq, cq, hvq, -, -, -⟩ := (r2.que n hn).form
  have cfil := r2.cells.fil n hn
  have cque := r2.cells.que n hn
  have clost := r2.cells.lost n hn
  rw [hvf] at cfil
  rw [hvq] at cque
  have Q2 : Hid (cf ≤ maxLen) := q2
  unfold maxLen at q2
  have HC : Hid (CellsAt w2 af ((S.fil n).map Value.string)) := hcf
  have hBl := r2.cells.lt
  clear r2 hb3 hvf hvq hcf
  go_wp2_with fail
  go_region_held3 (fun w' => w'.cell? ⟨w.heap.size, 1, none⟩ = some (.int .i64 (n : Int)) ∧ w'.cell? ⟨w.heap.size, 5, none⟩ = some (.string s) ∧ w'.cell? ⟨B, 4 + n * 3, none⟩ = some (.slice af (S.fil n).length cf) ∧ w'.cell? ⟨B, 4 + n * 3 + 1, none⟩ = some (.slice aq (S.que n).length cq) ∧ w'.cell? ⟨B, 4 + n * 3 + 2, none⟩ = some (.int .i64 (S.lost n)))
    (first | (go_keep; done) | exact ⟨cell_later hb4 j1, cell_later hb4 j5', cell_later hb4 cfil, cell_later hb4 cque, cell_later hb4 clost⟩)
    (first | (go_at_call 97; refine (refHas (S.fil n) af cf _ _ s _ q1 Q2.out (by exact HC.out)).mono ?_; rintro e w4 ⟨rfl, hb4⟩))
  generalize hfi : findM (fun f => f.toList == s.toList) (S.fil n) 0 = fi at *
  have cfil4 := cell_later hb4 cfil
  have j04 := cell_later hb4 j0
  have j14 := cell_later hb4 j1
  have HB4 : Hid (Below w.heap.size w w4) := HB.out.drew.trans (hb4.mono HB.out.size)
  have HFI : Hid (findM (fun f => f.toList == s.toList) (S.fil n) 0 = fi) := hfi
  clear hfi
  by_cases hf : fi < 0
  · go_wp2_with fail
    go_ret
    exact ⟨ret_int (by unfold noneErr; rw [HFI.out, if_pos hf]), HB4.out⟩
  · go_wp2_with fail
    go_ret
    exact ⟨ret_int (by unfold noneErr; rw [HFI.out, if_neg (by omega)]), HB4.out⟩

end Go.Proofs.YtmjdndhfmfjbiaaGreat
