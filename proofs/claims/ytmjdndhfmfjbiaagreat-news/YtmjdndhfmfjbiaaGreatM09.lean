import Derived.Test.YtmjdndhfmfjbiaaGreatM08
namespace Go.Proofs.YtmjdndhfmfjbiaaGreat
open Go.RowKit

def pubErr (p : Bool) (b c d : Int) (len : Nat) : Int :=
  if p = false then 3 else if b < 0 then 5 else if 1073741824 < b then 5 else if isTimeM c = false then 5 else if isTimeM d = false then 5 else if 0 < c then (if 64 ≤ len then 8 else 0) else 0
def moveErr (fi c : Int) : Int := if fi < 0 then 7 else if c < 1 then 5 else if 1099511627776 < c then 5 else 0
def tickErr (b : Int) : Int := if isTimeM b = false then 5 else 0

set_option maxRecDepth 100000 in
set_option maxHeartbeats 4000000 in
theorem refWrong3 (B : Nat) (x : RefV) (S : RefS) (a b c d : Int) (s : ByteArray) (w : World) (hr : Rep w B x S) (hs : s.size ≤ 1048576) :
    Calls Tryz.prog 68 #[.pointer (some ⟨B, 0, none⟩), .agg #[.int .i64 3, .int .i64 a, .int .i64 b, .int .i64 c, .int .i64 d, .string s]] w fun e w' =>
      e = .returned (.int .i64 (pubErr (M.isPathM false s) b c d S.wait.length)) ∧ Below w.heap.size w w' := by
  have HR : Hid (Rep w B x S) := hr
  clear hr
  by_cases h0 : 0 ≤ a
  all_goals
    go_enter Tryz.func68, Tryz.ntmps68
    go_wp2_with fail
    refine (refIsTopic s _ hs).mono ?_
    rintro e w1 ⟨rfl, hb1⟩
    have b1 := cells6 hb1
    have j5 := b1.2.2.2.2.2
    clear b1
    go_wp2_with fail
    refine (refIsFilter s _ hs).mono ?_
    rintro e w2 ⟨rfl, hb2⟩
    have hb3 : Below (w.alloc (opObj 3 a b c d s)).heap.size (w.alloc (opObj 3 a b c d s)) w2 := hb1.trans (hb2.mono hb1.size)
    obtain ⟨j0, j1, j2, j3, j4, j5'⟩ := cells6 hb3
    have r2 := HR.out.below ((below_one w _).trans (hb3.mono (by simp)))
    have HB : Hid (Below w.heap.size w w2) := (below_one w _).trans (hb3.mono (by simp))
    clear hb1 hb2 j5
    obtain ⟨ao, cw, hv, -, -, -⟩ := r2.wait.form
    have cwt := r2.cells.wait
    rw [hv] at cwt
    clear r2 hb3 hv
    cases hp : M.isPathM false s
    · go_wp2_with (go_at_call 98; refine (refIsTime _ _).mono ?_; rintro e w3 ⟨rfl, rfl⟩)
      go_ret
      exact ⟨ret_int (by unfold pubErr; rw [if_pos hp]), HB.out⟩
    · by_cases hb0 : b < 0
      · go_wp2_with (go_at_call 98; refine (refIsTime _ _).mono ?_; rintro e w3 ⟨rfl, rfl⟩)
        go_ret
        exact ⟨ret_int (by unfold pubErr; rw [if_neg (by first | decide | (rw [hp]; decide)), if_pos hb0]), HB.out⟩
      · by_cases hb1 : 1073741824 < b
        · go_wp2_with (go_at_call 98; refine (refIsTime _ _).mono ?_; rintro e w3 ⟨rfl, rfl⟩)
          go_ret
          exact ⟨ret_int (by unfold pubErr; rw [if_neg (by first | decide | (rw [hp]; decide)), if_neg (by omega), if_pos hb1]), HB.out⟩
        · cases hc : isTimeM c
          · go_wp2_with (go_at_call 98; refine (refIsTime _ _).mono ?_; rintro e w3 ⟨rfl, rfl⟩)
            go_ret
            exact ⟨ret_int (by unfold pubErr; rw [if_neg (by first | decide | (rw [hp]; decide)), if_neg (by omega), if_neg (by omega), if_pos hc]), HB.out⟩
          · cases hd : isTimeM d
            · go_wp2_with (go_at_call 98; refine (refIsTime _ _).mono ?_; rintro e w3 ⟨rfl, rfl⟩)
              go_ret
              exact ⟨ret_int (by unfold pubErr; rw [if_neg (by first | decide | (rw [hp]; decide)), if_neg (by omega), if_neg (by omega), if_neg (by first | decide | (rw [hc]; decide)), if_pos hd]), HB.out⟩
            · by_cases hc0 : 0 < c
              · by_cases hl : 64 ≤ S.wait.length
                · go_wp2_with (go_at_call 98; refine (refIsTime _ _).mono ?_; rintro e w3 ⟨rfl, rfl⟩)
                  go_ret
                  exact ⟨ret_int (by unfold pubErr; rw [if_neg (by first | decide | (rw [hp]; decide)), if_neg (by omega), if_neg (by omega), if_neg (by first | decide | (rw [hc]; decide)), if_neg (by first | decide | (rw [hd]; decide)), if_pos hc0, if_pos hl]), HB.out⟩
                · go_wp2_with (go_at_call 98; refine (refIsTime _ _).mono ?_; rintro e w3 ⟨rfl, rfl⟩)
                  go_ret
                  exact ⟨ret_int (by unfold pubErr; rw [if_neg (by first | decide | (rw [hp]; decide)), if_neg (by omega), if_neg (by omega), if_neg (by first | decide | (rw [hc]; decide)), if_neg (by first | decide | (rw [hd]; decide)), if_pos hc0, if_neg hl]), HB.out⟩
              · go_wp2_with (go_at_call 98; refine (refIsTime _ _).mono ?_; rintro e w3 ⟨rfl, rfl⟩)
                go_ret
                exact ⟨ret_int (by unfold pubErr; rw [if_neg (by first | decide | (rw [hp]; decide)), if_neg (by omega), if_neg (by omega), if_neg (by first | decide | (rw [hc]; decide)), if_neg (by first | decide | (rw [hd]; decide)), if_neg (by omega)]), HB.out⟩

set_option maxRecDepth 100000 in
set_option maxHeartbeats 4000000 in
theorem refWrong4 (B : Nat) (x : RefV) (S : RefS) (a b c d : Int) (s : ByteArray) (w : World) (hr : Rep w B x S) (hs : s.size ≤ 1048576) :
    Calls Tryz.prog 68 #[.pointer (some ⟨B, 0, none⟩), .agg #[.int .i64 4, .int .i64 a, .int .i64 b, .int .i64 c, .int .i64 d, .string s]] w fun e w' =>
      e = .returned (.int .i64 (noneErr (findM (fun m => m.number == b) S.wait 0))) ∧ Below w.heap.size w w' := by
  have HR : Hid (Rep w B x S) := hr
  clear hr
  by_cases h0 : 0 ≤ a
  all_goals
    go_enter Tryz.func68, Tryz.ntmps68
    go_wp2_with fail
    refine (refIsTopic s _ hs).mono ?_
    rintro e w1 ⟨rfl, hb1⟩
    have b1 := cells6 hb1
    have j5 := b1.2.2.2.2.2
    clear b1
    go_wp2_with fail
    refine (refIsFilter s _ hs).mono ?_
    rintro e w2 ⟨rfl, hb2⟩
    have hb3 : Below (w.alloc (opObj 4 a b c d s)).heap.size (w.alloc (opObj 4 a b c d s)) w2 := hb1.trans (hb2.mono hb1.size)
    obtain ⟨j0, j1, j2, j3, j4, j5'⟩ := cells6 hb3
    have r2 := HR.out.below ((below_one w _).trans (hb3.mono (by simp)))
    have HB : Hid (Below w.heap.size w w2) := (below_one w _).trans (hb3.mono (by simp))
    clear hb1 hb2 j5
    obtain ⟨ao, cw, hv, q1, q2, hcs⟩ := r2.wait.form
    go_wp2_with fail
    refine (refWaits S.wait ao cw B x S b _ q1 q2 hcs r2.cells hv).mono ?_
    rintro e w4 ⟨rfl, rfl⟩
    generalize hfi : findM (fun m => m.number == b) S.wait 0 = fi at *
    have HFI : Hid (findM (fun m => m.number == b) S.wait 0 = fi) := hfi
    clear hfi r2 hb3 hv hcs q1 q2
    by_cases hf : fi < 0
    · go_wp2_with fail
      go_ret
      exact ⟨ret_int (by unfold noneErr; rw [HFI.out, if_pos hf]), HB.out⟩
    · go_wp2_with fail
      go_ret
      exact ⟨ret_int (by unfold noneErr; rw [HFI.out, if_neg (by omega)]), HB.out⟩

set_option maxRecDepth 100000 in
set_option maxHeartbeats 4000000 in
theorem refWrong5 (B : Nat) (x : RefV) (S : RefS) (a b c d : Int) (s : ByteArray) (w : World) (hr : Rep w B x S) (hs : s.size ≤ 1048576) :
    Calls Tryz.prog 68 #[.pointer (some ⟨B, 0, none⟩), .agg #[.int .i64 5, .int .i64 a, .int .i64 b, .int .i64 c, .int .i64 d, .string s]] w fun e w' =>
      e = .returned (.int .i64 (moveErr (findM (fun m => m.number == b) S.wait 0) c)) ∧ Below w.heap.size w w' := by
  have HR : Hid (Rep w B x S) := hr
  clear hr
  by_cases h0 : 0 ≤ a
  all_goals
    go_enter Tryz.func68, Tryz.ntmps68
    go_wp2_with fail
    refine (refIsTopic s _ hs).mono ?_
    rintro e w1 ⟨rfl, hb1⟩
    have b1 := cells6 hb1
    have j5 := b1.2.2.2.2.2
    clear b1
    go_wp2_with fail
    refine (refIsFilter s _ hs).mono ?_
    rintro e w2 ⟨rfl, hb2⟩
    have hb3 : Below (w.alloc (opObj 5 a b c d s)).heap.size (w.alloc (opObj 5 a b c d s)) w2 := hb1.trans (hb2.mono hb1.size)
    obtain ⟨j0, j1, j2, j3, j4, j5'⟩ := cells6 hb3
    have r2 := HR.out.below ((below_one w _).trans (hb3.mono (by simp)))
    have HB : Hid (Below w.heap.size w w2) := (below_one w _).trans (hb3.mono (by simp))
    clear hb1 hb2 j5
    obtain ⟨ao, cw, hv, q1, q2, hcs⟩ := r2.wait.form
    go_wp2_with fail
    refine (refWaits S.wait ao cw B x S b _ q1 q2 hcs r2.cells hv).mono ?_
    rintro e w4 ⟨rfl, rfl⟩
    generalize hfi : findM (fun m => m.number == b) S.wait 0 = fi at *
    have HFI : Hid (findM (fun m => m.number == b) S.wait 0 = fi) := hfi
    clear hfi r2 hb3 hv hcs q1 q2
    by_cases hf : fi < 0
    · go_wp2_with fail
      go_ret
      exact ⟨ret_int (by unfold moveErr; rw [HFI.out, if_pos hf]), HB.out⟩
    · by_cases hc1 : c < 1
      · go_wp2_with fail
        go_ret
        exact ⟨ret_int (by unfold moveErr; rw [HFI.out, if_neg (by omega), if_pos hc1]), HB.out⟩
      · by_cases hc2 : 1099511627776 < c
        · go_wp2_with fail
          go_ret
          exact ⟨ret_int (by unfold moveErr; rw [HFI.out, if_neg (by omega), if_neg (by omega), if_pos hc2]), HB.out⟩
        · go_wp2_with fail
          go_ret
          exact ⟨ret_int (by unfold moveErr; rw [HFI.out, if_neg (by omega), if_neg (by omega), if_neg (by omega)]), HB.out⟩

set_option maxRecDepth 100000 in
set_option maxHeartbeats 4000000 in
theorem refWrong6 (B : Nat) (x : RefV) (S : RefS) (a b c d : Int) (s : ByteArray) (w : World) (hr : Rep w B x S) (hs : s.size ≤ 1048576) :
    Calls Tryz.prog 68 #[.pointer (some ⟨B, 0, none⟩), .agg #[.int .i64 6, .int .i64 a, .int .i64 b, .int .i64 c, .int .i64 d, .string s]] w fun e w' =>
      e = .returned (.int .i64 (tickErr b)) ∧ Below w.heap.size w w' := by
  have HR : Hid (Rep w B x S) := hr
  clear hr
  by_cases h0 : 0 ≤ a
  all_goals
    go_enter Tryz.func68, Tryz.ntmps68
    go_wp2_with fail
    refine (refIsTopic s _ hs).mono ?_
    rintro e w1 ⟨rfl, hb1⟩
    have b1 := cells6 hb1
    have j5 := b1.2.2.2.2.2
    clear b1
    go_wp2_with fail
    refine (refIsFilter s _ hs).mono ?_
    rintro e w2 ⟨rfl, hb2⟩
    have hb3 : Below (w.alloc (opObj 6 a b c d s)).heap.size (w.alloc (opObj 6 a b c d s)) w2 := hb1.trans (hb2.mono hb1.size)
    obtain ⟨j0, j1, j2, j3, j4, j5'⟩ := cells6 hb3
    have r2 := HR.out.below ((below_one w _).trans (hb3.mono (by simp)))
    have HB : Hid (Below w.heap.size w w2) := (below_one w _).trans (hb3.mono (by simp))
    clear hb1 hb2 j5
    clear r2 hb3
    cases hb : isTimeM b
    · go_wp2_with (go_at_call 98; refine (refIsTime _ _).mono ?_; rintro e w3 ⟨rfl, rfl⟩)
      go_ret
      exact ⟨ret_int (by unfold tickErr; rw [if_pos hb]), HB.out⟩
    · go_wp2_with (go_at_call 98; refine (refIsTime _ _).mono ?_; rintro e w3 ⟨rfl, rfl⟩)
      go_ret
      exact ⟨ret_int (by unfold tickErr; rw [if_neg (by rw [hb]; decide)]), HB.out⟩

set_option maxRecDepth 100000 in
set_option maxHeartbeats 4000000 in
theorem refWrong7p (B : Nat) (x : RefV) (S : RefS) (n : Nat) (b c d : Int) (s : ByteArray) (w : World) (hr : Rep w B x S) (hs : s.size ≤ 1048576) (hn : n < 8) :
    Calls Tryz.prog 68 #[.pointer (some ⟨B, 0, none⟩), .agg #[.int .i64 7, .int .i64 (n : Int), .int .i64 b, .int .i64 c, .int .i64 d, .string s]] w fun e w' =>
      e = .returned (.int .i64 (noneErr (findM (fun m => m.number == b) (S.que n) 0))) ∧ Below w.heap.size w w' := by
  have HR : Hid (Rep w B x S) := hr
  clear hr
  have h0 : (0 : Int) ≤ (n : Int) := by omega
  have h8 : (n : Int) < 8 := by omega
  go_enter Tryz.func68, Tryz.ntmps68
  go_wp2_with fail
  refine (refIsTopic s _ hs).mono ?_
  rintro e w1 ⟨rfl, hb1⟩
  have b1 := cells6 hb1
  have j5 := b1.2.2.2.2.2
  clear b1
  go_wp2_with fail
  refine (refIsFilter s _ hs).mono ?_
  rintro e w2 ⟨rfl, hb2⟩
  have hb3 : Below (w.alloc (opObj 7 (n : Int) b c d s)).heap.size (w.alloc (opObj 7 (n : Int) b c d s)) w2 := hb1.trans (hb2.mono hb1.size)
  obtain ⟨j0, j1, j2, j3, j4, j5'⟩ := cells6 hb3
  have r2 := HR.out.below ((below_one w _).trans (hb3.mono (by simp)))
  have HB : Hid (Below w.heap.size w w2) := (below_one w _).trans (hb3.mono (by simp))
  clear hb1 hb2 j5
  obtain ⟨af, cf, hvf, -, -, -⟩ := (r2.fil n hn).form
  obtain ⟨aq, cq, hvq, q1, q2, hcq⟩ := (r2.que n hn).form
  have cfil := r2.cells.fil n hn
  have cque := r2.cells.que n hn
  have clost := r2.cells.lost n hn
  rw [hvf] at cfil
  rw [hvq] at cque
  have Q2 : Hid (cq ≤ maxLen) := q2
  unfold maxLen at q2
  have HC : Hid (CellsAt w2 aq ((S.que n).flatMap sentCells)) := hcq
  have hBl := r2.cells.lt
  clear r2 hb3 hvf hvq hcq
  go_wp2_with fail
  go_region_held3 (fun w' => w'.cell? ⟨w.heap.size, 1, none⟩ = some (.int .i64 (n : Int)) ∧ w'.cell? ⟨w.heap.size, 2, none⟩ = some (.int .i64 b) ∧ w'.cell? ⟨B, 4 + n * 3, none⟩ = some (.slice af (S.fil n).length cf) ∧ w'.cell? ⟨B, 4 + n * 3 + 1, none⟩ = some (.slice aq (S.que n).length cq) ∧ w'.cell? ⟨B, 4 + n * 3 + 2, none⟩ = some (.int .i64 (S.lost n)))
    (first | (go_keep; done) | exact ⟨cell_later hb4 j1, cell_later hb4 j2, cell_later hb4 cfil, cell_later hb4 cque, cell_later hb4 clost⟩)
    (first | (go_at_call 100; refine (refHolds (S.que n) aq cq _ _ b _ q1 Q2.out (by exact HC.out)).mono ?_; rintro e w4 ⟨rfl, hb4⟩))
  generalize hfi : findM (fun m : SentD => m.number == b) (S.que n) 0 = fi at *
  have HFI : Hid (findM (fun m : SentD => m.number == b) (S.que n) 0 = fi) := hfi
  have HB4 : Hid (Below w.heap.size w w4) := HB.out.drew.trans (hb4.mono HB.out.size)
  clear hfi
  by_cases hf : fi < 0
  · go_wp2_with fail
    go_ret
    exact ⟨ret_int (by unfold noneErr; rw [HFI.out, if_pos hf]), HB4.out⟩
  · go_wp2_with fail
    go_ret
    exact ⟨ret_int (by unfold noneErr; rw [HFI.out, if_neg (by omega)]), HB4.out⟩
end Go.Proofs.YtmjdndhfmfjbiaaGreat
