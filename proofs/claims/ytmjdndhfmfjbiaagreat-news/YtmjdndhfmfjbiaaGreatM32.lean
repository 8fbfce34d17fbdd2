import Derived.Test.YtmjdndhfmfjbiaaGreatM31
import Derived.Test.YtmjdndhfmfjbiaaGreatM30
namespace Go.Proofs.YtmjdndhfmfjbiaaGreat
open Go.RowKit

set_option maxRecDepth 100000 in
set_option maxHeartbeats 4000000 in
theorem hrMove {w : World} {H : Nat} {F : Nat → Prop} {S : RefS} {R : List ByteArray} (a b c d : Int) (s : ByteArray) (hp : PRc w H F S R) (hg : Good S) :
    Calls Tryz.prog 65 #[.pointer (some ⟨H, 0, none⟩), .int .i64 b, .int .i64 c] w fun e w' =>
      e = .returned (.int .i64 (doErr S ⟨5, a, b, c, d, s⟩)) ∧ Outcome PRc w H F R (doS S ⟨5, a, b, c, d, s⟩) w' := by
  have HP : Hid (PRc w H F S R) := hp
  obtain ⟨x, fil, wait, hb, hF⟩ := hp
  have HB : Hid (Br w H x S fil wait R) := hb
  have HF : Hid (∀ k, F k ↔ HFP H x k) := hF
  have HG : Hid (Good S) := hg
  have hlen := hb.len
  have hH := hb.rep.cells.lt
  clear hb hF hg
  generalize ho : (⟨5, a, b, c, d, s⟩ : OpD) = o
  have err : ∀ e w1, wrongM S o = e → e ≠ 0 → Below w.heap.size w w1 → Ending.returned (.int .i64 e) = .returned (.int .i64 (doErr S o)) ∧ Outcome PRc w H F R (doS S o) w1 := fun e w1 h1 h0 hbw => by
    have h2 := is_wrong h1 h0
    exact ⟨ret_int h2.symm, out_same HP.out hbw (not_done (by rw [h2]; exact h0)).2.1⟩
  have ERR : Hid (∀ e w1, wrongM S o = e → e ≠ 0 → Below w.heap.size w w1 → Ending.returned (.int .i64 e) = .returned (.int .i64 (doErr S o)) ∧ Outcome PRc w H F R (doS S o) w1) := err
  clear err
  have HW : Hid (wrongM S o = moveErr (findM (fun m => m.number == b) S.wait 0) c) := by show _ = _; rw [← ho]; simp [wrongM]
  have HFE : Hid ((findM (fun m : WaitD => m.number == b) S.wait 0 < 0) ↔ wait.any (fun m => m.number == b) = false) := by
    have h := HB.out.lk.waits b
    constructor
    · intro hlt; rw [decide_eq_true hlt] at h; simpa using h.symm
    · intro hf; rw [hf] at h; simpa using h
  have hwl : wait.length ≤ 64 := by rw [HB.out.lk.waitP.length_eq]; exact HG.out.inv.wait.1
  obtain ⟨aw, cw, hvw, -, -, hcw⟩ := HB.out.rep.wait.form
  have cwait := HB.out.rep.cells.wait
  rw [hvw] at cwait
  have HCW : Hid (CellsAt w aw (wait.flatMap waitCells)) := hcw
  have cwait' : w.cell? ⟨H, 28, none⟩ = some (.slice aw wait.length cw) := cwait
  clear hvw hcw cwait
  have HONE : Hid ((theOne wait b).2 = wait.any (fun m => m.number == b)) := one_any _ _
  cases hhas : wait.any (fun m => m.number == b)
  · have HE : Hid (wrongM S o = 7) := by show _ = _; rw [HW.out, moveErr, if_pos (HFE.out.2 hhas)]
    clear ho
    go_enter Tryz.func65, Tryz.ntmps65
    go_wp2_with fail
    refine (hrFindWaiting wait aw cw b _ (by omega) HCW.out).mono ?_
    rintro e w1 ⟨rfl, hb1⟩
    rw [HONE.out, hhas]
    go_wp2_with fail
    go_ret
    exact ERR.out _ _ HE.out (by omega) (hb1.alloc hb1.size _)
  · have HHAS : Hid (wait.any (fun m => m.number == b) = true) := hhas
    have HNN : Hid (¬ findM (fun m : WaitD => m.number == b) S.wait 0 < 0) := fun h => by
      have := HFE.out.1 h
      rw [hhas] at this
      cases this
    have HMEM : Hid ((theOne wait b).1 ∈ wait ∧ (theOne wait b).1.number = b) := one_mem hhas
    clear hhas
    generalize hy : (theOne wait b).1 = y at *
    have HTO : Hid (theOne wait b = (y, true)) := by
      show _ = _
      have h1 := HONE.out
      rw [HHAS.out] at h1
      rw [← hy, ← h1]
    clear hy
    by_cases hc : 1 ≤ c ∧ c ≤ 1099511627776
    · have HZ : Hid (wrongM S o = 0) := by
        show _ = _
        rw [HW.out, moveErr, if_neg HNN.out, if_neg (by omega), if_neg (by omega)]
      have hc0 : (c == 0) = false := by simp; omega
      have HIT : Hid (isTimeM c = true) := by show _ = _; unfold isTimeM; simp; omega
      obtain ⟨hc1, hc2⟩ := hc
      go_enter Tryz.func65, Tryz.ntmps65
      go_wp2_with fail
      refine (hrFindWaiting wait aw cw b _ (by omega) HCW.out).mono ?_
      rintro e w1 ⟨rfl, hb1⟩
      rw [HTO.out]
      have HB1 : Hid (Below w.heap.size w w1) := hb1
      have HBA : Hid (∀ o, Below w.heap.size w (w1.alloc o)) := fun o => hb1.alloc hb1.size _
      have hs1 := hb1.size
      clear hb1
      go_wp2_with fail
      refine (hrIsInstant c _).mono ?_
      rintro e wa ⟨rfl, hwa⟩
      rw [HIT.out, hwa]
      clear hwa wa
      go_wp2_with fail
      generalize hWA : w1.alloc _ = wa
      have HBX : Hid (Below w.heap.size w wa) := by rw [← hWA]; exact HBA.out _
      have m0 : wa.cell? ⟨w1.heap.size, 0, none⟩ = some (.int .i64 y.number) := by rw [← hWA]; simp
      have m1 : wa.cell? ⟨w1.heap.size, 1, none⟩ = some (.string y.topic) := by rw [← hWA]; simp
      have m2 : wa.cell? ⟨w1.heap.size, 2, none⟩ = some (.int .i64 y.value) := by rw [← hWA]; simp
      have m3 : wa.cell? ⟨w1.heap.size, 3, none⟩ = some (.int .i64 y.deadline) := by rw [← hWA]; simp
      have m4 : wa.cell? ⟨w1.heap.size, 4, none⟩ = some (.int .i64 y.life) := by rw [← hWA]; simp
      have mf : wa.frozen? ⟨w1.heap.size, 3, none⟩ = false := by rw [← hWA]; simp
      have hsa : w1.heap.size < wa.heap.size := by rw [← hWA]; simp
      clear hWA HBA HB1
      refine (hrIsFull H x _ _ _ (HB.out.rep.below HBX.out) hlen).mono ?_
      rintro e w3 ⟨rfl, hb3⟩
      have HB3 : Hid (Below w.heap.size w w3) := HBX.out.trans (hb3.mono HBX.out.size)
      have n0 := cell_later hb3 m0
      have n1 := cell_later hb3 m1
      have n2 := cell_later hb3 m2
      have n3 := cell_later hb3 m3
      have n4 := cell_later hb3 m4
      have nf := (hb3.frozen (p := ⟨w1.heap.size, 3, none⟩) hsa).trans mf
      have hs3 : w1.heap.size < w3.heap.size := Nat.lt_of_lt_of_le hsa hb3.size
      clear hb3 m0 m1 m2 m3 m4 mf
      by_cases hfull : (S.done.length : Int) < S.room
      · have HNF : Hid (decide ((lk S fil wait).room ≤ ((cat R).size : Int) / 42) = false) := by
          show decide (S.room ≤ _) = false
          rw [HB.out.size, decide_eq_false_iff_not]
          omega
        obtain ⟨q1, q2, q3⟩ := is_done HZ.out (writes_not (by rw [← ho]; show (5 : Int) ≠ 6; decide)) hfull
        have HD1 : Hid (doneB S o = true) := q1
        have HD2 : Hid (doErr S o = 0) := q2
        have HD3 : Hid (doS S o = { S with done := S.done ++ [o], wait := moveL S.wait b (laterM S.time c) }) := by show _ = _; rw [q3, ← ho]; simp [turnM]
        have HREC : Hid (recD o = ⟨5, 0, ⟨#[]⟩, b, 0, c, 0, 0⟩) := by show _ = _; rw [← ho]; simp [recD]
        have HRE : Hid (recOf o = encM ⟨5, 0, ⟨#[]⟩, b, 0, c, 0, 0⟩) := by show _ = _; rw [recOf, HREC.out]
        have HSM : Hid (Small ⟨5, 0, ⟨#[]⟩, b, 0, c, 0, 0⟩) := by
          have hv := wrong_valid HB.out.num (by have h1 := HG.out.inv.pub; have h2 := HB.out.few; omega) HZ.out
          have hr := HREC.out
          rw [hr] at hv
          exact valid_small hv
        clear q1 q2 q3 ho hfull
        rw [HNF.out]
        have ht0 := HG.out.inv.time0
        have ht1 := HG.out.inv.time1
        have k2 : w3.cell? ⟨H, 2, none⟩ = some (.int .i64 S.time) := HB3.out.cell (p := ⟨H, 2, none⟩) hH |>.trans HB.out.rep.cells.time
        have k3 := HB3.out.cell (p := ⟨H, 28, none⟩) hH |>.trans cwait'
        have hfr3 := (HB3.out.frozen (p := ⟨H, 28, none⟩) hH).trans (HB.out.rep.cells.free 28)
        have hH3 : H < w3.heap.size := Nat.lt_of_lt_of_le hH HB3.out.size
        have hHw : H ≠ w1.heap.size := by omega
        go_wp2_with fail
        refine (hrDeadlineOf S.time c _ ht0 ht1 (by omega) hc2).mono ?_
        rintro e w3 ⟨rfl, rfl⟩
        have HB4 : Hid (Below w.heap.size w (w3.setCell ⟨w1.heap.size, 3, none⟩ (.int .i64 (laterM S.time c)))) := HB3.out.setCell (p := ⟨w1.heap.size, 3, none⟩) hs1 _
        go_wp2_with fail
        generalize hW4 : w3.setCell _ _ = w4 at *
        have p0 : w4.cell? ⟨w1.heap.size, 0, none⟩ = some (.int .i64 y.number) := by rw [← hW4, World.cell?_setCell_other _ _ _ _ (by simp)]; exact n0
        have p1 : w4.cell? ⟨w1.heap.size, 1, none⟩ = some (.string y.topic) := by rw [← hW4, World.cell?_setCell_other _ _ _ _ (by simp)]; exact n1
        have p2 : w4.cell? ⟨w1.heap.size, 2, none⟩ = some (.int .i64 y.value) := by rw [← hW4, World.cell?_setCell_other _ _ _ _ (by simp)]; exact n2
        have p3 : w4.cell? ⟨w1.heap.size, 3, none⟩ = some (.int .i64 (laterM S.time c)) := by rw [← hW4]; exact World.cell?_setCell_same _ _ _ n3
        have p4 : w4.cell? ⟨w1.heap.size, 4, none⟩ = some (.int .i64 y.life) := by rw [← hW4, World.cell?_setCell_other _ _ _ _ (by simp)]; exact n4
        have hs4 : w1.heap.size < w4.heap.size := by rw [← hW4]; simp [World.setCell]; exact hs3
        have k4 := HB4.out.cell (p := ⟨H, 28, none⟩) hH |>.trans cwait'
        have hfr4 := (HB4.out.frozen (p := ⟨H, 28, none⟩) hH).trans (HB.out.rep.cells.free 28)
        have hH4 : H < w4.heap.size := Nat.lt_of_lt_of_le hH HB4.out.size
        clear hW4 n0 n1 n2 n3 n4 nf k2 k3 hfr3
        refine (hrWithoutWaiting wait aw cw b _ (by omega) (HCW.out.below HB4.out)).mono ?_
        rintro e w5 ⟨v, rfl, ho5, hb5⟩
        obtain ⟨a1, c1', rfl, -, -, hc5⟩ := Row.form (row_of_own (w := w4) ho5 nilV).1
        have HC5 : Hid (CellsAt w5 a1 ((wait.filter (fun m => m.number != b)).flatMap waitCells)) := hc5
        have hl5 : (wait.filter (fun m => m.number != b)).length ≤ 64 := Nat.le_trans (List.length_filter_le _ _) hwl
        have r0 := cell_later hb5 p0
        have r1 := cell_later hb5 p1
        have r2 := cell_later hb5 p2
        have r3 := cell_later hb5 p3
        have r4 := cell_later hb5 p4
        have k5 := cell_later hb5 k4
        have hfr5 := (hb5.frozen (p := ⟨H, 28, none⟩) hH4).trans hfr4
        have HB5 : Hid (Below w.heap.size w w5) := HB4.out.trans (hb5.mono HB4.out.size)
        have hH5 : H < w5.heap.size := Nat.lt_of_lt_of_le hH4 hb5.size
        have hs5 : w1.heap.size < w5.heap.size := Nat.lt_of_lt_of_le hs4 hb5.size
        have HWW : Hid (∀ w', CellsAt w' a1 ((wait.filter (fun m => m.number != b)).flatMap waitCells) → Calls Tryz.prog 88 #[.slice a1 (wait.filter (fun m => m.number != b)).length c1', .agg #[.int .i64 y.number, .string y.topic, .int .i64 y.value, .int .i64 (laterM S.time c), .int .i64 y.life]] w' fun e w6 => ∃ v, e = .returned v ∧
            w6.ownsRow w'.heap.size 80 5 v (insM aheadB { y with deadline := laterM S.time c } (wait.filter (fun m => m.number != b))).length ((insM aheadB { y with deadline := laterM S.time c } (wait.filter (fun m => m.number != b))).flatMap waitCells) ∧ Below w'.heap.size w' w6) :=
          fun w' h => hrWithWaiting (wait.filter (fun m => m.number != b)) a1 c1' { y with deadline := laterM S.time c } w' (by omega) h
        clear ho5 hb5 hc5 p0 p1 p2 p3 p4 k4 hfr4
        go_wp2_with fail
        refine (HWW.out _ HC5.out).mono ?_
        rintro e w6 ⟨v, rfl, ho6, hb6⟩
        obtain ⟨a2, c2', rfl, -, -, -⟩ := Row.form (row_of_own (w := w5) ho6 nilV).1
        have c6 := cell_later hb6 k5
        have hfr6 := (hb6.frozen (p := ⟨H, 28, none⟩) hH5).trans hfr5
        have hH6 : H < w6.heap.size := Nat.lt_of_lt_of_le hH5 hb6.size
        have HST : HStep w H x (w6.setCell ⟨H, 28, none⟩ (.slice a2 (insM aheadB { y with deadline := laterM S.time c } (wait.filter (fun m => m.number != b))).length c2')) { lk S fil wait with wait := insM aheadB { y with deadline := laterM S.time c } (wait.filter (fun m => m.number != b)) } (cat R) := HStep.then (Upd.of_below HB5.out) (fun _ hk => .inl hk) ((HB.out.rep.below HB5.out).setWait (Upd.of_below hb6) (row_of_own (w := w5) ho6 nilV).1 (row_of_own (w := w5) ho6 _).2)
        obtain ⟨x1, z1, u1, f1⟩ := HST
        have R1 : Hid _ := z1
        have U1 : Hid _ := u1
        have F1 : Hid _ := f1
        clear z1 u1 f1 ho6 hb6 k5 hfr5 r0 r1 r2 r3 r4
        go_wp2_with fail
        refine (hrWrite H x1 _ (cat R) ⟨5, 0, ⟨#[]⟩, b, 0, c, 0, 0⟩ _ R1.out hlen HSM.out).mono ?_
        rintro e w7 ⟨rfl, hst⟩
        go_wp2_with fail
        go_ret
        refine ⟨ret_int HD2.out.symm, out_done HB.out HF.out HG.out HD1.out (fil1 := fil) (wait1 := insM aheadB { y with deadline := laterM S.time c } (wait.filter (fun m => m.number != b))) ?_ ?_⟩
        · rw [HD3.out, HRE.out]; exact (HStep.then U1.out F1.out hst).redone _
        · rw [HD3.out]; exact (HB.out.lk.move HMEM.out.1 HMEM.out.2).other rfl rfl (Int.le_refl _)
      · have HFU : Hid (decide ((lk S fil wait).room ≤ ((cat R).size : Int) / 42) = true) := by
          show decide (S.room ≤ _) = true
          rw [HB.out.size, decide_eq_true_iff]
          omega
        have HE : Hid (doErr S o = 9) := is_full HZ.out (writes_not (by rw [← ho]; show (5 : Int) ≠ 6; decide)) hfull
        clear ho hfull
        rw [HFU.out]
        go_wp2_with fail
        go_ret
        exact ⟨ret_int HE.out.symm, out_same HP.out HB3.out (not_done (by rw [HE.out]; omega)).2.1⟩
    · have HE : Hid (wrongM S o = 5) := by
        show _ = _
        rw [HW.out, moveErr, if_neg HNN.out]
        by_cases h1 : c < 1
        · rw [if_pos h1]
        · rw [if_neg h1, if_pos (by omega)]
      clear ho
      by_cases h0 : c = 0
      · subst h0
        go_enter Tryz.func65, Tryz.ntmps65
        go_wp2_with fail
        refine (hrFindWaiting wait aw cw b _ (by omega) HCW.out).mono ?_
        rintro e w1 ⟨rfl, hb1⟩
        rw [HTO.out]
        go_wp2_with fail
        go_ret
        exact ERR.out _ _ HE.out (by omega) (hb1.alloc hb1.size _)
      · have hc0 : (c == 0) = false := by simp; omega
        have HIT : Hid (isTimeM c = false) := by show _ = _; unfold isTimeM; simp; omega
        clear hc
        go_enter Tryz.func65, Tryz.ntmps65
        go_wp2_with fail
        refine (hrFindWaiting wait aw cw b _ (by omega) HCW.out).mono ?_
        rintro e w1 ⟨rfl, hb1⟩
        rw [HTO.out]
        go_wp2_with fail
        refine (hrIsInstant c _).mono ?_
        rintro e wa ⟨rfl, hwa⟩
        rw [HIT.out, hwa]
        go_wp2_with fail
        go_ret
        exact ERR.out _ _ HE.out (by omega) (hb1.alloc hb1.size _)
end Go.Proofs.YtmjdndhfmfjbiaaGreat

namespace Go.Proofs.YtmjdndhfmfjbiaaGreat
open Go.RowKit

theorem sendAll_pub (D : List WaitD) : ∀ (T : RefS), (sendAll T D).pub = T.pub := by
  induction D with
  | nil => exact fun T => rfl
  | cons m D ih => intro T; rw [sendAll_cons, ih, (sendTo_keeps T m 8).2.2.2.2.2.1]

set_option maxRecDepth 100000 in
set_option maxHeartbeats 4000000 in
theorem hrTick {w : World} {H : Nat} {F : Nat → Prop} {S : RefS} {R : List ByteArray} (a b c d : Int) (s : ByteArray) (hp : PRc w H F S R) (hg : Good S) :
    Calls Tryz.prog 66 #[.pointer (some ⟨H, 0, none⟩), .int .i64 b] w fun e w' =>
      e = .returned (.int .i64 (doErr S ⟨6, a, b, c, d, s⟩)) ∧ Outcome PRc w H F R (doS S ⟨6, a, b, c, d, s⟩) w' := by
  have HP : Hid (PRc w H F S R) := hp
  obtain ⟨x, fil, wait, hb, hF⟩ := hp
  have HB : Hid (Br w H x S fil wait R) := hb
  have HF : Hid (∀ k, F k ↔ HFP H x k) := hF
  have HG : Hid (Good S) := hg
  have hlen := hb.len
  have hH := hb.rep.cells.lt
  clear hb hF hg
  generalize ho : (⟨6, a, b, c, d, s⟩ : OpD) = o
  have err : ∀ e w1, wrongM S o = e → e ≠ 0 → Below w.heap.size w w1 → Ending.returned (.int .i64 e) = .returned (.int .i64 (doErr S o)) ∧ Outcome PRc w H F R (doS S o) w1 := fun e w1 h1 h0 hbw => by
    have h2 := is_wrong h1 h0
    exact ⟨ret_int h2.symm, out_same HP.out hbw (not_done (by rw [h2]; exact h0)).2.1⟩
  have ERR : Hid (∀ e w1, wrongM S o = e → e ≠ 0 → Below w.heap.size w w1 → Ending.returned (.int .i64 e) = .returned (.int .i64 (doErr S o)) ∧ Outcome PRc w H F R (doS S o) w1) := err
  clear err
  have HW : Hid (wrongM S o = tickErr b) := by show _ = _; rw [← ho]; simp [wrongM]
  have HWB : Hid (writesB S o = decide (S.time < b)) := by show _ = _; rw [← ho]; simp [writesB]
  have ctime : w.cell? ⟨H, 2, none⟩ = some (.int .i64 S.time) := HB.out.rep.cells.time
  cases hit : isTimeM b
  · have HE : Hid (wrongM S o = 5) := by show _ = _; rw [HW.out, tickErr, hit]; rfl
    clear ho
    go_enter Tryz.func66, Tryz.ntmps66
    go_wp2_with fail
    refine (hrIsInstant b _).mono ?_
    rintro e w ⟨rfl, rfl⟩
    rw [hit]
    go_wp2_with fail
    go_ret
    exact ERR.out _ _ HE.out (by omega) (Below.refl _ _)
  have HIT : Hid (isTimeM b = true) := hit
  have HZ : Hid (wrongM S o = 0) := by show _ = _; rw [HW.out, tickErr, hit]; rfl
  obtain ⟨hb0, hb1⟩ := time_ok hit
  clear hit
  by_cases hlt : S.time < b
  · have HWR : Hid (writesB S o = true) := by show _ = _; rw [HWB.out, decide_eq_true hlt]
    have hle : ¬ b ≤ S.time := by omega
    have HBR : Hid (Below w.heap.size w w) := Below.refl _ _
    go_enter Tryz.func66, Tryz.ntmps66
    go_wp2_with fail
    refine (hrIsInstant b _).mono ?_
    rintro e w ⟨rfl, rfl⟩
    rw [HIT.out]
    go_wp2_with fail
    refine (hrIsFull H x _ _ _ HB.out.rep hlen).mono ?_
    rintro e w3 ⟨rfl, hb3⟩
    have HB3 : Hid (Below w.heap.size w w3) := hb3
    clear hb3
    by_cases hfull : (S.done.length : Int) < S.room
    · have HNF : Hid (decide ((lk S fil wait).room ≤ ((cat R).size : Int) / 42) = false) := by
        show decide (S.room ≤ _) = false
        rw [HB.out.size, decide_eq_false_iff_not]
        omega
      obtain ⟨q1, q2, q3⟩ := is_done HZ.out HWR.out hfull
      have HD1 : Hid (doneB S o = true) := q1
      have HD2 : Hid (doErr S o = 0) := q2
      have HD3 : Hid (doS S o = tickM { S with done := S.done ++ [o] } b) := by show _ = _; rw [q3, ← ho]; simp [turnM]
      have HREC : Hid (recD o = ⟨6, 0, ⟨#[]⟩, 0, 0, 0, 0, b⟩) := by show _ = _; rw [← ho]; simp [recD]
      have HRE : Hid (recOf o = encM ⟨6, 0, ⟨#[]⟩, 0, 0, 0, 0, b⟩) := by show _ = _; rw [recOf, HREC.out]
      have HSM : Hid (Small ⟨6, 0, ⟨#[]⟩, 0, 0, 0, 0, b⟩) := by
        have hv := wrong_valid HB.out.num (by have h1 := HG.out.inv.pub; have h2 := HB.out.few; omega) HZ.out
        have hr := HREC.out
        rw [hr] at hv
        exact valid_small hv
      clear q1 q2 q3 ho hfull
      rw [HNF.out]
      have k2 : w3.cell? ⟨H, 2, none⟩ = some (.int .i64 S.time) := HB3.out.cell (p := ⟨H, 2, none⟩) hH |>.trans ctime
      have hfr3 := (HB3.out.frozen (p := ⟨H, 2, none⟩) hH).trans (HB.out.rep.cells.free 2)
      have hH3 : H < w3.heap.size := Nat.lt_of_lt_of_le hH HB3.out.size
      -- the state with the record, as the document has it
      obtain ⟨S1, hS1⟩ : ∃ S1 : RefS, S1 = { S with done := S.done ++ [o] } := ⟨_, rfl⟩
      have HS1 : Hid (S1 = { S with done := S.done ++ [o] }) := hS1
      have HI1 : Hid (S1.fil = S.fil ∧ S1.wait = S.wait ∧ S1.que = S.que ∧ S1.lost = S.lost ∧ S1.pub = S.pub) := by rw [hS1]; exact ⟨rfl, rfl, rfl, rfl, rfl⟩
      have R0 : Hid (HRep w3 H x (lk S1 fil wait) (cat R)) := by rw [hS1]; exact (HB.out.rep.below HB3.out).redone _
      have HT1 : Hid (HStep w3 H x (w3.setCell ⟨H, 2, none⟩ (.int .i64 b)) { lk S1 fil wait with time := b } (cat R)) := R0.out.setTime b
      clear hS1
      obtain ⟨x1, r1, u1, f1⟩ := HT1.out
      have R1 : Hid (HRep (w3.setCell ⟨H, 2, none⟩ (.int .i64 b)) H x1 { lk S1 fil wait with time := b } (cat R)) := r1
      have U1 : Hid (Upd (HFP H x) w3 (w3.setCell ⟨H, 2, none⟩ (.int .i64 b))) := u1
      have F1 : Hid (∀ k, HFP H x1 k → HFP H x k ∨ w3.heap.size ≤ k) := f1
      clear r1 u1 f1
      go_wp2_with fail
      refine (hrDropOver H x1 { lk S1 fil wait with time := b } (cat R) _ R1.out hb0 hb1 (fun n hn => ?_)).mono ?_
      · show (S1.que n).length ≤ 1048576 ∧ ∀ m ∈ S1.que n, _
        rw [HI1.out.2.2.1]
        have := HG.out.inv.que n hn
        exact ⟨by omega, this.2⟩
      rintro e w4 ⟨rfl, hst4⟩
      have HOLD : Hid (oldTo { lk S1 fil wait with time := b } 8 = lk (agedTo S1 b 8) fil wait) := by show _ = _; rw [← aged_old, lk_aged]
      rw [HOLD.out] at hst4
      obtain ⟨x2, r2, u2, f2⟩ := hst4
      have R2 : Hid (HRep w4 H x2 (lk (agedTo S1 b 8) fil wait) (cat R)) := r2
      have U2 : Hid _ := u2
      have F2 : Hid _ := f2
      clear r2 u2 f2
      obtain ⟨g1, g2, g3, g4, g5, g6, g7, g8⟩ := aged_keeps S1 b 8
      have HAT : Hid ((agedTo S1 b 8).time = b) := g2
      have HAL : Hid ((agedTo S1 b 8).lost = S.lost) := g7.trans HI1.out.2.2.2.1
      have HAF : Hid ((agedTo S1 b 8).fil = S.fil) := g1.trans HI1.out.1
      have HAW : Hid ((agedTo S1 b 8).wait = S.wait) := g4.trans HI1.out.2.1
      have HAP : Hid ((agedTo S1 b 8).pub = S.pub) := g6.trans HI1.out.2.2.2.2
      have HAQ : Hid (∀ n, ((agedTo S1 b 8).que n).length ≤ (S.que n).length) := fun n => by
        rw [g8, HI1.out.2.2.1]
        split
        · exact List.length_filter_le _ _
        · exact Nat.le_refl _
      clear g1 g2 g3 g4 g5 g6 g7 g8
      have hwl : wait.length ≤ 64 := by rw [HB.out.lk.waitP.length_eq]; exact HG.out.inv.wait.1
      go_wp2_with fail
      refine (hrSendDue H x2 (lk (agedTo S1 b 8) fil wait) (cat R) _ R2.out (by show wait.length ≤ _; omega) ?_ ?_ ?_ ?_ ?_).mono ?_
      · exact fun m hm => Nat.le_trans (HG.out.inv.wait.2 m (HB.out.lk.waitP.mem_iff.1 hm)).1 (by omega)
      · exact fun n hn f hf => Nat.le_trans ((HG.out.inv.fil n hn).2 f ((HB.out.lk.filP n hn).mem_iff.1 hf)) (by omega)
      · exact fun n hn => Nat.le_trans (Nat.le_of_eq (HB.out.lk.filP n hn).length_eq) (Nat.le_trans (HG.out.inv.fil n hn).1 (by omega))
      · intro n hn
        show 0 ≤ (agedTo S1 b 8).lost n ∧ (agedTo S1 b 8).lost n + (wait.length : Int) ≤ _
        rw [HAL.out]
        have := HG.out.inv.small hn
        omega
      · intro n hn
        show ((agedTo S1 b 8).que n).length + wait.length ≤ _
        have h1 := HAQ.out n
        have h2 := (HG.out.inv.que n hn).1
        omega
      rintro e w5 ⟨rfl, hst5⟩
      have HSD : Hid (waited (sendAll (lk (agedTo S1 b 8) fil wait) ((lk (agedTo S1 b 8) fil wait).wait.filter (dueB (lk (agedTo S1 b 8) fil wait).time))) ((lk (agedTo S1 b 8) fil wait).wait.filter (fun m => !dueB (lk (agedTo S1 b 8) fil wait).time m)) =
          lk (sendAll (agedTo S1 b 8) (wait.filter (dueB b))) fil (wait.filter (fun m => !dueB b m))) := by
        show waited (sendAll (lk (agedTo S1 b 8) fil wait) (wait.filter (dueB (agedTo S1 b 8).time))) (wait.filter (fun m => !dueB (agedTo S1 b 8).time m)) = _
        rw [HAT.out, lk_sendAll _ (by rw [HAF.out]; exact HB.out.lk.filP)]
        rfl
      rw [HSD.out] at hst5
      obtain ⟨x3, r3, u3, f3⟩ := hst5
      have R3 : Hid (HRep w5 H x3 (lk (sendAll (agedTo S1 b 8) (wait.filter (dueB b))) fil (wait.filter (fun m => !dueB b m))) (cat R)) := r3
      have U3 : Hid _ := u3
      have F3 : Hid _ := f3
      clear r3 u3 f3
      go_wp2_with fail
      refine (hrWrite H x3 _ (cat R) ⟨6, 0, ⟨#[]⟩, 0, 0, 0, 0, b⟩ _ R3.out hlen HSM.out).mono ?_
      rintro e w6 ⟨rfl, hst⟩
      go_wp2_with fail
      go_ret
      obtain ⟨W, hW1, hW2⟩ := HB.out.lk.ticked (T := agedTo S1 b 8) b HAW.out
      have HD4 : doS S o = waited (sendAll (agedTo S1 b 8) (wait.filter (dueB b))) W := by rw [HD3.out, ← HS1.out, tickM]; exact hW1
      obtain ⟨v1, v2, v3, v4⟩ := sendAll_keeps (wait.filter (dueB b)) (agedTo S1 b 8)
      refine ⟨ret_int HD2.out.symm, out_done HB.out HF.out HG.out HD1.out (fil1 := fil) (wait1 := wait.filter (fun m => !dueB b m)) ?_ ?_⟩
      · rw [HD4, HRE.out]
        exact HStep.then (Upd.of_below HB3.out) (fun _ hk => .inl hk) (HStep.then U1.out F1.out (HStep.then U2.out F2.out (HStep.then U3.out F3.out hst)))
      · rw [HD4]
        exact HB.out.lk.tick b (v1.trans HAF.out) rfl ((sendAll_pub _ _).trans HAP.out) hW2
    · have HFU : Hid (decide ((lk S fil wait).room ≤ ((cat R).size : Int) / 42) = true) := by
        show decide (S.room ≤ _) = true
        rw [HB.out.size, decide_eq_true_iff]
        omega
      have HE : Hid (doErr S o = 9) := is_full HZ.out HWR.out hfull
      clear ho hfull
      rw [HFU.out]
      go_wp2_with fail
      go_ret
      exact ⟨ret_int HE.out.symm, out_same HP.out HB3.out (not_done (by rw [HE.out]; omega)).2.1⟩
  · have HWR : Hid (writesB S o = false) := by show _ = _; rw [HWB.out, decide_eq_false hlt]
    have HE : Hid (doErr S o = 0) := by show doErr S o = 0; unfold doErr; rw [if_pos HZ.out, HWR.out]; rfl
    have HS : Hid (doS S o = S) := by
      show doS S o = S
      have hd : doneB S o = false := by unfold doneB; rw [HWR.out, Bool.and_false]; rfl
      unfold doS; rw [hd]; rfl
    have hle : b ≤ S.time := by omega
    clear ho
    go_enter Tryz.func66, Tryz.ntmps66
    go_wp2_with fail
    refine (hrIsInstant b _).mono ?_
    rintro e w ⟨rfl, rfl⟩
    rw [HIT.out]
    go_wp2_with fail
    go_ret
    exact ⟨ret_int HE.out.symm, out_same HP.out (Below.refl _ _) HS.out⟩
end Go.Proofs.YtmjdndhfmfjbiaaGreat
