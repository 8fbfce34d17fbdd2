import Derived.Test.YtmjdndhfmfjbiaaGreatM32
import Derived.Deep.RegionHeld3
namespace Go.Proofs.YtmjdndhfmfjbiaaGreat
open Go.RowKit

theorem ret_two {a b c d : Int} (h1 : a = c) (h2 : b = d) : Ending.returned (.tuple #[.int .i64 a, .int .i64 b]) = .returned (.tuple #[.int .i64 c, .int .i64 d]) := by rw [h1, h2]

set_option maxRecDepth 100000 in
set_option maxHeartbeats 4000000 in
theorem hrPublish {w : World} {H : Nat} {F : Nat → Prop} {S : RefS} {R : List ByteArray} (a b c d : Int) (s : ByteArray) (hp : PRc w H F S R) (hg : Good S) (hs : s.size ≤ 1048576) :
    Calls Tryz.prog 63 #[.pointer (some ⟨H, 0, none⟩), .string s, .int .i64 b, .int .i64 c, .int .i64 d] w fun e w' =>
      e = .returned (.tuple #[.int .i64 (doAns S ⟨3, a, b, c, d, s⟩), .int .i64 (doErr S ⟨3, a, b, c, d, s⟩)]) ∧ Outcome PRc w H F R (doS S ⟨3, a, b, c, d, s⟩) w' := by
  have HP : Hid (PRc w H F S R) := hp
  obtain ⟨x, fil, wait, hb, hF⟩ := hp
  have HB : Hid (Br w H x S fil wait R) := hb
  have HF : Hid (∀ k, F k ↔ HFP H x k) := hF
  have HG : Hid (Good S) := hg
  have hlen := hb.len
  have hH := hb.rep.cells.lt
  clear hb hF hg
  generalize ho : (⟨3, a, b, c, d, s⟩ : OpD) = o
  have ERR : Hid (∀ e w1, wrongM S o = e → e ≠ 0 → Below w.heap.size w w1 → Ending.returned (.tuple #[.int .i64 0, .int .i64 e]) = .returned (.tuple #[.int .i64 (doAns S o), .int .i64 (doErr S o)]) ∧ Outcome PRc w H F R (doS S o) w1) := fun e w1 h1 h0 hbw => by
    have h2 := is_wrong h1 h0
    have h3 := not_done (S := S) (o := o) (by rw [h2]; exact h0)
    exact ⟨by rw [h2, h3.2.2], out_same HP.out hbw h3.2.1⟩
  have HW : Hid (wrongM S o = pubErr (M.isPathM false s) b c d S.wait.length) := by show _ = _; rw [← ho]; simp [wrongM]
  cases hpt : M.isPathM false s
  · have HE : Hid (wrongM S o = 3) := by show _ = _; rw [HW.out, pubErr, hpt]; rfl
    clear ho
    go_enter Tryz.func63, Tryz.ntmps63
    go_wp2_with fail
    refine (hrIsTopic s _ hs).mono ?_
    rintro e w1 ⟨rfl, hb1⟩
    rw [hpt]
    go_wp2_with fail
    go_ret2
    exact ERR.out _ _ HE.out (by omega) hb1
  have HPT : Hid (M.isPathM false s = true) := hpt
  cases hv : isValueM b
  · have HE : Hid (wrongM S o = 5) := by
      show _ = _
      rw [HW.out, pubErr, hpt, if_neg (by simp)]
      by_cases h1 : b < 0
      · rw [if_pos h1]
      · rw [if_neg h1, if_pos]
        have := hv
        unfold isValueM at this
        simp only [Bool.and_eq_false_iff, decide_eq_false_iff_not] at this
        omega
    clear ho hpt
    go_enter Tryz.func63, Tryz.ntmps63
    go_wp2_with fail
    refine (hrIsTopic s _ hs).mono ?_
    rintro e w1 ⟨rfl, hb1⟩
    rw [HPT.out]
    go_wp2_with fail
    refine (hrIsValue b _).mono ?_
    rintro e w1 ⟨rfl, rfl⟩
    rw [hv]
    go_wp2_with fail
    go_ret2
    exact ERR.out _ _ HE.out (by omega) hb1
  have HV : Hid (isValueM b = true) := hv
  have hb01 : 0 ≤ b ∧ b ≤ 1073741824 := by simpa [isValueM] using hv
  obtain ⟨hvb0, hvb1⟩ := hb01
  clear hv
  cases hc : isTimeM c
  · have HE : Hid (wrongM S o = 5) := by
      show _ = _
      rw [HW.out, pubErr, hpt, if_neg (by simp), if_neg (by omega), if_neg (by omega), hc]; rfl
    clear ho hpt
    go_enter Tryz.func63, Tryz.ntmps63
    go_wp2_with fail
    refine (hrIsTopic s _ hs).mono ?_
    rintro e w1 ⟨rfl, hb1⟩
    rw [HPT.out]
    go_wp2_with fail
    refine (hrIsValue b _).mono ?_
    rintro e w1 ⟨rfl, rfl⟩
    rw [HV.out]
    go_wp2_with fail
    refine (hrIsInstant c _).mono ?_
    rintro e w1 ⟨rfl, rfl⟩
    rw [hc]
    go_wp2_with fail
    go_ret2
    exact ERR.out _ _ HE.out (by omega) hb1
  have HC : Hid (isTimeM c = true) := hc
  cases hd : isTimeM d
  · have HE : Hid (wrongM S o = 5) := by
      show _ = _
      rw [HW.out, pubErr, hpt, if_neg (by simp), if_neg (by omega), if_neg (by omega), hc, hd]; rfl
    clear ho hpt hc
    go_enter Tryz.func63, Tryz.ntmps63
    go_wp2_with fail
    refine (hrIsTopic s _ hs).mono ?_
    rintro e w1 ⟨rfl, hb1⟩
    rw [HPT.out]
    go_wp2_with fail
    refine (hrIsValue b _).mono ?_
    rintro e w1 ⟨rfl, rfl⟩
    rw [HV.out]
    go_wp2_with fail
    refine (hrIsInstant c _).mono ?_
    rintro e w1 ⟨rfl, rfl⟩
    rw [HC.out]
    go_wp2_with fail
    refine (hrIsInstant d _).mono ?_
    rintro e w1 ⟨rfl, rfl⟩
    rw [hd]
    go_wp2_with fail
    go_ret2
    exact ERR.out _ _ HE.out (by omega) hb1
  have HD : Hid (isTimeM d = true) := hd
  have HPE : Hid (pubErr (M.isPathM false s) b c d S.wait.length = if 0 < c then (if 64 ≤ S.wait.length then 8 else 0) else 0) := by
    show _ = _
    rw [pubErr, hpt, if_neg (by simp), if_neg (by omega), if_neg (by omega), hc, if_neg (by simp), hd, if_neg (by simp)]
  obtain ⟨hc0, hc1⟩ := time_ok hc
  obtain ⟨hd0, hd1⟩ := time_ok hd
  have hwl : wait.length ≤ 64 := by rw [HB.out.lk.waitP.length_eq]; exact HG.out.inv.wait.1
  have HWL : Hid (wait.length = S.wait.length) := HB.out.lk.waitP.length_eq
  obtain ⟨aw, cw, hvw, -, -, hcw⟩ := HB.out.rep.wait.form
  have cwait := HB.out.rep.cells.wait
  rw [hvw] at cwait
  have HCW : Hid (CellsAt w aw (wait.flatMap waitCells)) := hcw
  have cwait' : w.cell? ⟨H, 28, none⟩ = some (.slice aw wait.length cw) := cwait
  have cpub' : w.cell? ⟨H, 3, none⟩ = some (.int .i64 S.pub) := HB.out.rep.cells.pub
  have ctime' : w.cell? ⟨H, 2, none⟩ = some (.int .i64 S.time) := HB.out.rep.cells.time
  clear hpt hc hd hvw hcw cwait
  -- the way up to the test for room
  have common : ∀ Q : Ending → World → Prop, True := fun _ => trivial
  clear common
  by_cases hmany : 0 < c ∧ 64 ≤ wait.length
  · have HE : Hid (wrongM S o = 8) := by
      show _ = _
      rw [HW.out, HPE.out, if_pos hmany.1, if_pos (by rw [← HWL.out]; exact hmany.2)]
    obtain ⟨hm1, hm2⟩ := hmany
    clear ho
    go_enter Tryz.func63, Tryz.ntmps63
    go_wp2_with fail
    refine (hrIsTopic s _ hs).mono ?_
    rintro e w1 ⟨rfl, hb1⟩
    rw [HPT.out]
    have k28 := cell_later hb1 cwait'
    have HB1 : Hid (Below _ _ w1) := hb1
    clear hb1
    go_wp2_with fail
    refine (hrIsValue b _).mono ?_
    rintro e w1 ⟨rfl, rfl⟩
    rw [HV.out]
    go_wp2_with fail
    refine (hrIsInstant c _).mono ?_
    rintro e w1 ⟨rfl, rfl⟩
    rw [HC.out]
    go_wp2_with fail
    refine (hrIsInstant d _).mono ?_
    rintro e w1 ⟨rfl, rfl⟩
    rw [HD.out]
    go_wp2_with fail
    go_ret2
    exact ERR.out _ _ HE.out (by omega) HB1.out
  have HZ : Hid (wrongM S o = 0) := by
    show _ = _
    rw [HW.out, HPE.out]
    by_cases h1 : 0 < c
    · rw [if_pos h1, if_neg (by rw [← HWL.out]; omega)]
    · rw [if_neg h1]
  by_cases hcz : c = 0
  · subst hcz
    go_enter Tryz.func63, Tryz.ntmps63
    go_wp2_with fail
    refine (hrIsTopic s _ hs).mono ?_
    rintro e w1 ⟨rfl, hb1⟩
    rw [HPT.out]
    have k28 := cell_later hb1 cwait'
    have HB1 : Hid (Below w.heap.size w w1) := hb1
    clear hb1
    go_wp2_with fail
    refine (hrIsValue b _).mono ?_
    rintro e w1 ⟨rfl, rfl⟩
    rw [HV.out]
    go_wp2_with fail
    refine (hrIsInstant _ _).mono ?_
    rintro e w1 ⟨rfl, rfl⟩
    rw [HC.out]
    go_wp2_with fail
    refine (hrIsInstant d _).mono ?_
    rintro e w1 ⟨rfl, rfl⟩
    rw [HD.out]
    go_wp2_with fail
    refine (hrIsFull H x _ _ _ (HB.out.rep.below HB1.out) hlen).mono ?_
    rintro e w3 ⟨rfl, hb3⟩
    have HB3 : Hid (Below w.heap.size w w3) := HB1.out.trans (hb3.mono HB1.out.size)
    clear hb3 k28
    by_cases hfull : (S.done.length : Int) < S.room
    · have HNF : Hid (decide ((lk S fil wait).room ≤ ((cat R).size : Int) / 42) = false) := by
        show decide (S.room ≤ _) = false
        rw [HB.out.size, decide_eq_false_iff_not]
        omega
      obtain ⟨q1, q2, q3⟩ := is_done HZ.out (writes_not (by rw [← ho]; show (3 : Int) ≠ 6; decide)) hfull
      have HD1 : Hid (doneB S o = true) := q1
      have HD2 : Hid (doErr S o = 0) := q2
      have HDA : Hid (doAns S o = S.pub) := by show doAns S o = _; unfold doAns; rw [q1, ← ho]; rfl
      have HD3 : Hid (doS S o = sendTo { S with done := S.done ++ [o], pub := S.pub + 1 } ⟨S.pub, s, b, 0, d⟩ 8) := by show _ = _; rw [q3, ← ho]; simp [turnM]
      have HREC : Hid (recD o = ⟨3, 0, s, 0, b, 0, d, 0⟩) := by show _ = _; rw [← ho]; simp [recD]
      have HRE : Hid (recOf o = encM ⟨3, 0, s, 0, b, 0, d, 0⟩) := by show _ = _; rw [recOf, HREC.out]
      have HSM : Hid (Small ⟨3, 0, s, 0, b, 0, d, 0⟩) := by
        have hv := wrong_valid HB.out.num (by have h1 := HG.out.inv.pub; have h2 := HB.out.few; omega) HZ.out
        have hr := HREC.out
        rw [hr] at hv
        exact valid_small hv
      have hpub1 : S.pub ≤ 500 := by have h1 := HG.out.inv.pub; have h2 := HB.out.few; omega
      have hpub0 : 0 ≤ S.pub := HB.out.num.pub
      clear q1 q2 q3 hfull
      rw [HNF.out]
      have k3 : w3.cell? ⟨H, 3, none⟩ = some (.int .i64 S.pub) := HB3.out.cell (p := ⟨H, 3, none⟩) hH |>.trans cpub'
      go_wp2_with fail
      refine (hrCopyText s _).mono ?_
      rintro e w4 ⟨rfl, hb4⟩
      have HB4 : Hid (Below w.heap.size w w4) := HB3.out.trans (hb4.mono HB3.out.size)
      have k4 := cell_later hb4 k3
      have hH4 : H < w4.heap.size := Nat.lt_of_lt_of_le hH HB4.out.size
      have hfr4 := (HB4.out.frozen (p := ⟨H, 3, none⟩) hH).trans (HB.out.rep.cells.free 3)
      have HST : HStep w H x (w4.setCell ⟨H, 3, none⟩ (.int .i64 (S.pub + 1))) { lk S fil wait with done := S.done ++ [o], pub := S.pub + 1 } (cat R) := HStep.then (Upd.of_below HB4.out) (fun _ hk => .inl hk) (((HB.out.rep.below HB4.out).redone (S.done ++ [o])).setPub (S.pub + 1))
      obtain ⟨x1, z1, u1, f1⟩ := HST
      have R1 : Hid _ := z1
      have U1 : Hid _ := u1
      have F1 : Hid _ := f1
      clear z1 u1 f1 hb4 k3
      go_wp2_with fail
      refine (hrWrite H x1 _ (cat R) ⟨3, 0, s, 0, b, 0, d, 0⟩ _ R1.out hlen HSM.out).mono ?_
      rintro e w5 ⟨rfl, hst5⟩
      obtain ⟨x2, z2, u2, f2⟩ := hst5
      have R2 : Hid (HRep w5 H x2 { lk S fil wait with done := S.done ++ [o], pub := S.pub + 1 } (cat R ++ encM ⟨3, 0, s, 0, b, 0, d, 0⟩)) := z2
      have U2 : Hid _ := u2
      have F2 : Hid _ := f2
      have HTH : Hid (∀ w6 T D, HStep w5 H x2 w6 T D → HStep w H x w6 T D) := fun w6 T D h => HStep.then U1.out F1.out (HStep.then U2.out F2.out h)
      have c2 : w5.cell? ⟨H, 2, none⟩ = some (.int .i64 S.time) := z2.cells.time
      have hH5 : H < w5.heap.size := z2.cells.lt
      have HS : Hid (∀ w', HRep w' H x2 { lk S fil wait with done := S.done ++ [o], pub := S.pub + 1 } (cat R ++ encM ⟨3, 0, s, 0, b, 0, d, 0⟩) → Calls Tryz.prog 86 #[.pointer (some ⟨H, 0, none⟩), msgV ⟨S.pub, s, b, S.time, d⟩] w' fun e w2 => e = .returned (.tuple #[]) ∧ HStep w' H x2 w2 (sendTo { lk S fil wait with done := S.done ++ [o], pub := S.pub + 1 } ⟨S.pub, s, b, 0, d⟩ 8) (cat R ++ encM ⟨3, 0, s, 0, b, 0, d, 0⟩)) := fun w' hw' =>
        hrSend H x2 { lk S fil wait with done := S.done ++ [o], pub := S.pub + 1 } _ ⟨S.pub, s, b, 0, d⟩ w' hw' hs (fun n hn f hf => Nat.le_trans ((HG.out.inv.fil n hn).2 f ((HB.out.lk.filP n hn).mem_iff.1 hf)) (by omega)) (fun n hn => Nat.le_trans (Nat.le_of_eq (HB.out.lk.filP n hn).length_eq) (Nat.le_trans (HG.out.inv.fil n hn).1 (by omega)))
          (fun n hn => by show 0 ≤ S.lost n ∧ S.lost n ≤ _; have := HG.out.inv.small hn; omega) (fun n hn => Nat.le_trans (HG.out.inv.que n hn).1 (by omega))
      clear z2 u2 f2 k4 hfr4
      go_wp2_with fail
      refine (HS.out _ R2.out).mono ?_
      rintro e w6 ⟨rfl, hst⟩
      go_wp2_with fail
      go_ret2
      refine ⟨ret_two HDA.out.symm HD2.out.symm, out_done HB.out HF.out HG.out HD1.out (fil1 := fil) (wait1 := wait) ?_ ?_⟩
      · rw [HD3.out, HRE.out, ← lk_sendTo (S := { S with done := S.done ++ [o], pub := S.pub + 1 }) _ HB.out.lk.filP 8 (Nat.le_refl _)]
        exact HTH.out _ _ _ hst
      · rw [HD3.out]
        obtain ⟨v1, -, -, v4, -, v6, -⟩ := sendTo_keeps { S with done := S.done ++ [o], pub := S.pub + 1 } ⟨S.pub, s, b, 0, d⟩ 8
        exact HB.out.lk.other v1 v4 (by rw [v6]; show S.pub ≤ S.pub + 1; omega)
    · have HFU : Hid (decide ((lk S fil wait).room ≤ ((cat R).size : Int) / 42) = true) := by
        show decide (S.room ≤ _) = true
        rw [HB.out.size, decide_eq_true_iff]
        omega
      have HE : Hid (doErr S o = 9) := is_full HZ.out (writes_not (by rw [← ho]; show (3 : Int) ≠ 6; decide)) hfull
      have HND := not_done (S := S) (o := o) (by rw [HE.out]; omega)
      have HND2 : Hid (doAns S o = 0) := HND.2.2
      have HND3 : Hid (doS S o = S) := HND.2.1
      clear HND ho hfull
      rw [HFU.out]
      go_wp2_with fail
      go_ret2
      exact ⟨ret_two HND2.out.symm HE.out.symm, out_same HP.out HB3.out HND3.out⟩
  · have hcp : 0 < c := by omega
    have hcz' : (c == 0) = false := by simp; omega
    have hfew : ¬ 64 ≤ wait.length := by omega
    clear hmany
    go_enter Tryz.func63, Tryz.ntmps63
    go_wp2_with fail
    refine (hrIsTopic s _ hs).mono ?_
    rintro e w1 ⟨rfl, hb1⟩
    rw [HPT.out]
    have k28 := cell_later hb1 cwait'
    have HB1 : Hid (Below w.heap.size w w1) := hb1
    clear hb1
    go_wp2_with fail
    refine (hrIsValue b _).mono ?_
    rintro e w1 ⟨rfl, rfl⟩
    rw [HV.out]
    go_wp2_with fail
    refine (hrIsInstant _ _).mono ?_
    rintro e w1 ⟨rfl, rfl⟩
    rw [HC.out]
    go_wp2_with fail
    refine (hrIsInstant d _).mono ?_
    rintro e w1 ⟨rfl, rfl⟩
    rw [HD.out]
    go_wp2_with fail
    refine (hrIsFull H x _ _ _ (HB.out.rep.below HB1.out) hlen).mono ?_
    rintro e w3 ⟨rfl, hb3⟩
    have HB3 : Hid (Below w.heap.size w w3) := HB1.out.trans (hb3.mono HB1.out.size)
    clear hb3 k28
    by_cases hfull : (S.done.length : Int) < S.room
    · have HNF : Hid (decide ((lk S fil wait).room ≤ ((cat R).size : Int) / 42) = false) := by
        show decide (S.room ≤ _) = false
        rw [HB.out.size, decide_eq_false_iff_not]
        omega
      obtain ⟨q1, q2, q3⟩ := is_done HZ.out (writes_not (by rw [← ho]; show (3 : Int) ≠ 6; decide)) hfull
      have HD1 : Hid (doneB S o = true) := q1
      have HD2 : Hid (doErr S o = 0) := q2
      have HDA : Hid (doAns S o = S.pub) := by show doAns S o = _; unfold doAns; rw [q1, ← ho]; rfl
      have HD3 : Hid (doS S o = { S with done := S.done ++ [o], pub := S.pub + 1, wait := S.wait ++ [⟨S.pub, s, b, laterM S.time c, d⟩] }) := by show _ = _; rw [q3, ← ho]; simp [turnM, hcz]
      have HREC : Hid (recD o = ⟨3, 0, s, 0, b, c, d, 0⟩) := by show _ = _; rw [← ho]; simp [recD]
      have HRE : Hid (recOf o = encM ⟨3, 0, s, 0, b, c, d, 0⟩) := by show _ = _; rw [recOf, HREC.out]
      have HSM : Hid (Small ⟨3, 0, s, 0, b, c, d, 0⟩) := by
        have hv := wrong_valid HB.out.num (by have h1 := HG.out.inv.pub; have h2 := HB.out.few; omega) HZ.out
        have hr := HREC.out
        rw [hr] at hv
        exact valid_small hv
      have hpub1 : S.pub ≤ 500 := by have h1 := HG.out.inv.pub; have h2 := HB.out.few; omega
      have hpub0 : 0 ≤ S.pub := HB.out.num.pub
      clear q1 q2 q3 hfull
      rw [HNF.out]
      have k3 : w3.cell? ⟨H, 3, none⟩ = some (.int .i64 S.pub) := HB3.out.cell (p := ⟨H, 3, none⟩) hH |>.trans cpub'
      go_wp2_with fail
      refine (hrCopyText s _).mono ?_
      rintro e w4 ⟨rfl, hb4⟩
      have HB4 : Hid (Below w.heap.size w w4) := HB3.out.trans (hb4.mono HB3.out.size)
      have k4 := cell_later hb4 k3
      have hH4 : H < w4.heap.size := Nat.lt_of_lt_of_le hH HB4.out.size
      have hfr4 := (HB4.out.frozen (p := ⟨H, 3, none⟩) hH).trans (HB.out.rep.cells.free 3)
      have HST : HStep w H x (w4.setCell ⟨H, 3, none⟩ (.int .i64 (S.pub + 1))) { lk S fil wait with done := S.done ++ [o], pub := S.pub + 1 } (cat R) := HStep.then (Upd.of_below HB4.out) (fun _ hk => .inl hk) (((HB.out.rep.below HB4.out).redone (S.done ++ [o])).setPub (S.pub + 1))
      obtain ⟨x1, z1, u1, f1⟩ := HST
      have R1 : Hid _ := z1
      have U1 : Hid _ := u1
      have F1 : Hid _ := f1
      clear z1 u1 f1 hb4 k3
      go_wp2_with fail
      refine (hrWrite H x1 _ (cat R) ⟨3, 0, s, 0, b, c, d, 0⟩ _ R1.out hlen HSM.out).mono ?_
      rintro e w5 ⟨rfl, hst5⟩
      obtain ⟨x2, z2, u2, f2⟩ := hst5
      have R2 : Hid (HRep w5 H x2 { lk S fil wait with done := S.done ++ [o], pub := S.pub + 1 } (cat R ++ encM ⟨3, 0, s, 0, b, c, d, 0⟩)) := z2
      have U2 : Hid _ := u2
      have F2 : Hid _ := f2
      have HTH : Hid (∀ w6 T D, HStep w5 H x2 w6 T D → HStep w H x w6 T D) := fun w6 T D h => HStep.then U1.out F1.out (HStep.then U2.out F2.out h)
      have c2 : w5.cell? ⟨H, 2, none⟩ = some (.int .i64 S.time) := z2.cells.time
      have hH5 : H < w5.heap.size := z2.cells.lt
      obtain ⟨aw2, cw2, hvw2, -, -, hcw2⟩ := z2.wait.form
      have cw5 := z2.cells.wait
      rw [hvw2] at cw5
      have HCW5 : Hid (CellsAt w5 aw2 (wait.flatMap waitCells)) := hcw2
      have cw5' : w5.cell? ⟨H, 28, none⟩ = some (.slice aw2 wait.length cw2) := cw5
      have hfr5 := z2.cells.free 28
      have ht0 := HG.out.inv.time0
      have ht1 := HG.out.inv.time1
      clear hvw2 hcw2 cw5
      clear z2 u2 f2 k4 hfr4
      go_wp2_with fail
      refine (hrDeadlineOf S.time c _ ht0 ht1 hc0 hc1).mono ?_
      rintro e w5 ⟨rfl, rfl⟩
      have HWW : Hid (∀ w', CellsAt w' aw2 (wait.flatMap waitCells) → Calls Tryz.prog 88 #[.slice aw2 wait.length cw2, .agg #[.int .i64 S.pub, .string s, .int .i64 b, .int .i64 (laterM S.time c), .int .i64 d]] w' fun e w6 => ∃ v, e = .returned v ∧
          w6.ownsRow w'.heap.size 80 5 v (insM aheadB ⟨S.pub, s, b, laterM S.time c, d⟩ wait).length ((insM aheadB ⟨S.pub, s, b, laterM S.time c, d⟩ wait).flatMap waitCells) ∧ Below w'.heap.size w' w6) :=
        fun w' h => hrWithWaiting wait aw2 cw2 ⟨S.pub, s, b, laterM S.time c, d⟩ w' (by omega) h
      go_wp2_with fail
      generalize hWA : w5.alloc _ = wa
      have hbA : Below w5.heap.size w5 wa := by rw [← hWA]; exact below_one _ _
      have l0 : wa.cell? ⟨w5.heap.size, 0, none⟩ = some (.int .i64 S.pub) := by rw [← hWA]; simp
      have l1 : wa.cell? ⟨w5.heap.size, 1, none⟩ = some (.string s) := by rw [← hWA]; simp
      have l2 : wa.cell? ⟨w5.heap.size, 2, none⟩ = some (.int .i64 b) := by rw [← hWA]; simp
      have l3 : wa.cell? ⟨w5.heap.size, 3, none⟩ = some (.int .i64 (laterM S.time c)) := by rw [← hWA]; simp
      have l4 : wa.cell? ⟨w5.heap.size, 4, none⟩ = some (.int .i64 d) := by rw [← hWA]; simp
      have hsA : w5.heap.size < wa.heap.size := by rw [← hWA]; simp
      have cwA := cell_later hbA cw5'
      have hfrA := (hbA.frozen (p := ⟨H, 28, none⟩) hH5).trans hfr5
      have hHA : H < wa.heap.size := Nat.lt_of_lt_of_le hH5 hbA.size
      have HBA : Hid (Below w5.heap.size w5 wa) := hbA
      have HCWA : Hid (CellsAt wa aw2 (wait.flatMap waitCells)) := HCW5.out.below hbA
      clear hWA hbA cw5' hfr5
      go_region_with (go_at_call 88; refine (HWW.out _ (HCWA.out.below below_drew)).mono ?_; rintro e w7 ⟨v, rfl, ho7, hb7⟩; obtain ⟨a2, c2', rfl, -, -, -⟩ := Row.form (row_of_own (w := wa) ho7 nilV).1; have c7 := cell_later (w := wa.drew) hb7 cwA; have hfr7 := (hb7.frozen (p := ⟨H, 28, none⟩) hHA).trans hfrA)
      all_goals have HST : HStep w H x (w7.setCell ⟨H, 28, none⟩ (.slice a2 (insM aheadB ⟨S.pub, s, b, laterM S.time c, d⟩ wait).length c2')) { lk S fil wait with done := S.done ++ [o], pub := S.pub + 1, wait := insM aheadB ⟨S.pub, s, b, laterM S.time c, d⟩ wait } (cat R ++ encM ⟨3, 0, s, 0, b, c, d, 0⟩) := HTH.out _ _ _ (HStep.then (Upd.of_below HBA.out) (fun _ hk => .inl hk) ((R2.out.below HBA.out).setWait (Upd.of_below (below_drew.trans hb7)) (row_of_own (w := wa) ho7 nilV).1 (row_of_own (w := wa) ho7 _).2))
      all_goals have HST2 : Hid _ := HST
      all_goals clear HST ho7 hb7
      all_goals go_wp2_with fail
      all_goals go_ret2
      all_goals refine ⟨ret_two HDA.out.symm HD2.out.symm, out_done HB.out HF.out HG.out HD1.out (fil1 := fil) (wait1 := insM aheadB ⟨S.pub, s, b, laterM S.time c, d⟩ wait) ?_ ?_⟩
      all_goals first
        | (rw [HD3.out, HRE.out]; exact HST2.out)
        | (rw [HD3.out]; exact (HB.out.lk.later (x := ⟨S.pub, s, b, laterM S.time c, d⟩) rfl).other rfl rfl (Int.le_refl _))
    · have HFU : Hid (decide ((lk S fil wait).room ≤ ((cat R).size : Int) / 42) = true) := by
        show decide (S.room ≤ _) = true
        rw [HB.out.size, decide_eq_true_iff]
        omega
      have HE : Hid (doErr S o = 9) := is_full HZ.out (writes_not (by rw [← ho]; show (3 : Int) ≠ 6; decide)) hfull
      have HND := not_done (S := S) (o := o) (by rw [HE.out]; omega)
      have HND2 : Hid (doAns S o = 0) := HND.2.2
      have HND3 : Hid (doS S o = S) := HND.2.1
      clear HND ho hfull
      rw [HFU.out]
      go_wp2_with fail
      go_ret2
      exact ⟨ret_two HND2.out.symm HE.out.symm, out_same HP.out HB3.out HND3.out⟩
end Go.Proofs.YtmjdndhfmfjbiaaGreat
