import Derived.Test.YtmjdndhfmfjbiabM06
import Derived.Deep.RegionHeld3
import Derived.Test.YtmjdndhfmfjbiabM03
import Derived.Test.YtmjdndhfmfjbiabM04
import Derived.ProofKit
import Derived.OpenShut
import Derived.JoinedCond
import Derived.Test.YtmjdndhfmfjbiabM01
import Derived.Deep.OwnRows
import Derived.Laws.BytesArg
import Derived.Test.YtmjdndhfmfjbiabM05
import Derived.Test.YtmjdndhfmfjbiabM02
namespace Go.Proofs.Ytmjdndhfmfjbiab
open Go.RowKit

theorem ret_two {a b c d : Int} (h1 : a = c) (h2 : b = d) : Ending.returned (.tuple #[.int .i64 a, .int .i64 b]) = .returned (.tuple #[.int .i64 c, .int .i64 d]) := by rw [h1, h2]

set_option maxRecDepth 100000 in
set_option maxHeartbeats 4000000 in
theorem hrPublish {w : World} {H : Nat} {F : Nat → Prop} {S : RefS} {R : List ByteArray} (a b c d : Int) (s : ByteArray) (hp : PRc w H F S R) (hg : Good S) (hs : s.size ≤ 1048576) :
    Calls Try.prog 14 #[.pointer (some ⟨H, 0, none⟩), .string s, .int .i64 b, .int .i64 c, .int .i64 d] w fun e w' =>
      e = .returned (.tuple #[.int .i64 (doAns S ⟨3, a, b, c, d, s⟩), .int .i64 (doErr S ⟨3, a, b, c, d, s⟩)]) ∧ Outcome PRc w H F R (doS S ⟨3, a, b, c, d, s⟩) w' := by
  have HP : Hid (PRc w H F S R) := hp
  obtain ⟨x, fil, wait, hb, hF⟩ := hp
  have HB : Hid (Br w H x S fil wait R) := hb
  have HF : Hid (∀ k, F k ↔ HFP H x k) := hF
  have HG : Hid (Good S) := hg
  have hlen := hb.len
  have hH := hb.rep.cells.lt
  clear hb hF hg
  generalize ho : (⟨3, a, b, c, d, s⟩ : OpD) = o
  have ERR : Hid (∀ e w1, wrongM S o = e → e ≠ 0 → Below w.heap.size w w1 → Ending.returned (.tuple #[.int .i64 0, .int .i64 e]) = .returned (.tuple #[.int .i64 (doAns S o), .int .i64 (doErr S o)]) ∧ Outcome PRc w H F R (doS S o) w1) := fun e w1 h1 h0 hbw => by
    have h2 := is_wrong h1 h0
    have h3 := not_done (S := S) (o := o) (by rw [h2]; exact h0)
    exact ⟨by rw [h2, h3.2.2], out_same HP.out hbw h3.2.1⟩
  have HW : Hid (wrongM S o = pubErr (M.isPathM false s) b c d S.wait.length) := by show _ = _; rw [← ho]; simp [wrongM]
  cases hpt : M.isPathM false s
  · have HE : Hid (wrongM S o = 3) := by show _ = _; rw [HW.out, pubErr, hpt]; rfl
    clear ho
    go_enter Try.func14, Try.ntmps14
    go_wp2_with fail
    refine (hrIsTopic s _ hs).mono ?_
    rintro e w1 ⟨rfl, hb1⟩
    rw [hpt]
    go_wp2_with fail
    go_ret2
    exact ERR.out _ _ HE.out (by omega) hb1
  have HPT : Hid (M.isPathM false s = true) := hpt
  cases hv : isValueM b
  · have HE : Hid (wrongM S o = 5) := by
      show _ = _
      rw [HW.out, pubErr, hpt, if_neg (by simp)]
      by_cases h1 : b < 0
      · rw [if_pos h1]
      · rw [if_neg h1, if_pos]
        have := hv
        unfold isValueM at this
        simp only [Bool.and_eq_false_iff, decide_eq_false_iff_not] at this
        omega
    clear ho hpt
    go_enter Try.func14, Try.ntmps14
    go_wp2_with fail
    refine (hrIsTopic s _ hs).mono ?_
    rintro e w1 ⟨rfl, hb1⟩
    rw [HPT.out]
    go_wp2_with fail
    refine (hrIsValue b _).mono ?_
    rintro e w1 ⟨rfl, rfl⟩
    rw [hv]
    go_wp2_with fail
    go_ret2
    exact ERR.out _ _ HE.out (by omega) hb1
  have HV : Hid (isValueM b = true) := hv
  have hb01 : 0 ≤ b ∧ b ≤ 1073741824 := by simpa [isValueM] using hv
  obtain ⟨hvb0, hvb1⟩ := hb01
  clear hv
  cases hc : isTimeM c
  · have HE : Hid (wrongM S o = 5) := by
      show _ = _
      rw [HW.out, pubErr, hpt, if_neg (by simp), if_neg (by omega), if_neg (by omega), hc]; rfl
    clear ho hpt
    go_enter Try.func14, Try.ntmps14
    go_wp2_with fail
    refine (hrIsTopic s _ hs).mono ?_
    rintro e w1 ⟨rfl, hb1⟩
    rw [HPT.out]
    go_wp2_with fail
    refine (hrIsValue b _).mono ?_
    rintro e w1 ⟨rfl, rfl⟩
    rw [HV.out]
    go_wp2_with fail
    refine (hrIsInstant c _).mono ?_
    rintro e w1 ⟨rfl, rfl⟩
    rw [hc]
    go_wp2_with fail
    go_ret2
    exact ERR.out _ _ HE.out (by omega) hb1
  have HC : Hid (isTimeM c = true) := hc
  cases hd : isTimeM d
  · have HE : Hid (wrongM S o = 5) := by
      show _ = _
      rw [HW.out, pubErr, hpt, if_neg (by simp), if_neg (by omega), if_neg (by omega), hc, hd]; rfl
    clear ho hpt hc
    go_enter Try.func14, Try.ntmps14
    go_wp2_with fail
    refine (hrIsTopic s _ hs).mono ?_
    rintro e w1 ⟨rfl, hb1⟩
    rw [HPT.out]
    go_wp2_with fail
    refine (hrIsValue b _).mono ?_
    rintro e w1 ⟨rfl, rfl⟩
    rw [HV.out]
    go_wp2_with fail
    refine (hrIsInstant c _).mono ?_
    rintro e w1 ⟨rfl, rfl⟩
    rw [HC.out]
    go_wp2_with fail
    refine (hrIsInstant d _).mono ?_
    rintro e w1 ⟨rfl, rfl⟩
    rw [hd]
    go_wp2_with fail
    go_ret2
    exact ERR.out _ _ HE.out (by omega) hb1
  have HD : Hid (isTimeM d = true) := hd
  have HPE : Hid (pubErr (M.isPathM false s) b c d S.wait.length = if 0 < c then (if 64 ≤ S.wait.length then 8 else 0) else 0) := by
    show _ = _
    rw [pubErr, hpt, if_neg (by simp), if_neg (by omega), if_neg (by omega), hc, if_neg (by simp), hd, if_neg (by simp)]
  obtain ⟨hc0, hc1⟩ := time_ok hc
  obtain ⟨hd0, hd1⟩ := time_ok hd
  have hwl : wait.length ≤ 64 := by rw [HB.out.lk.waitP.length_eq]; exact HG.out.inv.wait.1
  have HWL : Hid (wait.length = S.wait.length) := HB.out.lk.waitP.length_eq
  obtain ⟨aw, cw, hvw, -, -, hcw⟩ := HB.out.rep.wait.form
  have cwait := HB.out.rep.cells.wait
  rw [hvw] at cwait
  have HCW : Hid (CellsAt w aw (wait.flatMap waitCells)) := hcw
  have cwait' : w.cell? ⟨H, 28, none⟩ = some (.slice aw wait.length cw) := cwait
  have cpub' : w.cell? ⟨H, 3, none⟩ = some (.int .i64 S.pub) := HB.out.rep.cells.pub
  have ctime' : w.cell? ⟨H, 2, none⟩ = some (.int .i64 S.time) := HB.out.rep.cells.time
  clear hpt hc hd hvw hcw cwait
  -- the way up to the test for room
  have common : ∀ Q : Ending → World → Prop, True := fun _ => trivial
  clear common
  by_cases hmany : 0 < c ∧ 64 ≤ wait.length
  · have HE : Hid (wrongM S o = 8) := by
      show _ = _
      rw [HW.out, HPE.out, if_pos hmany.1, if_pos (by rw [← HWL.out]; exact hmany.2)]
    obtain ⟨hm1, hm2⟩ := hmany
    clear ho
    go_enter Try.func14, Try.ntmps14
    go_wp2_with fail
    refine (hrIsTopic s _ hs).mono ?_
    rintro e w1 ⟨rfl, hb1⟩
    rw [HPT.out]
    have k28 := cell_later hb1 cwait'
    have HB1 : Hid (Below _ _ w1) := hb1
    clear hb1
    go_wp2_with fail
    refine (hrIsValue b _).mono ?_
    rintro e w1 ⟨rfl, rfl⟩
    rw [HV.out]
    go_wp2_with fail
    refine (hrIsInstant c _).mono ?_
    rintro e w1 ⟨rfl, rfl⟩
    rw [HC.out]
    go_wp2_with fail
    refine (hrIsInstant d _).mono ?_
    rintro e w1 ⟨rfl, rfl⟩
    rw [HD.out]
    go_wp2_with fail
    go_ret2
    exact ERR.out _ _ HE.out (by omega) HB1.out
  have HZ : Hid (wrongM S o = 0) := by
    show _ = _
    rw [HW.out, HPE.out]
    by_cases h1 : 0 < c
    · rw [if_pos h1, if_neg (by rw [← HWL.out]; omega)]
    · rw [if_neg h1]
  by_cases hcz : c = 0
  · subst hcz
    go_enter Try.func14, Try.ntmps14
    go_wp2_with fail
    refine (hrIsTopic s _ hs).mono ?_
    rintro e w1 ⟨rfl, hb1⟩
    rw [HPT.out]
    have k28 := cell_later hb1 cwait'
    have HB1 : Hid (Below w.heap.size w w1) := hb1
    clear hb1
    go_wp2_with fail
    refine (hrIsValue b _).mono ?_
    rintro e w1 ⟨rfl, rfl⟩
    rw [HV.out]
    go_wp2_with fail
    refine (hrIsInstant _ _).mono ?_
    rintro e w1 ⟨rfl, rfl⟩
    rw [HC.out]
    go_wp2_with fail
    refine (hrIsInstant d _).mono ?_
    rintro e w1 ⟨rfl, rfl⟩
    rw [HD.out]
    go_wp2_with fail
    refine (hrIsFull H x _ _ _ (HB.out.rep.below HB1.out) hlen).mono ?_
    rintro e w3 ⟨rfl, hb3⟩
    have HB3 : Hid (Below w.heap.size w w3) := HB1.out.trans (hb3.mono HB1.out.size)
    clear hb3 k28
    by_cases hfull : (S.done.length : Int) < S.room
    · have HNF : Hid (decide ((lk S fil wait).room ≤ ((cat R).size : Int) / 42) = false) := by
        show decide (S.room ≤ _) = false
        rw [HB.out.size, decide_eq_false_iff_not]
        omega
      obtain ⟨q1, q2, q3⟩ := is_done HZ.out (writes_not (by rw [← ho]; show (3 : Int) ≠ 6; decide)) hfull
      have HD1 : Hid (doneB S o = true) := q1
      have HD2 : Hid (doErr S o = 0) := q2
      have HDA : Hid (doAns S o = S.pub) := by show doAns S o = _; unfold doAns; rw [q1, ← ho]; rfl
      have HD3 : Hid (doS S o = sendTo { S with done := S.done ++ [o], pub := S.pub + 1 } ⟨S.pub, s, b, 0, d⟩ 8) := by show _ = _; rw [q3, ← ho]; simp [turnM]
      have HREC : Hid (recD o = ⟨3, 0, s, 0, b, 0, d, 0⟩) := by show _ = _; rw [← ho]; simp [recD]
      have HRE : Hid (recOf o = encM ⟨3, 0, s, 0, b, 0, d, 0⟩) := by show _ = _; rw [recOf, HREC.out]
      have HSM : Hid (Small ⟨3, 0, s, 0, b, 0, d, 0⟩) := by
        have hv := wrong_valid HB.out.num (by have h1 := HG.out.inv.pub; have h2 := HB.out.few; omega) HZ.out
        have hr := HREC.out
        rw [hr] at hv
        exact valid_small hv
      have hpub1 : S.pub ≤ 500 := by have h1 := HG.out.inv.pub; have h2 := HB.out.few; omega
      have hpub0 : 0 ≤ S.pub := HB.out.num.pub
      clear q1 q2 q3 hfull
      rw [HNF.out]
      have k3 : w3.cell? ⟨H, 3, none⟩ = some (.int .i64 S.pub) := HB3.out.cell (p := ⟨H, 3, none⟩) hH |>.trans cpub'
      go_wp2_with fail
      refine (hrCopyText s _).mono ?_
      rintro e w4 ⟨rfl, hb4⟩
      have HB4 : Hid (Below w.heap.size w w4) := HB3.out.trans (hb4.mono HB3.out.size)
      have k4 := cell_later hb4 k3
      have hH4 : H < w4.heap.size := Nat.lt_of_lt_of_le hH HB4.out.size
      have hfr4 := (HB4.out.frozen (p := ⟨H, 3, none⟩) hH).trans (HB.out.rep.cells.free 3)
      have HST : HStep w H x (w4.setCell ⟨H, 3, none⟩ (.int .i64 (S.pub + 1))) { lk S fil wait with done := S.done ++ [o], pub := S.pub + 1 } (cat R) := HStep.then (Upd.of_below HB4.out) (fun _ hk => .inl hk) (((HB.out.rep.below HB4.out).redone (S.done ++ [o])).setPub (S.pub + 1))
      obtain ⟨x1, z1, u1, f1⟩ := HST
      have R1 : Hid _ := z1
      have U1 : Hid _ := u1
      have F1 : Hid _ := f1
      clear z1 u1 f1 hb4 k3
      go_wp2_with fail
      refine (hrWrite H x1 _ (cat R) ⟨3, 0, s, 0, b, 0, d, 0⟩ _ R1.out hlen HSM.out).mono ?_
      rintro e w5 ⟨rfl, hst5⟩
      obtain ⟨x2, z2, u2, f2⟩ := hst5
      have R2 : Hid (HRep w5 H x2 { lk S fil wait with done := S.done ++ [o], pub := S.pub + 1 } (cat R ++ encM ⟨3, 0, s, 0, b, 0, d, 0⟩)) := z2
      have U2 : Hid _ := u2
      have F2 : Hid _ := f2
      have HTH : Hid (∀ w6 T D, HStep w5 H x2 w6 T D → HStep w H x w6 T D) := fun w6 T D h => HStep.then U1.out F1.out (HStep.then U2.out F2.out h)
      have c2 : w5.cell? ⟨H, 2, none⟩ = some (.int .i64 S.time) := z2.cells.time
      have hH5 : H < w5.heap.size := z2.cells.lt
      have HS : Hid (∀ w', HRep w' H x2 { lk S fil wait with done := S.done ++ [o], pub := S.pub + 1 } (cat R ++ encM ⟨3, 0, s, 0, b, 0, d, 0⟩) → Calls Try.prog 58 #[.pointer (some ⟨H, 0, none⟩), msgV ⟨S.pub, s, b, S.time, d⟩] w' fun e w2 => e = .returned (.tuple #[]) ∧ HStep w' H x2 w2 (sendTo { lk S fil wait with done := S.done ++ [o], pub := S.pub + 1 } ⟨S.pub, s, b, 0, d⟩ 8) (cat R ++ encM ⟨3, 0, s, 0, b, 0, d, 0⟩)) := fun w' hw' =>
        hrSend H x2 { lk S fil wait with done := S.done ++ [o], pub := S.pub + 1 } _ ⟨S.pub, s, b, 0, d⟩ w' hw' hs (fun n hn f hf => Nat.le_trans ((HG.out.inv.fil n hn).2 f ((HB.out.lk.filP n hn).mem_iff.1 hf)) (by omega)) (fun n hn => Nat.le_trans (Nat.le_of_eq (HB.out.lk.filP n hn).length_eq) (Nat.le_trans (HG.out.inv.fil n hn).1 (by omega)))
          (fun n hn => by show 0 ≤ S.lost n ∧ S.lost n ≤ _; have := HG.out.inv.small hn; omega) (fun n hn => Nat.le_trans (HG.out.inv.que n hn).1 (by omega))
      clear z2 u2 f2 k4 hfr4
      go_wp2_with fail
      refine (HS.out _ R2.out).mono ?_
      rintro e w6 ⟨rfl, hst⟩
      go_wp2_with fail
      go_ret2
      refine ⟨ret_two HDA.out.symm HD2.out.symm, out_done HB.out HF.out HG.out HD1.out (fil1 := fil) (wait1 := wait) ?_ ?_⟩
      · rw [HD3.out, HRE.out, ← lk_sendTo (S := { S with done := S.done ++ [o], pub := S.pub + 1 }) _ HB.out.lk.filP 8 (Nat.le_refl _)]
        exact HTH.out _ _ _ hst
      · rw [HD3.out]
        obtain ⟨v1, -, -, v4, -, v6, -⟩ := sendTo_keeps { S with done := S.done ++ [o], pub := S.pub + 1 } ⟨S.pub, s, b, 0, d⟩ 8
        exact HB.out.lk.other v1 v4 (by rw [v6]; show S.pub ≤ S.pub + 1; omega)
    · have HFU : Hid (decide ((lk S fil wait).room ≤ ((cat R).size : Int) / 42) = true) := by
        show decide (S.room ≤ _) = true
        rw [HB.out.size, decide_eq_true_iff]
        omega
      have HE : Hid (doErr S o = 9) := is_full HZ.out (writes_not (by rw [← ho]; show (3 : Int) ≠ 6; decide)) hfull
      have HND := not_done (S := S) (o := o) (by rw [HE.out]; omega)
      have HND2 : Hid (doAns S o = 0) := HND.2.2
      have HND3 : Hid (doS S o = S) := HND.2.1
      clear HND ho hfull
      rw [HFU.out]
      go_wp2_with fail
      go_ret2
      exact ⟨ret_two HND2.out.symm HE.out.symm, out_same HP.out HB3.out HND3.out⟩
  · have hcp : 0 < c := by omega
    have hcz' : (c == 0) = false := by simp; omega
    have hfew : ¬ 64 ≤ wait.length := by omega
    clear hmany
    go_enter Try.func14, Try.ntmps14
    go_wp2_with fail
    refine (hrIsTopic s _ hs).mono ?_
    rintro e w1 ⟨rfl, hb1⟩
    rw [HPT.out]
    have k28 := cell_later hb1 cwait'
    have HB1 : Hid (Below w.heap.size w w1) := hb1
    clear hb1
    go_wp2_with fail
    refine (hrIsValue b _).mono ?_
    rintro e w1 ⟨rfl, rfl⟩
    rw [HV.out]
    go_wp2_with fail
    refine (hrIsInstant _ _).mono ?_
    rintro e w1 ⟨rfl, rfl⟩
    rw [HC.out]
    go_wp2_with fail
    refine (hrIsInstant d _).mono ?_
    rintro e w1 ⟨rfl, rfl⟩
    rw [HD.out]
    go_wp2_with fail
    refine (hrIsFull H x _ _ _ (HB.out.rep.below HB1.out) hlen).mono ?_
    rintro e w3 ⟨rfl, hb3⟩
    have HB3 : Hid (Below w.heap.size w w3) := HB1.out.trans (hb3.mono HB1.out.size)
    clear hb3 k28
    by_cases hfull : (S.done.length : Int) < S.room
    · have HNF : Hid (decide ((lk S fil wait).room ≤ ((cat R).size : Int) / 42) = false) := by
        show decide (S.room ≤ _) = false
        rw [HB.out.size, decide_eq_false_iff_not]
        omega
      obtain ⟨q1, q2, q3⟩ := is_done HZ.out (writes_not (by rw [← ho]; show (3 : Int) ≠ 6; decide)) hfull
      have HD1 : Hid (doneB S o = true) := q1
      have HD2 : Hid (doErr S o = 0) := q2
      have HDA : Hid (doAns S o = S.pub) := by show doAns S o = _; unfold doAns; rw [q1, ← ho]; rfl
      have HD3 : Hid (doS S o = { S with done := S.done ++ [o], pub := S.pub + 1, wait := S.wait ++ [⟨S.pub, s, b, laterM S.time c, d⟩] }) := by show _ = _; rw [q3, ← ho]; simp [turnM, hcz]
      have HREC : Hid (recD o = ⟨3, 0, s, 0, b, c, d, 0⟩) := by show _ = _; rw [← ho]; simp [recD]
      have HRE : Hid (recOf o = encM ⟨3, 0, s, 0, b, c, d, 0⟩) := by show _ = _; rw [recOf, HREC.out]
      have HSM : Hid (Small ⟨3, 0, s, 0, b, c, d, 0⟩) := by
        have hv := wrong_valid HB.out.num (by have h1 := HG.out.inv.pub; have h2 := HB.out.few; omega) HZ.out
        have hr := HREC.out
        rw [hr] at hv
        exact valid_small hv
      have hpub1 : S.pub ≤ 500 := by have h1 := HG.out.inv.pub; have h2 := HB.out.few; omega
      have hpub0 : 0 ≤ S.pub := HB.out.num.pub
      clear q1 q2 q3 hfull
      rw [HNF.out]
      have k3 : w3.cell? ⟨H, 3, none⟩ = some (.int .i64 S.pub) := HB3.out.cell (p := ⟨H, 3, none⟩) hH |>.trans cpub'
      go_wp2_with fail
      refine (hrCopyText s _).mono ?_
      rintro e w4 ⟨rfl, hb4⟩
      have HB4 : Hid (Below w.heap.size w w4) := HB3.out.trans (hb4.mono HB3.out.size)
      have k4 := cell_later hb4 k3
      have hH4 : H < w4.heap.size := Nat.lt_of_lt_of_le hH HB4.out.size
      have hfr4 := (HB4.out.frozen (p := ⟨H, 3, none⟩) hH).trans (HB.out.rep.cells.free 3)
      have HST : HStep w H x (w4.setCell ⟨H, 3, none⟩ (.int .i64 (S.pub + 1))) { lk S fil wait with done := S.done ++ [o], pub := S.pub + 1 } (cat R) := HStep.then (Upd.of_below HB4.out) (fun _ hk => .inl hk) (((HB.out.rep.below HB4.out).redone (S.done ++ [o])).setPub (S.pub + 1))
      obtain ⟨x1, z1, u1, f1⟩ := HST
      have R1 : Hid _ := z1
      have U1 : Hid _ := u1
      have F1 : Hid _ := f1
      clear z1 u1 f1 hb4 k3
      go_wp2_with fail
      refine (hrWrite H x1 _ (cat R) ⟨3, 0, s, 0, b, c, d, 0⟩ _ R1.out hlen HSM.out).mono ?_
      rintro e w5 ⟨rfl, hst5⟩
      obtain ⟨x2, z2, u2, f2⟩ := hst5
      have R2 : Hid (HRep w5 H x2 { lk S fil wait with done := S.done ++ [o], pub := S.pub + 1 } (cat R ++ encM ⟨3, 0, s, 0, b, c, d, 0⟩)) := z2
      have U2 : Hid _ := u2
      have F2 : Hid _ := f2
      have HTH : Hid (∀ w6 T D, HStep w5 H x2 w6 T D → HStep w H x w6 T D) := fun w6 T D h => HStep.then U1.out F1.out (HStep.then U2.out F2.out h)
      have c2 : w5.cell? ⟨H, 2, none⟩ = some (.int .i64 S.time) := z2.cells.time
      have hH5 : H < w5.heap.size := z2.cells.lt
      obtain ⟨aw2, cw2, hvw2, -, -, hcw2⟩ := z2.wait.form
      have cw5 := z2.cells.wait
      rw [hvw2] at cw5
      have HCW5 : Hid (CellsAt w5 aw2 (wait.flatMap waitCells)) := hcw2
      have cw5' : w5.cell? ⟨H, 28, none⟩ = some (.slice aw2 wait.length cw2) := cw5
      have hfr5 := z2.cells.free 28
      have ht0 := HG.out.inv.time0
      have ht1 := HG.out.inv.time1
      clear hvw2 hcw2 cw5
      clear z2 u2 f2 k4 hfr4
      go_wp2_with fail
      refine (hrDeadlineOf S.time c _ ht0 ht1 hc0 hc1).mono ?_
      rintro e w5 ⟨rfl, rfl⟩
      have HWW : Hid (∀ w', CellsAt w' aw2 (wait.flatMap waitCells) → Calls Try.prog 60 #[.slice aw2 wait.length cw2, .agg #[.int .i64 S.pub, .string s, .int .i64 b, .int .i64 (laterM S.time c), .int .i64 d]] w' fun e w6 => ∃ v, e = .returned v ∧
          w6.ownsRow w'.heap.size 50 5 v (insM aheadB ⟨S.pub, s, b, laterM S.time c, d⟩ wait).length ((insM aheadB ⟨S.pub, s, b, laterM S.time c, d⟩ wait).flatMap waitCells) ∧ Below w'.heap.size w' w6) :=
        fun w' h => hrWithWaiting wait aw2 cw2 ⟨S.pub, s, b, laterM S.time c, d⟩ w' (by omega) h
      go_wp2_with fail
      generalize hWA : w5.alloc _ = wa
      have hbA : Below w5.heap.size w5 wa := by rw [← hWA]; exact below_one _ _
      have l0 : wa.cell? ⟨w5.heap.size, 0, none⟩ = some (.int .i64 S.pub) := by rw [← hWA]; simp
      have l1 : wa.cell? ⟨w5.heap.size, 1, none⟩ = some (.string s) := by rw [← hWA]; simp
      have l2 : wa.cell? ⟨w5.heap.size, 2, none⟩ = some (.int .i64 b) := by rw [← hWA]; simp
      have l3 : wa.cell? ⟨w5.heap.size, 3, none⟩ = some (.int .i64 (laterM S.time c)) := by rw [← hWA]; simp
      have l4 : wa.cell? ⟨w5.heap.size, 4, none⟩ = some (.int .i64 d) := by rw [← hWA]; simp
      have hsA : w5.heap.size < wa.heap.size := by rw [← hWA]; simp
      have cwA := cell_later hbA cw5'
      have hfrA := (hbA.frozen (p := ⟨H, 28, none⟩) hH5).trans hfr5
      have hHA : H < wa.heap.size := Nat.lt_of_lt_of_le hH5 hbA.size
      have HBA : Hid (Below w5.heap.size w5 wa) := hbA
      have HCWA : Hid (CellsAt wa aw2 (wait.flatMap waitCells)) := HCW5.out.below hbA
      clear hWA hbA cw5' hfr5
      go_region_with (go_at_call 60; refine (HWW.out _ (HCWA.out.below below_drew)).mono ?_; rintro e w7 ⟨v, rfl, ho7, hb7⟩; obtain ⟨a2, c2', rfl, -, -, -⟩ := Row.form (row_of_own (w := wa) ho7 nilV).1; have c7 := cell_later (w := wa.drew) hb7 cwA; have hfr7 := (hb7.frozen (p := ⟨H, 28, none⟩) hHA).trans hfrA)
      all_goals have HST : HStep w H x (w7.setCell ⟨H, 28, none⟩ (.slice a2 (insM aheadB ⟨S.pub, s, b, laterM S.time c, d⟩ wait).length c2')) { lk S fil wait with done := S.done ++ [o], pub := S.pub + 1, wait := insM aheadB ⟨S.pub, s, b, laterM S.time c, d⟩ wait } (cat R ++ encM ⟨3, 0, s, 0, b, c, d, 0⟩) := HTH.out _ _ _ (HStep.then (Upd.of_below HBA.out) (fun _ hk => .inl hk) ((R2.out.below HBA.out).setWait (Upd.of_below (below_drew.trans hb7)) (row_of_own (w := wa) ho7 nilV).1 (row_of_own (w := wa) ho7 _).2))
      all_goals have HST2 : Hid _ := HST
      all_goals clear HST ho7 hb7
      all_goals go_wp2_with fail
      all_goals go_ret2
      all_goals refine ⟨ret_two HDA.out.symm HD2.out.symm, out_done HB.out HF.out HG.out HD1.out (fil1 := fil) (wait1 := insM aheadB ⟨S.pub, s, b, laterM S.time c, d⟩ wait) ?_ ?_⟩
      all_goals first
        | (rw [HD3.out, HRE.out]; exact HST2.out)
        | (rw [HD3.out]; exact (HB.out.lk.later (x := ⟨S.pub, s, b, laterM S.time c, d⟩) rfl).other rfl rfl (Int.le_refl _))
    · have HFU : Hid (decide ((lk S fil wait).room ≤ ((cat R).size : Int) / 42) = true) := by
        show decide (S.room ≤ _) = true
        rw [HB.out.size, decide_eq_true_iff]
        omega
      have HE : Hid (doErr S o = 9) := is_full HZ.out (writes_not (by rw [← ho]; show (3 : Int) ≠ 6; decide)) hfull
      have HND := not_done (S := S) (o := o) (by rw [HE.out]; omega)
      have HND2 : Hid (doAns S o = 0) := HND.2.2
      have HND3 : Hid (doS S o = S) := HND.2.1
      clear HND ho hfull
      rw [HFU.out]
      go_wp2_with fail
      go_ret2
      exact ⟨ret_two HND2.out.symm HE.out.symm, out_same HP.out HB3.out HND3.out⟩
end Go.Proofs.Ytmjdndhfmfjbiab

/-
  THE BROKER, walked: what a disk holds is done again.
-/
namespace Go.Proofs.Ytmjdndhfmfjbiab
open Go.RowKit

theorem PRc.below {w w1 : World} {H : Nat} {F : Nat → Prop} {S : RefS} {R : List ByteArray} (h : PRc w H F S R) (k : Below w.heap.size w w1) : PRc w1 H F S R := by
  obtain ⟨x, fil, wait, hb, hF⟩ := h
  exact ⟨x, fil, wait, hb.below k, hF⟩
theorem out_later {w w1 w2 : World} {H : Nat} {F : Nat → Prop} {R : List ByteArray} {S1 : RefS} (hb : Below w.heap.size w w1) (h : Outcome PRc w1 H F R S1 w2) : Outcome PRc w H F R S1 w2 := by
  obtain ⟨F1, R1, hp, hu, hk⟩ := h
  exact ⟨F1, R1, hp, (Upd.of_below hb).trans hu (fun _ _ t => t), fun k h1 => (hk k h1).imp id (fun h2 => Nat.le_trans hb.size h2)⟩

set_option maxRecDepth 100000 in
set_option maxHeartbeats 4000000 in
theorem hrRedo {w : World} {H : Nat} {F : Nat → Prop} {S : RefS} {R : List ByteArray} (o : OpD) (ho : Fine o) (hp : PRc w H F S R) (hg : Good S) :
    Calls Try.prog 84 #[.pointer (some ⟨H, 0, none⟩), recV (recD o)] w fun e w' => e = .returned (.tuple #[]) ∧ Outcome PRc w H F R (doS S o) w' := by
  obtain ⟨k, a, b, c, d, s⟩ := o
  obtain ⟨⟨hk1, hk2⟩, hs⟩ := ho
  simp only at hk1 hk2 hs
  have HP : Hid (PRc w H F S R) := hp
  have HG : Hid (Good S) := hg
  clear hp hg
  have hbo : ∀ o : Obj, Below w.heap.size w (w.alloc o) := fun o => below_one _ _
  have HBO : Hid (∀ o : Obj, Below w.heap.size w (w.alloc o)) := hbo
  clear hbo
  rcases (show k = 1 ∨ k = 2 ∨ k = 3 ∨ k = 4 ∨ k = 5 ∨ k = 6 ∨ k = 7 from by omega) with rfl | rfl | rfl | rfl | rfl | rfl | rfl
  · rw [show recD ⟨1, a, b, c, d, s⟩ = ⟨1, a, s, 0, 0, 0, 0, 0⟩ from by simp [recD]]
    clear hk1 hk2
    go_enter Try.func84, Try.ntmps84
    go_wp2_with fail
    refine (hrSubscribe a b c d s (HP.out.below (HBO.out _)) HG.out hs).mono ?_
    rintro e w1 ⟨rfl, h1⟩
    have H1 : Hid _ := out_later (HBO.out _) h1
    clear h1
    go_wp2_with fail
    go_end0
    exact ⟨rfl, H1.out⟩
  · rw [show recD ⟨2, a, b, c, d, s⟩ = ⟨2, a, s, 0, 0, 0, 0, 0⟩ from by simp [recD]]
    clear hk1 hk2
    go_enter Try.func84, Try.ntmps84
    go_wp2_with fail
    refine (hrUnsubscribe a b c d s (HP.out.below (HBO.out _)) HG.out hs).mono ?_
    rintro e w1 ⟨rfl, h1⟩
    have H1 : Hid _ := out_later (HBO.out _) h1
    clear h1
    go_wp2_with fail
    go_end0
    exact ⟨rfl, H1.out⟩
  · rw [show recD ⟨3, a, b, c, d, s⟩ = ⟨3, 0, s, 0, b, c, d, 0⟩ from by simp [recD]]
    clear hk1 hk2
    go_enter Try.func84, Try.ntmps84
    go_wp2_with fail
    refine (hrPublish a b c d s (HP.out.below (HBO.out _)) HG.out hs).mono ?_
    rintro e w1 ⟨rfl, h1⟩
    have H1 : Hid _ := out_later (HBO.out _) h1
    clear h1
    go_wp2_with fail
    go_end0
    exact ⟨rfl, H1.out⟩
  · rw [show recD ⟨4, a, b, c, d, s⟩ = ⟨4, 0, ⟨#[]⟩, b, 0, 0, 0, 0⟩ from by simp [recD]]
    clear hk1 hk2
    go_enter Try.func84, Try.ntmps84
    go_wp2_with fail
    refine (hrCancel a b c d s (HP.out.below (HBO.out _)) HG.out).mono ?_
    rintro e w1 ⟨rfl, h1⟩
    have H1 : Hid _ := out_later (HBO.out _) h1
    clear h1
    go_wp2_with fail
    go_end0
    exact ⟨rfl, H1.out⟩
  · rw [show recD ⟨5, a, b, c, d, s⟩ = ⟨5, 0, ⟨#[]⟩, b, 0, c, 0, 0⟩ from by simp [recD]]
    clear hk1 hk2
    go_enter Try.func84, Try.ntmps84
    go_wp2_with fail
    refine (hrMove a b c d s (HP.out.below (HBO.out _)) HG.out).mono ?_
    rintro e w1 ⟨rfl, h1⟩
    have H1 : Hid _ := out_later (HBO.out _) h1
    clear h1
    go_wp2_with fail
    go_end0
    exact ⟨rfl, H1.out⟩
  · rw [show recD ⟨6, a, b, c, d, s⟩ = ⟨6, 0, ⟨#[]⟩, 0, 0, 0, 0, b⟩ from by simp [recD]]
    clear hk1 hk2
    go_enter Try.func84, Try.ntmps84
    go_wp2_with fail
    refine (hrTick a b c d s (HP.out.below (HBO.out _)) HG.out).mono ?_
    rintro e w1 ⟨rfl, h1⟩
    have H1 : Hid _ := out_later (HBO.out _) h1
    clear h1
    go_wp2_with fail
    go_end0
    exact ⟨rfl, H1.out⟩
  · rw [show recD ⟨7, a, b, c, d, s⟩ = ⟨7, a, ⟨#[]⟩, b, 0, 0, 0, 0⟩ from by simp [recD]]
    clear hk1 hk2
    go_enter Try.func84, Try.ntmps84
    go_wp2_with fail
    refine (hrAck a b c d s (HP.out.below (HBO.out _)) HG.out).mono ?_
    rintro e w1 ⟨rfl, h1⟩
    have H1 : Hid _ := out_later (HBO.out _) h1
    clear h1
    go_wp2_with fail
    go_end0
    exact ⟨rfl, H1.out⟩
end Go.Proofs.Ytmjdndhfmfjbiab

/-
  WHAT STANDS ON A DISK: the operations, one by one. No program is named here.
-/
namespace Go.Proofs.Ytmjdndhfmfjbiab
open Go.RowKit

/-- States, each come of the one before by the next record of a disk. -/
structure Chain (d : ByteArray) (St : Nat → RefS) (n : Nat) : Prop where
  first : St 0 = refNew 500
  steps : ∀ i, i < n → ∃ o, 42 * i + 42 ≤ d.size ∧ chunk d i = recOf o ∧ Valid (recD o) ∧ Fine o ∧ doneB (St i) o = true ∧ St (i + 1) = doS (St i) o
  good : ∀ i, i ≤ n → Good (St i)
  len : ∀ i, i ≤ n → (St i).done.length = i
  last : d.size < 42 * n + 42 ∨ (42 * n + 42 ≤ d.size ∧ isRec (chunk d n) = false) ∨ (42 * n + 42 ≤ d.size ∧ ∃ o, chunk d n = recOf o ∧ Valid (recD o) ∧ Fine o ∧ doneB (St n) o = false)

theorem raw_rec {o : OpD} (h : Valid (recD o)) : rawR (recOf o) = recD o := by rw [rawR, recOf, dec_enc h, given_rec]
theorem is_rec {o : OpD} (h : Valid (recD o)) : isRec (recOf o) = true := by
  unfold isRec
  rw [raw_rec h]
  have hc := h.call
  have h1 : ((recD o).call != 0) = true := by simp only [bne_iff_ne, ne_eq]; omega
  rw [h1]
  simp [recOf]
theorem read_rec {o : OpD} (h : Valid (recD o)) : readV (recOf o) = .tuple #[recV (recD o), .bool true] := by rw [readV_is (is_rec h), raw_rec h]

/-- A record with a byte turned is none. -/
theorem turned_not {r t : ByteArray} (hr : Checked r) (h : Turned r t) : isRec t = false := by
  cases hi : isRec t with
  | false => rfl
  | true =>
    unfold isRec at hi
    rw [Bool.and_eq_true] at hi
    have e : (encM (rawR t)).data.toList = t.data.toList := by
      have := hi.2
      rw [beq_iff_eq, ByteArray.toList_eq, ByteArray.toList_eq] at this
      exact this
    have ht : Checked t := by
      have := enc_checked (rawR t) (raw_small t).text
      rw [ba_ext e] at this
      exact this
    obtain ⟨P, Q, x, y, e1, e2, hne⟩ := h
    exact absurd (one_turned hr ht P Q x y e1 e2) hne

theorem replay_roomed (l : List OpD) (h : ∀ o ∈ l, Fine o) : { replay l with room := 500 } = replay l := by
  have := (replay_inv l h).2
  generalize replay l = S at *
  cases S
  simp only at this
  rw [this]

/-- A disk that was a broker's, cut or with one byte turned. -/
theorem chain_back {w : World} {H : Nat} {F : Nat → Prop} {S : RefS} {R : List ByteArray} {d : ByteArray} {k : Nat} (hp : PRc w H F S R) (hg : Good S) (hd : Damaged (cat R) d k) :
    Chain d (fun i => replay (S.done.take i)) (wholeN R k) ∧ ((replay (S.done.take (wholeN R k))).done.map recOf = R.take (wholeN R k)) ∧ d.size ≤ 1048576 := by
  obtain ⟨x, fil, wait, hb, -⟩ := hp
  obtain ⟨q1, q2, q3, q4, q5⟩ := damage hb.r42 hd
  have hlen : R.length = S.done.length := by rw [hb.recs, List.length_map]
  have hget : ∀ i o, S.done[i]? = some o → R[i]? = some (recOf o) := fun i o h => by rw [hb.recs, List.getElem?_map, h]; rfl
  have htake : ∀ n, (replay (S.done.take n)).done = S.done.take n := replay_take hg.steps
  refine ⟨⟨rfl, fun i hi => ?_, fun i _ => ?_, fun i hi => ?_, ?_⟩, ?_, by have := hb.few; omega⟩
  · obtain ⟨o, ho⟩ : ∃ o, S.done[i]? = some o := ⟨_, List.getElem?_eq_getElem (by omega)⟩
    refine ⟨o, by omega, q2 i _ hi (hget i o ho), hb.valid o (List.mem_of_getElem? ho), hg.fine o (List.mem_of_getElem? ho), hg.steps i o ho, ?_⟩
    show replay (S.done.take (i + 1)) = _
    rw [List.take_add_one, ho]
    exact replay_snoc _ _
  · have h := hg.back i (r := 500) (by omega) (by omega)
    have e := replay_roomed (S.done.take i) (fun o ho => hg.fine o (List.mem_of_mem_take ho))
    rw [e] at h
    exact h
  · show (replay (S.done.take i)).done.length = i
    rw [htake, List.length_take]
    omega
  · rcases q5 with h | ⟨r, hr, h1, h2⟩
    · exact .inl h
    · refine .inr (.inl ⟨h1, turned_not ?_ h2⟩)
      have hlt : wholeN R k < S.done.length := by
        have := (List.getElem?_eq_some_iff.1 hr).1
        omega
      obtain ⟨o, ho⟩ : ∃ o, S.done[wholeN R k]? = some o := ⟨_, List.getElem?_eq_getElem hlt⟩
      rw [hget _ o ho] at hr
      cases hr
      exact enc_checked _ (hb.valid o (List.mem_of_getElem? ho)).text
  · rw [htake, hb.recs, List.map_take]
end Go.Proofs.Ytmjdndhfmfjbiab

namespace Go.Proofs.Ytmjdndhfmfjbiab
open Go.RowKit

theorem chunk_size {d : ByteArray} {i : Nat} (h : 42 * i + 42 ≤ d.size) : (chunk d i).size = 42 := by
  rw [ba_size] at h ⊢
  rw [chunk, ba_extract, List.length_drop, List.length_take]
  omega
theorem PRc.disk {w : World} {H : Nat} {F : Nat → Prop} {S : RefS} {R : List ByteArray} (h : PRc w H F S R) : ∃ ao c, w.cell? ⟨H, 1, none⟩ = some (.slice ao (42 * S.done.length) c) ∧ H < w.heap.size := by
  obtain ⟨x, fil, wait, hb, -⟩ := h
  obtain ⟨ao, c, hv, -, -, -⟩ := hb.rep.done.form
  have := hb.rep.cells.done
  rw [hv, hb.size] at this
  exact ⟨ao, c, this, hb.rep.cells.lt⟩

set_option maxRecDepth 100000 in
set_option maxHeartbeats 4000000 in
theorem hrRedoAll {w : World} {H : Nat} {F : Nat → Prop} {d : ByteArray} {St : Nat → RefS} {n : Nat} (hc : Chain d St n) (hd : d.size ≤ 1048576) (hp : PRc w H F (St 0) []) :
    Calls Try.prog 69 #[.pointer (some ⟨H, 0, none⟩), .string d] w fun e w' => e = .returned (.tuple #[]) ∧ Outcome PRc w H F [] (St n) w' := by
  have HC : Hid (Chain d St n) := hc
  have HP : Hid (PRc w H F (St 0) []) := hp
  clear hc hp
  go_enter Try.func69, Try.ntmps69
  go_wp2_with fail
  go_loopw [4] (fun m wr => ∃ i : Nat, i ≤ n ∧ 42 * i ≤ d.size ∧ m = .int .i64 ((42 * i : Nat) : Int) ∧ Outcome PRc w H F [] (St i) wr) (fun m _ => d.size + 42 - (intOf m).toNat)
  case atStart => exact ⟨0, Nat.zero_le _, Nat.zero_le _, rfl, F, [], HP.out, Upd.refl _ _, fun k hk => .inl hk⟩
  case round =>
    obtain ⟨i, hi, hid, rfl, hout⟩ := hrel
    have HO : Hid (Outcome PRc w H F [] (St i) wr) := hout
    obtain ⟨F1, R1, hp1, hu1, hk1⟩ := hout
    rw [List.nil_append] at hp1
    have HP1 : Hid (PRc wr H F1 (St i) R1) := hp1
    have HTH : Hid (∀ S2 w2, Outcome PRc wr H F1 R1 S2 w2 → Outcome PRc w H F [] S2 w2) := fun S2 w2 h => by
      obtain ⟨F2, R2, hp2, hu2, hk2⟩ := h
      refine ⟨F2, R1 ++ R2, by rw [List.nil_append]; exact hp2, hu1.trans hu2 (fun k hk t => (hk1 k t).resolve_right (by omega)), fun k h2 => ?_⟩
      rcases hk2 k h2 with h3 | h3
      · exact hk1 k h3
      · exact .inr (Nat.le_trans hu1.size h3)
    clear hp1 hu1 hk1
    have hgi := HC.out.good i hi
    have HG : Hid (Good (St i)) := hgi
    clear hgi
    by_cases hshort : d.size < 42 * i + 42
    · have HN : Hid (i = n) := by
        rcases Nat.lt_or_ge i n with h | h
        · obtain ⟨o, h1, -⟩ := HC.out.steps i h
          omega
        · exact Nat.le_antisymm hi h
      go_wp2_with fail
      go_end0
      exact ⟨rfl, by rw [← HN.out]; exact HO.out⟩
    · have hck : 42 * i + 42 ≤ d.size := by omega
      have HSZ : Hid ((chunk d i).size = 42) := chunk_size hck
      have HCK : Hid (d.extract (42 * i) (42 * i + 42) = chunk d i) := rfl
      have HDL : Hid ((St i).done.length = i) := HC.out.len i hi
      by_cases hin : i < n
      · obtain ⟨o, -, hco, hval, hfine, hdone, hnext⟩ := HC.out.steps i hin
        have HRV : Hid (readV (chunk d i) = .tuple #[recV (recD o), .bool true]) := by show _ = _; rw [hco, read_rec hval]
        have HFI : Hid (Fine o) := hfine
        have HNX : Hid (St (i + 1) = doS (St i) o) := hnext
        have HD2 : Hid ((doS (St i) o).done.length = i + 1) := by show _ = _; rw [← hnext]; exact HC.out.len (i + 1) hin
        clear hco hval hfine hdone hnext hshort
        have HMI : Hid (i + 1 ≤ n) := hin
        generalize hm : 42 * i = m at *
        have HM2 : Hid (42 * i = m) := hm
        have HM3 : Hid (42 * (i + 1) = m + 42) := by show _ = _; omega
        clear hm
        go_wp2_with fail
        rw [HCK.out]
        refine (recRead (chunk d i) wr HSZ.out).mono ?_
        rintro e w1 ⟨rfl, hb1⟩
        rw [HRV.out]
        have HB1 : Hid (Below wr.heap.size wr w1) := hb1
        have HBA : Hid (∀ o, Below wr.heap.size wr (w1.alloc o)) := fun o => hb1.alloc hb1.size _
        clear hb1
        go_wp2_with fail
        refine (hrRedo o HFI.out (HP1.out.below (HBA.out _)) HG.out).mono ?_
        rintro e w2 ⟨rfl, ho2⟩
        have HO2 : Hid (Outcome PRc w H F [] (St (i + 1)) w2) := by rw [HNX.out]; exact HTH.out _ _ (out_later (HBA.out _) ho2)
        have hdk : ∃ ao c, w2.cell? ⟨H, 1, none⟩ = some (.slice ao (m + 42) c) := by
          obtain ⟨F2, R2, hp2, -, -⟩ := ho2
          obtain ⟨ao, c, h1, -⟩ := hp2.disk
          rw [HD2.out, HM3.out] at h1
          exact ⟨ao, c, h1⟩
        obtain ⟨ao, c, hcd⟩ := hdk
        clear ho2
        go_wp2_with fail
        go_roundw
        case rel => exact ⟨i + 1, HMI.out, by rw [HM3.out]; exact hck, by rw [HM3.out]; go_num, HO2.out⟩
        case measure => simp [intOf]; omega
      · obtain rfl : i = n := by omega
        rcases HC.out.last with h | ⟨-, h⟩ | ⟨-, o, hco, hval, hfine, hno⟩
        · omega
        · have HRV : Hid (readV (chunk d i) = .tuple #[recV nilRec, .bool false]) := readV_not h
          clear h hshort
          generalize hm : 42 * i = m at *
          clear hm
          go_wp2_with fail
          rw [HCK.out]
          refine (recRead (chunk d i) wr HSZ.out).mono ?_
          rintro e w1 ⟨rfl, hb1⟩
          rw [HRV.out]
          have HBA : Hid (∀ o, Below wr.heap.size wr (w1.alloc o)) := fun o => hb1.alloc hb1.size _
          clear hb1
          go_wp2_with fail
          exact bodyPost_ret (results_none rfl _ _ _) rfl ⟨rfl, HTH.out _ _ (out_same HP1.out (HBA.out _) rfl)⟩
        · have HRV : Hid (readV (chunk d i) = .tuple #[recV (recD o), .bool true]) := by show _ = _; rw [hco, read_rec hval]
          have HFI : Hid (Fine o) := hfine
          have HNX : Hid (doS (St i) o = St i) := by show _ = _; unfold doS; rw [hno]; rfl
          clear hco hval hfine hno hshort
          generalize hm : 42 * i = m at *
          have HM2 : Hid (42 * i = m) := hm
          clear hm
          go_wp2_with fail
          rw [HCK.out]
          refine (recRead (chunk d i) wr HSZ.out).mono ?_
          rintro e w1 ⟨rfl, hb1⟩
          rw [HRV.out]
          have HBA : Hid (∀ o, Below wr.heap.size wr (w1.alloc o)) := fun o => hb1.alloc hb1.size _
          clear hb1
          go_wp2_with fail
          refine (hrRedo o HFI.out (HP1.out.below (HBA.out _)) HG.out).mono ?_
          rintro e w2 ⟨rfl, ho2⟩
          rw [HNX.out] at ho2
          have HO2 : Hid (Outcome PRc w H F [] (St i) w2) := HTH.out _ _ (out_later (HBA.out _) ho2)
          have hdk : ∃ ao c, w2.cell? ⟨H, 1, none⟩ = some (.slice ao m c) := by
            obtain ⟨F2, R2, hp2, -, -⟩ := ho2
            obtain ⟨ao, c, h1, -⟩ := hp2.disk
            rw [HDL.out, HM2.out] at h1
            exact ⟨ao, c, h1⟩
          obtain ⟨ao, c, hcd⟩ := hdk
          clear ho2
          go_wp2_with fail
          exact bodyPost_ret (results_none rfl _ _ _) rfl ⟨rfl, HO2.out⟩
end Go.Proofs.Ytmjdndhfmfjbiab

/-
  THE PROGRAM keeps what is asked of a broker.
-/
namespace Go.Proofs.Ytmjdndhfmfjbiab
open Go.RowKit

theorem hrep_new (w : World) (room : Int) : HRep (w.alloc (.cells (newCells room).toArray 96)) w.heap.size refNewV (refNew room) ⟨#[]⟩ := by
  have hh := heap_alloc_new w (.cells (newCells room).toArray 96)
  have key : ∀ j, (w.alloc (.cells (newCells room).toArray 96)).cell? ⟨w.heap.size, j, none⟩ = (newCells room)[j]? := fun j => by
    rw [cell_of_row _ w.heap.size j _ _ (0, 0) hh]; simp
  have fam : ∀ a, a < 8 → (newCells room)[4 + a * 3]? = some nilV ∧ (newCells room)[4 + a * 3 + 1]? = some nilV ∧ (newCells room)[4 + a * 3 + 2]? = some (.int .i64 0) := by
    intro a ha
    rcases (show a = 0 ∨ a = 1 ∨ a = 2 ∨ a = 3 ∨ a = 4 ∨ a = 5 ∨ a = 6 ∨ a = 7 from by omega) with rfl | rfl | rfl | rfl | rfl | rfl | rfl | rfl <;> exact ⟨rfl, rfl, rfl⟩
  refine ⟨⟨⟨_, hh⟩, (key 0).trans rfl, (key 1).trans rfl, (key 2).trans rfl, (key 3).trans rfl, fun a ha => (key _).trans (fam a ha).1, fun a ha => (key _).trans (fam a ha).2.1, fun a ha => (key _).trans (fam a ha).2.2, (key 28).trans rfl⟩,
    Row.nil _ _ _, fun _ _ => Row.nil _ _ _, fun _ _ => Row.nil _ _ _, Row.nil _ _ _, fun a b _ _ _ g h => ?_, fun a b _ _ _ g h => ?_⟩
  · simp [refNewV, nilV, Value.ownBlock] at h
  · simp [refNewV, nilV, Value.ownBlock] at h
theorem hfp_new {B k : Nat} (h : HFP B refNewV k) : k = B := by
  rcases h with h | h | h | ⟨a, -, h | h⟩
  · exact h
  all_goals simp [refNewV, nilV, Value.ownBlock] at h
theorem pr_new (w : World) (room : Int) : PRc (w.alloc (.cells (newCells room).toArray 96)) w.heap.size (fun k => k = w.heap.size) (refNew room) [] :=
  ⟨refNewV, fun _ => [], [], ⟨hrep_new w room, Lk.new room, Num.new room, rfl, fun o ho => by simp [refNew] at ho, Nat.zero_le _⟩, fun k => ⟨fun h => .inl h, hfp_new⟩⟩

theorem PRc.roomed {w : World} {H : Nat} {F : Nat → Prop} {S : RefS} {R : List ByteArray} (h : PRc w H F S R) (room : Int) : ∃ F1, PRc (w.setCell ⟨H, 0, none⟩ (.int .i64 room)) H F1 { S with room := room } R ∧ ∀ k, F1 k → F k ∨ w.heap.size ≤ k := by
  obtain ⟨x, fil, wait, hb, hF⟩ := h
  obtain ⟨x1, r1, u1, f1⟩ := hb.rep.setRoom room
  exact ⟨HFP H x1, ⟨x1, fil, wait, ⟨r1, hb.lk.other rfl rfl (Int.le_refl _), hb.num.room room, hb.recs, hb.valid, hb.few⟩, fun k => Iff.rfl⟩, fun k hk => (f1 k hk).imp (hF k).2 id⟩
theorem PRc.recs_eq {w : World} {H : Nat} {F : Nat → Prop} {S : RefS} {R : List ByteArray} (h : PRc w H F S R) : R = S.done.map recOf := by
  obtain ⟨x, fil, wait, hb, -⟩ := h
  exact hb.recs
theorem PRc.room_cell {w : World} {H : Nat} {F : Nat → Prop} {S : RefS} {R : List ByteArray} (h : PRc w H F S R) : w.cell? ⟨H, 0, none⟩ = some (.int .i64 S.room) ∧ w.frozen? ⟨H, 0, none⟩ = false ∧ H < w.heap.size := by
  obtain ⟨x, fil, wait, hb, -⟩ := h
  exact ⟨hb.rep.cells.room, hb.rep.cells.free 0, hb.rep.cells.lt⟩

set_option maxRecDepth 100000 in
set_option maxHeartbeats 4000000 in
theorem hrNew {d : ByteArray} {St : Nat → RefS} {n : Nat} (w : World) (room : Int) (hc : Chain d St n) (hd : d.size ≤ 1048576) (h0 : 0 ≤ room) (h1 : room ≤ 500) :
    Calls Try.prog 30 #[.string d, .int .i64 room] w fun e w' =>
      ∃ H F, e = .returned (.tuple #[.pointer (some ⟨H, 0, none⟩), .int .i64 0]) ∧ PRc w' H F { St n with room := room } ((St n).done.map recOf) ∧ (∀ k, F k → w.heap.size ≤ k) ∧ Below w.heap.size w w' := by
  have HC : Hid (Chain d St n) := hc
  have HPN : Hid (PRc (w.alloc (.cells (newCells 500).toArray 96)) w.heap.size (fun k => k = w.heap.size) (St 0) []) := by rw [hc.first]; exact pr_new w 500
  have HBN : Hid (Below w.heap.size w (w.alloc (.cells (newCells 500).toArray 96))) := below_one _ _
  clear hc
  go_enter Try.func30, Try.ntmps30
  go_wp2_with fail
  refine (hrRedoAll HC.out hd HPN.out).mono ?_
  rintro e w1 ⟨rfl, F1, R1, hp, hu, hk⟩
  rw [List.nil_append] at hp
  obtain ⟨k0, kf, hH⟩ := hp.room_cell
  have HP : Hid (PRc w1 w.heap.size F1 (St n) R1) := hp
  have HU : Hid (Below w.heap.size w w1) := ⟨hu.os, hu.tape, hu.output, Nat.le_trans (by simp) hu.size, fun k hk => (hu.block k (by simp; omega) (by omega)).trans (heap_alloc_old w _ hk)⟩
  have HK : Hid (∀ k, F1 k → w.heap.size ≤ k) := fun k h => by
    rcases hk k h with h2 | h2
    · omega
    · simp at h2; omega
  clear hp hu hk
  go_wp2_with fail
  go_ret2
  obtain ⟨F2, hp2, hk2⟩ := HP.out.roomed room
  refine ⟨w.heap.size, F2, rfl, ?_, fun k h => ?_, HU.out.setCell (p := ⟨w.heap.size, 0, none⟩) (Nat.le_refl _) _⟩
  · rw [HP.out.recs_eq] at hp2
    exact hp2
  · rcases hk2 k h with h2 | h2
    · exact HK.out k h2
    · exact Nat.le_trans HU.out.size h2

theorem hrNewBad (w : World) (d : ByteArray) (room : Int) (h : room < 0 ∨ 500 < room) : Calls Try.prog 30 #[.string d, .int .i64 room] w fun e w' => e = .returned (.tuple #[.pointer none, .int .i64 1]) ∧ Below w.heap.size w w' := by
  by_cases h0 : room < 0
  all_goals
    go_enter Try.func30, Try.ntmps30
    go_wp2_with fail
    go_ret2
    exact ⟨rfl, Below.refl _ _⟩

theorem chain_nil : Chain ⟨#[]⟩ (fun _ => refNew 500) 0 :=
  ⟨rfl, fun i hi => by omega, fun i _ => good_new (by omega) (by omega), fun i hi => by simp [refNew]; omega, .inl (by show 0 < 42; omega)⟩

theorem PRc.lt {w : World} {H : Nat} {F : Nat → Prop} {S : RefS} {R : List ByteArray} {k : Nat} (h : PRc w H F S R) (hk : F k) : k < w.heap.size := by
  obtain ⟨x, fil, wait, hb, hF⟩ := h
  exact hb.rep.lt ((hF k).1 hk)

theorem PRc.recs {w : World} {H : Nat} {F : Nat → Prop} {S : RefS} {R : List ByteArray} (h : PRc w H F S R) : R.length = S.done.length ∧ (∀ r ∈ R, 0 < r.size) ∧ (cat R).size ≤ 1048576 := by
  obtain ⟨x, fil, wait, hb, hF⟩ := h
  exact ⟨by rw [hb.recs, List.length_map], fun r hr => by rw [hb.r42 r hr]; omega, hb.len⟩

theorem filP_eq {S : RefS} {fil : Nat → List ByteArray} {wait : List WaitD} (h : Lk S fil wait) (k : Int) : filP (lk S fil wait) k = filtersM S k := by
  cases hk : knownB k
  · unfold filP filtersM; rw [hk]; rfl
  · obtain ⟨n, rfl, hn⟩ := known_nat hk
    rw [h.filters hn]
    unfold filP; rw [hk]; rfl

/-- The program. -/
def theProg : Prog where
  PR := PRc
  lt := fun h hk => h.lt hk
  upd := fun h k hs => by
    obtain ⟨x, fil, wait, hb, hF⟩ := h
    exact ⟨x, fil, wait, hb.upd k (fun i hi => hs i ((hF i).2 hi)), hF⟩
  recs := fun h => h.recs
  newBad := fun w d room h => hrNewBad w d room h
  new0 := fun w room h0 h1 => (hrNew w room chain_nil (by show 0 ≤ _; omega) h0 h1).mono fun e w' h => h
  back := fun d k room hp hg hd h0 h1 => by
    obtain ⟨hc, hr, hs⟩ := chain_back hp hg hd
    refine (hrNew _ room hc hs h0 h1).mono ?_
    rintro e w' ⟨H1, F1, he, hp1, hk, hb⟩
    exact ⟨H1, F1, he, by rw [← hr]; exact hp1, hk, hb⟩
  sub := fun a b c d s hp hg hs => hrSubscribe a b c d s hp hg hs
  unsub := fun a b c d s hp hg hs => hrUnsubscribe a b c d s hp hg hs
  publish := fun a b c d s hp hg hs => hrPublish a b c d s hp hg hs
  cancel := fun a b c d s hp hg => hrCancel a b c d s hp hg
  move := fun a b c d s hp hg => hrMove a b c d s hp hg
  tick := fun a b c d s hp hg => hrTick a b c d s hp hg
  ack := fun a b c d s hp hg => hrAck a b c d s hp hg
  time := fun hp _ => by
    obtain ⟨x, fil, wait, hb, hF⟩ := hp
    refine (hrTime _ x _ _ _ hb.rep).mono ?_
    rintro e w' ⟨rfl, rfl⟩
    exact ⟨rfl, Below.refl _ _⟩
  filters := fun k hp hg => by
    obtain ⟨x, fil, wait, hb, hF⟩ := hp
    refine (hrFilters _ x _ _ k _ hb.rep (fun n hn => ?_)).mono ?_
    · exact Nat.le_trans (Nat.le_of_eq (hb.lk.filP n hn).length_eq) (Nat.le_trans (hg.inv.fil n hn).1 (by omega))
    rintro e w' ⟨v, rfl, ho, hbw⟩
    refine ⟨v, rfl, ?_, hbw⟩
    rw [← filP_eq hb.lk k]
    exact ho
  queue := fun k hp hg => by
    obtain ⟨x, fil, wait, hb, hF⟩ := hp
    refine (hrQueue _ x _ _ k _ hb.rep hg.inv.time0 hg.inv.time1 (fun n hn => ?_)).mono ?_
    · exact ⟨Nat.le_trans (hg.inv.que n hn).1 (by omega), (hg.inv.que n hn).2⟩
    rintro e w' ⟨v, rfl, ho, hbw⟩
    exact ⟨v, rfl, ho, hbw⟩
  lost := fun k hp _ => by
    obtain ⟨x, fil, wait, hb, hF⟩ := hp
    refine (hrLost _ x _ _ k _ hb.rep).mono ?_
    rintro e w' ⟨rfl, rfl⟩
    exact ⟨rfl, Below.refl _ _⟩
  waiting := fun hp hg => by
    obtain ⟨x, fil, wait, hb, hF⟩ := hp
    refine (hrWaiting _ x _ _ _ hb.rep ?_).mono ?_
    · show wait.length ≤ _
      rw [hb.lk.waitP.length_eq]; exact Nat.le_trans hg.inv.wait.1 (by omega)
    rintro e w' ⟨v, rfl, ho, hbw⟩
    refine ⟨v, rfl, ?_, hbw⟩
    rw [hb.lk.waiting]
    exact ho
  records := fun hp _ => by
    have hlen := hp.recs.1
    obtain ⟨x, fil, wait, hb, hF⟩ := hp
    refine (hrRecords _ x _ _ _ hb.rep hb.len).mono ?_
    rintro e w' ⟨rfl, rfl⟩
    exact ⟨ret_int (by rw [hb.size, hlen]; omega), Below.refl _ _⟩
  disk := fun hp _ => by
    obtain ⟨x, fil, wait, hb, hF⟩ := hp
    refine (hrDisk _ x _ _ _ hb.rep).mono ?_
    rintro e w' ⟨rfl, rfl⟩
    exact ⟨rfl, Below.refl _ _⟩
end Go.Proofs.Ytmjdndhfmfjbiab

/-
  PLAIN MATHEMATICS: texts that are built word by word are paths.
-/
namespace Go.Proofs.Ytmjdndhfmfjbiab.M

theorem split_snoc (l x : List UInt8) : splitL (l ++ 47 :: x) = splitL l ++ splitL x := by
  induction l with
  | nil => simp [splitL]
  | cons c l ih =>
    rw [List.cons_append, splitL, splitL, ih]
    split
    · rfl
    · cases h : splitL l with
      | nil => exact absurd h (splitL_ne l)
      | cons a t => simp

theorem word_no47 {x : List UInt8} (h : isWordL x = true) : (47 : UInt8) ∉ x := by
  intro hm
  simp only [isWordL, Bool.and_eq_true, List.all_eq_true] at h
  have := h.1 47 hm
  revert this; decide

theorem word_len {x : List UInt8} (h : isWordL x = true) : 1 ≤ x.length ∧ x.length ≤ 3 := by
  simp only [isWordL, Bool.and_eq_true, decide_eq_true_eq] at h
  exact h.2

/-- A word, or the sign for any one. -/
def okW (a : List UInt8) : Bool := isWordL a || (a == [43])

theorem okW_split {x : List UInt8} (h : okW x = true) : splitL x = [x] ∧ x.length ≤ 3 := by
  simp only [okW, Bool.or_eq_true] at h
  rcases h with h | h
  · exact ⟨split_none (word_no47 h), (word_len h).2⟩
  · have : x = [43] := by simpa using h
    subst this; exact ⟨by decide, by decide⟩

/-- k words, each as p allows, with strokes between. -/
def Built (p : List UInt8 → Bool) (k : Nat) (l : List UInt8) : Prop := 1 ≤ k ∧ (splitL l).length = k ∧ (splitL l).all p = true ∧ l.length + 1 ≤ 4 * k

theorem built_one {p : List UInt8 → Bool} {x : List UInt8} (hs : splitL x = [x]) (hl : x.length ≤ 3) (hp : p x = true) : Built p 1 x :=
  ⟨Nat.le_refl _, by rw [hs]; rfl, by rw [hs]; simp [hp], by omega⟩

theorem built_snoc {p : List UInt8 → Bool} {k : Nat} {l x : List UInt8} (h : Built p k l) (hs : splitL x = [x]) (hl : x.length ≤ 3) (hp : p x = true) : Built p (k + 1) (l ++ 47 :: x) := by
  obtain ⟨h1, h2, h3, h4⟩ := h
  refine ⟨by omega, by rw [split_snoc, hs]; simp [h2], by rw [split_snoc, hs]; simp [h3, hp], by simp; omega⟩

theorem parts_words {wild : Bool} (ws : List (List UInt8)) (h : ws.all isWordL = true) : partsL wild ws = true := by
  induction ws with
  | nil => rfl
  | cons a l ih =>
    simp only [List.all_cons, Bool.and_eq_true] at h
    simp [partsL, partL, h.1, ih h.2]

theorem parts_ok (ws : List (List UInt8)) (h : ws.all okW = true) : partsL true ws = true ∧ partsL true (ws ++ [[35]]) = true := by
  induction ws with
  | nil => decide
  | cons a l ih =>
    simp only [List.all_cons, Bool.and_eq_true] at h
    obtain ⟨i1, i2⟩ := ih h.2
    have ha : ∀ last, partL true last a = true := by
      intro last
      have := h.1
      simp only [okW, Bool.or_eq_true] at this
      simp only [partL, Bool.or_eq_true, Bool.and_eq_true]
      rcases this with t | t
      · exact .inl t
      · exact .inr ⟨trivial, .inl t⟩
    rw [List.cons_append, partsL, partsL, ha, ha, i1, i2]
    exact ⟨rfl, rfl⟩

theorem built_topic {k : Nat} {l : List UInt8} (h : Built isWordL k l) (hk : k ≤ 4) : isPathL false l = true := by
  obtain ⟨h1, h2, h3, h4⟩ := h
  simp only [isPathL, Bool.and_eq_true, decide_eq_true_eq]
  exact ⟨⟨by omega, by omega⟩, parts_words _ h3⟩

theorem built_filter {k : Nat} {l : List UInt8} (h : Built okW k l) (hk : k ≤ 4) : isPathL true l = true := by
  obtain ⟨h1, h2, h3, h4⟩ := h
  simp only [isPathL, Bool.and_eq_true, decide_eq_true_eq]
  exact ⟨⟨by omega, by omega⟩, (parts_ok _ h3).1⟩

theorem built_hash {k : Nat} {l : List UInt8} (h : Built okW k l) (hk : k ≤ 3) : isPathL true (l ++ 47 :: [35]) = true := by
  obtain ⟨h1, h2, h3, h4⟩ := h
  simp only [isPathL, Bool.and_eq_true, decide_eq_true_eq, split_snoc]
  have e : splitL [35] = [[35]] := by decide
  rw [e]
  exact ⟨⟨by simp; omega, by simp; omega⟩, (parts_ok _ h3).2⟩

theorem built_ne {k : Nat} {l : List UInt8} (h : Built okW k l) : l.isEmpty = false := by
  obtain ⟨h1, h2, h3, h4⟩ := h
  cases l with
  | nil => revert h3; decide
  | cons _ _ => rfl

theorem L_app (a b : ByteArray) : L (a ++ b) = L a ++ L b := by simp [L]

/-- What the loop of 'filter' holds. -/
def FInv (k : Nat) (s : ByteArray) : Prop := s.size ≤ 15 ∧ ((k = 0 ∧ L s = []) ∨ Built okW k (L s))

theorem finv_size {k : Nat} {l : List UInt8} (h : Built okW k l) (hk : k ≤ 4) : l.length ≤ 15 := by have := h.2.2.2; omega

theorem finv_zero {s x : ByteArray} (h : FInv 0 s) (hx : okW (L x) = true) : FInv 1 (s ++ x) := by
  have hs := okW_split hx
  rcases h.2 with ⟨-, h⟩ | h
  · have hb := built_one hs.1 hs.2 hx
    refine ⟨by rw [← L_len, L_app, h, List.nil_append]; exact finv_size hb (by omega), .inr (by rw [L_app, h, List.nil_append]; exact hb)⟩
  · exact absurd h.1 (by omega)

theorem finv_succ {k : Nat} {s x : ByteArray} (h : FInv k s) (hk : 0 < k) (hk4 : k < 4) (hx : okW (L x) = true) : FInv (k + 1) (s ++ ⟨#[47]⟩ ++ x) := by
  have hs := okW_split hx
  rcases h.2 with ⟨h0, -⟩ | h
  · omega
  · have hb := built_snoc h hs.1 hs.2 hx
    have e : L (s ++ ⟨#[47]⟩ ++ x) = L s ++ 47 :: L x := by rw [L_app, L_app, List.append_assoc]; rfl
    exact ⟨by rw [← L_len, e]; exact finv_size hb (by omega), .inr (by rw [e]; exact hb)⟩

theorem finv_hash0 {s : ByteArray} (h : FInv 0 s) : isPathM true (s ++ ⟨#[35]⟩) = true := by
  rw [isPath_L, L_app]
  rcases h.2 with ⟨-, h⟩ | h
  · rw [h]; decide
  · exact absurd h.1 (by omega)

theorem finv_hash {k : Nat} {s : ByteArray} (h : FInv k s) (hk : 0 < k) (hk4 : k < 4) : isPathM true (s ++ ⟨#[47]⟩ ++ ⟨#[35]⟩) = true := by
  rw [isPath_L, L_app, L_app]
  rcases h.2 with ⟨h0, -⟩ | h
  · omega
  · rw [List.append_assoc]; exact built_hash h (by omega)

theorem finv_end {k : Nat} {s : ByteArray} (h : FInv k s) (hk4 : k ≤ 4) : (s.toList.isEmpty = true ∨ (s.toList.isEmpty = false ∧ isPathM true s = true)) := by
  rw [L_toList]
  rcases h.2 with ⟨-, h⟩ | h
  · rw [h]; exact .inl rfl
  · exact .inr ⟨built_ne h, by rw [isPath_L]; exact built_filter h hk4⟩

/-- What the loop of 'topic' holds. -/
def TInv (k : Nat) (s : ByteArray) : Prop := s.size ≤ 15 ∧ Built isWordL k (L s)
theorem tinv_one {x : ByteArray} (hx : isWordL (L x) = true) : TInv 1 x := by
  have hb := built_one (p := isWordL) (split_none (word_no47 hx)) (word_len hx).2 hx
  exact ⟨by rw [← L_len]; have := hb.2.2.2; omega, hb⟩
theorem tinv_succ {k : Nat} {s x : ByteArray} (h : TInv k s) (hk4 : k < 4) (hx : isWordL (L x) = true) : TInv (k + 1) (s ++ ⟨#[47]⟩ ++ x) := by
  have hb := built_snoc h.2 (split_none (word_no47 hx)) (word_len hx).2 hx
  have e : L (s ++ ⟨#[47]⟩ ++ x) = L s ++ 47 :: L x := by rw [L_app, L_app, List.append_assoc]; rfl
  exact ⟨by rw [← L_len, e]; have := hb.2.2.2; omega, by rw [e]; exact hb⟩
theorem tinv_end {k : Nat} {s : ByteArray} (h : TInv k s) (hk4 : k ≤ 4) : isPathM false s = true := by
  rw [isPath_L]; exact built_topic h.2 hk4

end Go.Proofs.Ytmjdndhfmfjbiab.M

/-
  PLAIN MATHEMATICS: what Fits answers of a filter and a topic cut at their first strokes.
-/
namespace Go.Proofs.Ytmjdndhfmfjbiab.M

/-- What Fits answers, and its error. -/
def fitsM (f t : ByteArray) : Bool := isPathM true f && isPathM false t && alongM (wordsM f) (wordsM t)
def fitsE (f t : ByteArray) : Int := if isPathM true f then (if isPathM false t then 0 else 3) else 4

theorem fits_ok {f t : ByteArray} (hf : isPathL true (L f) = true) (ht : isPathL false (L t) = true) : fitsE f t = 0 ∧ fitsM f t = alongL (splitL (L f)) (splitL (L t)) := by
  unfold fitsE fitsM
  rw [isPath_L, isPath_L, hf, ht, along_L, words_L, words_L]
  simp

/-- No stroke stands in it. -/
def Plain (s : ByteArray) : Prop := (47 : UInt8) ∉ L s
/-- The first stroke stands at k. -/
def CutAt (s : ByteArray) (k : Nat) : Prop := k < s.size ∧ L s = (L s).take k ++ 47 :: (L s).drop (k + 1) ∧ (47 : UInt8) ∉ (L s).take k

theorem L_left (s : ByteArray) (k : Nat) : L (s.extract 0 k) = (L s).take k := by rw [L_extract]; simp
theorem L_right (s : ByteArray) (k : Nat) : L (s.extract (k + 1) s.size) = (L s).drop (k + 1) := by
  rw [L_extract, List.take_of_length_le (by rw [L_len]; exact Nat.le_refl _)]

theorem lev_self {t : ByteArray} (ht : isPathM false t = true) : fitsE t t = 0 ∧ fitsM t t = true := by
  rw [isPath_L] at ht
  obtain ⟨h1, h2⟩ := fits_ok (path_wild ht) ht
  exact ⟨h1, by rw [h2, along_self]⟩

theorem lev_hash {t : ByteArray} (ht : isPathM false t = true) : fitsE ⟨#[35]⟩ t = 0 ∧ fitsM ⟨#[35]⟩ t = true := by
  rw [isPath_L] at ht
  obtain ⟨h1, h2⟩ := fits_ok (f := ⟨#[35]⟩) (by decide) ht
  refine ⟨h1, ?_⟩
  rw [h2]
  have e : splitL (L ⟨#[35]⟩) = [[35]] := by decide
  rw [e]
  cases h : splitL (L t) with
  | nil => rfl
  | cons _ _ => rfl

theorem lev_one {f t : ByteArray} (hf : isPathM true f = true) (ht : isPathM false t = true) (hn : Plain f) (h35 : (f.toList == [35]) = false) (hp : Plain t) :
    fitsE f t = 0 ∧ fitsM f t = ((f.toList == [43]) || (f.toList == t.toList)) := by
  rw [isPath_L] at hf ht
  rw [L_toList] at h35 ⊢
  rw [L_toList]
  obtain ⟨h1, h2⟩ := fits_ok hf ht
  exact ⟨h1, by rw [h2, split_none hn, split_none hp, alongL, h35]; simp [alongL]⟩

theorem lev_one_cut {f t : ByteArray} {j : Nat} (hf : isPathM true f = true) (ht : isPathM false t = true) (hn : Plain f) (h35 : (f.toList == [35]) = false) (hp : CutAt t j) :
    fitsE f t = 0 ∧ fitsM f t = false := by
  rw [isPath_L] at hf ht
  rw [L_toList] at h35
  obtain ⟨h1, h2⟩ := fits_ok hf ht
  refine ⟨h1, ?_⟩
  obtain ⟨-, e, hq⟩ := hp
  rw [h2, split_none hn, e, split_cons hq, alongL, h35]
  cases h : splitL ((L t).drop (j + 1)) with
  | nil => exact absurd h (splitL_ne _)
  | cons _ _ => simp [alongL]

theorem lev_cut_one {f t : ByteArray} {i : Nat} (hf : isPathM true f = true) (ht : isPathM false t = true) (hn : CutAt f i) (hp : Plain t) :
    fitsE (f.extract 0 i) t = 0 ∧ fitsE f t = 0 ∧ fitsM f t = (fitsM (f.extract 0 i) t && ((f.extract (i + 1) f.size).toList == [35])) := by
  rw [isPath_L] at hf ht
  rw [L_toList, L_right]
  obtain ⟨-, e, hq⟩ := hn
  have hf' := hf
  rw [e] at hf'
  obtain ⟨p1, p2, p3, p4, p5⟩ := path_cut hq hf'
  obtain ⟨h1, h2⟩ := fits_ok hf ht
  obtain ⟨h3, h4⟩ := fits_ok (f := f.extract 0 i) (by rw [L_left]; exact p1) ht
  refine ⟨h3, h1, ?_⟩
  rw [h2, h4, L_left, p5]
  have e2 : splitL (L f) = (L f).take i :: splitL ((L f).drop (i + 1)) := (congrArg splitL e).trans p4
  rw [e2, split_none hp, alongL, alongL, p3, head_hash p2]
  simp [alongL]

theorem lev_cut_cut {f t : ByteArray} {i j : Nat} (hf : isPathM true f = true) (ht : isPathM false t = true) (hn : CutAt f i) (hp : CutAt t j) :
    fitsE (f.extract 0 i) (t.extract 0 j) = 0 ∧ fitsE (f.extract (i + 1) f.size) (t.extract (j + 1) t.size) = 0 ∧ fitsE f t = 0 ∧
      fitsM f t = (fitsM (f.extract 0 i) (t.extract 0 j) && fitsM (f.extract (i + 1) f.size) (t.extract (j + 1) t.size)) := by
  rw [isPath_L] at hf ht
  obtain ⟨-, e, hq⟩ := hn
  obtain ⟨-, d, hr⟩ := hp
  have hf' := hf
  rw [e] at hf'
  have ht' := ht
  rw [d] at ht'
  obtain ⟨p1, p2, p3, p4, p5⟩ := path_cut hq hf'
  obtain ⟨q1, q2, -, q4, q5⟩ := path_cut hr ht'
  obtain ⟨h1, h2⟩ := fits_ok hf ht
  obtain ⟨h3, h4⟩ := fits_ok (f := f.extract 0 i) (t := t.extract 0 j) (by rw [L_left]; exact p1) (by rw [L_left]; exact q1)
  obtain ⟨h5, h6⟩ := fits_ok (f := f.extract (i + 1) f.size) (t := t.extract (j + 1) t.size) (by rw [L_right]; exact p2) (by rw [L_right]; exact q2)
  refine ⟨h3, h5, h1, ?_⟩
  rw [h2, h4, h6, L_left, L_left, L_right, L_right, p5, q5]
  have e2 : splitL (L f) = (L f).take i :: splitL ((L f).drop (i + 1)) := (congrArg splitL e).trans p4
  have d2 : splitL (L t) = (L t).take j :: splitL ((L t).drop (j + 1)) := (congrArg splitL d).trans q4
  rw [e2, d2, alongL, alongL, p3]
  simp [alongL]

end Go.Proofs.Ytmjdndhfmfjbiab.M

namespace Go.Proofs.Ytmjdndhfmfjbiab
open Go.RowKit Go.ChangeShapes Go.WideShapes Go.ChangeAt
open Go.ChangeMaps (open_string shut_string)


theorem topIsFilter (s : ByteArray) (w : World) (hs : s.size ≤ maxLen) :
    Calls Try.prog 47 #[.string s] w fun e w' => e = .returned (.bool (M.isPathM true s)) ∧ Below w.heap.size w w' := by
  go_enter Try.func47, Try.ntmps47
  go_wp2_with fail
  refine (topIsPath s true _ hs).mono ?_
  rintro e w1 ⟨rfl, hb⟩
  go_wp2_with fail
  go_ret
  exact ⟨rfl, hb⟩

theorem topIsTopic (s : ByteArray) (w : World) (hs : s.size ≤ maxLen) :
    Calls Try.prog 55 #[.string s] w fun e w' => e = .returned (.bool (M.isPathM false s)) ∧ Below w.heap.size w w' := by
  go_enter Try.func55, Try.ntmps55
  go_wp2_with fail
  refine (topIsPath s false _ hs).mono ?_
  rintro e w1 ⟨rfl, hb⟩
  go_wp2_with fail
  go_ret
  exact ⟨rfl, hb⟩

theorem isPathM_size {wild : Bool} {s : ByteArray} (h : M.isPathM wild s = true) : s.size ≤ 15 := by
  simp [M.isPathM] at h
  exact h.1.1

/-- The program's Fits, at every two texts. -/
theorem heraldFits (f t : ByteArray) (w : World) (hf : f.size ≤ maxLen) (ht : t.size ≤ maxLen) :
    Calls Try.prog 40 #[.string f, .string t] w fun e w' => e = .returned (.tuple #[.bool (M.fitsM f t), .int .i64 (M.fitsE f t)]) ∧ Below w.heap.size w w' := by
  cases h1 : M.isPathM true f
  · have HV : Hid (M.fitsM f t = false ∧ M.fitsE f t = 4) := by simp [M.fitsM, M.fitsE, h1, Hid]
    go_enter Try.func40, Try.ntmps40
    go_wp2_with fail
    refine (topIsFilter f _ hf).mono ?_
    rintro e w1 ⟨rfl, hb⟩
    go_wp2_with fail
    go_ret2
    exact ⟨by rw [HV.out.1, HV.out.2]; rfl, hb⟩
  · have HS1 := isPathM_size h1
    cases h2 : M.isPathM false t
    · have HV : Hid (M.fitsM f t = false ∧ M.fitsE f t = 3) := by simp [M.fitsM, M.fitsE, h1, h2, Hid]
      go_enter Try.func40, Try.ntmps40
      go_wp2_with fail
      refine (topIsFilter f _ hf).mono ?_
      rintro e w1 ⟨rfl, hb⟩
      go_wp2_with fail
      refine (topIsTopic t _ ht).mono ?_
      rintro e w2 ⟨rfl, hb2⟩
      go_wp2_with fail
      go_ret2
      exact ⟨by rw [HV.out.1, HV.out.2]; rfl, hb.trans (hb2.mono hb.size)⟩
    · have HS2 := isPathM_size h2
      have HV : Hid (M.fitsM f t = M.alongM (M.wordsM f) (M.wordsM t) ∧ M.fitsE f t = 0) := by simp [M.fitsM, M.fitsE, h1, h2, Hid]
      go_enter Try.func40, Try.ntmps40
      go_wp2_with fail
      refine (topIsFilter f _ hf).mono ?_
      rintro e w1 ⟨rfl, hb⟩
      go_wp2_with fail
      refine (topIsTopic t _ ht).mono ?_
      rintro e w2 ⟨rfl, hb2⟩
      go_wp2_with fail
      refine (topFits f t _ (by omega) (by omega)).mono ?_
      rintro e w3 ⟨rfl, hb3⟩
      have hb12 := hb.trans (hb2.mono hb.size)
      go_wp2_with fail
      go_ret2
      exact ⟨by rw [HV.out.1, HV.out.2]; rfl, hb12.trans (hb3.mono hb12.size)⟩

theorem arr2 {args : Array Value} {a b : Value} (h : args.toList = [a, b]) : args = #[a, b] := by cases args; simp only at h; rw [h]

theorem own : ownKnob Try.prog.godebug = none := by kernel_rfl

theorem short2 {H : Type} {s t : ByteArray} (hk : Rows.uptoSmall H [.lit (.string s.data.toList), .lit (.string t.data.toList)] = true) : s.size ≤ 1048576 ∧ t.size ≤ 1048576 := by
  have h : Rows.uptoBulkAll [DataW.lit (H := H) (.string s.data.toList), DataW.lit (H := H) (.string t.data.toList)] ≤ 1048576 := of_decide_eq_true hk
  simp only [Rows.uptoBulkAll, Rows.uptoBulk] at h
  have e : s.data.toList.length = s.size := by rw [Array.length_toList]; rfl
  have e' : t.data.toList.length = t.size := by rw [Array.length_toList]; rfl
  omega

end Go.Proofs.Ytmjdndhfmfjbiab

namespace Go.Proofs.Ytmjdndhfmfjbiab
open Go.RowKit

theorem word_ok (cs : List Int) (h1 : 1 ≤ cs.length) (h3 : cs.length ≤ 3) (h : ∀ c ∈ cs, 97 ≤ c ∧ c ≤ 122) : M.isWordL (M.L ⟨(cs.map fun n => UInt8.ofNat n.toNat).toArray⟩) = true := by
  simp only [M.isWordL, M.L, List.length_map, h1, h3, decide_true, Bool.and_true, List.all_map, List.all_eq_true]
  intro c hc
  obtain ⟨a, b⟩ := h c hc
  have e : (UInt8.ofNat c.toNat).toNat = c.toNat := by
    rw [UInt8.toNat_ofNat']; omega
  simp only [Function.comp, M.letterU, M.letterB, e, Bool.and_eq_true, decide_eq_true_eq]
  omega

set_option maxRecDepth 100000 in
set_option maxHeartbeats 1000000 in
theorem keepWord1 (b : Int) (w : World) (h0 : 0 ≤ b) (h1 : b ≤ 255) (hn : b / 9 % 3 = 0) :
    Calls Try.prog 45 #[.int .i64 b] w fun e w' => (∃ x, e = .returned (.string x) ∧ M.isWordL (M.L x) = true) ∧ Below w.heap.size w w' := by
  have hmk : ∀ w : World, (Instr.makeSlice 63 (.int .i64 1) (.int .i64 1)).run Try.prog w = .ok (.slice (some ⟨w.heap.size, 0, none⟩) 1 1) (w.alloc (.cells #[(.int .u8 0)] 5)) := fun w => by kernel_rfl
  have hcv := conv_new w [97 + b % 3]
  simp only [List.length_cons, List.length_nil, List.map_cons, List.map_nil, Nat.zero_add] at hcv
  go_enter Try.func45, Try.ntmps45
  go_wp2_with fail
  refine wp_loop_rounds 2 ?_
  rw [rounds_succ]
  go_wp2_with fail
  rw [rounds_succ]
  go_wp2_with fail
  go_ret
  exact ⟨⟨_, rfl, word_ok [97 + b % 3] (by simp) (by simp) (by simp; omega)⟩, (Below.refl _ _).alloc (Nat.le_refl _) _⟩

set_option maxRecDepth 100000 in
set_option maxHeartbeats 1000000 in
theorem keepWord2 (b : Int) (w : World) (h0 : 0 ≤ b) (h1 : b ≤ 255) (hn : b / 9 % 3 = 1) :
    Calls Try.prog 45 #[.int .i64 b] w fun e w' => (∃ x, e = .returned (.string x) ∧ M.isWordL (M.L x) = true) ∧ Below w.heap.size w w' := by
  have hmk : ∀ w : World, (Instr.makeSlice 63 (.int .i64 2) (.int .i64 2)).run Try.prog w = .ok (.slice (some ⟨w.heap.size, 0, none⟩) 2 2) (w.alloc (.cells #[(.int .u8 0), (.int .u8 0)] 5)) := fun w => by kernel_rfl
  have hcv := conv_new w [97 + b % 3, 97 + (b + b / 3) % 3]
  simp only [List.length_cons, List.length_nil, List.map_cons, List.map_nil, Nat.zero_add, Nat.reduceAdd] at hcv
  go_enter Try.func45, Try.ntmps45
  go_wp2_with fail
  refine wp_loop_rounds 3 ?_
  rw [rounds_succ]
  go_wp2_with fail
  rw [rounds_succ]
  go_wp2_with fail
  rw [rounds_succ]
  go_wp2_with fail
  go_ret
  exact ⟨⟨_, rfl, word_ok [97 + b % 3, 97 + (b + b / 3) % 3] (by simp) (by simp) (by simp; omega)⟩, (Below.refl _ _).alloc (Nat.le_refl _) _⟩

set_option maxRecDepth 100000 in
set_option maxHeartbeats 1000000 in
theorem keepWord3 (b : Int) (w : World) (h0 : 0 ≤ b) (h1 : b ≤ 255) (hn : b / 9 % 3 = 2) :
    Calls Try.prog 45 #[.int .i64 b] w fun e w' => (∃ x, e = .returned (.string x) ∧ M.isWordL (M.L x) = true) ∧ Below w.heap.size w w' := by
  have hmk : ∀ w : World, (Instr.makeSlice 63 (.int .i64 3) (.int .i64 3)).run Try.prog w = .ok (.slice (some ⟨w.heap.size, 0, none⟩) 3 3) (w.alloc (.cells #[(.int .u8 0), (.int .u8 0), (.int .u8 0)] 5)) := fun w => by kernel_rfl
  have hcv := conv_new w [97 + b % 3, 97 + (b + b / 3) % 3, 97 + (b + 2 * (b / 3)) % 3]
  simp only [List.length_cons, List.length_nil, List.map_cons, List.map_nil, Nat.zero_add, Nat.reduceAdd] at hcv
  go_enter Try.func45, Try.ntmps45
  go_wp2_with fail
  refine wp_loop_rounds 4 ?_
  rw [rounds_succ]
  go_wp2_with fail
  rw [rounds_succ]
  go_wp2_with fail
  rw [rounds_succ]
  go_wp2_with fail
  rw [rounds_succ]
  go_wp2_with fail
  go_ret
  exact ⟨⟨_, rfl, word_ok [97 + b % 3, 97 + (b + b / 3) % 3, 97 + (b + 2 * (b / 3)) % 3] (by simp) (by simp) (by simp; omega)⟩, (Below.refl _ _).alloc (Nat.le_refl _) _⟩

theorem keepWord (b : Int) (w : World) (h0 : 0 ≤ b) (h1 : b ≤ 255) :
    Calls Try.prog 45 #[.int .i64 b] w fun e w' => (∃ x, e = .returned (.string x) ∧ M.isWordL (M.L x) = true) ∧ Below w.heap.size w w' := by
  rcases (show b / 9 % 3 = 0 ∨ b / 9 % 3 = 1 ∨ b / 9 % 3 = 2 from by omega) with h | h | h
  · exact keepWord1 b w h0 h1 h
  · exact keepWord2 b w h0 h1 h
  · exact keepWord3 b w h0 h1 h
end Go.Proofs.Ytmjdndhfmfjbiab

namespace Go.Proofs.Ytmjdndhfmfjbiab
open Go.RowKit

theorem word_size {x : ByteArray} (h : M.isWordL (M.L x) = true) : x.size ≤ 3 := by rw [← M.L_len]; exact (M.word_len h).2

set_option maxRecDepth 100000 in
set_option maxHeartbeats 1000000 in
theorem keepTopic (s : ByteArray) (w : World) (hs : s.size ≤ maxLen) :
    Calls Try.prog 10 #[.string s] w fun e w' => (∃ x, e = .returned (.string x) ∧ M.isPathM false x = true) ∧ Below w.heap.size w w' := by
  unfold maxLen at hs
  cases h0 : s.toList.isEmpty
  · have hp : 0 < s.size := by
      rw [M.L_toList] at h0
      rw [← M.L_len]
      cases hl : M.L s with
      | nil => rw [hl] at h0; cases h0
      | cons _ _ => simp
    have hby := (s[0]'hp).toNat_lt
    go_enter Try.func10, Try.ntmps10
    go_wp2_with fail
    refine (keepWord _ _ (by omega) (by omega)).mono ?_
    rintro e w1 ⟨⟨x, rfl, hx⟩, hb1⟩
    go_wp2_with fail
    go_loopw [3, 4] (fun v i wr => ∃ (k : Nat) (x : ByteArray), 1 ≤ k ∧ k ≤ 4 ∧ k ≤ s.size ∧ i = .int .i64 k ∧ v = .string x ∧ M.TInv k x ∧ Below w.heap.size w wr) (fun _ i _ => s.size - (intOf i).toNat)
    case atStart => exact ⟨1, x, by omega, by omega, by omega, rfl, rfl, M.tinv_one hx, hb1⟩
    case round =>
      obtain ⟨k, y, hk1, hk4, hks, rfl, rfl, hy, hbr⟩ := hrel
      have HY : Hid (M.TInv k y) := hy
      have hyz := hy.1
      clear hy hx hb1
      by_cases hlt : k < s.size
      · by_cases hl4 : k < 4
        · have hby := (s[k]'hlt).toNat_lt
          go_wp2_with (go_at_call 45; refine (keepWord _ _ (by omega) (by omega)).mono ?_; rintro e w2 ⟨⟨z, rfl, hz⟩, hb2⟩; have hzz := word_size hz)
          go_roundw
          case rel => exact ⟨k + 1, _, by omega, by omega, by omega, by go_num, rfl, M.tinv_succ HY.out hl4 (by assumption), hbr.trans ((by assumption : Below wr.heap.size wr _).mono hbr.size)⟩
          case measure => simp [intOf]; omega
        · go_wp2_with fail
          go_ret
          exact ⟨⟨_, rfl, M.tinv_end HY.out hk4⟩, hbr⟩
      · go_wp2_with fail
        go_ret
        exact ⟨⟨_, rfl, M.tinv_end HY.out hk4⟩, hbr⟩
  · go_enter Try.func10, Try.ntmps10
    go_wp2_with fail
    go_ret
    exact ⟨⟨_, rfl, by rw [M.isPath_L]; decide⟩, Below.refl _ _⟩

theorem byte_le (c : UInt8) : (c.toNat : Int) ≤ 255 := by have := c.toNat_lt; omega

theorem okW_word {x : ByteArray} (h : M.isWordL (M.L x) = true) : M.okW (M.L x) = true := by simp [M.okW, h]
theorem hash_path : M.isPathM true ⟨#[35]⟩ = true := by rw [M.isPath_L]; decide
theorem plus_ok : M.okW (M.L ⟨#[43]⟩) = true := by decide

set_option maxRecDepth 100000 in
set_option maxHeartbeats 2000000 in
theorem keepFilter (s : ByteArray) (w : World) (hs : s.size ≤ maxLen) :
    Calls Try.prog 72 #[.string s] w fun e w' => (∃ x, e = .returned (.string x) ∧ M.isPathM true x = true) ∧ Below w.heap.size w w' := by
  unfold maxLen at hs
  go_enter Try.func72, Try.ntmps72
  go_wp2_with fail
  go_loopw [3, 4] (fun v i wr => ∃ (k : Nat) (x : ByteArray), k ≤ 4 ∧ k ≤ s.size ∧ i = .int .i64 k ∧ v = .string x ∧ M.FInv k x ∧ Below w.heap.size w wr) (fun _ i _ => s.size - (intOf i).toNat)
  case atStart => exact ⟨0, _, by omega, by omega, rfl, rfl, ⟨by decide, .inl ⟨rfl, rfl⟩⟩, Below.refl _ _⟩
  case round =>
    obtain ⟨k, y, hk4, hks, rfl, rfl, hy, hbr⟩ := hrel
    have HY : Hid (M.FInv k y) := hy
    have hyz := hy.1
    clear hy
    by_cases hlt : k < s.size
    · by_cases hl4 : k < 4
      · have hby := (s[k]'hlt).toNat_lt
        generalize hcc : (((s[k]'hlt).toNat : Nat) : Int) = c
        by_cases hk0 : 0 < k
        · go_wp2_with (go_at_call 45; refine (keepWord _ _ (by omega) (by omega)).mono ?_; rintro e w2 ⟨⟨z, rfl, hz⟩, hb2⟩; have hzz := word_size hz)
          · go_roundw
            case rel => exact ⟨k + 1, _, by omega, by omega, by go_num, rfl, M.finv_succ HY.out hk0 hl4 plus_ok, hbr⟩
            case measure => simp [intOf]; omega
          · go_roundw
            case rel => exact ⟨k + 1, _, by omega, by omega, by go_num, rfl, M.finv_succ HY.out hk0 hl4 plus_ok, hbr⟩
            case measure => simp [intOf]; omega
          · go_ret
            exact ⟨⟨_, rfl, M.finv_hash HY.out hk0 hl4⟩, hbr⟩
          · go_roundw
            case rel => exact ⟨k + 1, _, by omega, by omega, by go_num, rfl, M.finv_succ HY.out hk0 hl4 (okW_word (by assumption)), hbr.trans ((by assumption : Below wr.heap.size wr _).mono hbr.size)⟩
            case measure => simp [intOf]; omega
        · obtain rfl : k = 0 := by omega
          go_wp2_with (go_at_call 45; refine (keepWord _ _ (by omega) (by omega)).mono ?_; rintro e w2 ⟨⟨z, rfl, hz⟩, hb2⟩; have hzz := word_size hz)
          · go_roundw
            case rel => exact ⟨1, _, by omega, by omega, by go_num, rfl, M.finv_zero HY.out plus_ok, hbr⟩
            case measure => simp [intOf]; omega
          · go_roundw
            case rel => exact ⟨1, _, by omega, by omega, by go_num, rfl, M.finv_zero HY.out plus_ok, hbr⟩
            case measure => simp [intOf]; omega
          · go_ret
            exact ⟨⟨_, rfl, M.finv_hash0 HY.out⟩, hbr⟩
          · go_roundw
            case rel => exact ⟨1, _, by omega, by omega, by go_num, rfl, M.finv_zero HY.out (okW_word (by assumption)), hbr.trans ((by assumption : Below wr.heap.size wr _).mono hbr.size)⟩
            case measure => simp [intOf]; omega
      · rcases M.finv_end HY.out hk4 with he | ⟨he, hp⟩
        all_goals
          go_wp2_with fail
          go_ret
        · exact ⟨⟨_, rfl, hash_path⟩, hbr⟩
        · exact ⟨⟨_, rfl, hp⟩, hbr⟩
    · rcases M.finv_end HY.out hk4 with he | ⟨he, hp⟩
      all_goals
        go_wp2_with fail
        go_ret
      · exact ⟨⟨_, rfl, hash_path⟩, hbr⟩
      · exact ⟨⟨_, rfl, hp⟩, hbr⟩
end Go.Proofs.Ytmjdndhfmfjbiab

/-
  heraldkeep's own helpers.
-/
namespace Go.Proofs.Ytmjdndhfmfjbiab
open Go.RowKit

theorem keepPick (c n : Int) (w : World) (h0 : -9223372036854775808 ≤ c) (h1 : c ≤ 9223372036854775807) (hn : 0 < n) (hn1 : n ≤ 9223372036854775807) :
    Calls Try.prog 18 #[.int .i64 c, .int .i64 n] w fun e w' => e = .returned (.int .i64 (pickM c n)) ∧ w' = w := by
  by_cases hc : c < 0
  · have HE : Hid (pickM c n = (-(c + 1)) % n) := by simp [Hid, pickM, hc]
    go_enter Try.func18, Try.ntmps18
    go_wp2
    all_goals go_ret
    all_goals exact ⟨ret_int (by rw [HE.out, ← Int.neg_tmod, Int.tmod_eq_emod_of_nonneg (by omega)]), rfl⟩
  · have HE : Hid (pickM c n = c % n) := by simp [Hid, pickM, hc]
    go_enter Try.func18, Try.ntmps18
    go_wp2
    all_goals go_ret
    all_goals exact ⟨ret_int (by rw [HE.out]), rfl⟩


set_option maxRecDepth 100000 in
set_option maxHeartbeats 1000000 in
/-- Two rows of the same texts. -/
theorem keepSameTexts (xs : List ByteArray) (a b : Option Addr) (c d : Nat) (w : World) (hl : xs.length ≤ 1048576) (ha : CellsAt w a (xs.map Value.string)) (hb : CellsAt w b (xs.map Value.string)) :
    Calls Try.prog 70 #[.slice a xs.length c, .slice b xs.length d] w fun e w' => e = .returned (.bool true) ∧ Below w.heap.size w w' := by
  have HA : Hid (CellsAt w a (xs.map Value.string)) := ha
  have HB : Hid (CellsAt w b (xs.map Value.string)) := hb
  clear ha hb
  go_enter Try.func70, Try.ntmps70
  go_wp2_with fail
  go_loopw [5] (fun i wr => ∃ k : Nat, k ≤ xs.length ∧ i = .int .i64 k ∧ ∃ n, wr = w.drewN n) (fun i _ => xs.length - (intOf i).toNat)
  case atStart => exact ⟨0, Nat.zero_le _, rfl, 0, rfl⟩
  case round =>
    obtain ⟨k, hk, rfl, n, rfl⟩ := hrel
    by_cases hlt : k < xs.length
    · obtain ⟨y, hy⟩ : ∃ y, xs[k]? = some y := ⟨_, List.getElem?_eq_getElem hlt⟩
      obtain ⟨g, rfl, hg⟩ := HA.out k _ (strs_get hy)
      obtain ⟨g', rfl, hg'⟩ := HB.out k _ (strs_get hy)
      clear hy
      go_wp2_with fail
      go_quiet (fail)
      go_wp2_with fail
      go_roundw
      case rel => exact ⟨k + 1, by omega, by go_num, _, rfl⟩
      case measure => simp [intOf]; omega
    · go_wp2_with fail
      go_ret
      exact ⟨rfl, below_drewN (Below.refl _ _)⟩


set_option maxRecDepth 100000 in
set_option maxHeartbeats 1000000 in
theorem keepSameMails (xs : List MailD) (a b : Option Addr) (c d : Nat) (w : World) (hl : xs.length ≤ 1048576) (ha : CellsAt w a (xs.flatMap mailCells)) (hb : CellsAt w b (xs.flatMap mailCells)) :
    Calls Try.prog 17 #[.slice a xs.length c, .slice b xs.length d] w fun e w' => e = .returned (.bool true) ∧ Below w.heap.size w w' := by
  have HA : Hid (CellsAt w a (xs.flatMap mailCells)) := ha
  have HB : Hid (CellsAt w b (xs.flatMap mailCells)) := hb
  clear ha hb
  go_enter Try.func17, Try.ntmps17
  go_wp2_with fail
  go_loopw [5] (fun i wr => ∃ k : Nat, k ≤ xs.length ∧ i = .int .i64 k ∧ ∃ n, wr = w.drewN n) (fun i _ => xs.length - (intOf i).toNat)
  case atStart => exact ⟨0, Nat.zero_le _, rfl, 0, rfl⟩
  case round =>
    obtain ⟨k, hk, rfl, n, rfl⟩ := hrel
    by_cases hlt : k < xs.length
    · obtain ⟨y, hy⟩ : ∃ y, xs[k]? = some y := ⟨_, List.getElem?_eq_getElem hlt⟩
      obtain ⟨g, rfl, hg, c0, c1, c2, c3, c4⟩ := mail_cells HA.out hy
      obtain ⟨g', rfl, hg', d0, d1, d2, d3, d4⟩ := mail_cells HB.out hy
      clear hy
      go_wp2_with fail
      go_quiet (fail)
      go_wp2_with fail
      go_roundw
      case rel => exact ⟨k + 1, by omega, by go_num, _, rfl⟩
      case measure => simp [intOf]; omega
    · go_wp2_with fail
      go_ret
      exact ⟨rfl, below_drewN (Below.refl _ _)⟩


set_option maxRecDepth 100000 in
set_option maxHeartbeats 1000000 in
theorem keepSameWaits (xs : List WaitD) (a b : Option Addr) (c d : Nat) (w : World) (hl : xs.length ≤ 1048576) (ha : CellsAt w a (xs.flatMap waitCells)) (hb : CellsAt w b (xs.flatMap waitCells)) :
    Calls Try.prog 27 #[.slice a xs.length c, .slice b xs.length d] w fun e w' => e = .returned (.bool true) ∧ Below w.heap.size w w' := by
  have HA : Hid (CellsAt w a (xs.flatMap waitCells)) := ha
  have HB : Hid (CellsAt w b (xs.flatMap waitCells)) := hb
  clear ha hb
  go_enter Try.func27, Try.ntmps27
  go_wp2_with fail
  go_loopw [5] (fun i wr => ∃ k : Nat, k ≤ xs.length ∧ i = .int .i64 k ∧ ∃ n, wr = w.drewN n) (fun i _ => xs.length - (intOf i).toNat)
  case atStart => exact ⟨0, Nat.zero_le _, rfl, 0, rfl⟩
  case round =>
    obtain ⟨k, hk, rfl, n, rfl⟩ := hrel
    by_cases hlt : k < xs.length
    · obtain ⟨y, hy⟩ : ∃ y, xs[k]? = some y := ⟨_, List.getElem?_eq_getElem hlt⟩
      obtain ⟨g, rfl, hg, c0, c1, c2, c3, c4⟩ := wait_cells HA.out hy
      obtain ⟨g', rfl, hg', d0, d1, d2, d3, d4⟩ := wait_cells HB.out hy
      clear hy
      go_wp2_with fail
      go_quiet (fail)
      go_wp2_with fail
      go_roundw
      case rel => exact ⟨k + 1, by omega, by go_num, _, rfl⟩
      case measure => simp [intOf]; omega
    · go_wp2_with fail
      go_ret
      exact ⟨rfl, below_drewN (Below.refl _ _)⟩


set_option maxRecDepth 100000 in
theorem keepLater (t d : Int) (w : World) (h0 : 0 ≤ t) (h1 : t ≤ 1099511627776) (h2 : 0 ≤ d) (h3 : d ≤ 1099511627776) :
    Calls Try.prog 24 #[.int .i64 t, .int .i64 d] w fun e w' => e = .returned (.int .i64 (laterM t d)) ∧ w' = w := by
  by_cases hgt : 1099511627776 < t + d
  · have HE : Hid (laterM t d = 1099511627776) := if_pos hgt
    go_enter Try.func24, Try.ntmps24
    go_wp2_with fail
    go_ret
    exact ⟨ret_int HE.out.symm, rfl⟩
  · have HE : Hid (laterM t d = t + d) := if_neg hgt
    go_enter Try.func24, Try.ntmps24
    go_wp2_with fail
    go_ret
    exact ⟨ret_int HE.out.symm, rfl⟩


set_option maxRecDepth 100000 in
theorem keepAhead (x y : WaitD) (w : World) : Calls Try.prog 66 #[waitV x, waitV y] w fun e w' => e = .returned (.bool (aheadB x y)) ∧ Below w.heap.size w w' := by
  obtain ⟨xn, xt, xv, xd, xl⟩ := x
  obtain ⟨yn, yt, yv, yd, yl⟩ := y
  have two : ∀ o1 o2 : Obj, Below w.heap.size w ((w.alloc o1).alloc o2) := fun o1 o2 => ((Below.refl _ _).alloc (Nat.le_refl _) _).alloc (by simp) _
  have TW : Hid (∀ o1 o2 : Obj, Below w.heap.size w ((w.alloc o1).alloc o2)) := two
  clear two
  by_cases hd : xd = yd
  · subst hd
    have HE : Hid (aheadB ⟨xn, xt, xv, xd, xl⟩ ⟨yn, yt, yv, xd, yl⟩ = decide (xn < yn)) := by simp [Hid, aheadB]
    go_enter Try.func66, Try.ntmps66
    go_wp2_with fail
    go_ret
    exact ⟨ret_bool' HE.out.symm, TW.out _ _⟩
  · have hd' : (xd == yd) = false := by simp [hd]
    by_cases hl : xd < yd
    · have HE : Hid (aheadB ⟨xn, xt, xv, xd, xl⟩ ⟨yn, yt, yv, yd, yl⟩ = true) := by simp [Hid, aheadB, hl]
      go_enter Try.func66, Try.ntmps66
      go_wp2_with fail
      go_ret
      exact ⟨ret_bool' HE.out.symm, TW.out _ _⟩
    · have HE : Hid (aheadB ⟨xn, xt, xv, xd, xl⟩ ⟨yn, yt, yv, yd, yl⟩ = false) := by simp [Hid, aheadB, hl, hd]
      go_enter Try.func66, Try.ntmps66
      go_wp2_with fail
      go_ret
      exact ⟨ret_bool' HE.out.symm, TW.out _ _⟩
end Go.Proofs.Ytmjdndhfmfjbiab

/-
  heraldkeep: a broker is opened; what a Tick does where nothing waits.
-/
namespace Go.Proofs.Ytmjdndhfmfjbiab
open Go.RowKit

set_option maxRecDepth 100000 in
theorem keepOpened (room : Int) (w : World) (h0 : 0 ≤ room) (h1 : room ≤ 500) : Calls Try.prog 9 #[.int .i64 room] w fun e w' =>
    ∃ H F, e = .returned (.pointer (some ⟨H, 0, none⟩)) ∧ PRc w' H F (refNew room) [] ∧ (∀ k, F k → w.heap.size ≤ k) ∧ Below w.heap.size w w' := by
  go_enter Try.func9, Try.ntmps9
  go_wp2_with fail
  refine (hrNew _ room chain_nil (by show 0 ≤ _; omega) h0 h1).mono ?_
  rintro e w1 ⟨H, F, rfl, hp, hF, hb⟩
  have HP : Hid (PRc w1 H F (refNew room) []) := hp
  have HF : Hid (∀ k, F k → w.heap.size ≤ k) := hF
  have HB : Hid (Below w.heap.size w w1) := hb
  clear hp hF hb
  go_wp2_with fail
  go_ret
  exact ⟨H, F, rfl, HP.out, HF.out, HB.out⟩

theorem deliver_nil {S : RefS} (to : Int) (h : S.wait = []) : deliver to S = S := by
  unfold deliver
  rw [h]
  rfl

/-- A Tick where nothing waits. -/
theorem tick_plain {S : RefS} {b : Int} (a c d : Int) (s : ByteArray) (hw : S.wait = []) (h0 : 0 ≤ b) (h1 : b ≤ 1099511627776) (hr : (S.done.length : Int) < S.room) :
    doErr S ⟨6, a, b, c, d, s⟩ = 0 ∧ (S.time < b → doS S ⟨6, a, b, c, d, s⟩ = agedTo { S with done := S.done ++ [⟨6, a, b, c, d, s⟩] } b 8) ∧ (¬ S.time < b → doS S ⟨6, a, b, c, d, s⟩ = S) := by
  have hz : wrongM S ⟨6, a, b, c, d, s⟩ = 0 := by
    have ht : isTimeM b = true := by simp [isTimeM]; omega
    simp [wrongM, tickErr, ht]
  have hwb : writesB S ⟨6, a, b, c, d, s⟩ = decide (S.time < b) := by simp [writesB]
  by_cases hlt : S.time < b
  · rw [decide_eq_true hlt] at hwb
    obtain ⟨-, q2, q3⟩ := is_done hz hwb hr
    refine ⟨q2, fun _ => ?_, fun h => absurd hlt h⟩
    rw [q3]
    have e : turnM { S with done := S.done ++ [⟨6, a, b, c, d, s⟩] } ⟨6, a, b, c, d, s⟩ = tickM { S with done := S.done ++ [⟨6, a, b, c, d, s⟩] } b := by simp [turnM]
    rw [e, tickM]
    exact deliver_nil b ((aged_keeps _ b 8).2.2.2.1.trans hw)
  · rw [decide_eq_false hlt] at hwb
    have hd : doneB S ⟨6, a, b, c, d, s⟩ = false := by unfold doneB; rw [hwb, Bool.and_false]; rfl
    refine ⟨by unfold doErr; rw [if_pos hz, hwb]; rfl, fun h => absurd h hlt, fun _ => by unfold doS; rw [hd]; rfl⟩

structure Calm (S : RefS) (n : Nat) : Prop where
  wait : S.wait = []
  done : S.done.length ≤ n

theorem tick_calm {S : RefS} {b : Int} {n : Nat} (a c d : Int) (s : ByteArray) (hc : Calm S n) (h0 : 0 ≤ b) (h1 : b ≤ 1099511627776) (hr : (S.done.length : Int) < S.room) :
    ∃ S1, doS S ⟨6, a, b, c, d, s⟩ = S1 ∧ doErr S ⟨6, a, b, c, d, s⟩ = 0 ∧ Calm S1 (n + 1) ∧ S1.time = (if S.time < b then b else S.time) ∧ S1.fil = S.fil ∧ S1.pub = S.pub ∧ S1.room = S.room ∧ S1.lost = S.lost ∧
      (∀ k, k < 8 → S1.que k = if S.time < b then (S.que k).filter (aliveB b) else S.que k) := by
  obtain ⟨h2, h3, h4⟩ := tick_plain a c d s hc.wait h0 h1 hr
  by_cases hlt : S.time < b
  · obtain ⟨g1, g2, g3, g4, g5, g6, g7, g8⟩ := aged_keeps { S with done := S.done ++ [⟨6, a, b, c, d, s⟩] } b 8
    refine ⟨_, h3 hlt, h2, ⟨g4.trans hc.wait, ?_⟩, by rw [g2, if_pos hlt], g1, g6, g5, g7, fun k hk => by rw [g8, if_pos hk, if_pos hlt]⟩
    rw [g3]
    have := hc.done
    simp
    omega
  · exact ⟨S, h4 hlt, h2, ⟨hc.wait, Nat.le_succ_of_le hc.done⟩, by rw [if_neg hlt], rfl, rfl, rfl, rfl, fun k _ => by rw [if_neg hlt]⟩
end Go.Proofs.Ytmjdndhfmfjbiab

/-
  heraldkeep: a broker of one's own, and what may be asked of it.
-/
namespace Go.Proofs.Ytmjdndhfmfjbiab
open Go.RowKit

/-- A broker that was made since. -/
def Mine (w0 w : World) (H : Nat) (S : RefS) : Prop := ∃ F R, PRc w H F S R ∧ (∀ k, F k → w0.heap.size ≤ k) ∧ Below w0.heap.size w0 w ∧ Good S
theorem Mine.below {w0 w w1 : World} {H : Nat} {S : RefS} (h : Mine w0 w H S) (hb : Below w.heap.size w w1) : Mine w0 w1 H S := by
  obtain ⟨F, R, hp, hF, hbw, hg⟩ := h
  exact ⟨F, R, hp.below hb, hF, hbw.trans (hb.mono hbw.size), hg⟩
theorem Mine.out {w0 w : World} {H : Nat} {S : RefS} (h : Mine w0 w H S) : Below w0.heap.size w0 w := by
  obtain ⟨F, R, hp, hF, hbw, hg⟩ := h
  exact hbw
theorem Mine.good {w0 w : World} {H : Nat} {S : RefS} (h : Mine w0 w H S) : Good S := by
  obtain ⟨F, R, hp, hF, hbw, hg⟩ := h
  exact hg
theorem Mine.step {w0 w w1 : World} {H : Nat} {F : Nat → Prop} {S1 : RefS} {R : List ByteArray} (hF : ∀ k, F k → w0.heap.size ≤ k) (hbw : Below w0.heap.size w0 w) (hg : Good S1) (ho : Outcome PRc w H F R S1 w1) : Mine w0 w1 H S1 := by
  obtain ⟨F1, R1, hp, hu, hk⟩ := ho
  refine ⟨F1, R ++ R1, hp, fun k h => ?_, hbw.trans (below_of_upd hu hbw.size hF), hg⟩
  rcases hk k h with h1 | h1
  · exact hF k h1
  · exact Nat.le_trans hbw.size h1
/-- An operation on it touches nothing but it. -/
theorem Mine.open {w0 w : World} {H : Nat} {F : Nat → Prop} {S : RefS} {R : List ByteArray} (hp : PRc w H F S R) (hF : ∀ k, F k → w0.heap.size ≤ k) (hb : Below w0.heap.size w0 w) (hg : Good S) : Mine w0 w H S := ⟨F, R, hp, hF, hb, hg⟩

theorem mineSub {w0 w : World} {H : Nat} {S : RefS} (a b c d : Int) (s : ByteArray) (h : Mine w0 w H S) (hs : s.size ≤ 1048576) :
    Calls Try.prog 11 #[.pointer (some ⟨H, 0, none⟩), .int .i64 a, .string s] w fun e w' => e = .returned (.int .i64 (doErr S ⟨1, a, b, c, d, s⟩)) ∧ Mine w0 w' H (doS S ⟨1, a, b, c, d, s⟩) := by
  obtain ⟨F, R, hp, hF, hbw, hg⟩ := h
  refine (hrSubscribe a b c d s hp hg hs).mono ?_
  rintro e w1 ⟨rfl, ho⟩
  exact ⟨rfl, Mine.step hF hbw (hg.does ⟨⟨by show (1 : Int) ≤ 1; omega, by show (1 : Int) ≤ 7; omega⟩, hs⟩) ho⟩

theorem mineUnsub {w0 w : World} {H : Nat} {S : RefS} (a b c d : Int) (s : ByteArray) (h : Mine w0 w H S) (hs : s.size ≤ 1048576) :
    Calls Try.prog 73 #[.pointer (some ⟨H, 0, none⟩), .int .i64 a, .string s] w fun e w' => e = .returned (.int .i64 (doErr S ⟨2, a, b, c, d, s⟩)) ∧ Mine w0 w' H (doS S ⟨2, a, b, c, d, s⟩) := by
  obtain ⟨F, R, hp, hF, hbw, hg⟩ := h
  refine (hrUnsubscribe a b c d s hp hg hs).mono ?_
  rintro e w1 ⟨rfl, ho⟩
  exact ⟨rfl, Mine.step hF hbw (hg.does ⟨⟨by show (1 : Int) ≤ 2; omega, by show (2 : Int) ≤ 7; omega⟩, hs⟩) ho⟩

theorem mineCancel {w0 w : World} {H : Nat} {S : RefS} (a b c d : Int) (s : ByteArray) (h : Mine w0 w H S) (hs : s.size ≤ 1048576) :
    Calls Try.prog 22 #[.pointer (some ⟨H, 0, none⟩), .int .i64 b] w fun e w' => e = .returned (.int .i64 (doErr S ⟨4, a, b, c, d, s⟩)) ∧ Mine w0 w' H (doS S ⟨4, a, b, c, d, s⟩) := by
  obtain ⟨F, R, hp, hF, hbw, hg⟩ := h
  refine (hrCancel a b c d s hp hg).mono ?_
  rintro e w1 ⟨rfl, ho⟩
  exact ⟨rfl, Mine.step hF hbw (hg.does ⟨⟨by show (1 : Int) ≤ 4; omega, by show (4 : Int) ≤ 7; omega⟩, hs⟩) ho⟩

theorem mineMove {w0 w : World} {H : Nat} {S : RefS} (a b c d : Int) (s : ByteArray) (h : Mine w0 w H S) (hs : s.size ≤ 1048576) :
    Calls Try.prog 23 #[.pointer (some ⟨H, 0, none⟩), .int .i64 b, .int .i64 c] w fun e w' => e = .returned (.int .i64 (doErr S ⟨5, a, b, c, d, s⟩)) ∧ Mine w0 w' H (doS S ⟨5, a, b, c, d, s⟩) := by
  obtain ⟨F, R, hp, hF, hbw, hg⟩ := h
  refine (hrMove a b c d s hp hg).mono ?_
  rintro e w1 ⟨rfl, ho⟩
  exact ⟨rfl, Mine.step hF hbw (hg.does ⟨⟨by show (1 : Int) ≤ 5; omega, by show (5 : Int) ≤ 7; omega⟩, hs⟩) ho⟩

theorem mineTick {w0 w : World} {H : Nat} {S : RefS} (a b c d : Int) (s : ByteArray) (h : Mine w0 w H S) (hs : s.size ≤ 1048576) :
    Calls Try.prog 19 #[.pointer (some ⟨H, 0, none⟩), .int .i64 b] w fun e w' => e = .returned (.int .i64 (doErr S ⟨6, a, b, c, d, s⟩)) ∧ Mine w0 w' H (doS S ⟨6, a, b, c, d, s⟩) := by
  obtain ⟨F, R, hp, hF, hbw, hg⟩ := h
  refine (hrTick a b c d s hp hg).mono ?_
  rintro e w1 ⟨rfl, ho⟩
  exact ⟨rfl, Mine.step hF hbw (hg.does ⟨⟨by show (1 : Int) ≤ 6; omega, by show (6 : Int) ≤ 7; omega⟩, hs⟩) ho⟩

theorem mineAck {w0 w : World} {H : Nat} {S : RefS} (a b c d : Int) (s : ByteArray) (h : Mine w0 w H S) (hs : s.size ≤ 1048576) :
    Calls Try.prog 13 #[.pointer (some ⟨H, 0, none⟩), .int .i64 a, .int .i64 b] w fun e w' => e = .returned (.int .i64 (doErr S ⟨7, a, b, c, d, s⟩)) ∧ Mine w0 w' H (doS S ⟨7, a, b, c, d, s⟩) := by
  obtain ⟨F, R, hp, hF, hbw, hg⟩ := h
  refine (hrAck a b c d s hp hg).mono ?_
  rintro e w1 ⟨rfl, ho⟩
  exact ⟨rfl, Mine.step hF hbw (hg.does ⟨⟨by show (1 : Int) ≤ 7; omega, by show (7 : Int) ≤ 7; omega⟩, hs⟩) ho⟩

theorem minePub {w0 w : World} {H : Nat} {S : RefS} (a b c d : Int) (s : ByteArray) (h : Mine w0 w H S) (hs : s.size ≤ 1048576) :
    Calls Try.prog 14 #[.pointer (some ⟨H, 0, none⟩), .string s, .int .i64 b, .int .i64 c, .int .i64 d] w fun e w' => e = .returned (.tuple #[.int .i64 (doAns S ⟨3, a, b, c, d, s⟩), .int .i64 (doErr S ⟨3, a, b, c, d, s⟩)]) ∧ Mine w0 w' H (doS S ⟨3, a, b, c, d, s⟩) := by
  obtain ⟨F, R, hp, hF, hbw, hg⟩ := h
  refine (hrPublish a b c d s hp hg hs).mono ?_
  rintro e w1 ⟨rfl, ho⟩
  exact ⟨rfl, Mine.step hF hbw (hg.does ⟨⟨by show (1 : Int) ≤ 3; omega, by show (3 : Int) ≤ 7; omega⟩, hs⟩) ho⟩

theorem mineTime {w0 w : World} {H : Nat} {S : RefS} (h : Mine w0 w H S) : Calls Try.prog 42 #[.pointer (some ⟨H, 0, none⟩)] w fun e w' => e = .returned (.int .i64 S.time) ∧ w' = w := by
  obtain ⟨F, R, ⟨x, fil, wait, hb, hF⟩, -, -, -⟩ := h
  exact hrTime _ x (lk S fil wait) _ _ hb.rep

theorem mineFilters {w0 w : World} {H : Nat} {S : RefS} (k : Int) (h : Mine w0 w H S) : Calls Try.prog 44 #[.pointer (some ⟨H, 0, none⟩), .int .i64 k] w fun e w' =>
    ∃ v, e = .returned v ∧ w'.ownsRow w.heap.size 9 1 v (filtersM S k).length ((filtersM S k).flatMap (fun f => [Value.string f])) ∧ Below w.heap.size w w' := by
  obtain ⟨F, R, ⟨x, fil, wait, hb, hF⟩, -, -, hg⟩ := h
  refine (hrFilters _ x _ _ k _ hb.rep (fun n hn => ?_)).mono ?_
  · exact Nat.le_trans (Nat.le_of_eq (hb.lk.filP n hn).length_eq) (Nat.le_trans (hg.inv.fil n hn).1 (by omega))
  rintro e w' ⟨v, rfl, ho, hbw⟩
  refine ⟨v, rfl, ?_, hbw⟩
  rw [← filP_eq hb.lk k]
  exact ho

theorem mineQueue {w0 w : World} {H : Nat} {S : RefS} (k : Int) (h : Mine w0 w H S) : Calls Try.prog 15 #[.pointer (some ⟨H, 0, none⟩), .int .i64 k] w fun e w' =>
    ∃ v, e = .returned v ∧ w'.ownsRow w.heap.size 35 5 v (queueM S k).length ((queueM S k).flatMap mailCells) ∧ Below w.heap.size w w' := by
  obtain ⟨F, R, ⟨x, fil, wait, hb, hF⟩, -, -, hg⟩ := h
  refine (hrQueue _ x _ _ k _ hb.rep hg.inv.time0 hg.inv.time1 (fun n hn => ?_)).mono ?_
  · exact ⟨Nat.le_trans (hg.inv.que n hn).1 (by omega), (hg.inv.que n hn).2⟩
  rintro e w' ⟨v, rfl, ho, hbw⟩
  exact ⟨v, rfl, ho, hbw⟩

theorem mineLost {w0 w : World} {H : Nat} {S : RefS} (k : Int) (h : Mine w0 w H S) : Calls Try.prog 16 #[.pointer (some ⟨H, 0, none⟩), .int .i64 k] w fun e w' => e = .returned (.int .i64 (lostM S k)) ∧ w' = w := by
  obtain ⟨F, R, ⟨x, fil, wait, hb, hF⟩, -, -, -⟩ := h
  exact hrLost _ x (lk S fil wait) _ k _ hb.rep

theorem mineWaiting {w0 w : World} {H : Nat} {S : RefS} (h : Mine w0 w H S) : Calls Try.prog 26 #[.pointer (some ⟨H, 0, none⟩)] w fun e w' =>
    ∃ v, e = .returned v ∧ w'.ownsRow w.heap.size 50 5 v (waitingM S).length ((waitingM S).flatMap waitCells) ∧ Below w.heap.size w w' := by
  obtain ⟨F, R, ⟨x, fil, wait, hb, hF⟩, -, -, hg⟩ := h
  refine (hrWaiting _ x _ _ _ hb.rep ?_).mono ?_
  · show wait.length ≤ _
    rw [hb.lk.waitP.length_eq]; exact Nat.le_trans hg.inv.wait.1 (by omega)
  rintro e w' ⟨v, rfl, ho, hbw⟩
  refine ⟨v, rfl, ?_, hbw⟩
  rw [hb.lk.waiting]
  exact ho

theorem mineRecords {w0 w : World} {H : Nat} {S : RefS} (h : Mine w0 w H S) : Calls Try.prog 43 #[.pointer (some ⟨H, 0, none⟩)] w fun e w' => e = .returned (.int .i64 (S.done.length : Int)) ∧ w' = w := by
  obtain ⟨F, R, ⟨x, fil, wait, hb, hF⟩, -, -, -⟩ := h
  refine (hrRecords _ x _ _ _ hb.rep hb.len).mono ?_
  rintro e w' ⟨rfl, rfl⟩
  exact ⟨ret_int (by rw [hb.size]; omega), rfl⟩

theorem mineDisk {w0 w : World} {H : Nat} {S : RefS} (h : Mine w0 w H S) : Calls Try.prog 29 #[.pointer (some ⟨H, 0, none⟩)] w fun e w' => e = .returned (.string (cat (S.done.map recOf))) ∧ w' = w := by
  obtain ⟨F, R, ⟨x, fil, wait, hb, hF⟩, -, -, -⟩ := h
  have := hrDisk _ x _ _ _ hb.rep
  rw [hb.recs] at this
  exact this

theorem mineOpened (room : Int) (w : World) (h0 : 0 ≤ room) (h1 : room ≤ 500) : Calls Try.prog 9 #[.int .i64 room] w fun e w' => ∃ H, e = .returned (.pointer (some ⟨H, 0, none⟩)) ∧ Mine w w' H (refNew room) := by
  refine (keepOpened room w h0 h1).mono ?_
  rintro e w1 ⟨H, F, rfl, hp, hF, hb⟩
  exact ⟨H, rfl, F, [], hp, hF, hb, good_new h0 h1⟩
end Go.Proofs.Ytmjdndhfmfjbiab
