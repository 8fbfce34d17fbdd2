import Derived.Test.YtmjdndhfmfjbiaaGreatM30
import Derived.Deep.RegionHeld3
namespace Go.Proofs.YtmjdndhfmfjbiaaGreat
open Go.RowKit

theorem any_find {fil : Nat → List ByteArray} {wait : List WaitD} {S : RefS} (h : Lk S fil wait) {n : Nat} (hn : n < 8) (s : ByteArray) : (findM (fun f => f.toList == s.toList) (S.fil n) 0 < 0) ↔ (fil n).any (fun f => f.toList == s.toList) = false := by
  have := h.has hn s
  constructor
  · intro hlt; rw [decide_eq_true hlt] at this; simpa using this.symm
  · intro hf; rw [hf] at this; simpa using this

set_option maxRecDepth 100000 in
set_option maxHeartbeats 4000000 in
theorem hrSubscribe {w : World} {H : Nat} {F : Nat → Prop} {S : RefS} {R : List ByteArray} (a b c d : Int) (s : ByteArray) (hp : PRc w H F S R) (hg : Good S) (hs : s.size ≤ 1048576) :
    Calls Tryz.prog 61 #[.pointer (some ⟨H, 0, none⟩), .int .i64 a, .string s] w fun e w' =>
      e = .returned (.int .i64 (doErr S ⟨1, a, b, c, d, s⟩)) ∧ Outcome PRc w H F R (doS S ⟨1, a, b, c, d, s⟩) w' := by
  have HP : Hid (PRc w H F S R) := hp
  obtain ⟨x, fil, wait, hb, hF⟩ := hp
  have HB : Hid (Br w H x S fil wait R) := hb
  have HF : Hid (∀ k, F k ↔ HFP H x k) := hF
  have HG : Hid (Good S) := hg
  have hlen := hb.len
  clear hb hF hg
  generalize ho : (⟨1, a, b, c, d, s⟩ : OpD) = o
  have err : ∀ e w1, wrongM S o = e → e ≠ 0 → Below w.heap.size w w1 → Ending.returned (.int .i64 e) = .returned (.int .i64 (doErr S o)) ∧ Outcome PRc w H F R (doS S o) w1 := fun e w1 h1 h0 hbw => by
    have h2 := is_wrong h1 h0
    exact ⟨ret_int h2.symm, out_same HP.out hbw (not_done (by rw [h2]; exact h0)).2.1⟩
  have ERR : Hid (∀ e w1, wrongM S o = e → e ≠ 0 → Below w.heap.size w w1 → Ending.returned (.int .i64 e) = .returned (.int .i64 (doErr S o)) ∧ Outcome PRc w H F R (doS S o) w1) := err
  clear err
  cases hk : knownB a
  · have HE : Hid (wrongM S o = 2) := by show _ = _; rw [← ho]; simp [wrongM, hk]
    clear ho
    go_enter Tryz.func61, Tryz.ntmps61
    go_wp2_with fail
    refine (hrIsClient a _).mono ?_
    rintro e w ⟨rfl, rfl⟩
    rw [hk]
    go_wp2_with fail
    go_ret
    exact ERR.out _ _ HE.out (by omega) (Below.refl _ _)
  obtain ⟨n, rfl, hn⟩ := known_nat hk
  have HK : Hid (knownB (n : Int) = true) := hk
  have hn0 : (0 : Int) ≤ (n : Int) := by omega
  have hn1 : (n : Int) < 8 := by omega
  cases hpt : M.isPathM true s
  · have HE : Hid (wrongM S o = 4) := by show _ = _; rw [← ho]; simp [wrongM, hk, hpt]
    clear ho hk
    go_enter Tryz.func61, Tryz.ntmps61
    go_wp2_with fail
    refine (hrIsClient (n : Int) _).mono ?_
    rintro e w ⟨rfl, rfl⟩
    rw [HK.out]
    go_wp2_with fail
    refine (hrIsFilter s _ hs).mono ?_
    rintro e w1 ⟨rfl, hb1⟩
    rw [hpt]
    go_wp2_with fail
    go_ret
    exact ERR.out _ _ HE.out (by omega) hb1
  have HPT : Hid (M.isPathM true s = true) := hpt
  have HW : Hid (wrongM S o = subErr (findM (fun f => f.toList == s.toList) (S.fil n) 0) (S.fil n).length) := by show _ = _; rw [← ho]; simp [wrongM, hk, hpt]
  have HFI := any_find HB.out.lk hn s
  have HLE : Hid ((fil n).length = (S.fil n).length) := (HB.out.lk.filP n hn).length_eq
  have HFE : Hid ((findM (fun f => f.toList == s.toList) (S.fil n) 0 < 0) ↔ (fil n).any (fun f => f.toList == s.toList) = false) := HFI
  have hfl : (fil n).length ≤ 6 := by rw [HLE.out]; exact (HG.out.inv.fil n hn).1
  obtain ⟨af, cf, hvf, -, -, hcf⟩ := (HB.out.rep.fil n hn).form
  have cfil := HB.out.rep.cells.fil n hn
  rw [hvf] at cfil
  have HCF : Hid (CellsAt w af ((fil n).map Value.string)) := hcf
  have HHV : Hid (x.filV n = .slice af (fil n).length cf) := hvf
  have hH := HB.out.rep.cells.lt
  have cfil' : w.cell? ⟨H, 4 + n * 3, none⟩ = some (.slice af (fil n).length cf) := cfil
  clear hvf hcf HFI hk hpt cfil
  cases hhas : (fil n).any (fun f => f.toList == s.toList)
  case true =>
    have HE : Hid (wrongM S o = 6) := by
      show _ = _
      rw [HW.out, subErr, if_pos]
      have := HFE.out
      rw [hhas] at this
      simpa using this
    clear ho
    go_enter Tryz.func61, Tryz.ntmps61
    go_wp2_with fail
    refine (hrIsClient (n : Int) _).mono ?_
    rintro e w ⟨rfl, rfl⟩
    rw [HK.out]
    go_wp2_with fail
    refine (hrIsFilter s _ hs).mono ?_
    rintro e w1 ⟨rfl, hb1⟩
    rw [HPT.out]
    have c1 := cell_later hb1 cfil'
    have HB1 : Hid (Below _ _ w1) := hb1
    clear hb1
    go_wp2_with fail
    refine (hrHasFilter (fil n) af cf s _ (by omega) (HCF.out.below HB1.out)).mono ?_
    rintro e w1 ⟨rfl, rfl⟩
    rw [hhas]
    go_wp2_with fail
    go_ret
    exact ERR.out _ _ HE.out (by omega) HB1.out
  case false =>
    have HHAS : Hid ((fil n).any (fun f => f.toList == s.toList) = false) := hhas
    have HNEG : Hid (findM (fun f => f.toList == s.toList) (S.fil n) 0 < 0) := HFE.out.2 hhas
    clear hhas
    go_enter Tryz.func61, Tryz.ntmps61
    go_wp2_with fail
    refine (hrIsClient (n : Int) _).mono ?_
    rintro e w ⟨rfl, rfl⟩
    rw [HK.out]
    go_wp2_with fail
    refine (hrIsFilter s _ hs).mono ?_
    rintro e w1 ⟨rfl, hb1⟩
    rw [HPT.out]
    have c1 := cell_later hb1 cfil'
    have HB1 : Hid (Below _ _ w1) := hb1
    clear hb1
    go_wp2_with fail
    refine (hrHasFilter (fil n) af cf s _ (by omega) (HCF.out.below HB1.out)).mono ?_
    rintro e w1 ⟨rfl, rfl⟩
    rw [HHAS.out]
    by_cases h6 : 6 ≤ (fil n).length
    · have HE : Hid (wrongM S o = 8) := by
        show _ = _
        rw [HW.out, subErr, if_neg (by have := HNEG.out; omega), if_pos (by rw [← HLE.out]; exact h6)]
      clear ho
      go_wp2_with fail
      go_ret
      exact ERR.out _ _ HE.out (by omega) HB1.out
    · have HZ : Hid (wrongM S o = 0) := by
        show _ = _
        rw [HW.out, subErr, if_neg (by have := HNEG.out; omega), if_neg (by rw [← HLE.out]; exact h6)]
      go_wp2_with fail
      refine (hrIsFull H x _ _ _ (HB.out.rep.below HB1.out) hlen).mono ?_
      rintro e w3 ⟨rfl, hb3⟩
      have c3 := cell_later hb3 c1
      have HB3 : Hid (Below w.heap.size w w3) := HB1.out.trans (hb3.mono HB1.out.size)
      clear hb3
      by_cases hfull : (S.done.length : Int) < S.room
      · have HNF : Hid (decide ((lk S fil wait).room ≤ ((cat R).size : Int) / 42) = false) := by
          show decide (S.room ≤ _) = false
          rw [HB.out.size, decide_eq_false_iff_not]
          omega
        obtain ⟨q1, q2, q3⟩ := is_done HZ.out (writes_not (by rw [← ho]; show (1 : Int) ≠ 6; decide)) hfull
        have HD1 : Hid (doneB S o = true) := q1
        have HD2 : Hid (doErr S o = 0) := q2
        have HD3 : Hid (doS S o = { S with done := S.done ++ [o], fil := setAt S.fil n (S.fil n ++ [s]) }) := by show _ = _; rw [q3, ← ho]; simp [turnM]
        have HRE : Hid (recOf o = encM ⟨1, n, s, 0, 0, 0, 0, 0⟩) := by show _ = _; rw [← ho]; simp [recOf, recD]
        have HREC : Hid (recD o = ⟨1, n, s, 0, 0, 0, 0, 0⟩) := by show _ = _; rw [← ho]; simp [recD]
        clear q1 q2 q3 ho hfull
        rw [HNF.out]
        go_wp2_with fail
        refine (hrCopyText s _).mono ?_
        rintro e w4 ⟨rfl, hb4⟩
        have c4 := cell_later hb4 c3
        have HB4 : Hid (Below w.heap.size w w4) := HB3.out.trans (hb4.mono HB3.out.size)
        clear hb4
        have hfr4 := (HB4.out.frozen (p := ⟨H, 4 + n * 3, none⟩) hH).trans (HB.out.rep.cells.free (4 + n * 3))
        have hH4 : H < w4.heap.size := Nat.lt_of_lt_of_le hH HB4.out.size
        have HSM : Hid (Small ⟨1, n, s, 0, 0, 0, 0, 0⟩) := by
          have hv := wrong_valid HB.out.num (by have h1 := HG.out.inv.pub; have h2 := HB.out.few; omega) HZ.out
          have hr := HREC.out
          rw [hr] at hv
          exact valid_small hv
        go_wp2_with fail
        go_region_with (go_at_call 80; refine (hrWithFilter (fil n) af cf s _ (by omega) ((HCF.out.below HB4.out).below below_drew)).mono ?_; rintro e w5 ⟨v, rfl, ho5, hb5⟩; obtain ⟨a1, c1', rfl, -, -, -⟩ := Row.form (row_of_own (w := w4) ho5 nilV).1; have c5 := cell_later (w := w4.drew) hb5 c4; have hfr5 := (hb5.frozen (p := ⟨H, 4 + n * 3, none⟩) hH4).trans hfr4)
        all_goals have HST : HStep w H x (w5.setCell ⟨H, 4 + n * 3, none⟩ (.slice a1 (insM ltB s (fil n)).length c1')) { lk S fil wait with fil := setAt fil n (insM ltB s (fil n)) } (cat R) := HStep.then (Upd.of_below HB4.out) (fun _ hk => .inl hk) ((HB.out.rep.below HB4.out).setFil hn (Upd.of_below (below_drew.trans hb5)) (by rw [← flat_sing]; exact (row_of_own (w := w4) ho5 nilV).1) (row_of_own (w := w4) ho5 _).2)
        all_goals obtain ⟨x1, r1, u1, f1⟩ := HST
        all_goals have R1 : Hid _ := r1
        all_goals have U1 : Hid _ := u1
        all_goals have F1 : Hid _ := f1
        all_goals clear r1 u1 f1 ho5 hb5 c5 hfr5 c4 hfr4
        all_goals go_wp2_with fail
        all_goals refine (hrWrite H x1 _ (cat R) ⟨1, n, s, 0, 0, 0, 0, 0⟩ _ R1.out hlen HSM.out).mono ?_
        all_goals rintro e w6 ⟨rfl, hst⟩
        all_goals go_wp2_with fail
        all_goals go_ret
        all_goals refine ⟨ret_int HD2.out.symm, out_done HB.out HF.out HG.out HD1.out (fil1 := setAt fil n (insM ltB s (fil n))) (wait1 := wait) ?_ ?_⟩
        all_goals first
          | (rw [HD3.out, HRE.out]; exact (HStep.then U1.out F1.out hst).redone _)
          | (rw [HD3.out]; exact (HB.out.lk.sub hn (path_some HPT.out) HHAS.out).other rfl rfl (Int.le_refl _))
      · have HFU : Hid (decide ((lk S fil wait).room ≤ ((cat R).size : Int) / 42) = true) := by
          show decide (S.room ≤ _) = true
          rw [HB.out.size, decide_eq_true_iff]
          omega
        have HE : Hid (doErr S o = 9) := is_full HZ.out (writes_not (by rw [← ho]; show (1 : Int) ≠ 6; decide)) hfull
        clear ho hfull
        rw [HFU.out]
        go_wp2_with fail
        go_ret
        exact ⟨ret_int HE.out.symm, out_same HP.out HB3.out (not_done (by rw [HE.out]; omega)).2.1⟩
end Go.Proofs.YtmjdndhfmfjbiaaGreat

namespace Go.Proofs.YtmjdndhfmfjbiaaGreat
open Go.RowKit

set_option maxRecDepth 100000 in
set_option maxHeartbeats 4000000 in
theorem hrUnsubscribe {w : World} {H : Nat} {F : Nat → Prop} {S : RefS} {R : List ByteArray} (a b c d : Int) (s : ByteArray) (hp : PRc w H F S R) (hg : Good S) (hs : s.size ≤ 1048576) :
    Calls Tryz.prog 62 #[.pointer (some ⟨H, 0, none⟩), .int .i64 a, .string s] w fun e w' =>
      e = .returned (.int .i64 (doErr S ⟨2, a, b, c, d, s⟩)) ∧ Outcome PRc w H F R (doS S ⟨2, a, b, c, d, s⟩) w' := by
  have HP : Hid (PRc w H F S R) := hp
  obtain ⟨x, fil, wait, hb, hF⟩ := hp
  have HB : Hid (Br w H x S fil wait R) := hb
  have HF : Hid (∀ k, F k ↔ HFP H x k) := hF
  have HG : Hid (Good S) := hg
  have hlen := hb.len
  clear hb hF hg
  generalize ho : (⟨2, a, b, c, d, s⟩ : OpD) = o
  have err : ∀ e w1, wrongM S o = e → e ≠ 0 → Below w.heap.size w w1 → Ending.returned (.int .i64 e) = .returned (.int .i64 (doErr S o)) ∧ Outcome PRc w H F R (doS S o) w1 := fun e w1 h1 h0 hbw => by
    have h2 := is_wrong h1 h0
    exact ⟨ret_int h2.symm, out_same HP.out hbw (not_done (by rw [h2]; exact h0)).2.1⟩
  have ERR : Hid (∀ e w1, wrongM S o = e → e ≠ 0 → Below w.heap.size w w1 → Ending.returned (.int .i64 e) = .returned (.int .i64 (doErr S o)) ∧ Outcome PRc w H F R (doS S o) w1) := err
  clear err
  cases hk : knownB a
  · have HE : Hid (wrongM S o = 2) := by show _ = _; rw [← ho]; simp [wrongM, hk]
    clear ho
    go_enter Tryz.func62, Tryz.ntmps62
    go_wp2_with fail
    refine (hrIsClient a _).mono ?_
    rintro e w ⟨rfl, rfl⟩
    rw [hk]
    go_wp2_with fail
    go_ret
    exact ERR.out _ _ HE.out (by omega) (Below.refl _ _)
  obtain ⟨n, rfl, hn⟩ := known_nat hk
  have HK : Hid (knownB (n : Int) = true) := hk
  have hn0 : (0 : Int) ≤ (n : Int) := by omega
  have hn1 : (n : Int) < 8 := by omega
  cases hpt : M.isPathM true s
  · have HE : Hid (wrongM S o = 4) := by show _ = _; rw [← ho]; simp [wrongM, hk, hpt]
    clear ho hk
    go_enter Tryz.func62, Tryz.ntmps62
    go_wp2_with fail
    refine (hrIsClient (n : Int) _).mono ?_
    rintro e w ⟨rfl, rfl⟩
    rw [HK.out]
    go_wp2_with fail
    refine (hrIsFilter s _ hs).mono ?_
    rintro e w1 ⟨rfl, hb1⟩
    rw [hpt]
    go_wp2_with fail
    go_ret
    exact ERR.out _ _ HE.out (by omega) hb1
  have HPT : Hid (M.isPathM true s = true) := hpt
  have HW : Hid (wrongM S o = noneErr (findM (fun f => f.toList == s.toList) (S.fil n) 0)) := by show _ = _; rw [← ho]; simp [wrongM, hk, hpt]
  have HFI := any_find HB.out.lk hn s
  have HLE : Hid ((fil n).length = (S.fil n).length) := (HB.out.lk.filP n hn).length_eq
  have HFE : Hid ((findM (fun f => f.toList == s.toList) (S.fil n) 0 < 0) ↔ (fil n).any (fun f => f.toList == s.toList) = false) := HFI
  have hfl : (fil n).length ≤ 6 := by rw [HLE.out]; exact (HG.out.inv.fil n hn).1
  obtain ⟨af, cf, hvf, -, -, hcf⟩ := (HB.out.rep.fil n hn).form
  have cfil := HB.out.rep.cells.fil n hn
  rw [hvf] at cfil
  have HCF : Hid (CellsAt w af ((fil n).map Value.string)) := hcf
  have HHV : Hid (x.filV n = .slice af (fil n).length cf) := hvf
  have hH := HB.out.rep.cells.lt
  have cfil' : w.cell? ⟨H, 4 + n * 3, none⟩ = some (.slice af (fil n).length cf) := cfil
  clear hvf hcf HFI hk hpt cfil
  cases hhas : (fil n).any (fun f => f.toList == s.toList)
  case false =>
    have HE : Hid (wrongM S o = 7) := by
      show _ = _
      rw [HW.out, noneErr, if_pos (HFE.out.2 hhas)]
    clear ho
    go_enter Tryz.func62, Tryz.ntmps62
    go_wp2_with fail
    refine (hrIsClient (n : Int) _).mono ?_
    rintro e w ⟨rfl, rfl⟩
    rw [HK.out]
    go_wp2_with fail
    refine (hrIsFilter s _ hs).mono ?_
    rintro e w1 ⟨rfl, hb1⟩
    rw [HPT.out]
    have c1 := cell_later hb1 cfil'
    have HB1 : Hid (Below _ _ w1) := hb1
    clear hb1
    go_wp2_with fail
    refine (hrHasFilter (fil n) af cf s _ (by omega) (HCF.out.below HB1.out)).mono ?_
    rintro e w1 ⟨rfl, rfl⟩
    rw [hhas]
    go_wp2_with fail
    go_ret
    exact ERR.out _ _ HE.out (by omega) HB1.out
  case true =>
    have HHAS : Hid ((fil n).any (fun f => f.toList == s.toList) = true) := hhas
    have HNEG : Hid (¬ findM (fun f => f.toList == s.toList) (S.fil n) 0 < 0) := fun h => by have := HFE.out.1 h; rw [hhas] at this; cases this
    clear hhas
    go_enter Tryz.func62, Tryz.ntmps62
    go_wp2_with fail
    refine (hrIsClient (n : Int) _).mono ?_
    rintro e w ⟨rfl, rfl⟩
    rw [HK.out]
    go_wp2_with fail
    refine (hrIsFilter s _ hs).mono ?_
    rintro e w1 ⟨rfl, hb1⟩
    rw [HPT.out]
    have c1 := cell_later hb1 cfil'
    have HB1 : Hid (Below _ _ w1) := hb1
    clear hb1
    go_wp2_with fail
    refine (hrHasFilter (fil n) af cf s _ (by omega) (HCF.out.below HB1.out)).mono ?_
    rintro e w1 ⟨rfl, rfl⟩
    rw [HHAS.out]
    · have HZ : Hid (wrongM S o = 0) := by
        show _ = _
        rw [HW.out, noneErr, if_neg (by have := HNEG.out; omega)]
      go_wp2_with fail
      refine (hrIsFull H x _ _ _ (HB.out.rep.below HB1.out) hlen).mono ?_
      rintro e w3 ⟨rfl, hb3⟩
      have c3 := cell_later hb3 c1
      have HB3 : Hid (Below w.heap.size w w3) := HB1.out.trans (hb3.mono HB1.out.size)
      clear hb3
      by_cases hfull : (S.done.length : Int) < S.room
      · have HNF : Hid (decide ((lk S fil wait).room ≤ ((cat R).size : Int) / 42) = false) := by
          show decide (S.room ≤ _) = false
          rw [HB.out.size, decide_eq_false_iff_not]
          omega
        obtain ⟨q1, q2, q3⟩ := is_done HZ.out (writes_not (by rw [← ho]; show (2 : Int) ≠ 6; decide)) hfull
        have HD1 : Hid (doneB S o = true) := q1
        have HD2 : Hid (doErr S o = 0) := q2
        have HD3 : Hid (doS S o = { S with done := S.done ++ [o], fil := setAt S.fil n ((S.fil n).filter (fun f => !(f.toList == s.toList))) }) := by show _ = _; rw [q3, ← ho]; simp [turnM]
        have HRE : Hid (recOf o = encM ⟨2, n, s, 0, 0, 0, 0, 0⟩) := by show _ = _; rw [← ho]; simp [recOf, recD]
        have HREC : Hid (recD o = ⟨2, n, s, 0, 0, 0, 0, 0⟩) := by show _ = _; rw [← ho]; simp [recD]
        clear q1 q2 q3 ho hfull
        rw [HNF.out]
        have hfr3 := (HB3.out.frozen (p := ⟨H, 4 + n * 3, none⟩) hH).trans (HB.out.rep.cells.free (4 + n * 3))
        have hH3 : H < w3.heap.size := Nat.lt_of_lt_of_le hH HB3.out.size
        have HSM : Hid (Small ⟨2, n, s, 0, 0, 0, 0, 0⟩) := by
          have hv := wrong_valid HB.out.num (by have h1 := HG.out.inv.pub; have h2 := HB.out.few; omega) HZ.out
          have hr := HREC.out
          rw [hr] at hv
          exact valid_small hv
        go_wp2_with fail
        go_region_with (go_at_call 82; refine (hrWithoutFilter (fil n) af cf s _ (by omega) ((HCF.out.below HB3.out).below below_drew)).mono ?_; rintro e w5 ⟨v, rfl, ho5, hb5⟩; obtain ⟨a1, c1', rfl, -, -, -⟩ := Row.form (row_of_own (w := w3) ho5 nilV).1; have c5 := cell_later (w := w3.drew) hb5 c3; have hfr5 := (hb5.frozen (p := ⟨H, 4 + n * 3, none⟩) hH3).trans hfr3)
        all_goals have HST : HStep w H x (w5.setCell ⟨H, 4 + n * 3, none⟩ (.slice a1 ((fil n).filter (fun f => !(f.toList == s.toList))).length c1')) { lk S fil wait with fil := setAt fil n ((fil n).filter (fun f => !(f.toList == s.toList))) } (cat R) := HStep.then (Upd.of_below HB3.out) (fun _ hk => .inl hk) ((HB.out.rep.below HB3.out).setFil hn (Upd.of_below (below_drew.trans hb5)) (by rw [← flat_sing]; exact (row_of_own (w := w3) ho5 nilV).1) (row_of_own (w := w3) ho5 _).2)
        all_goals obtain ⟨x1, r1, u1, f1⟩ := HST
        all_goals have R1 : Hid _ := r1
        all_goals have U1 : Hid _ := u1
        all_goals have F1 : Hid _ := f1
        all_goals clear r1 u1 f1 ho5 hb5 c5 hfr5 c3 hfr3
        all_goals go_wp2_with fail
        all_goals refine (hrWrite H x1 _ (cat R) ⟨2, n, s, 0, 0, 0, 0, 0⟩ _ R1.out hlen HSM.out).mono ?_
        all_goals rintro e w6 ⟨rfl, hst⟩
        all_goals go_wp2_with fail
        all_goals go_ret
        all_goals refine ⟨ret_int HD2.out.symm, out_done HB.out HF.out HG.out HD1.out (fil1 := setAt fil n ((fil n).filter (fun f => !(f.toList == s.toList)))) (wait1 := wait) ?_ ?_⟩
        all_goals first
          | (rw [HD3.out, HRE.out]; exact (HStep.then U1.out F1.out hst).redone _)
          | (rw [HD3.out]; exact (HB.out.lk.unsub hn s).other rfl rfl (Int.le_refl _))
      · have HFU : Hid (decide ((lk S fil wait).room ≤ ((cat R).size : Int) / 42) = true) := by
          show decide (S.room ≤ _) = true
          rw [HB.out.size, decide_eq_true_iff]
          omega
        have HE : Hid (doErr S o = 9) := is_full HZ.out (writes_not (by rw [← ho]; show (2 : Int) ≠ 6; decide)) hfull
        clear ho hfull
        rw [HFU.out]
        go_wp2_with fail
        go_ret
        exact ⟨ret_int HE.out.symm, out_same HP.out HB3.out (not_done (by rw [HE.out]; omega)).2.1⟩
end Go.Proofs.YtmjdndhfmfjbiaaGreat

namespace Go.Proofs.YtmjdndhfmfjbiaaGreat
open Go.RowKit

theorem any_findL {α : Type} (p : α → Bool) (l : List α) : (findM p l 0 < 0) ↔ l.any p = false := by
  have := find_has p l
  constructor
  · intro hlt; rw [decide_eq_true hlt] at this; simpa using this.symm
  · intro hf; rw [hf] at this; simpa using this

set_option maxRecDepth 100000 in
set_option maxHeartbeats 4000000 in
theorem hrAck {w : World} {H : Nat} {F : Nat → Prop} {S : RefS} {R : List ByteArray} (a b c d : Int) (s : ByteArray) (hp : PRc w H F S R) (hg : Good S) :
    Calls Tryz.prog 67 #[.pointer (some ⟨H, 0, none⟩), .int .i64 a, .int .i64 b] w fun e w' =>
      e = .returned (.int .i64 (doErr S ⟨7, a, b, c, d, s⟩)) ∧ Outcome PRc w H F R (doS S ⟨7, a, b, c, d, s⟩) w' := by
  have HP : Hid (PRc w H F S R) := hp
  obtain ⟨x, fil, wait, hb, hF⟩ := hp
  have HB : Hid (Br w H x S fil wait R) := hb
  have HF : Hid (∀ k, F k ↔ HFP H x k) := hF
  have HG : Hid (Good S) := hg
  have hlen := hb.len
  have hH := hb.rep.cells.lt
  clear hb hF hg
  generalize ho : (⟨7, a, b, c, d, s⟩ : OpD) = o
  have err : ∀ e w1, wrongM S o = e → e ≠ 0 → Below w.heap.size w w1 → Ending.returned (.int .i64 e) = .returned (.int .i64 (doErr S o)) ∧ Outcome PRc w H F R (doS S o) w1 := fun e w1 h1 h0 hbw => by
    have h2 := is_wrong h1 h0
    exact ⟨ret_int h2.symm, out_same HP.out hbw (not_done (by rw [h2]; exact h0)).2.1⟩
  have ERR : Hid (∀ e w1, wrongM S o = e → e ≠ 0 → Below w.heap.size w w1 → Ending.returned (.int .i64 e) = .returned (.int .i64 (doErr S o)) ∧ Outcome PRc w H F R (doS S o) w1) := err
  clear err
  cases hk : knownB a
  · have HE : Hid (wrongM S o = 2) := by show _ = _; rw [← ho]; simp [wrongM, hk]
    clear ho
    go_enter Tryz.func67, Tryz.ntmps67
    go_wp2_with fail
    refine (hrIsClient a _).mono ?_
    rintro e w ⟨rfl, rfl⟩
    rw [hk]
    go_wp2_with fail
    go_ret
    exact ERR.out _ _ HE.out (by omega) (Below.refl _ _)
  obtain ⟨n, rfl, hn⟩ := known_nat hk
  have HK : Hid (knownB (n : Int) = true) := hk
  have hn0 : (0 : Int) ≤ (n : Int) := by omega
  have hn1 : (n : Int) < 8 := by omega
  have HW : Hid (wrongM S o = noneErr (findM (fun m => m.number == b) (S.que n) 0)) := by show _ = _; rw [← ho]; simp [wrongM, hk]
  have HFE : Hid ((findM (fun m : SentD => m.number == b) (S.que n) 0 < 0) ↔ (S.que n).any (fun m => m.number == b) = false) := any_findL _ _
  have hql : (S.que n).length ≤ 10 := (HG.out.inv.que n hn).1
  obtain ⟨aq, cq, hvq, -, -, hcq⟩ := (HB.out.rep.que n hn).form
  have cque := HB.out.rep.cells.que n hn
  rw [hvq] at cque
  have HCQ : Hid (CellsAt w aq ((S.que n).flatMap msgCells)) := hcq
  have cque' : w.cell? ⟨H, 4 + n * 3 + 1, none⟩ = some (.slice aq (S.que n).length cq) := cque
  clear hvq hcq hk cque
  cases hhas : (S.que n).any (fun m => m.number == b)
  · have HE : Hid (wrongM S o = 7) := by show _ = _; rw [HW.out, noneErr, if_pos (HFE.out.2 hhas)]
    clear ho
    go_enter Tryz.func67, Tryz.ntmps67
    go_wp2_with fail
    refine (hrIsClient (n : Int) _).mono ?_
    rintro e w ⟨rfl, rfl⟩
    rw [HK.out]
    go_wp2_with fail
    refine (hrHasMessage (S.que n) aq cq b _ (by omega) HCQ.out).mono ?_
    rintro e w ⟨rfl, rfl⟩
    rw [hhas]
    go_wp2_with fail
    go_ret
    exact ERR.out _ _ HE.out (by omega) (Below.refl _ _)
  · have HHAS : Hid ((S.que n).any (fun m => m.number == b) = true) := hhas
    have HZ : Hid (wrongM S o = 0) := by
      show _ = _
      rw [HW.out, noneErr, if_neg]
      intro h
      have := HFE.out.1 h
      rw [hhas] at this
      cases this
    clear hhas
    have HBR : Hid (Below w.heap.size w w) := Below.refl _ _
    go_enter Tryz.func67, Tryz.ntmps67
    go_wp2_with fail
    refine (hrIsClient (n : Int) _).mono ?_
    rintro e w ⟨rfl, rfl⟩
    rw [HK.out]
    go_wp2_with fail
    refine (hrHasMessage (S.que n) aq cq b _ (by omega) HCQ.out).mono ?_
    rintro e w ⟨rfl, rfl⟩
    rw [HHAS.out]
    go_wp2_with fail
    refine (hrIsFull H x _ _ _ (HB.out.rep.below HBR.out) hlen).mono ?_
    rintro e w3 ⟨rfl, hb3⟩
    have HB3 : Hid (Below w.heap.size w w3) := HBR.out.trans (hb3.mono HBR.out.size)
    clear hb3
    by_cases hfull : (S.done.length : Int) < S.room
    · have HNF : Hid (decide ((lk S fil wait).room ≤ ((cat R).size : Int) / 42) = false) := by
        show decide (S.room ≤ _) = false
        rw [HB.out.size, decide_eq_false_iff_not]
        omega
      obtain ⟨q1, q2, q3⟩ := is_done HZ.out (writes_not (by rw [← ho]; show (7 : Int) ≠ 6; decide)) hfull
      have HD1 : Hid (doneB S o = true) := q1
      have HD2 : Hid (doErr S o = 0) := q2
      have HD3 : Hid (doS S o = { S with done := S.done ++ [o], que := setAt S.que n ((S.que n).filter (fun m => m.number != b)) }) := by show _ = _; rw [q3, ← ho]; simp [turnM]
      have HREC : Hid (recD o = ⟨7, n, ⟨#[]⟩, b, 0, 0, 0, 0⟩) := by show _ = _; rw [← ho]; simp [recD]
      have HRE : Hid (recOf o = encM ⟨7, n, ⟨#[]⟩, b, 0, 0, 0, 0⟩) := by show _ = _; rw [recOf, HREC.out]
      have HSM : Hid (Small ⟨7, n, ⟨#[]⟩, b, 0, 0, 0, 0⟩) := by
        have hv := wrong_valid HB.out.num (by have h1 := HG.out.inv.pub; have h2 := HB.out.few; omega) HZ.out
        have hr := HREC.out
        rw [hr] at hv
        exact valid_small hv
      clear q1 q2 q3 ho hfull
      rw [HNF.out]
      have k3 := HB3.out.cell (p := ⟨H, 4 + n * 3 + 1, none⟩) hH |>.trans cque'
      have hfr3 := (HB3.out.frozen (p := ⟨H, 4 + n * 3 + 1, none⟩) hH).trans (HB.out.rep.cells.free (4 + n * 3 + 1))
      have hH3 : H < w3.heap.size := Nat.lt_of_lt_of_le hH HB3.out.size
      go_wp2_with fail
      go_region_with (go_at_call 94; refine (hrWithoutMessage (S.que n) aq cq b _ (by omega) ((HCQ.out.below HB3.out).below below_drew)).mono ?_; rintro e w5 ⟨v, rfl, ho5, hb5⟩; obtain ⟨a1, c1', rfl, -, -, -⟩ := Row.form (row_of_own (w := w3) ho5 nilV).1; have c5 := cell_later (w := w3.drew) hb5 k3; have hfr5 := (hb5.frozen (p := ⟨H, 4 + n * 3 + 1, none⟩) hH3).trans hfr3)
      all_goals have HST : HStep w H x (w5.setCell ⟨H, 4 + n * 3 + 1, none⟩ (.slice a1 ((S.que n).filter (fun m => m.number != b)).length c1')) { lk S fil wait with que := setAt S.que n ((S.que n).filter (fun m => m.number != b)) } (cat R) := HStep.then (Upd.of_below HB3.out) (fun _ hk => .inl hk) ((HB.out.rep.below HB3.out).setQue hn (Upd.of_below (below_drew.trans hb5)) (row_of_own (w := w3) ho5 nilV).1 (row_of_own (w := w3) ho5 _).2)
      all_goals obtain ⟨x1, r1, u1, f1⟩ := HST
      all_goals have R1 : Hid _ := r1
      all_goals have U1 : Hid _ := u1
      all_goals have F1 : Hid _ := f1
      all_goals clear r1 u1 f1 ho5 hb5 c5 hfr5 k3 hfr3
      all_goals go_wp2_with fail
      all_goals refine (hrWrite H x1 _ (cat R) ⟨7, n, ⟨#[]⟩, b, 0, 0, 0, 0⟩ _ R1.out hlen HSM.out).mono ?_
      all_goals rintro e w6 ⟨rfl, hst⟩
      all_goals go_wp2_with fail
      all_goals go_ret
      all_goals refine ⟨ret_int HD2.out.symm, out_done HB.out HF.out HG.out HD1.out (fil1 := fil) (wait1 := wait) ?_ ?_⟩
      all_goals first
        | (rw [HD3.out, HRE.out]; exact (HStep.then U1.out F1.out hst).redone _)
        | (rw [HD3.out]; exact HB.out.lk.other rfl rfl (Int.le_refl _))
    · have HFU : Hid (decide ((lk S fil wait).room ≤ ((cat R).size : Int) / 42) = true) := by
        show decide (S.room ≤ _) = true
        rw [HB.out.size, decide_eq_true_iff]
        omega
      have HE : Hid (doErr S o = 9) := is_full HZ.out (writes_not (by rw [← ho]; show (7 : Int) ≠ 6; decide)) hfull
      clear ho hfull
      rw [HFU.out]
      go_wp2_with fail
      go_ret
      exact ⟨ret_int HE.out.symm, out_same HP.out HB3.out (not_done (by rw [HE.out]; omega)).2.1⟩
end Go.Proofs.YtmjdndhfmfjbiaaGreat

namespace Go.Proofs.YtmjdndhfmfjbiaaGreat
open Go.RowKit

theorem one_any (ws : List WaitD) (n : Int) : (theOne ws n).2 = ws.any (fun m => m.number == n) := by
  unfold theOne
  cases h : ws.find? (fun m => m.number == n) with
  | none => rw [List.find?_eq_none] at h; symm; simp only [List.any_eq_false]; exact h
  | some m => symm; exact List.any_eq_true.2 ⟨m, List.mem_of_find?_eq_some h, List.find?_some (p := fun m : WaitD => m.number == n) h⟩
theorem one_mem {ws : List WaitD} {n : Int} (h : ws.any (fun m => m.number == n) = true) : (theOne ws n).1 ∈ ws ∧ (theOne ws n).1.number = n := by
  rw [← one_any] at h
  unfold theOne at h ⊢
  cases hf : ws.find? (fun m => m.number == n) with
  | none => rw [hf] at h; cases h
  | some m => exact ⟨List.mem_of_find?_eq_some hf, by simpa using List.find?_some (p := fun m : WaitD => m.number == n) hf⟩

set_option maxRecDepth 100000 in
set_option maxHeartbeats 4000000 in
theorem hrCancel {w : World} {H : Nat} {F : Nat → Prop} {S : RefS} {R : List ByteArray} (a b c d : Int) (s : ByteArray) (hp : PRc w H F S R) (hg : Good S) :
    Calls Tryz.prog 64 #[.pointer (some ⟨H, 0, none⟩), .int .i64 b] w fun e w' =>
      e = .returned (.int .i64 (doErr S ⟨4, a, b, c, d, s⟩)) ∧ Outcome PRc w H F R (doS S ⟨4, a, b, c, d, s⟩) w' := by
  have HP : Hid (PRc w H F S R) := hp
  obtain ⟨x, fil, wait, hb, hF⟩ := hp
  have HB : Hid (Br w H x S fil wait R) := hb
  have HF : Hid (∀ k, F k ↔ HFP H x k) := hF
  have HG : Hid (Good S) := hg
  have hlen := hb.len
  have hH := hb.rep.cells.lt
  clear hb hF hg
  generalize ho : (⟨4, a, b, c, d, s⟩ : OpD) = o
  have err : ∀ e w1, wrongM S o = e → e ≠ 0 → Below w.heap.size w w1 → Ending.returned (.int .i64 e) = .returned (.int .i64 (doErr S o)) ∧ Outcome PRc w H F R (doS S o) w1 := fun e w1 h1 h0 hbw => by
    have h2 := is_wrong h1 h0
    exact ⟨ret_int h2.symm, out_same HP.out hbw (not_done (by rw [h2]; exact h0)).2.1⟩
  have ERR : Hid (∀ e w1, wrongM S o = e → e ≠ 0 → Below w.heap.size w w1 → Ending.returned (.int .i64 e) = .returned (.int .i64 (doErr S o)) ∧ Outcome PRc w H F R (doS S o) w1) := err
  clear err
  have HW : Hid (wrongM S o = noneErr (findM (fun m => m.number == b) S.wait 0)) := by show _ = _; rw [← ho]; simp [wrongM]
  have HFE : Hid ((findM (fun m : WaitD => m.number == b) S.wait 0 < 0) ↔ wait.any (fun m => m.number == b) = false) := by
    have h := HB.out.lk.waits b
    constructor
    · intro hlt; rw [decide_eq_true hlt] at h; simpa using h.symm
    · intro hf; rw [hf] at h; simpa using h
  have hwl : wait.length ≤ 64 := by rw [HB.out.lk.waitP.length_eq]; exact HG.out.inv.wait.1
  obtain ⟨aw, cw, hvw, -, -, hcw⟩ := HB.out.rep.wait.form
  have cwait := HB.out.rep.cells.wait
  rw [hvw] at cwait
  have HCW : Hid (CellsAt w aw (wait.flatMap waitCells)) := hcw
  have cwait' : w.cell? ⟨H, 28, none⟩ = some (.slice aw wait.length cw) := cwait
  clear hvw hcw cwait
  have HONE : Hid ((theOne wait b).2 = wait.any (fun m => m.number == b)) := one_any _ _
  cases hhas : wait.any (fun m => m.number == b)
  · have HE : Hid (wrongM S o = 7) := by show _ = _; rw [HW.out, noneErr, if_pos (HFE.out.2 hhas)]
    clear ho
    go_enter Tryz.func64, Tryz.ntmps64
    go_wp2_with fail
    refine (hrFindWaiting wait aw cw b _ (by omega) HCW.out).mono ?_
    rintro e w1 ⟨rfl, hb1⟩
    rw [HONE.out, hhas]
    go_wp2_with fail
    go_ret
    exact ERR.out _ _ HE.out (by omega) (hb1.alloc hb1.size _)
  · have HHAS : Hid (wait.any (fun m => m.number == b) = true) := hhas
    have HZ : Hid (wrongM S o = 0) := by
      show _ = _
      rw [HW.out, noneErr, if_neg]
      intro h
      have := HFE.out.1 h
      rw [hhas] at this
      cases this
    clear hhas
    go_enter Tryz.func64, Tryz.ntmps64
    go_wp2_with fail
    refine (hrFindWaiting wait aw cw b _ (by omega) HCW.out).mono ?_
    rintro e w1 ⟨rfl, hb1⟩
    rw [HONE.out, HHAS.out]
    have HB1 : Hid (Below w.heap.size w w1) := hb1
    have HBA : Hid (∀ o, Below w.heap.size w (w1.alloc o)) := fun o => hb1.alloc hb1.size _
    clear hb1
    go_wp2_with fail
    generalize hWA : w1.alloc _ = wa
    have HBX : Hid (Below w.heap.size w wa) := by rw [← hWA]; exact HBA.out _
    clear hWA HBA HB1
    refine (hrIsFull H x _ _ _ (HB.out.rep.below HBX.out) hlen).mono ?_
    rintro e w3 ⟨rfl, hb3⟩
    have HB3 : Hid (Below w.heap.size w w3) := HBX.out.trans (hb3.mono HBX.out.size)
    clear hb3
    by_cases hfull : (S.done.length : Int) < S.room
    · have HNF : Hid (decide ((lk S fil wait).room ≤ ((cat R).size : Int) / 42) = false) := by
        show decide (S.room ≤ _) = false
        rw [HB.out.size, decide_eq_false_iff_not]
        omega
      obtain ⟨q1, q2, q3⟩ := is_done HZ.out (writes_not (by rw [← ho]; show (4 : Int) ≠ 6; decide)) hfull
      have HD1 : Hid (doneB S o = true) := q1
      have HD2 : Hid (doErr S o = 0) := q2
      have HD3 : Hid (doS S o = { S with done := S.done ++ [o], wait := S.wait.filter (fun m => m.number != b) }) := by show _ = _; rw [q3, ← ho]; simp [turnM]
      have HREC : Hid (recD o = ⟨4, 0, ⟨#[]⟩, b, 0, 0, 0, 0⟩) := by show _ = _; rw [← ho]; simp [recD]
      have HRE : Hid (recOf o = encM ⟨4, 0, ⟨#[]⟩, b, 0, 0, 0, 0⟩) := by show _ = _; rw [recOf, HREC.out]
      have HSM : Hid (Small ⟨4, 0, ⟨#[]⟩, b, 0, 0, 0, 0⟩) := by
        have hv := wrong_valid HB.out.num (by have h1 := HG.out.inv.pub; have h2 := HB.out.few; omega) HZ.out
        have hr := HREC.out
        rw [hr] at hv
        exact valid_small hv
      clear q1 q2 q3 ho hfull
      rw [HNF.out]
      have k3 := HB3.out.cell (p := ⟨H, 28, none⟩) hH |>.trans cwait'
      have hfr3 := (HB3.out.frozen (p := ⟨H, 28, none⟩) hH).trans (HB.out.rep.cells.free 28)
      have hH3 : H < w3.heap.size := Nat.lt_of_lt_of_le hH HB3.out.size
      go_wp2_with fail
      refine (hrWithoutWaiting wait aw cw b _ (by omega) (HCW.out.below HB3.out)).mono ?_
      rintro e w5 ⟨v, rfl, ho5, hb5⟩
      obtain ⟨a1, c1', rfl, -, -, -⟩ := Row.form (row_of_own (w := w3) ho5 nilV).1
      have c5 := cell_later hb5 k3
      have hfr5 := (hb5.frozen (p := ⟨H, 28, none⟩) hH3).trans hfr3
      have HST : HStep w H x (w5.setCell ⟨H, 28, none⟩ (.slice a1 (wait.filter (fun m => m.number != b)).length c1')) { lk S fil wait with wait := wait.filter (fun m => m.number != b) } (cat R) := HStep.then (Upd.of_below HB3.out) (fun _ hk => .inl hk) ((HB.out.rep.below HB3.out).setWait (Upd.of_below hb5) (row_of_own (w := w3) ho5 nilV).1 (row_of_own (w := w3) ho5 _).2)
      all_goals obtain ⟨x1, r1, u1, f1⟩ := HST
      have hH5 : H < w5.heap.size := Nat.lt_of_lt_of_le hH3 hb5.size
      all_goals have R1 : Hid _ := r1
      all_goals have U1 : Hid _ := u1
      all_goals have F1 : Hid _ := f1
      all_goals clear r1 u1 f1 ho5 hb5 k3 hfr3
      all_goals go_wp2_with fail
      all_goals refine (hrWrite H x1 _ (cat R) ⟨4, 0, ⟨#[]⟩, b, 0, 0, 0, 0⟩ _ R1.out hlen HSM.out).mono ?_
      all_goals rintro e w6 ⟨rfl, hst⟩
      all_goals go_wp2_with fail
      all_goals go_ret
      all_goals refine ⟨ret_int HD2.out.symm, out_done HB.out HF.out HG.out HD1.out (fil1 := fil) (wait1 := wait.filter (fun m => m.number != b)) ?_ ?_⟩
      all_goals first
        | (rw [HD3.out, HRE.out]; exact (HStep.then U1.out F1.out hst).redone _)
        | (rw [HD3.out]; exact (HB.out.lk.cancel b).other rfl rfl (Int.le_refl _))
    · have HFU : Hid (decide ((lk S fil wait).room ≤ ((cat R).size : Int) / 42) = true) := by
        show decide (S.room ≤ _) = true
        rw [HB.out.size, decide_eq_true_iff]
        omega
      have HE : Hid (doErr S o = 9) := is_full HZ.out (writes_not (by rw [← ho]; show (4 : Int) ≠ 6; decide)) hfull
      clear ho hfull
      rw [HFU.out]
      go_wp2_with fail
      go_ret
      exact ⟨ret_int HE.out.symm, out_same HP.out HB3.out (not_done (by rw [HE.out]; omega)).2.1⟩
end Go.Proofs.YtmjdndhfmfjbiaaGreat
