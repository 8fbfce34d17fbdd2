import Derived.Test.YtmjdndhfmfjbiaaM05
import Derived.Deep.RegionHeld3
namespace Go.Proofs.Ytmjdndhfmfjbiaa
open Go.RowKit

theorem any_find {fil : Nat → List ByteArray} {wait : List WaitD} {S : RefS} (h : Lk S fil wait) {n : Nat} (hn : n < 8) (s : ByteArray) : (findM (fun f => f.toList == s.toList) (S.fil n) 0 < 0) ↔ (fil n).any (fun f => f.toList == s.toList) = false := by
  have := h.has hn s
  constructor
  · intro hlt; rw [decide_eq_true hlt] at this; simpa using this.symm
  · intro hf; rw [hf] at this; simpa using this

set_option maxRecDepth 100000 in
set_option maxHeartbeats 4000000 in
theorem hrSubscribe {w : World} {H : Nat} {F : Nat → Prop} {S : RefS} {R : List ByteArray} (a b c d : Int) (s : ByteArray) (hp : PRc w H F S R) (hg : Good S) (hs : s.size ≤ 1048576) :
    Calls Try.prog 16 #[.pointer (some ⟨H, 0, none⟩), .int .i64 a, .string s] w fun e w' =>
      e = .returned (.int .i64 (doErr S ⟨1, a, b, c, d, s⟩)) ∧ Outcome PRc w H F R (doS S ⟨1, a, b, c, d, s⟩) w' := by
  have HP : Hid (PRc w H F S R) := hp
  obtain ⟨x, fil, wait, hb, hF⟩ := hp
  have HB : Hid (Br w H x S fil wait R) := hb
  have HF : Hid (∀ k, F k ↔ HFP H x k) := hF
  have HG : Hid (Good S) := hg
  have hlen := hb.len
  clear hb hF hg
  generalize ho : (⟨1, a, b, c, d, s⟩ : OpD) = o
  have err : ∀ e w1, wrongM S o = e → e ≠ 0 → Below w.heap.size w w1 → Ending.returned (.int .i64 e) = .returned (.int .i64 (doErr S o)) ∧ Outcome PRc w H F R (doS S o) w1 := fun e w1 h1 h0 hbw => by
    have h2 := is_wrong h1 h0
    exact ⟨ret_int h2.symm, out_same HP.out hbw (not_done (by rw [h2]; exact h0)).2.1⟩
  have ERR : Hid (∀ e w1, wrongM S o = e → e ≠ 0 → Below w.heap.size w w1 → Ending.returned (.int .i64 e) = .returned (.int .i64 (doErr S o)) ∧ Outcome PRc w H F R (doS S o) w1) := err
  clear err
  cases hk : knownB a
  · have HE : Hid (wrongM S o = 2) := by show _ = _; rw [← ho]; simp [wrongM, hk]
    clear ho
    go_enter Try.func16, Try.ntmps16
    go_wp2_with fail
    refine (hrIsClient a _).mono ?_
    rintro e w ⟨rfl, rfl⟩
    rw [hk]
    go_wp2_with fail
    go_ret
    exact ERR.out _ _ HE.out (by omega) (Below.refl _ _)
  obtain ⟨n, rfl, hn⟩ := known_nat hk
  have HK : Hid (knownB (n : Int) = true) := hk
  have hn0 : (0 : Int) ≤ (n : Int) := by omega
  have hn1 : (n : Int) < 8 := by omega
  cases hpt : M.isPathM true s
  · have HE : Hid (wrongM S o = 4) := by show _ = _; rw [← ho]; simp [wrongM, hk, hpt]
    clear ho hk
    go_enter Try.func16, Try.ntmps16
    go_wp2_with fail
    refine (hrIsClient (n : Int) _).mono ?_
    rintro e w ⟨rfl, rfl⟩
    rw [HK.out]
    go_wp2_with fail
    refine (hrIsFilter s _ hs).mono ?_
    rintro e w1 ⟨rfl, hb1⟩
    rw [hpt]
    go_wp2_with fail
    go_ret
    exact ERR.out _ _ HE.out (by omega) hb1
  have HPT : Hid (M.isPathM true s = true) := hpt
  have HW : Hid (wrongM S o = subErr (findM (fun f => f.toList == s.toList) (S.fil n) 0) (S.fil n).length) := by show _ = _; rw [← ho]; simp [wrongM, hk, hpt]
  have HFI := any_find HB.out.lk hn s
  have HLE : Hid ((fil n).length = (S.fil n).length) := (HB.out.lk.filP n hn).length_eq
  have HFE : Hid ((findM (fun f => f.toList == s.toList) (S.fil n) 0 < 0) ↔ (fil n).any (fun f => f.toList == s.toList) = false) := HFI
  have hfl : (fil n).length ≤ 6 := by rw [HLE.out]; exact (HG.out.inv.fil n hn).1
  obtain ⟨af, cf, hvf, -, -, hcf⟩ := (HB.out.rep.fil n hn).form
  have cfil := HB.out.rep.cells.fil n hn
  rw [hvf] at cfil
  have HCF : Hid (CellsAt w af ((fil n).map Value.string)) := hcf
  have HHV : Hid (x.filV n = .slice af (fil n).length cf) := hvf
  have hH := HB.out.rep.cells.lt
  have cfil' : w.cell? ⟨H, 4 + n * 3, none⟩ = some (.slice af (fil n).length cf) := cfil
  clear hvf hcf HFI hk hpt cfil
  cases hhas : (fil n).any (fun f => f.toList == s.toList)
  case true =>
    have HE : Hid (wrongM S o = 6) := by
      show _ = _
      rw [HW.out, subErr, if_pos]
      have := HFE.out
      rw [hhas] at this
      simpa using this
    clear ho
    go_enter Try.func16, Try.ntmps16
    go_wp2_with fail
    refine (hrIsClient (n : Int) _).mono ?_
    rintro e w ⟨rfl, rfl⟩
    rw [HK.out]
    go_wp2_with fail
    refine (hrIsFilter s _ hs).mono ?_
    rintro e w1 ⟨rfl, hb1⟩
    rw [HPT.out]
    have c1 := cell_later hb1 cfil'
    have HB1 : Hid (Below _ _ w1) := hb1
    clear hb1
    go_wp2_with fail
    refine (hrHasFilter (fil n) af cf s _ (by omega) (HCF.out.below HB1.out)).mono ?_
    rintro e w1 ⟨rfl, rfl⟩
    rw [hhas]
    go_wp2_with fail
    go_ret
    exact ERR.out _ _ HE.out (by omega) HB1.out
  case false =>
    have HHAS : Hid ((fil n).any (fun f => f.toList == s.toList) = false) := hhas
    have HNEG : Hid (findM (fun f => f.toList == s.toList) (S.fil n) 0 < 0) := HFE.out.2 hhas
    clear hhas
    go_enter Try.func16, Try.ntmps16
    go_wp2_with fail
    refine (hrIsClient (n : Int) _).mono ?_
    rintro e w ⟨rfl, rfl⟩
    rw [HK.out]
    go_wp2_with fail
    refine (hrIsFilter s _ hs).mono ?_
    rintro e w1 ⟨rfl, hb1⟩
    rw [HPT.out]
    have c1 := cell_later hb1 cfil'
    have HB1 : Hid (Below _ _ w1) := hb1
    clear hb1
    go_wp2_with fail
    refine (hrHasFilter (fil n) af cf s _ (by omega) (HCF.out.below HB1.out)).mono ?_
    rintro e w1 ⟨rfl, rfl⟩
    rw [HHAS.out]
    by_cases h6 : 6 ≤ (fil n).length
    · have HE : Hid (wrongM S o = 8) := by
        show _ = _
        rw [HW.out, subErr, if_neg (by have := HNEG.out; omega), if_pos (by rw [← HLE.out]; exact h6)]
      clear ho
      go_wp2_with fail
      go_ret
      exact ERR.out _ _ HE.out (by omega) HB1.out
    · have HZ : Hid (wrongM S o = 0) := by
        show _ = _
        rw [HW.out, subErr, if_neg (by have := HNEG.out; omega), if_neg (by rw [← HLE.out]; exact h6)]
      go_wp2_with fail
      refine (hrIsFull H x _ _ _ (HB.out.rep.below HB1.out) hlen).mono ?_
      rintro e w3 ⟨rfl, hb3⟩
      have c3 := cell_later hb3 c1
      have HB3 : Hid (Below w.heap.size w w3) := HB1.out.trans (hb3.mono HB1.out.size)
      clear hb3
      by_cases hfull : (S.done.length : Int) < S.room
      · have HNF : Hid (decide ((lk S fil wait).room ≤ ((cat R).size : Int) / 42) = false) := by
          show decide (S.room ≤ _) = false
          rw [HB.out.size, decide_eq_false_iff_not]
          omega
        obtain ⟨q1, q2, q3⟩ := is_done HZ.out (writes_not (by rw [← ho]; show (1 : Int) ≠ 6; decide)) hfull
        have HD1 : Hid (doneB S o = true) := q1
        have HD2 : Hid (doErr S o = 0) := q2
        have HD3 : Hid (doS S o = { S with done := S.done ++ [o], fil := setAt S.fil n (S.fil n ++ [s]) }) := by show _ = _; rw [q3, ← ho]; simp [turnM]
        have HRE : Hid (recOf o = encM ⟨1, n, s, 0, 0, 0, 0, 0⟩) := by show _ = _; rw [← ho]; simp [recOf, recD]
        have HREC : Hid (recD o = ⟨1, n, s, 0, 0, 0, 0, 0⟩) := by show _ = _; rw [← ho]; simp [recD]
        clear q1 q2 q3 ho hfull
        rw [HNF.out]
        go_wp2_with fail
        refine (hrCopyText s _).mono ?_
        rintro e w4 ⟨rfl, hb4⟩
        have c4 := cell_later hb4 c3
        have HB4 : Hid (Below w.heap.size w w4) := HB3.out.trans (hb4.mono HB3.out.size)
        clear hb4
        have hfr4 := (HB4.out.frozen (p := ⟨H, 4 + n * 3, none⟩) hH).trans (HB.out.rep.cells.free (4 + n * 3))
        have hH4 : H < w4.heap.size := Nat.lt_of_lt_of_le hH HB4.out.size
        have HSM : Hid (Small ⟨1, n, s, 0, 0, 0, 0, 0⟩) := by
          have hv := wrong_valid HB.out.num (by have h1 := HG.out.inv.pub; have h2 := HB.out.few; omega) HZ.out
          have hr := HREC.out
          rw [hr] at hv
          exact valid_small hv
        go_wp2_with fail
        go_region_with (go_at_call 38; refine (hrWithFilter (fil n) af cf s _ (by omega) ((HCF.out.below HB4.out).below below_drew)).mono ?_; rintro e w5 ⟨v, rfl, ho5, hb5⟩; obtain ⟨a1, c1', rfl, -, -, -⟩ := Row.form (row_of_own (w := w4) ho5 nilV).1; have c5 := cell_later (w := w4.drew) hb5 c4; have hfr5 := (hb5.frozen (p := ⟨H, 4 + n * 3, none⟩) hH4).trans hfr4)
        all_goals have HST : HStep w H x (w5.setCell ⟨H, 4 + n * 3, none⟩ (.slice a1 (insM ltB s (fil n)).length c1')) { lk S fil wait with fil := setAt fil n (insM ltB s (fil n)) } (cat R) := HStep.then (Upd.of_below HB4.out) (fun _ hk => .inl hk) ((HB.out.rep.below HB4.out).setFil hn (Upd.of_below (below_drew.trans hb5)) (by rw [← flat_sing]; exact (row_of_own (w := w4) ho5 nilV).1) (row_of_own (w := w4) ho5 _).2)
        all_goals obtain ⟨x1, r1, u1, f1⟩ := HST
        all_goals have R1 : Hid _ := r1
        all_goals have U1 : Hid _ := u1
        all_goals have F1 : Hid _ := f1
        all_goals clear r1 u1 f1 ho5 hb5 c5 hfr5 c4 hfr4
        all_goals go_wp2_with fail
        all_goals refine (hrWrite H x1 _ (cat R) ⟨1, n, s, 0, 0, 0, 0, 0⟩ _ R1.out hlen HSM.out).mono ?_
        all_goals rintro e w6 ⟨rfl, hst⟩
        all_goals go_wp2_with fail
        all_goals go_ret
        all_goals refine ⟨ret_int HD2.out.symm, out_done HB.out HF.out HG.out HD1.out (fil1 := setAt fil n (insM ltB s (fil n))) (wait1 := wait) ?_ ?_⟩
        all_goals first
          | (rw [HD3.out, HRE.out]; exact (HStep.then U1.out F1.out hst).redone _)
          | (rw [HD3.out]; exact (HB.out.lk.sub hn (path_some HPT.out) HHAS.out).other rfl rfl (Int.le_refl _))
      · have HFU : Hid (decide ((lk S fil wait).room ≤ ((cat R).size : Int) / 42) = true) := by
          show decide (S.room ≤ _) = true
          rw [HB.out.size, decide_eq_true_iff]
          omega
        have HE : Hid (doErr S o = 9) := is_full HZ.out (writes_not (by rw [← ho]; show (1 : Int) ≠ 6; decide)) hfull
        clear ho hfull
        rw [HFU.out]
        go_wp2_with fail
        go_ret
        exact ⟨ret_int HE.out.symm, out_same HP.out HB3.out (not_done (by rw [HE.out]; omega)).2.1⟩
end Go.Proofs.Ytmjdndhfmfjbiaa

namespace Go.Proofs.Ytmjdndhfmfjbiaa
open Go.RowKit

set_option maxRecDepth 100000 in
set_option maxHeartbeats 4000000 in
theorem hrUnsubscribe {w : World} {H : Nat} {F : Nat → Prop} {S : RefS} {R : List ByteArray} (a b c d : Int) (s : ByteArray) (hp : PRc w H F S R) (hg : Good S) (hs : s.size ≤ 1048576) :
    Calls Try.prog 76 #[.pointer (some ⟨H, 0, none⟩), .int .i64 a, .string s] w fun e w' =>
      e = .returned (.int .i64 (doErr S ⟨2, a, b, c, d, s⟩)) ∧ Outcome PRc w H F R (doS S ⟨2, a, b, c, d, s⟩) w' := by
  have HP : Hid (PRc w H F S R) := hp
  obtain ⟨x, fil, wait, hb, hF⟩ := hp
  have HB : Hid (Br w H x S fil wait R) := hb
  have HF : Hid (∀ k, F k ↔ HFP H x k) := hF
  have HG : Hid (Good S) := hg
  have hlen := hb.len
  clear hb hF hg
  generalize ho : (⟨2, a, b, c, d, s⟩ : OpD) = o
  have err : ∀ e w1, wrongM S o = e → e ≠ 0 → Below w.heap.size w w1 → Ending.returned (.int .i64 e) = .returned (.int .i64 (doErr S o)) ∧ Outcome PRc w H F R (doS S o) w1 := fun e w1 h1 h0 hbw => by
    have h2 := is_wrong h1 h0
    exact ⟨ret_int h2.symm, out_same HP.out hbw (not_done (by rw [h2]; exact h0)).2.1⟩
  have ERR : Hid (∀ e w1, wrongM S o = e → e ≠ 0 → Below w.heap.size w w1 → Ending.returned (.int .i64 e) = .returned (.int .i64 (doErr S o)) ∧ Outcome PRc w H F R (doS S o) w1) := err
  clear err
  cases hk : knownB a
  · have HE : Hid (wrongM S o = 2) := by show _ = _; rw [← ho]; simp [wrongM, hk]
    clear ho
    go_enter Try.func76, Try.ntmps76
    go_wp2_with fail
    refine (hrIsClient a _).mono ?_
    rintro e w ⟨rfl, rfl⟩
    rw [hk]
    go_wp2_with fail
    go_ret
    exact ERR.out _ _ HE.out (by omega) (Below.refl _ _)
  obtain ⟨n, rfl, hn⟩ := known_nat hk
  have HK : Hid (knownB (n : Int) = true) := hk
  have hn0 : (0 : Int) ≤ (n : Int) := by omega
  have hn1 : (n : Int) < 8 := by omega
  cases hpt : M.isPathM true s
  · have HE : Hid (wrongM S o = 4) := by show _ = _; rw [← ho]; simp [wrongM, hk, hpt]
    clear ho hk
    go_enter Try.func76, Try.ntmps76
    go_wp2_with fail
    refine (hrIsClient (n : Int) _).mono ?_
    rintro e w ⟨rfl, rfl⟩
    rw [HK.out]
    go_wp2_with fail
    refine (hrIsFilter s _ hs).mono ?_
    rintro e w1 ⟨rfl, hb1⟩
    rw [hpt]
    go_wp2_with fail
    go_ret
    exact ERR.out _ _ HE.out (by omega) hb1
  have HPT : Hid (M.isPathM true s = true) := hpt
  have HW : Hid (wrongM S o = noneErr (findM (fun f => f.toList == s.toList) (S.fil n) 0)) := by show _ = _; rw [← ho]; simp [wrongM, hk, hpt]
  have HFI := any_find HB.out.lk hn s
  have HLE : Hid ((fil n).length = (S.fil n).length) := (HB.out.lk.filP n hn).length_eq
  have HFE : Hid ((findM (fun f => f.toList == s.toList) (S.fil n) 0 < 0) ↔ (fil n).any (fun f => f.toList == s.toList) = false) := HFI
  have hfl : (fil n).length ≤ 6 := by rw [HLE.out]; exact (HG.out.inv.fil n hn).1
  obtain ⟨af, cf, hvf, -, -, hcf⟩ := (HB.out.rep.fil n hn).form
  have cfil := HB.out.rep.cells.fil n hn
  rw [hvf] at cfil
  have HCF : Hid (CellsAt w af ((fil n).map Value.string)) := hcf
  have HHV : Hid (x.filV n = .slice af (fil n).length cf) := hvf
  have hH := HB.out.rep.cells.lt
  have cfil' : w.cell? ⟨H, 4 + n * 3, none⟩ = some (.slice af (fil n).length cf) := cfil
  clear hvf hcf HFI hk hpt cfil
  cases hhas : (fil n).any (fun f => f.toList == s.toList)
  case false =>
    have HE : Hid (wrongM S o = 7) := by
      show _ = _
      rw [HW.out, noneErr, if_pos (HFE.out.2 hhas)]
    clear ho
    go_enter Try.func76, Try.ntmps76
    go_wp2_with fail
    refine (hrIsClient (n : Int) _).mono ?_
    rintro e w ⟨rfl, rfl⟩
    rw [HK.out]
    go_wp2_with fail
    refine (hrIsFilter s _ hs).mono ?_
    rintro e w1 ⟨rfl, hb1⟩
    rw [HPT.out]
    have c1 := cell_later hb1 cfil'
    have HB1 : Hid (Below _ _ w1) := hb1
    clear hb1
    go_wp2_with fail
    refine (hrHasFilter (fil n) af cf s _ (by omega) (HCF.out.below HB1.out)).mono ?_
    rintro e w1 ⟨rfl, rfl⟩
    rw [hhas]
    go_wp2_with fail
    go_ret
    exact ERR.out _ _ HE.out (by omega) HB1.out
  case true =>
    have HHAS : Hid ((fil n).any (fun f => f.toList == s.toList) = true) := hhas
    have HNEG : Hid (¬ findM (fun f => f.toList == s.toList) (S.fil n) 0 < 0) := fun h => by have := HFE.out.1 h; rw [hhas] at this; cases this
    clear hhas
    go_enter Try.func76, Try.ntmps76
    go_wp2_with fail
    refine (hrIsClient (n : Int) _).mono ?_
    rintro e w ⟨rfl, rfl⟩
    rw [HK.out]
    go_wp2_with fail
    refine (hrIsFilter s _ hs).mono ?_
    rintro e w1 ⟨rfl, hb1⟩
    rw [HPT.out]
    have c1 := cell_later hb1 cfil'
    have HB1 : Hid (Below _ _ w1) := hb1
    clear hb1
    go_wp2_with fail
    refine (hrHasFilter (fil n) af cf s _ (by omega) (HCF.out.below HB1.out)).mono ?_
    rintro e w1 ⟨rfl, rfl⟩
    rw [HHAS.out]
    · have HZ : Hid (wrongM S o = 0) := by
        show _ = _
        rw [HW.out, noneErr, if_neg (by have := HNEG.out; omega)]
      go_wp2_with fail
      refine (hrIsFull H x _ _ _ (HB.out.rep.below HB1.out) hlen).mono ?_
      rintro e w3 ⟨rfl, hb3⟩
      have c3 := cell_later hb3 c1
      have HB3 : Hid (Below w.heap.size w w3) := HB1.out.trans (hb3.mono HB1.out.size)
      clear hb3
      by_cases hfull : (S.done.length : Int) < S.room
      · have HNF : Hid (decide ((lk S fil wait).room ≤ ((cat R).size : Int) / 42) = false) := by
          show decide (S.room ≤ _) = false
          rw [HB.out.size, decide_eq_false_iff_not]
          omega
        obtain ⟨q1, q2, q3⟩ := is_done HZ.out (writes_not (by rw [← ho]; show (2 : Int) ≠ 6; decide)) hfull
        have HD1 : Hid (doneB S o = true) := q1
        have HD2 : Hid (doErr S o = 0) := q2
        have HD3 : Hid (doS S o = { S with done := S.done ++ [o], fil := setAt S.fil n ((S.fil n).filter (fun f => !(f.toList == s.toList))) }) := by show _ = _; rw [q3, ← ho]; simp [turnM]
        have HRE : Hid (recOf o = encM ⟨2, n, s, 0, 0, 0, 0, 0⟩) := by show _ = _; rw [← ho]; simp [recOf, recD]
        have HREC : Hid (recD o = ⟨2, n, s, 0, 0, 0, 0, 0⟩) := by show _ = _; rw [← ho]; simp [recD]
        clear q1 q2 q3 ho hfull
        rw [HNF.out]
        have hfr3 := (HB3.out.frozen (p := ⟨H, 4 + n * 3, none⟩) hH).trans (HB.out.rep.cells.free (4 + n * 3))
        have hH3 : H < w3.heap.size := Nat.lt_of_lt_of_le hH HB3.out.size
        have HSM : Hid (Small ⟨2, n, s, 0, 0, 0, 0, 0⟩) := by
          have hv := wrong_valid HB.out.num (by have h1 := HG.out.inv.pub; have h2 := HB.out.few; omega) HZ.out
          have hr := HREC.out
          rw [hr] at hv
          exact valid_small hv
        go_wp2_with fail
        go_region_with (go_at_call 80; refine (hrWithoutFilter (fil n) af cf s _ (by omega) ((HCF.out.below HB3.out).below below_drew)).mono ?_; rintro e w5 ⟨v, rfl, ho5, hb5⟩; obtain ⟨a1, c1', rfl, -, -, -⟩ := Row.form (row_of_own (w := w3) ho5 nilV).1; have c5 := cell_later (w := w3.drew) hb5 c3; have hfr5 := (hb5.frozen (p := ⟨H, 4 + n * 3, none⟩) hH3).trans hfr3)
        all_goals have HST : HStep w H x (w5.setCell ⟨H, 4 + n * 3, none⟩ (.slice a1 ((fil n).filter (fun f => !(f.toList == s.toList))).length c1')) { lk S fil wait with fil := setAt fil n ((fil n).filter (fun f => !(f.toList == s.toList))) } (cat R) := HStep.then (Upd.of_below HB3.out) (fun _ hk => .inl hk) ((HB.out.rep.below HB3.out).setFil hn (Upd.of_below (below_drew.trans hb5)) (by rw [← flat_sing]; exact (row_of_own (w := w3) ho5 nilV).1) (row_of_own (w := w3) ho5 _).2)
        all_goals obtain ⟨x1, r1, u1, f1⟩ := HST
        all_goals have R1 : Hid _ := r1
        all_goals have U1 : Hid _ := u1
        all_goals have F1 : Hid _ := f1
        all_goals clear r1 u1 f1 ho5 hb5 c5 hfr5 c3 hfr3
        all_goals go_wp2_with fail
        all_goals refine (hrWrite H x1 _ (cat R) ⟨2, n, s, 0, 0, 0, 0, 0⟩ _ R1.out hlen HSM.out).mono ?_
        all_goals rintro e w6 ⟨rfl, hst⟩
        all_goals go_wp2_with fail
        all_goals go_ret
        all_goals refine ⟨ret_int HD2.out.symm, out_done HB.out HF.out HG.out HD1.out (fil1 := setAt fil n ((fil n).filter (fun f => !(f.toList == s.toList)))) (wait1 := wait) ?_ ?_⟩
        all_goals first
          | (rw [HD3.out, HRE.out]; exact (HStep.then U1.out F1.out hst).redone _)
          | (rw [HD3.out]; exact (HB.out.lk.unsub hn s).other rfl rfl (Int.le_refl _))
      · have HFU : Hid (decide ((lk S fil wait).room ≤ ((cat R).size : Int) / 42) = true) := by
          show decide (S.room ≤ _) = true
          rw [HB.out.size, decide_eq_true_iff]
          omega
        have HE : Hid (doErr S o = 9) := is_full HZ.out (writes_not (by rw [← ho]; show (2 : Int) ≠ 6; decide)) hfull
        clear ho hfull
        rw [HFU.out]
        go_wp2_with fail
        go_ret
        exact ⟨ret_int HE.out.symm, out_same HP.out HB3.out (not_done (by rw [HE.out]; omega)).2.1⟩
end Go.Proofs.Ytmjdndhfmfjbiaa

namespace Go.Proofs.Ytmjdndhfmfjbiaa
open Go.RowKit

theorem any_findL {α : Type} (p : α → Bool) (l : List α) : (findM p l 0 < 0) ↔ l.any p = false := by
  have := find_has p l
  constructor
  · intro hlt; rw [decide_eq_true hlt] at this; simpa using this.symm
  · intro hf; rw [hf] at this; simpa using this

set_option maxRecDepth 100000 in
set_option maxHeartbeats 4000000 in
theorem hrAck {w : World} {H : Nat} {F : Nat → Prop} {S : RefS} {R : List ByteArray} (a b c d : Int) (s : ByteArray) (hp : PRc w H F S R) (hg : Good S) :
    Calls Try.prog 79 #[.pointer (some ⟨H, 0, none⟩), .int .i64 a, .int .i64 b] w fun e w' =>
      e = .returned (.int .i64 (doErr S ⟨7, a, b, c, d, s⟩)) ∧ Outcome PRc w H F R (doS S ⟨7, a, b, c, d, s⟩) w' := by
  have HP : Hid (PRc w H F S R) := hp
  obtain ⟨x, fil, wait, hb, hF⟩ := hp
  have HB : Hid (Br w H x S fil wait R) := hb
  have HF : Hid (∀ k, F k ↔ HFP H x k) := hF
  have HG : Hid (Good S) := hg
  have hlen := hb.len
  have hH := hb.rep.cells.lt
  clear hb hF hg
  generalize ho : (⟨7, a, b, c, d, s⟩ : OpD) = o
  have err : ∀ e w1, wrongM S o = e → e ≠ 0 → Below w.heap.size w w1 → Ending.returned (.int .i64 e) = .returned (.int .i64 (doErr S o)) ∧ Outcome PRc w H F R (doS S o) w1 := fun e w1 h1 h0 hbw => by
    have h2 := is_wrong h1 h0
    exact ⟨ret_int h2.symm, out_same HP.out hbw (not_done (by rw [h2]; exact h0)).2.1⟩
  have ERR : Hid (∀ e w1, wrongM S o = e → e ≠ 0 → Below w.heap.size w w1 → Ending.returned (.int .i64 e) = .returned (.int .i64 (doErr S o)) ∧ Outcome PRc w H F R (doS S o) w1) := err
  clear err
  cases hk : knownB a
  · have HE : Hid (wrongM S o = 2) := by show _ = _; rw [← ho]; simp [wrongM, hk]
    clear ho
    go_enter Try.func79, Try.ntmps79
    go_wp2_with fail
    refine (hrIsClient a _).mono ?_
    rintro e w ⟨rfl, rfl⟩
    rw [hk]
    go_wp2_with fail
    go_ret
    exact ERR.out _ _ HE.out (by omega) (Below.refl _ _)
  obtain ⟨n, rfl, hn⟩ := known_nat hk
  have HK : Hid (knownB (n : Int) = true) := hk
  have hn0 : (0 : Int) ≤ (n : Int) := by omega
  have hn1 : (n : Int) < 8 := by omega
  have HW : Hid (wrongM S o = noneErr (findM (fun m => m.number == b) (S.que n) 0)) := by show _ = _; rw [← ho]; simp [wrongM, hk]
  have HFE : Hid ((findM (fun m : SentD => m.number == b) (S.que n) 0 < 0) ↔ (S.que n).any (fun m => m.number == b) = false) := any_findL _ _
  have hql : (S.que n).length ≤ 10 := (HG.out.inv.que n hn).1
  obtain ⟨aq, cq, hvq, -, -, hcq⟩ := (HB.out.rep.que n hn).form
  have cque := HB.out.rep.cells.que n hn
  rw [hvq] at cque
  have HCQ : Hid (CellsAt w aq ((S.que n).flatMap msgCells)) := hcq
  have cque' : w.cell? ⟨H, 4 + n * 3 + 1, none⟩ = some (.slice aq (S.que n).length cq) := cque
  clear hvq hcq hk cque
  cases hhas : (S.que n).any (fun m => m.number == b)
  · have HE : Hid (wrongM S o = 7) := by show _ = _; rw [HW.out, noneErr, if_pos (HFE.out.2 hhas)]
    clear ho
    go_enter Try.func79, Try.ntmps79
    go_wp2_with fail
    refine (hrIsClient (n : Int) _).mono ?_
    rintro e w ⟨rfl, rfl⟩
    rw [HK.out]
    go_wp2_with fail
    refine (hrHasMessage (S.que n) aq cq b _ (by omega) HCQ.out).mono ?_
    rintro e w ⟨rfl, rfl⟩
    rw [hhas]
    go_wp2_with fail
    go_ret
    exact ERR.out _ _ HE.out (by omega) (Below.refl _ _)
  · have HHAS : Hid ((S.que n).any (fun m => m.number == b) = true) := hhas
    have HZ : Hid (wrongM S o = 0) := by
      show _ = _
      rw [HW.out, noneErr, if_neg]
      intro h
      have := HFE.out.1 h
      rw [hhas] at this
      cases this
    clear hhas
    have HBR : Hid (Below w.heap.size w w) := Below.refl _ _
    go_enter Try.func79, Try.ntmps79
    go_wp2_with fail
    refine (hrIsClient (n : Int) _).mono ?_
    rintro e w ⟨rfl, rfl⟩
    rw [HK.out]
    go_wp2_with fail
    refine (hrHasMessage (S.que n) aq cq b _ (by omega) HCQ.out).mono ?_
    rintro e w ⟨rfl, rfl⟩
    rw [HHAS.out]
    go_wp2_with fail
    refine (hrIsFull H x _ _ _ (HB.out.rep.below HBR.out) hlen).mono ?_
    rintro e w3 ⟨rfl, hb3⟩
    have HB3 : Hid (Below w.heap.size w w3) := HBR.out.trans (hb3.mono HBR.out.size)
    clear hb3
    by_cases hfull : (S.done.length : Int) < S.room
    · have HNF : Hid (decide ((lk S fil wait).room ≤ ((cat R).size : Int) / 42) = false) := by
        show decide (S.room ≤ _) = false
        rw [HB.out.size, decide_eq_false_iff_not]
        omega
      obtain ⟨q1, q2, q3⟩ := is_done HZ.out (writes_not (by rw [← ho]; show (7 : Int) ≠ 6; decide)) hfull
      have HD1 : Hid (doneB S o = true) := q1
      have HD2 : Hid (doErr S o = 0) := q2
      have HD3 : Hid (doS S o = { S with done := S.done ++ [o], que := setAt S.que n ((S.que n).filter (fun m => m.number != b)) }) := by show _ = _; rw [q3, ← ho]; simp [turnM]
      have HREC : Hid (recD o = ⟨7, n, ⟨#[]⟩, b, 0, 0, 0, 0⟩) := by show _ = _; rw [← ho]; simp [recD]
      have HRE : Hid (recOf o = encM ⟨7, n, ⟨#[]⟩, b, 0, 0, 0, 0⟩) := by show _ = _; rw [recOf, HREC.out]
      have HSM : Hid (Small ⟨7, n, ⟨#[]⟩, b, 0, 0, 0, 0⟩) := by
        have hv := wrong_valid HB.out.num (by have h1 := HG.out.inv.pub; have h2 := HB.out.few; omega) HZ.out
        have hr := HREC.out
        rw [hr] at hv
        exact valid_small hv
      clear q1 q2 q3 ho hfull
      rw [HNF.out]
      have k3 := HB3.out.cell (p := ⟨H, 4 + n * 3 + 1, none⟩) hH |>.trans cque'
      have hfr3 := (HB3.out.frozen (p := ⟨H, 4 + n * 3 + 1, none⟩) hH).trans (HB.out.rep.cells.free (4 + n * 3 + 1))
      have hH3 : H < w3.heap.size := Nat.lt_of_lt_of_le hH HB3.out.size
      go_wp2_with fail
      go_region_with (go_at_call 84; refine (hrWithoutMessage (S.que n) aq cq b _ (by omega) ((HCQ.out.below HB3.out).below below_drew)).mono ?_; rintro e w5 ⟨v, rfl, ho5, hb5⟩; obtain ⟨a1, c1', rfl, -, -, -⟩ := Row.form (row_of_own (w := w3) ho5 nilV).1; have c5 := cell_later (w := w3.drew) hb5 k3; have hfr5 := (hb5.frozen (p := ⟨H, 4 + n * 3 + 1, none⟩) hH3).trans hfr3)
      all_goals have HST : HStep w H x (w5.setCell ⟨H, 4 + n * 3 + 1, none⟩ (.slice a1 ((S.que n).filter (fun m => m.number != b)).length c1')) { lk S fil wait with que := setAt S.que n ((S.que n).filter (fun m => m.number != b)) } (cat R) := HStep.then (Upd.of_below HB3.out) (fun _ hk => .inl hk) ((HB.out.rep.below HB3.out).setQue hn (Upd.of_below (below_drew.trans hb5)) (row_of_own (w := w3) ho5 nilV).1 (row_of_own (w := w3) ho5 _).2)
      all_goals obtain ⟨x1, r1, u1, f1⟩ := HST
      all_goals have R1 : Hid _ := r1
      all_goals have U1 : Hid _ := u1
      all_goals have F1 : Hid _ := f1
      all_goals clear r1 u1 f1 ho5 hb5 c5 hfr5 k3 hfr3
      all_goals go_wp2_with fail
      all_goals refine (hrWrite H x1 _ (cat R) ⟨7, n, ⟨#[]⟩, b, 0, 0, 0, 0⟩ _ R1.out hlen HSM.out).mono ?_
      all_goals rintro e w6 ⟨rfl, hst⟩
      all_goals go_wp2_with fail
      all_goals go_ret
      all_goals refine ⟨ret_int HD2.out.symm, out_done HB.out HF.out HG.out HD1.out (fil1 := fil) (wait1 := wait) ?_ ?_⟩
      all_goals first
        | (rw [HD3.out, HRE.out]; exact (HStep.then U1.out F1.out hst).redone _)
        | (rw [HD3.out]; exact HB.out.lk.other rfl rfl (Int.le_refl _))
    · have HFU : Hid (decide ((lk S fil wait).room ≤ ((cat R).size : Int) / 42) = true) := by
        show decide (S.room ≤ _) = true
        rw [HB.out.size, decide_eq_true_iff]
        omega
      have HE : Hid (doErr S o = 9) := is_full HZ.out (writes_not (by rw [← ho]; show (7 : Int) ≠ 6; decide)) hfull
      clear ho hfull
      rw [HFU.out]
      go_wp2_with fail
      go_ret
      exact ⟨ret_int HE.out.symm, out_same HP.out HB3.out (not_done (by rw [HE.out]; omega)).2.1⟩
end Go.Proofs.Ytmjdndhfmfjbiaa

namespace Go.Proofs.Ytmjdndhfmfjbiaa
open Go.RowKit

theorem one_any (ws : List WaitD) (n : Int) : (theOne ws n).2 = ws.any (fun m => m.number == n) := by
  unfold theOne
  cases h : ws.find? (fun m => m.number == n) with
  | none => rw [List.find?_eq_none] at h; symm; simp only [List.any_eq_false]; exact h
  | some m => symm; exact List.any_eq_true.2 ⟨m, List.mem_of_find?_eq_some h, List.find?_some (p := fun m : WaitD => m.number == n) h⟩
theorem one_mem {ws : List WaitD} {n : Int} (h : ws.any (fun m => m.number == n) = true) : (theOne ws n).1 ∈ ws ∧ (theOne ws n).1.number = n := by
  rw [← one_any] at h
  unfold theOne at h ⊢
  cases hf : ws.find? (fun m => m.number == n) with
  | none => rw [hf] at h; cases h
  | some m => exact ⟨List.mem_of_find?_eq_some hf, by simpa using List.find?_some (p := fun m : WaitD => m.number == n) hf⟩

set_option maxRecDepth 100000 in
set_option maxHeartbeats 4000000 in
theorem hrCancel {w : World} {H : Nat} {F : Nat → Prop} {S : RefS} {R : List ByteArray} (a b c d : Int) (s : ByteArray) (hp : PRc w H F S R) (hg : Good S) :
    Calls Try.prog 77 #[.pointer (some ⟨H, 0, none⟩), .int .i64 b] w fun e w' =>
      e = .returned (.int .i64 (doErr S ⟨4, a, b, c, d, s⟩)) ∧ Outcome PRc w H F R (doS S ⟨4, a, b, c, d, s⟩) w' := by
  have HP : Hid (PRc w H F S R) := hp
  obtain ⟨x, fil, wait, hb, hF⟩ := hp
  have HB : Hid (Br w H x S fil wait R) := hb
  have HF : Hid (∀ k, F k ↔ HFP H x k) := hF
  have HG : Hid (Good S) := hg
  have hlen := hb.len
  have hH := hb.rep.cells.lt
  clear hb hF hg
  generalize ho : (⟨4, a, b, c, d, s⟩ : OpD) = o
  have err : ∀ e w1, wrongM S o = e → e ≠ 0 → Below w.heap.size w w1 → Ending.returned (.int .i64 e) = .returned (.int .i64 (doErr S o)) ∧ Outcome PRc w H F R (doS S o) w1 := fun e w1 h1 h0 hbw => by
    have h2 := is_wrong h1 h0
    exact ⟨ret_int h2.symm, out_same HP.out hbw (not_done (by rw [h2]; exact h0)).2.1⟩
  have ERR : Hid (∀ e w1, wrongM S o = e → e ≠ 0 → Below w.heap.size w w1 → Ending.returned (.int .i64 e) = .returned (.int .i64 (doErr S o)) ∧ Outcome PRc w H F R (doS S o) w1) := err
  clear err
  have HW : Hid (wrongM S o = noneErr (findM (fun m => m.number == b) S.wait 0)) := by show _ = _; rw [← ho]; simp [wrongM]
  have HFE : Hid ((findM (fun m : WaitD => m.number == b) S.wait 0 < 0) ↔ wait.any (fun m => m.number == b) = false) := by
    have h := HB.out.lk.waits b
    constructor
    · intro hlt; rw [decide_eq_true hlt] at h; simpa using h.symm
    · intro hf; rw [hf] at h; simpa using h
  have hwl : wait.length ≤ 64 := by rw [HB.out.lk.waitP.length_eq]; exact HG.out.inv.wait.1
  obtain ⟨aw, cw, hvw, -, -, hcw⟩ := HB.out.rep.wait.form
  have cwait := HB.out.rep.cells.wait
  rw [hvw] at cwait
  have HCW : Hid (CellsAt w aw (wait.flatMap waitCells)) := hcw
  have cwait' : w.cell? ⟨H, 28, none⟩ = some (.slice aw wait.length cw) := cwait
  clear hvw hcw cwait
  have HONE : Hid ((theOne wait b).2 = wait.any (fun m => m.number == b)) := one_any _ _
  cases hhas : wait.any (fun m => m.number == b)
  · have HE : Hid (wrongM S o = 7) := by show _ = _; rw [HW.out, noneErr, if_pos (HFE.out.2 hhas)]
    clear ho
    go_enter Try.func77, Try.ntmps77
    go_wp2_with fail
    refine (hrFindWaiting wait aw cw b _ (by omega) HCW.out).mono ?_
    rintro e w1 ⟨rfl, hb1⟩
    rw [HONE.out, hhas]
    go_wp2_with fail
    go_ret
    exact ERR.out _ _ HE.out (by omega) (hb1.alloc hb1.size _)
  · have HHAS : Hid (wait.any (fun m => m.number == b) = true) := hhas
    have HZ : Hid (wrongM S o = 0) := by
      show _ = _
      rw [HW.out, noneErr, if_neg]
      intro h
      have := HFE.out.1 h
      rw [hhas] at this
      cases this
    clear hhas
    go_enter Try.func77, Try.ntmps77
    go_wp2_with fail
    refine (hrFindWaiting wait aw cw b _ (by omega) HCW.out).mono ?_
    rintro e w1 ⟨rfl, hb1⟩
    rw [HONE.out, HHAS.out]
    have HB1 : Hid (Below w.heap.size w w1) := hb1
    have HBA : Hid (∀ o, Below w.heap.size w (w1.alloc o)) := fun o => hb1.alloc hb1.size _
    clear hb1
    go_wp2_with fail
    generalize hWA : w1.alloc _ = wa
    have HBX : Hid (Below w.heap.size w wa) := by rw [← hWA]; exact HBA.out _
    clear hWA HBA HB1
    refine (hrIsFull H x _ _ _ (HB.out.rep.below HBX.out) hlen).mono ?_
    rintro e w3 ⟨rfl, hb3⟩
    have HB3 : Hid (Below w.heap.size w w3) := HBX.out.trans (hb3.mono HBX.out.size)
    clear hb3
    by_cases hfull : (S.done.length : Int) < S.room
    · have HNF : Hid (decide ((lk S fil wait).room ≤ ((cat R).size : Int) / 42) = false) := by
        show decide (S.room ≤ _) = false
        rw [HB.out.size, decide_eq_false_iff_not]
        omega
      obtain ⟨q1, q2, q3⟩ := is_done HZ.out (writes_not (by rw [← ho]; show (4 : Int) ≠ 6; decide)) hfull
      have HD1 : Hid (doneB S o = true) := q1
      have HD2 : Hid (doErr S o = 0) := q2
      have HD3 : Hid (doS S o = { S with done := S.done ++ [o], wait := S.wait.filter (fun m => m.number != b) }) := by show _ = _; rw [q3, ← ho]; simp [turnM]
      have HREC : Hid (recD o = ⟨4, 0, ⟨#[]⟩, b, 0, 0, 0, 0⟩) := by show _ = _; rw [← ho]; simp [recD]
      have HRE : Hid (recOf o = encM ⟨4, 0, ⟨#[]⟩, b, 0, 0, 0, 0⟩) := by show _ = _; rw [recOf, HREC.out]
      have HSM : Hid (Small ⟨4, 0, ⟨#[]⟩, b, 0, 0, 0, 0⟩) := by
        have hv := wrong_valid HB.out.num (by have h1 := HG.out.inv.pub; have h2 := HB.out.few; omega) HZ.out
        have hr := HREC.out
        rw [hr] at hv
        exact valid_small hv
      clear q1 q2 q3 ho hfull
      rw [HNF.out]
      have k3 := HB3.out.cell (p := ⟨H, 28, none⟩) hH |>.trans cwait'
      have hfr3 := (HB3.out.frozen (p := ⟨H, 28, none⟩) hH).trans (HB.out.rep.cells.free 28)
      have hH3 : H < w3.heap.size := Nat.lt_of_lt_of_le hH HB3.out.size
      go_wp2_with fail
      refine (hrWithoutWaiting wait aw cw b _ (by omega) (HCW.out.below HB3.out)).mono ?_
      rintro e w5 ⟨v, rfl, ho5, hb5⟩
      obtain ⟨a1, c1', rfl, -, -, -⟩ := Row.form (row_of_own (w := w3) ho5 nilV).1
      have c5 := cell_later hb5 k3
      have hfr5 := (hb5.frozen (p := ⟨H, 28, none⟩) hH3).trans hfr3
      have HST : HStep w H x (w5.setCell ⟨H, 28, none⟩ (.slice a1 (wait.filter (fun m => m.number != b)).length c1')) { lk S fil wait with wait := wait.filter (fun m => m.number != b) } (cat R) := HStep.then (Upd.of_below HB3.out) (fun _ hk => .inl hk) ((HB.out.rep.below HB3.out).setWait (Upd.of_below hb5) (row_of_own (w := w3) ho5 nilV).1 (row_of_own (w := w3) ho5 _).2)
      all_goals obtain ⟨x1, r1, u1, f1⟩ := HST
      have hH5 : H < w5.heap.size := Nat.lt_of_lt_of_le hH3 hb5.size
      all_goals have R1 : Hid _ := r1
      all_goals have U1 : Hid _ := u1
      all_goals have F1 : Hid _ := f1
      all_goals clear r1 u1 f1 ho5 hb5 k3 hfr3
      all_goals go_wp2_with fail
      all_goals refine (hrWrite H x1 _ (cat R) ⟨4, 0, ⟨#[]⟩, b, 0, 0, 0, 0⟩ _ R1.out hlen HSM.out).mono ?_
      all_goals rintro e w6 ⟨rfl, hst⟩
      all_goals go_wp2_with fail
      all_goals go_ret
      all_goals refine ⟨ret_int HD2.out.symm, out_done HB.out HF.out HG.out HD1.out (fil1 := fil) (wait1 := wait.filter (fun m => m.number != b)) ?_ ?_⟩
      all_goals first
        | (rw [HD3.out, HRE.out]; exact (HStep.then U1.out F1.out hst).redone _)
        | (rw [HD3.out]; exact (HB.out.lk.cancel b).other rfl rfl (Int.le_refl _))
    · have HFU : Hid (decide ((lk S fil wait).room ≤ ((cat R).size : Int) / 42) = true) := by
        show decide (S.room ≤ _) = true
        rw [HB.out.size, decide_eq_true_iff]
        omega
      have HE : Hid (doErr S o = 9) := is_full HZ.out (writes_not (by rw [← ho]; show (4 : Int) ≠ 6; decide)) hfull
      clear ho hfull
      rw [HFU.out]
      go_wp2_with fail
      go_ret
      exact ⟨ret_int HE.out.symm, out_same HP.out HB3.out (not_done (by rw [HE.out]; omega)).2.1⟩
end Go.Proofs.Ytmjdndhfmfjbiaa

namespace Go.Proofs.Ytmjdndhfmfjbiaa
open Go.RowKit

set_option maxRecDepth 100000 in
set_option maxHeartbeats 4000000 in
theorem hrMove {w : World} {H : Nat} {F : Nat → Prop} {S : RefS} {R : List ByteArray} (a b c d : Int) (s : ByteArray) (hp : PRc w H F S R) (hg : Good S) :
    Calls Try.prog 78 #[.pointer (some ⟨H, 0, none⟩), .int .i64 b, .int .i64 c] w fun e w' =>
      e = .returned (.int .i64 (doErr S ⟨5, a, b, c, d, s⟩)) ∧ Outcome PRc w H F R (doS S ⟨5, a, b, c, d, s⟩) w' := by
  have HP : Hid (PRc w H F S R) := hp
  obtain ⟨x, fil, wait, hb, hF⟩ := hp
  have HB : Hid (Br w H x S fil wait R) := hb
  have HF : Hid (∀ k, F k ↔ HFP H x k) := hF
  have HG : Hid (Good S) := hg
  have hlen := hb.len
  have hH := hb.rep.cells.lt
  clear hb hF hg
  generalize ho : (⟨5, a, b, c, d, s⟩ : OpD) = o
  have err : ∀ e w1, wrongM S o = e → e ≠ 0 → Below w.heap.size w w1 → Ending.returned (.int .i64 e) = .returned (.int .i64 (doErr S o)) ∧ Outcome PRc w H F R (doS S o) w1 := fun e w1 h1 h0 hbw => by
    have h2 := is_wrong h1 h0
    exact ⟨ret_int h2.symm, out_same HP.out hbw (not_done (by rw [h2]; exact h0)).2.1⟩
  have ERR : Hid (∀ e w1, wrongM S o = e → e ≠ 0 → Below w.heap.size w w1 → Ending.returned (.int .i64 e) = .returned (.int .i64 (doErr S o)) ∧ Outcome PRc w H F R (doS S o) w1) := err
  clear err
  have HW : Hid (wrongM S o = moveErr (findM (fun m => m.number == b) S.wait 0) c) := by show _ = _; rw [← ho]; simp [wrongM]
  have HFE : Hid ((findM (fun m : WaitD => m.number == b) S.wait 0 < 0) ↔ wait.any (fun m => m.number == b) = false) := by
    have h := HB.out.lk.waits b
    constructor
    · intro hlt; rw [decide_eq_true hlt] at h; simpa using h.symm
    · intro hf; rw [hf] at h; simpa using h
  have hwl : wait.length ≤ 64 := by rw [HB.out.lk.waitP.length_eq]; exact HG.out.inv.wait.1
  obtain ⟨aw, cw, hvw, -, -, hcw⟩ := HB.out.rep.wait.form
  have cwait := HB.out.rep.cells.wait
  rw [hvw] at cwait
  have HCW : Hid (CellsAt w aw (wait.flatMap waitCells)) := hcw
  have cwait' : w.cell? ⟨H, 28, none⟩ = some (.slice aw wait.length cw) := cwait
  clear hvw hcw cwait
  have HONE : Hid ((theOne wait b).2 = wait.any (fun m => m.number == b)) := one_any _ _
  cases hhas : wait.any (fun m => m.number == b)
  · have HE : Hid (wrongM S o = 7) := by show _ = _; rw [HW.out, moveErr, if_pos (HFE.out.2 hhas)]
    clear ho
    go_enter Try.func78, Try.ntmps78
    go_wp2_with fail
    refine (hrFindWaiting wait aw cw b _ (by omega) HCW.out).mono ?_
    rintro e w1 ⟨rfl, hb1⟩
    rw [HONE.out, hhas]
    go_wp2_with fail
    go_ret
    exact ERR.out _ _ HE.out (by omega) (hb1.alloc hb1.size _)
  · have HHAS : Hid (wait.any (fun m => m.number == b) = true) := hhas
    have HNN : Hid (¬ findM (fun m : WaitD => m.number == b) S.wait 0 < 0) := fun h => by
      have := HFE.out.1 h
      rw [hhas] at this
      cases this
    have HMEM : Hid ((theOne wait b).1 ∈ wait ∧ (theOne wait b).1.number = b) := one_mem hhas
    clear hhas
    generalize hy : (theOne wait b).1 = y at *
    have HTO : Hid (theOne wait b = (y, true)) := by
      show _ = _
      have h1 := HONE.out
      rw [HHAS.out] at h1
      rw [← hy, ← h1]
    clear hy
    by_cases hc : 1 ≤ c ∧ c ≤ 1099511627776
    · have HZ : Hid (wrongM S o = 0) := by
        show _ = _
        rw [HW.out, moveErr, if_neg HNN.out, if_neg (by omega), if_neg (by omega)]
      have hc0 : (c == 0) = false := by simp; omega
      have HIT : Hid (isTimeM c = true) := by show _ = _; unfold isTimeM; simp; omega
      obtain ⟨hc1, hc2⟩ := hc
      go_enter Try.func78, Try.ntmps78
      go_wp2_with fail
      refine (hrFindWaiting wait aw cw b _ (by omega) HCW.out).mono ?_
      rintro e w1 ⟨rfl, hb1⟩
      rw [HTO.out]
      have HB1 : Hid (Below w.heap.size w w1) := hb1
      have HBA : Hid (∀ o, Below w.heap.size w (w1.alloc o)) := fun o => hb1.alloc hb1.size _
      have hs1 := hb1.size
      clear hb1
      go_wp2_with fail
      refine (hrIsInstant c _).mono ?_
      rintro e wa ⟨rfl, hwa⟩
      rw [HIT.out, hwa]
      clear hwa wa
      go_wp2_with fail
      generalize hWA : w1.alloc _ = wa
      have HBX : Hid (Below w.heap.size w wa) := by rw [← hWA]; exact HBA.out _
      have m0 : wa.cell? ⟨w1.heap.size, 0, none⟩ = some (.int .i64 y.number) := by rw [← hWA]; simp
      have m1 : wa.cell? ⟨w1.heap.size, 1, none⟩ = some (.string y.topic) := by rw [← hWA]; simp
      have m2 : wa.cell? ⟨w1.heap.size, 2, none⟩ = some (.int .i64 y.value) := by rw [← hWA]; simp
      have m3 : wa.cell? ⟨w1.heap.size, 3, none⟩ = some (.int .i64 y.deadline) := by rw [← hWA]; simp
      have m4 : wa.cell? ⟨w1.heap.size, 4, none⟩ = some (.int .i64 y.life) := by rw [← hWA]; simp
      have mf : wa.frozen? ⟨w1.heap.size, 3, none⟩ = false := by rw [← hWA]; simp
      have hsa : w1.heap.size < wa.heap.size := by rw [← hWA]; simp
      clear hWA HBA HB1
      refine (hrIsFull H x _ _ _ (HB.out.rep.below HBX.out) hlen).mono ?_
      rintro e w3 ⟨rfl, hb3⟩
      have HB3 : Hid (Below w.heap.size w w3) := HBX.out.trans (hb3.mono HBX.out.size)
      have n0 := cell_later hb3 m0
      have n1 := cell_later hb3 m1
      have n2 := cell_later hb3 m2
      have n3 := cell_later hb3 m3
      have n4 := cell_later hb3 m4
      have nf := (hb3.frozen (p := ⟨w1.heap.size, 3, none⟩) hsa).trans mf
      have hs3 : w1.heap.size < w3.heap.size := Nat.lt_of_lt_of_le hsa hb3.size
      clear hb3 m0 m1 m2 m3 m4 mf
      by_cases hfull : (S.done.length : Int) < S.room
      · have HNF : Hid (decide ((lk S fil wait).room ≤ ((cat R).size : Int) / 42) = false) := by
          show decide (S.room ≤ _) = false
          rw [HB.out.size, decide_eq_false_iff_not]
          omega
        obtain ⟨q1, q2, q3⟩ := is_done HZ.out (writes_not (by rw [← ho]; show (5 : Int) ≠ 6; decide)) hfull
        have HD1 : Hid (doneB S o = true) := q1
        have HD2 : Hid (doErr S o = 0) := q2
        have HD3 : Hid (doS S o = { S with done := S.done ++ [o], wait := moveL S.wait b (laterM S.time c) }) := by show _ = _; rw [q3, ← ho]; simp [turnM]
        have HREC : Hid (recD o = ⟨5, 0, ⟨#[]⟩, b, 0, c, 0, 0⟩) := by show _ = _; rw [← ho]; simp [recD]
        have HRE : Hid (recOf o = encM ⟨5, 0, ⟨#[]⟩, b, 0, c, 0, 0⟩) := by show _ = _; rw [recOf, HREC.out]
        have HSM : Hid (Small ⟨5, 0, ⟨#[]⟩, b, 0, c, 0, 0⟩) := by
          have hv := wrong_valid HB.out.num (by have h1 := HG.out.inv.pub; have h2 := HB.out.few; omega) HZ.out
          have hr := HREC.out
          rw [hr] at hv
          exact valid_small hv
        clear q1 q2 q3 ho hfull
        rw [HNF.out]
        have ht0 := HG.out.inv.time0
        have ht1 := HG.out.inv.time1
        have k2 : w3.cell? ⟨H, 2, none⟩ = some (.int .i64 S.time) := HB3.out.cell (p := ⟨H, 2, none⟩) hH |>.trans HB.out.rep.cells.time
        have k3 := HB3.out.cell (p := ⟨H, 28, none⟩) hH |>.trans cwait'
        have hfr3 := (HB3.out.frozen (p := ⟨H, 28, none⟩) hH).trans (HB.out.rep.cells.free 28)
        have hH3 : H < w3.heap.size := Nat.lt_of_lt_of_le hH HB3.out.size
        have hHw : H ≠ w1.heap.size := by omega
        go_wp2_with fail
        refine (hrDeadlineOf S.time c _ ht0 ht1 (by omega) hc2).mono ?_
        rintro e w3 ⟨rfl, rfl⟩
        have HB4 : Hid (Below w.heap.size w (w3.setCell ⟨w1.heap.size, 3, none⟩ (.int .i64 (laterM S.time c)))) := HB3.out.setCell (p := ⟨w1.heap.size, 3, none⟩) hs1 _
        go_wp2_with fail
        generalize hW4 : w3.setCell _ _ = w4 at *
        have p0 : w4.cell? ⟨w1.heap.size, 0, none⟩ = some (.int .i64 y.number) := by rw [← hW4, World.cell?_setCell_other _ _ _ _ (by simp)]; exact n0
        have p1 : w4.cell? ⟨w1.heap.size, 1, none⟩ = some (.string y.topic) := by rw [← hW4, World.cell?_setCell_other _ _ _ _ (by simp)]; exact n1
        have p2 : w4.cell? ⟨w1.heap.size, 2, none⟩ = some (.int .i64 y.value) := by rw [← hW4, World.cell?_setCell_other _ _ _ _ (by simp)]; exact n2
        have p3 : w4.cell? ⟨w1.heap.size, 3, none⟩ = some (.int .i64 (laterM S.time c)) := by rw [← hW4]; exact World.cell?_setCell_same _ _ _ n3
        have p4 : w4.cell? ⟨w1.heap.size, 4, none⟩ = some (.int .i64 y.life) := by rw [← hW4, World.cell?_setCell_other _ _ _ _ (by simp)]; exact n4
        have hs4 : w1.heap.size < w4.heap.size := by rw [← hW4]; simp [World.setCell]; exact hs3
        have k4 := HB4.out.cell (p := ⟨H, 28, none⟩) hH |>.trans cwait'
        have hfr4 := (HB4.out.frozen (p := ⟨H, 28, none⟩) hH).trans (HB.out.rep.cells.free 28)
        have hH4 : H < w4.heap.size := Nat.lt_of_lt_of_le hH HB4.out.size
        clear hW4 n0 n1 n2 n3 n4 nf k2 k3 hfr3
        refine (hrWithoutWaiting wait aw cw b _ (by omega) (HCW.out.below HB4.out)).mono ?_
        rintro e w5 ⟨v, rfl, ho5, hb5⟩
        obtain ⟨a1, c1', rfl, -, -, hc5⟩ := Row.form (row_of_own (w := w4) ho5 nilV).1
        have HC5 : Hid (CellsAt w5 a1 ((wait.filter (fun m => m.number != b)).flatMap waitCells)) := hc5
        have hl5 : (wait.filter (fun m => m.number != b)).length ≤ 64 := Nat.le_trans (List.length_filter_le _ _) hwl
        have r0 := cell_later hb5 p0
        have r1 := cell_later hb5 p1
        have r2 := cell_later hb5 p2
        have r3 := cell_later hb5 p3
        have r4 := cell_later hb5 p4
        have k5 := cell_later hb5 k4
        have hfr5 := (hb5.frozen (p := ⟨H, 28, none⟩) hH4).trans hfr4
        have HB5 : Hid (Below w.heap.size w w5) := HB4.out.trans (hb5.mono HB4.out.size)
        have hH5 : H < w5.heap.size := Nat.lt_of_lt_of_le hH4 hb5.size
        have hs5 : w1.heap.size < w5.heap.size := Nat.lt_of_lt_of_le hs4 hb5.size
        have HWW : Hid (∀ w', CellsAt w' a1 ((wait.filter (fun m => m.number != b)).flatMap waitCells) → Calls Try.prog 50 #[.slice a1 (wait.filter (fun m => m.number != b)).length c1', .agg #[.int .i64 y.number, .string y.topic, .int .i64 y.value, .int .i64 (laterM S.time c), .int .i64 y.life]] w' fun e w6 => ∃ v, e = .returned v ∧
            w6.ownsRow w'.heap.size 44 5 v (insM aheadB { y with deadline := laterM S.time c } (wait.filter (fun m => m.number != b))).length ((insM aheadB { y with deadline := laterM S.time c } (wait.filter (fun m => m.number != b))).flatMap waitCells) ∧ Below w'.heap.size w' w6) :=
          fun w' h => hrWithWaiting (wait.filter (fun m => m.number != b)) a1 c1' { y with deadline := laterM S.time c } w' (by omega) h
        clear ho5 hb5 hc5 p0 p1 p2 p3 p4 k4 hfr4
        go_wp2_with fail
        refine (HWW.out _ HC5.out).mono ?_
        rintro e w6 ⟨v, rfl, ho6, hb6⟩
        obtain ⟨a2, c2', rfl, -, -, -⟩ := Row.form (row_of_own (w := w5) ho6 nilV).1
        have c6 := cell_later hb6 k5
        have hfr6 := (hb6.frozen (p := ⟨H, 28, none⟩) hH5).trans hfr5
        have hH6 : H < w6.heap.size := Nat.lt_of_lt_of_le hH5 hb6.size
        have HST : HStep w H x (w6.setCell ⟨H, 28, none⟩ (.slice a2 (insM aheadB { y with deadline := laterM S.time c } (wait.filter (fun m => m.number != b))).length c2')) { lk S fil wait with wait := insM aheadB { y with deadline := laterM S.time c } (wait.filter (fun m => m.number != b)) } (cat R) := HStep.then (Upd.of_below HB5.out) (fun _ hk => .inl hk) ((HB.out.rep.below HB5.out).setWait (Upd.of_below hb6) (row_of_own (w := w5) ho6 nilV).1 (row_of_own (w := w5) ho6 _).2)
        obtain ⟨x1, z1, u1, f1⟩ := HST
        have R1 : Hid _ := z1
        have U1 : Hid _ := u1
        have F1 : Hid _ := f1
        clear z1 u1 f1 ho6 hb6 k5 hfr5 r0 r1 r2 r3 r4
        go_wp2_with fail
        refine (hrWrite H x1 _ (cat R) ⟨5, 0, ⟨#[]⟩, b, 0, c, 0, 0⟩ _ R1.out hlen HSM.out).mono ?_
        rintro e w7 ⟨rfl, hst⟩
        go_wp2_with fail
        go_ret
        refine ⟨ret_int HD2.out.symm, out_done HB.out HF.out HG.out HD1.out (fil1 := fil) (wait1 := insM aheadB { y with deadline := laterM S.time c } (wait.filter (fun m => m.number != b))) ?_ ?_⟩
        · rw [HD3.out, HRE.out]; exact (HStep.then U1.out F1.out hst).redone _
        · rw [HD3.out]; exact (HB.out.lk.move HMEM.out.1 HMEM.out.2).other rfl rfl (Int.le_refl _)
      · have HFU : Hid (decide ((lk S fil wait).room ≤ ((cat R).size : Int) / 42) = true) := by
          show decide (S.room ≤ _) = true
          rw [HB.out.size, decide_eq_true_iff]
          omega
        have HE : Hid (doErr S o = 9) := is_full HZ.out (writes_not (by rw [← ho]; show (5 : Int) ≠ 6; decide)) hfull
        clear ho hfull
        rw [HFU.out]
        go_wp2_with fail
        go_ret
        exact ⟨ret_int HE.out.symm, out_same HP.out HB3.out (not_done (by rw [HE.out]; omega)).2.1⟩
    · have HE : Hid (wrongM S o = 5) := by
        show _ = _
        rw [HW.out, moveErr, if_neg HNN.out]
        by_cases h1 : c < 1
        · rw [if_pos h1]
        · rw [if_neg h1, if_pos (by omega)]
      clear ho
      by_cases h0 : c = 0
      · subst h0
        go_enter Try.func78, Try.ntmps78
        go_wp2_with fail
        refine (hrFindWaiting wait aw cw b _ (by omega) HCW.out).mono ?_
        rintro e w1 ⟨rfl, hb1⟩
        rw [HTO.out]
        go_wp2_with fail
        go_ret
        exact ERR.out _ _ HE.out (by omega) (hb1.alloc hb1.size _)
      · have hc0 : (c == 0) = false := by simp; omega
        have HIT : Hid (isTimeM c = false) := by show _ = _; unfold isTimeM; simp; omega
        clear hc
        go_enter Try.func78, Try.ntmps78
        go_wp2_with fail
        refine (hrFindWaiting wait aw cw b _ (by omega) HCW.out).mono ?_
        rintro e w1 ⟨rfl, hb1⟩
        rw [HTO.out]
        go_wp2_with fail
        refine (hrIsInstant c _).mono ?_
        rintro e wa ⟨rfl, hwa⟩
        rw [HIT.out, hwa]
        go_wp2_with fail
        go_ret
        exact ERR.out _ _ HE.out (by omega) (hb1.alloc hb1.size _)
end Go.Proofs.Ytmjdndhfmfjbiaa

namespace Go.Proofs.Ytmjdndhfmfjbiaa
open Go.RowKit

theorem sendAll_pub (D : List WaitD) : ∀ (T : RefS), (sendAll T D).pub = T.pub := by
  induction D with
  | nil => exact fun T => rfl
  | cons m D ih => intro T; rw [sendAll_cons, ih, (sendTo_keeps T m 8).2.2.2.2.2.1]

set_option maxRecDepth 100000 in
set_option maxHeartbeats 4000000 in
theorem hrTick {w : World} {H : Nat} {F : Nat → Prop} {S : RefS} {R : List ByteArray} (a b c d : Int) (s : ByteArray) (hp : PRc w H F S R) (hg : Good S) :
    Calls Try.prog 17 #[.pointer (some ⟨H, 0, none⟩), .int .i64 b] w fun e w' =>
      e = .returned (.int .i64 (doErr S ⟨6, a, b, c, d, s⟩)) ∧ Outcome PRc w H F R (doS S ⟨6, a, b, c, d, s⟩) w' := by
  have HP : Hid (PRc w H F S R) := hp
  obtain ⟨x, fil, wait, hb, hF⟩ := hp
  have HB : Hid (Br w H x S fil wait R) := hb
  have HF : Hid (∀ k, F k ↔ HFP H x k) := hF
  have HG : Hid (Good S) := hg
  have hlen := hb.len
  have hH := hb.rep.cells.lt
  clear hb hF hg
  generalize ho : (⟨6, a, b, c, d, s⟩ : OpD) = o
  have err : ∀ e w1, wrongM S o = e → e ≠ 0 → Below w.heap.size w w1 → Ending.returned (.int .i64 e) = .returned (.int .i64 (doErr S o)) ∧ Outcome PRc w H F R (doS S o) w1 := fun e w1 h1 h0 hbw => by
    have h2 := is_wrong h1 h0
    exact ⟨ret_int h2.symm, out_same HP.out hbw (not_done (by rw [h2]; exact h0)).2.1⟩
  have ERR : Hid (∀ e w1, wrongM S o = e → e ≠ 0 → Below w.heap.size w w1 → Ending.returned (.int .i64 e) = .returned (.int .i64 (doErr S o)) ∧ Outcome PRc w H F R (doS S o) w1) := err
  clear err
  have HW : Hid (wrongM S o = tickErr b) := by show _ = _; rw [← ho]; simp [wrongM]
  have HWB : Hid (writesB S o = decide (S.time < b)) := by show _ = _; rw [← ho]; simp [writesB]
  have ctime : w.cell? ⟨H, 2, none⟩ = some (.int .i64 S.time) := HB.out.rep.cells.time
  cases hit : isTimeM b
  · have HE : Hid (wrongM S o = 5) := by show _ = _; rw [HW.out, tickErr, hit]; rfl
    clear ho
    go_enter Try.func17, Try.ntmps17
    go_wp2_with fail
    refine (hrIsInstant b _).mono ?_
    rintro e w ⟨rfl, rfl⟩
    rw [hit]
    go_wp2_with fail
    go_ret
    exact ERR.out _ _ HE.out (by omega) (Below.refl _ _)
  have HIT : Hid (isTimeM b = true) := hit
  have HZ : Hid (wrongM S o = 0) := by show _ = _; rw [HW.out, tickErr, hit]; rfl
  obtain ⟨hb0, hb1⟩ := time_ok hit
  clear hit
  by_cases hlt : S.time < b
  · have HWR : Hid (writesB S o = true) := by show _ = _; rw [HWB.out, decide_eq_true hlt]
    have hle : ¬ b ≤ S.time := by omega
    have HBR : Hid (Below w.heap.size w w) := Below.refl _ _
    go_enter Try.func17, Try.ntmps17
    go_wp2_with fail
    refine (hrIsInstant b _).mono ?_
    rintro e w ⟨rfl, rfl⟩
    rw [HIT.out]
    go_wp2_with fail
    refine (hrIsFull H x _ _ _ HB.out.rep hlen).mono ?_
    rintro e w3 ⟨rfl, hb3⟩
    have HB3 : Hid (Below w.heap.size w w3) := hb3
    clear hb3
    by_cases hfull : (S.done.length : Int) < S.room
    · have HNF : Hid (decide ((lk S fil wait).room ≤ ((cat R).size : Int) / 42) = false) := by
        show decide (S.room ≤ _) = false
        rw [HB.out.size, decide_eq_false_iff_not]
        omega
      obtain ⟨q1, q2, q3⟩ := is_done HZ.out HWR.out hfull
      have HD1 : Hid (doneB S o = true) := q1
      have HD2 : Hid (doErr S o = 0) := q2
      have HD3 : Hid (doS S o = tickM { S with done := S.done ++ [o] } b) := by show _ = _; rw [q3, ← ho]; simp [turnM]
      have HREC : Hid (recD o = ⟨6, 0, ⟨#[]⟩, 0, 0, 0, 0, b⟩) := by show _ = _; rw [← ho]; simp [recD]
      have HRE : Hid (recOf o = encM ⟨6, 0, ⟨#[]⟩, 0, 0, 0, 0, b⟩) := by show _ = _; rw [recOf, HREC.out]
      have HSM : Hid (Small ⟨6, 0, ⟨#[]⟩, 0, 0, 0, 0, b⟩) := by
        have hv := wrong_valid HB.out.num (by have h1 := HG.out.inv.pub; have h2 := HB.out.few; omega) HZ.out
        have hr := HREC.out
        rw [hr] at hv
        exact valid_small hv
      clear q1 q2 q3 ho hfull
      rw [HNF.out]
      have k2 : w3.cell? ⟨H, 2, none⟩ = some (.int .i64 S.time) := HB3.out.cell (p := ⟨H, 2, none⟩) hH |>.trans ctime
      have hfr3 := (HB3.out.frozen (p := ⟨H, 2, none⟩) hH).trans (HB.out.rep.cells.free 2)
      have hH3 : H < w3.heap.size := Nat.lt_of_lt_of_le hH HB3.out.size
      -- the state with the record, as the document has it
      obtain ⟨S1, hS1⟩ : ∃ S1 : RefS, S1 = { S with done := S.done ++ [o] } := ⟨_, rfl⟩
      have HS1 : Hid (S1 = { S with done := S.done ++ [o] }) := hS1
      have HI1 : Hid (S1.fil = S.fil ∧ S1.wait = S.wait ∧ S1.que = S.que ∧ S1.lost = S.lost ∧ S1.pub = S.pub) := by rw [hS1]; exact ⟨rfl, rfl, rfl, rfl, rfl⟩
      have R0 : Hid (HRep w3 H x (lk S1 fil wait) (cat R)) := by rw [hS1]; exact (HB.out.rep.below HB3.out).redone _
      have HT1 : Hid (HStep w3 H x (w3.setCell ⟨H, 2, none⟩ (.int .i64 b)) { lk S1 fil wait with time := b } (cat R)) := R0.out.setTime b
      clear hS1
      obtain ⟨x1, r1, u1, f1⟩ := HT1.out
      have R1 : Hid (HRep (w3.setCell ⟨H, 2, none⟩ (.int .i64 b)) H x1 { lk S1 fil wait with time := b } (cat R)) := r1
      have U1 : Hid (Upd (HFP H x) w3 (w3.setCell ⟨H, 2, none⟩ (.int .i64 b))) := u1
      have F1 : Hid (∀ k, HFP H x1 k → HFP H x k ∨ w3.heap.size ≤ k) := f1
      clear r1 u1 f1
      go_wp2_with fail
      refine (hrDropOver H x1 { lk S1 fil wait with time := b } (cat R) _ R1.out hb0 hb1 (fun n hn => ?_)).mono ?_
      · show (S1.que n).length ≤ 1048576 ∧ ∀ m ∈ S1.que n, _
        rw [HI1.out.2.2.1]
        have := HG.out.inv.que n hn
        exact ⟨by omega, this.2⟩
      rintro e w4 ⟨rfl, hst4⟩
      have HOLD : Hid (oldTo { lk S1 fil wait with time := b } 8 = lk (agedTo S1 b 8) fil wait) := by show _ = _; rw [← aged_old, lk_aged]
      rw [HOLD.out] at hst4
      obtain ⟨x2, r2, u2, f2⟩ := hst4
      have R2 : Hid (HRep w4 H x2 (lk (agedTo S1 b 8) fil wait) (cat R)) := r2
      have U2 : Hid _ := u2
      have F2 : Hid _ := f2
      clear r2 u2 f2
      obtain ⟨g1, g2, g3, g4, g5, g6, g7, g8⟩ := aged_keeps S1 b 8
      have HAT : Hid ((agedTo S1 b 8).time = b) := g2
      have HAL : Hid ((agedTo S1 b 8).lost = S.lost) := g7.trans HI1.out.2.2.2.1
      have HAF : Hid ((agedTo S1 b 8).fil = S.fil) := g1.trans HI1.out.1
      have HAW : Hid ((agedTo S1 b 8).wait = S.wait) := g4.trans HI1.out.2.1
      have HAP : Hid ((agedTo S1 b 8).pub = S.pub) := g6.trans HI1.out.2.2.2.2
      have HAQ : Hid (∀ n, ((agedTo S1 b 8).que n).length ≤ (S.que n).length) := fun n => by
        rw [g8, HI1.out.2.2.1]
        split
        · exact List.length_filter_le _ _
        · exact Nat.le_refl _
      clear g1 g2 g3 g4 g5 g6 g7 g8
      have hwl : wait.length ≤ 64 := by rw [HB.out.lk.waitP.length_eq]; exact HG.out.inv.wait.1
      go_wp2_with fail
      refine (hrSendDue H x2 (lk (agedTo S1 b 8) fil wait) (cat R) _ R2.out (by show wait.length ≤ _; omega) ?_ ?_ ?_ ?_ ?_).mono ?_
      · exact fun m hm => Nat.le_trans (HG.out.inv.wait.2 m (HB.out.lk.waitP.mem_iff.1 hm)).1 (by omega)
      · exact fun n hn f hf => Nat.le_trans ((HG.out.inv.fil n hn).2 f ((HB.out.lk.filP n hn).mem_iff.1 hf)) (by omega)
      · exact fun n hn => Nat.le_trans (Nat.le_of_eq (HB.out.lk.filP n hn).length_eq) (Nat.le_trans (HG.out.inv.fil n hn).1 (by omega))
      · intro n hn
        show 0 ≤ (agedTo S1 b 8).lost n ∧ (agedTo S1 b 8).lost n + (wait.length : Int) ≤ _
        rw [HAL.out]
        have := HG.out.inv.small hn
        omega
      · intro n hn
        show ((agedTo S1 b 8).que n).length + wait.length ≤ _
        have h1 := HAQ.out n
        have h2 := (HG.out.inv.que n hn).1
        omega
      rintro e w5 ⟨rfl, hst5⟩
      have HSD : Hid (waited (sendAll (lk (agedTo S1 b 8) fil wait) ((lk (agedTo S1 b 8) fil wait).wait.filter (dueB (lk (agedTo S1 b 8) fil wait).time))) ((lk (agedTo S1 b 8) fil wait).wait.filter (fun m => !dueB (lk (agedTo S1 b 8) fil wait).time m)) =
          lk (sendAll (agedTo S1 b 8) (wait.filter (dueB b))) fil (wait.filter (fun m => !dueB b m))) := by
        show waited (sendAll (lk (agedTo S1 b 8) fil wait) (wait.filter (dueB (agedTo S1 b 8).time))) (wait.filter (fun m => !dueB (agedTo S1 b 8).time m)) = _
        rw [HAT.out, lk_sendAll _ (by rw [HAF.out]; exact HB.out.lk.filP)]
        rfl
      rw [HSD.out] at hst5
      obtain ⟨x3, r3, u3, f3⟩ := hst5
      have R3 : Hid (HRep w5 H x3 (lk (sendAll (agedTo S1 b 8) (wait.filter (dueB b))) fil (wait.filter (fun m => !dueB b m))) (cat R)) := r3
      have U3 : Hid _ := u3
      have F3 : Hid _ := f3
      clear r3 u3 f3
      go_wp2_with fail
      refine (hrWrite H x3 _ (cat R) ⟨6, 0, ⟨#[]⟩, 0, 0, 0, 0, b⟩ _ R3.out hlen HSM.out).mono ?_
      rintro e w6 ⟨rfl, hst⟩
      go_wp2_with fail
      go_ret
      obtain ⟨W, hW1, hW2⟩ := HB.out.lk.ticked (T := agedTo S1 b 8) b HAW.out
      have HD4 : doS S o = waited (sendAll (agedTo S1 b 8) (wait.filter (dueB b))) W := by rw [HD3.out, ← HS1.out, tickM]; exact hW1
      obtain ⟨v1, v2, v3, v4⟩ := sendAll_keeps (wait.filter (dueB b)) (agedTo S1 b 8)
      refine ⟨ret_int HD2.out.symm, out_done HB.out HF.out HG.out HD1.out (fil1 := fil) (wait1 := wait.filter (fun m => !dueB b m)) ?_ ?_⟩
      · rw [HD4, HRE.out]
        exact HStep.then (Upd.of_below HB3.out) (fun _ hk => .inl hk) (HStep.then U1.out F1.out (HStep.then U2.out F2.out (HStep.then U3.out F3.out hst)))
      · rw [HD4]
        exact HB.out.lk.tick b (v1.trans HAF.out) rfl ((sendAll_pub _ _).trans HAP.out) hW2
    · have HFU : Hid (decide ((lk S fil wait).room ≤ ((cat R).size : Int) / 42) = true) := by
        show decide (S.room ≤ _) = true
        rw [HB.out.size, decide_eq_true_iff]
        omega
      have HE : Hid (doErr S o = 9) := is_full HZ.out HWR.out hfull
      clear ho hfull
      rw [HFU.out]
      go_wp2_with fail
      go_ret
      exact ⟨ret_int HE.out.symm, out_same HP.out HB3.out (not_done (by rw [HE.out]; omega)).2.1⟩
  · have HWR : Hid (writesB S o = false) := by show _ = _; rw [HWB.out, decide_eq_false hlt]
    have HE : Hid (doErr S o = 0) := by show doErr S o = 0; unfold doErr; rw [if_pos HZ.out, HWR.out]; rfl
    have HS : Hid (doS S o = S) := by
      show doS S o = S
      have hd : doneB S o = false := by unfold doneB; rw [HWR.out, Bool.and_false]; rfl
      unfold doS; rw [hd]; rfl
    have hle : b ≤ S.time := by omega
    clear ho
    go_enter Try.func17, Try.ntmps17
    go_wp2_with fail
    refine (hrIsInstant b _).mono ?_
    rintro e w ⟨rfl, rfl⟩
    rw [HIT.out]
    go_wp2_with fail
    go_ret
    exact ⟨ret_int HE.out.symm, out_same HP.out (Below.refl _ _) HS.out⟩
end Go.Proofs.Ytmjdndhfmfjbiaa

namespace Go.Proofs.Ytmjdndhfmfjbiaa
open Go.RowKit

theorem ret_two {a b c d : Int} (h1 : a = c) (h2 : b = d) : Ending.returned (.tuple #[.int .i64 a, .int .i64 b]) = .returned (.tuple #[.int .i64 c, .int .i64 d]) := by rw [h1, h2]

set_option maxRecDepth 100000 in
set_option maxHeartbeats 4000000 in
theorem hrPublish {w : World} {H : Nat} {F : Nat → Prop} {S : RefS} {R : List ByteArray} (a b c d : Int) (s : ByteArray) (hp : PRc w H F S R) (hg : Good S) (hs : s.size ≤ 1048576) :
    Calls Try.prog 25 #[.pointer (some ⟨H, 0, none⟩), .string s, .int .i64 b, .int .i64 c, .int .i64 d] w fun e w' =>
      e = .returned (.tuple #[.int .i64 (doAns S ⟨3, a, b, c, d, s⟩), .int .i64 (doErr S ⟨3, a, b, c, d, s⟩)]) ∧ Outcome PRc w H F R (doS S ⟨3, a, b, c, d, s⟩) w' := by
  have HP : Hid (PRc w H F S R) := hp
  obtain ⟨x, fil, wait, hb, hF⟩ := hp
  have HB : Hid (Br w H x S fil wait R) := hb
  have HF : Hid (∀ k, F k ↔ HFP H x k) := hF
  have HG : Hid (Good S) := hg
  have hlen := hb.len
  have hH := hb.rep.cells.lt
  clear hb hF hg
  generalize ho : (⟨3, a, b, c, d, s⟩ : OpD) = o
  have ERR : Hid (∀ e w1, wrongM S o = e → e ≠ 0 → Below w.heap.size w w1 → Ending.returned (.tuple #[.int .i64 0, .int .i64 e]) = .returned (.tuple #[.int .i64 (doAns S o), .int .i64 (doErr S o)]) ∧ Outcome PRc w H F R (doS S o) w1) := fun e w1 h1 h0 hbw => by
    have h2 := is_wrong h1 h0
    have h3 := not_done (S := S) (o := o) (by rw [h2]; exact h0)
    exact ⟨by rw [h2, h3.2.2], out_same HP.out hbw h3.2.1⟩
  have HW : Hid (wrongM S o = pubErr (M.isPathM false s) b c d S.wait.length) := by show _ = _; rw [← ho]; simp [wrongM]
  cases hpt : M.isPathM false s
  · have HE : Hid (wrongM S o = 3) := by show _ = _; rw [HW.out, pubErr, hpt]; rfl
    clear ho
    go_enter Try.func25, Try.ntmps25
    go_wp2_with fail
    refine (hrIsTopic s _ hs).mono ?_
    rintro e w1 ⟨rfl, hb1⟩
    rw [hpt]
    go_wp2_with fail
    go_ret2
    exact ERR.out _ _ HE.out (by omega) hb1
  have HPT : Hid (M.isPathM false s = true) := hpt
  cases hv : isValueM b
  · have HE : Hid (wrongM S o = 5) := by
      show _ = _
      rw [HW.out, pubErr, hpt, if_neg (by simp)]
      by_cases h1 : b < 0
      · rw [if_pos h1]
      · rw [if_neg h1, if_pos]
        have := hv
        unfold isValueM at this
        simp only [Bool.and_eq_false_iff, decide_eq_false_iff_not] at this
        omega
    clear ho hpt
    go_enter Try.func25, Try.ntmps25
    go_wp2_with fail
    refine (hrIsTopic s _ hs).mono ?_
    rintro e w1 ⟨rfl, hb1⟩
    rw [HPT.out]
    go_wp2_with fail
    refine (hrIsValue b _).mono ?_
    rintro e w1 ⟨rfl, rfl⟩
    rw [hv]
    go_wp2_with fail
    go_ret2
    exact ERR.out _ _ HE.out (by omega) hb1
  have HV : Hid (isValueM b = true) := hv
  have hb01 : 0 ≤ b ∧ b ≤ 1073741824 := by simpa [isValueM] using hv
  obtain ⟨hvb0, hvb1⟩ := hb01
  clear hv
  cases hc : isTimeM c
  · have HE : Hid (wrongM S o = 5) := by
      show _ = _
      rw [HW.out, pubErr, hpt, if_neg (by simp), if_neg (by omega), if_neg (by omega), hc]; rfl
    clear ho hpt
    go_enter Try.func25, Try.ntmps25
    go_wp2_with fail
    refine (hrIsTopic s _ hs).mono ?_
    rintro e w1 ⟨rfl, hb1⟩
    rw [HPT.out]
    go_wp2_with fail
    refine (hrIsValue b _).mono ?_
    rintro e w1 ⟨rfl, rfl⟩
    rw [HV.out]
    go_wp2_with fail
    refine (hrIsInstant c _).mono ?_
    rintro e w1 ⟨rfl, rfl⟩
    rw [hc]
    go_wp2_with fail
    go_ret2
    exact ERR.out _ _ HE.out (by omega) hb1
  have HC : Hid (isTimeM c = true) := hc
  cases hd : isTimeM d
  · have HE : Hid (wrongM S o = 5) := by
      show _ = _
      rw [HW.out, pubErr, hpt, if_neg (by simp), if_neg (by omega), if_neg (by omega), hc, hd]; rfl
    clear ho hpt hc
    go_enter Try.func25, Try.ntmps25
    go_wp2_with fail
    refine (hrIsTopic s _ hs).mono ?_
    rintro e w1 ⟨rfl, hb1⟩
    rw [HPT.out]
    go_wp2_with fail
    refine (hrIsValue b _).mono ?_
    rintro e w1 ⟨rfl, rfl⟩
    rw [HV.out]
    go_wp2_with fail
    refine (hrIsInstant c _).mono ?_
    rintro e w1 ⟨rfl, rfl⟩
    rw [HC.out]
    go_wp2_with fail
    refine (hrIsInstant d _).mono ?_
    rintro e w1 ⟨rfl, rfl⟩
    rw [hd]
    go_wp2_with fail
    go_ret2
    exact ERR.out _ _ HE.out (by omega) hb1
  have HD : Hid (isTimeM d = true) := hd
  have HPE : Hid (pubErr (M.isPathM false s) b c d S.wait.length = if 0 < c then (if 64 ≤ S.wait.length then 8 else 0) else 0) := by
    show _ = _
    rw [pubErr, hpt, if_neg (by simp), if_neg (by omega), if_neg (by omega), hc, if_neg (by simp), hd, if_neg (by simp)]
  obtain ⟨hc0, hc1⟩ := time_ok hc
  obtain ⟨hd0, hd1⟩ := time_ok hd
  have hwl : wait.length ≤ 64 := by rw [HB.out.lk.waitP.length_eq]; exact HG.out.inv.wait.1
  have HWL : Hid (wait.length = S.wait.length) := HB.out.lk.waitP.length_eq
  obtain ⟨aw, cw, hvw, -, -, hcw⟩ := HB.out.rep.wait.form
  have cwait := HB.out.rep.cells.wait
  rw [hvw] at cwait
  have HCW : Hid (CellsAt w aw (wait.flatMap waitCells)) := hcw
  have cwait' : w.cell? ⟨H, 28, none⟩ = some (.slice aw wait.length cw) := cwait
  have cpub' : w.cell? ⟨H, 3, none⟩ = some (.int .i64 S.pub) := HB.out.rep.cells.pub
  have ctime' : w.cell? ⟨H, 2, none⟩ = some (.int .i64 S.time) := HB.out.rep.cells.time
  clear hpt hc hd hvw hcw cwait
  -- the way up to the test for room
  have common : ∀ Q : Ending → World → Prop, True := fun _ => trivial
  clear common
  by_cases hmany : 0 < c ∧ 64 ≤ wait.length
  · have HE : Hid (wrongM S o = 8) := by
      show _ = _
      rw [HW.out, HPE.out, if_pos hmany.1, if_pos (by rw [← HWL.out]; exact hmany.2)]
    obtain ⟨hm1, hm2⟩ := hmany
    clear ho
    go_enter Try.func25, Try.ntmps25
    go_wp2_with fail
    refine (hrIsTopic s _ hs).mono ?_
    rintro e w1 ⟨rfl, hb1⟩
    rw [HPT.out]
    have k28 := cell_later hb1 cwait'
    have HB1 : Hid (Below _ _ w1) := hb1
    clear hb1
    go_wp2_with fail
    refine (hrIsValue b _).mono ?_
    rintro e w1 ⟨rfl, rfl⟩
    rw [HV.out]
    go_wp2_with fail
    refine (hrIsInstant c _).mono ?_
    rintro e w1 ⟨rfl, rfl⟩
    rw [HC.out]
    go_wp2_with fail
    refine (hrIsInstant d _).mono ?_
    rintro e w1 ⟨rfl, rfl⟩
    rw [HD.out]
    go_wp2_with fail
    go_ret2
    exact ERR.out _ _ HE.out (by omega) HB1.out
  have HZ : Hid (wrongM S o = 0) := by
    show _ = _
    rw [HW.out, HPE.out]
    by_cases h1 : 0 < c
    · rw [if_pos h1, if_neg (by rw [← HWL.out]; omega)]
    · rw [if_neg h1]
  by_cases hcz : c = 0
  · subst hcz
    go_enter Try.func25, Try.ntmps25
    go_wp2_with fail
    refine (hrIsTopic s _ hs).mono ?_
    rintro e w1 ⟨rfl, hb1⟩
    rw [HPT.out]
    have k28 := cell_later hb1 cwait'
    have HB1 : Hid (Below w.heap.size w w1) := hb1
    clear hb1
    go_wp2_with fail
    refine (hrIsValue b _).mono ?_
    rintro e w1 ⟨rfl, rfl⟩
    rw [HV.out]
    go_wp2_with fail
    refine (hrIsInstant _ _).mono ?_
    rintro e w1 ⟨rfl, rfl⟩
    rw [HC.out]
    go_wp2_with fail
    refine (hrIsInstant d _).mono ?_
    rintro e w1 ⟨rfl, rfl⟩
    rw [HD.out]
    go_wp2_with fail
    refine (hrIsFull H x _ _ _ (HB.out.rep.below HB1.out) hlen).mono ?_
    rintro e w3 ⟨rfl, hb3⟩
    have HB3 : Hid (Below w.heap.size w w3) := HB1.out.trans (hb3.mono HB1.out.size)
    clear hb3 k28
    by_cases hfull : (S.done.length : Int) < S.room
    · have HNF : Hid (decide ((lk S fil wait).room ≤ ((cat R).size : Int) / 42) = false) := by
        show decide (S.room ≤ _) = false
        rw [HB.out.size, decide_eq_false_iff_not]
        omega
      obtain ⟨q1, q2, q3⟩ := is_done HZ.out (writes_not (by rw [← ho]; show (3 : Int) ≠ 6; decide)) hfull
      have HD1 : Hid (doneB S o = true) := q1
      have HD2 : Hid (doErr S o = 0) := q2
      have HDA : Hid (doAns S o = S.pub) := by show doAns S o = _; unfold doAns; rw [q1, ← ho]; rfl
      have HD3 : Hid (doS S o = sendTo { S with done := S.done ++ [o], pub := S.pub + 1 } ⟨S.pub, s, b, 0, d⟩ 8) := by show _ = _; rw [q3, ← ho]; simp [turnM]
      have HREC : Hid (recD o = ⟨3, 0, s, 0, b, 0, d, 0⟩) := by show _ = _; rw [← ho]; simp [recD]
      have HRE : Hid (recOf o = encM ⟨3, 0, s, 0, b, 0, d, 0⟩) := by show _ = _; rw [recOf, HREC.out]
      have HSM : Hid (Small ⟨3, 0, s, 0, b, 0, d, 0⟩) := by
        have hv := wrong_valid HB.out.num (by have h1 := HG.out.inv.pub; have h2 := HB.out.few; omega) HZ.out
        have hr := HREC.out
        rw [hr] at hv
        exact valid_small hv
      have hpub1 : S.pub ≤ 500 := by have h1 := HG.out.inv.pub; have h2 := HB.out.few; omega
      have hpub0 : 0 ≤ S.pub := HB.out.num.pub
      clear q1 q2 q3 hfull
      rw [HNF.out]
      have k3 : w3.cell? ⟨H, 3, none⟩ = some (.int .i64 S.pub) := HB3.out.cell (p := ⟨H, 3, none⟩) hH |>.trans cpub'
      go_wp2_with fail
      refine (hrCopyText s _).mono ?_
      rintro e w4 ⟨rfl, hb4⟩
      have HB4 : Hid (Below w.heap.size w w4) := HB3.out.trans (hb4.mono HB3.out.size)
      have k4 := cell_later hb4 k3
      have hH4 : H < w4.heap.size := Nat.lt_of_lt_of_le hH HB4.out.size
      have hfr4 := (HB4.out.frozen (p := ⟨H, 3, none⟩) hH).trans (HB.out.rep.cells.free 3)
      have HST : HStep w H x (w4.setCell ⟨H, 3, none⟩ (.int .i64 (S.pub + 1))) { lk S fil wait with done := S.done ++ [o], pub := S.pub + 1 } (cat R) := HStep.then (Upd.of_below HB4.out) (fun _ hk => .inl hk) (((HB.out.rep.below HB4.out).redone (S.done ++ [o])).setPub (S.pub + 1))
      obtain ⟨x1, z1, u1, f1⟩ := HST
      have R1 : Hid _ := z1
      have U1 : Hid _ := u1
      have F1 : Hid _ := f1
      clear z1 u1 f1 hb4 k3
      go_wp2_with fail
      refine (hrWrite H x1 _ (cat R) ⟨3, 0, s, 0, b, 0, d, 0⟩ _ R1.out hlen HSM.out).mono ?_
      rintro e w5 ⟨rfl, hst5⟩
      obtain ⟨x2, z2, u2, f2⟩ := hst5
      have R2 : Hid (HRep w5 H x2 { lk S fil wait with done := S.done ++ [o], pub := S.pub + 1 } (cat R ++ encM ⟨3, 0, s, 0, b, 0, d, 0⟩)) := z2
      have U2 : Hid _ := u2
      have F2 : Hid _ := f2
      have HTH : Hid (∀ w6 T D, HStep w5 H x2 w6 T D → HStep w H x w6 T D) := fun w6 T D h => HStep.then U1.out F1.out (HStep.then U2.out F2.out h)
      have c2 : w5.cell? ⟨H, 2, none⟩ = some (.int .i64 S.time) := z2.cells.time
      have hH5 : H < w5.heap.size := z2.cells.lt
      have HS : Hid (∀ w', HRep w' H x2 { lk S fil wait with done := S.done ++ [o], pub := S.pub + 1 } (cat R ++ encM ⟨3, 0, s, 0, b, 0, d, 0⟩) → Calls Try.prog 48 #[.pointer (some ⟨H, 0, none⟩), msgV ⟨S.pub, s, b, S.time, d⟩] w' fun e w2 => e = .returned (.tuple #[]) ∧ HStep w' H x2 w2 (sendTo { lk S fil wait with done := S.done ++ [o], pub := S.pub + 1 } ⟨S.pub, s, b, 0, d⟩ 8) (cat R ++ encM ⟨3, 0, s, 0, b, 0, d, 0⟩)) := fun w' hw' =>
        hrSend H x2 { lk S fil wait with done := S.done ++ [o], pub := S.pub + 1 } _ ⟨S.pub, s, b, 0, d⟩ w' hw' hs (fun n hn f hf => Nat.le_trans ((HG.out.inv.fil n hn).2 f ((HB.out.lk.filP n hn).mem_iff.1 hf)) (by omega)) (fun n hn => Nat.le_trans (Nat.le_of_eq (HB.out.lk.filP n hn).length_eq) (Nat.le_trans (HG.out.inv.fil n hn).1 (by omega)))
          (fun n hn => by show 0 ≤ S.lost n ∧ S.lost n ≤ _; have := HG.out.inv.small hn; omega) (fun n hn => Nat.le_trans (HG.out.inv.que n hn).1 (by omega))
      clear z2 u2 f2 k4 hfr4
      go_wp2_with fail
      refine (HS.out _ R2.out).mono ?_
      rintro e w6 ⟨rfl, hst⟩
      go_wp2_with fail
      go_ret2
      refine ⟨ret_two HDA.out.symm HD2.out.symm, out_done HB.out HF.out HG.out HD1.out (fil1 := fil) (wait1 := wait) ?_ ?_⟩
      · rw [HD3.out, HRE.out, ← lk_sendTo (S := { S with done := S.done ++ [o], pub := S.pub + 1 }) _ HB.out.lk.filP 8 (Nat.le_refl _)]
        exact HTH.out _ _ _ hst
      · rw [HD3.out]
        obtain ⟨v1, -, -, v4, -, v6, -⟩ := sendTo_keeps { S with done := S.done ++ [o], pub := S.pub + 1 } ⟨S.pub, s, b, 0, d⟩ 8
        exact HB.out.lk.other v1 v4 (by rw [v6]; show S.pub ≤ S.pub + 1; omega)
    · have HFU : Hid (decide ((lk S fil wait).room ≤ ((cat R).size : Int) / 42) = true) := by
        show decide (S.room ≤ _) = true
        rw [HB.out.size, decide_eq_true_iff]
        omega
      have HE : Hid (doErr S o = 9) := is_full HZ.out (writes_not (by rw [← ho]; show (3 : Int) ≠ 6; decide)) hfull
      have HND := not_done (S := S) (o := o) (by rw [HE.out]; omega)
      have HND2 : Hid (doAns S o = 0) := HND.2.2
      have HND3 : Hid (doS S o = S) := HND.2.1
      clear HND ho hfull
      rw [HFU.out]
      go_wp2_with fail
      go_ret2
      exact ⟨ret_two HND2.out.symm HE.out.symm, out_same HP.out HB3.out HND3.out⟩
  · have hcp : 0 < c := by omega
    have hcz' : (c == 0) = false := by simp; omega
    have hfew : ¬ 64 ≤ wait.length := by omega
    clear hmany
    go_enter Try.func25, Try.ntmps25
    go_wp2_with fail
    refine (hrIsTopic s _ hs).mono ?_
    rintro e w1 ⟨rfl, hb1⟩
    rw [HPT.out]
    have k28 := cell_later hb1 cwait'
    have HB1 : Hid (Below w.heap.size w w1) := hb1
    clear hb1
    go_wp2_with fail
    refine (hrIsValue b _).mono ?_
    rintro e w1 ⟨rfl, rfl⟩
    rw [HV.out]
    go_wp2_with fail
    refine (hrIsInstant _ _).mono ?_
    rintro e w1 ⟨rfl, rfl⟩
    rw [HC.out]
    go_wp2_with fail
    refine (hrIsInstant d _).mono ?_
    rintro e w1 ⟨rfl, rfl⟩
    rw [HD.out]
    go_wp2_with fail
    refine (hrIsFull H x _ _ _ (HB.out.rep.below HB1.out) hlen).mono ?_
    rintro e w3 ⟨rfl, hb3⟩
    have HB3 : Hid (Below w.heap.size w w3) := HB1.out.trans (hb3.mono HB1.out.size)
    clear hb3 k28
    by_cases hfull : (S.done.length : Int) < S.room
    · have HNF : Hid (decide ((lk S fil wait).room ≤ ((cat R).size : Int) / 42) = false) := by
        show decide (S.room ≤ _) = false
        rw [HB.out.size, decide_eq_false_iff_not]
        omega
      obtain ⟨q1, q2, q3⟩ := is_done HZ.out (writes_not (by rw [← ho]; show (3 : Int) ≠ 6; decide)) hfull
      have HD1 : Hid (doneB S o = true) := q1
      have HD2 : Hid (doErr S o = 0) := q2
      have HDA : Hid (doAns S o = S.pub) := by show doAns S o = _; unfold doAns; rw [q1, ← ho]; rfl
      have HD3 : Hid (doS S o = { S with done := S.done ++ [o], pub := S.pub + 1, wait := S.wait ++ [⟨S.pub, s, b, laterM S.time c, d⟩] }) := by show _ = _; rw [q3, ← ho]; simp [turnM, hcz]
      have HREC : Hid (recD o = ⟨3, 0, s, 0, b, c, d, 0⟩) := by show _ = _; rw [← ho]; simp [recD]
      have HRE : Hid (recOf o = encM ⟨3, 0, s, 0, b, c, d, 0⟩) := by show _ = _; rw [recOf, HREC.out]
      have HSM : Hid (Small ⟨3, 0, s, 0, b, c, d, 0⟩) := by
        have hv := wrong_valid HB.out.num (by have h1 := HG.out.inv.pub; have h2 := HB.out.few; omega) HZ.out
        have hr := HREC.out
        rw [hr] at hv
        exact valid_small hv
      have hpub1 : S.pub ≤ 500 := by have h1 := HG.out.inv.pub; have h2 := HB.out.few; omega
      have hpub0 : 0 ≤ S.pub := HB.out.num.pub
      clear q1 q2 q3 hfull
      rw [HNF.out]
      have k3 : w3.cell? ⟨H, 3, none⟩ = some (.int .i64 S.pub) := HB3.out.cell (p := ⟨H, 3, none⟩) hH |>.trans cpub'
      go_wp2_with fail
      refine (hrCopyText s _).mono ?_
      rintro e w4 ⟨rfl, hb4⟩
      have HB4 : Hid (Below w.heap.size w w4) := HB3.out.trans (hb4.mono HB3.out.size)
      have k4 := cell_later hb4 k3
      have hH4 : H < w4.heap.size := Nat.lt_of_lt_of_le hH HB4.out.size
      have hfr4 := (HB4.out.frozen (p := ⟨H, 3, none⟩) hH).trans (HB.out.rep.cells.free 3)
      have HST : HStep w H x (w4.setCell ⟨H, 3, none⟩ (.int .i64 (S.pub + 1))) { lk S fil wait with done := S.done ++ [o], pub := S.pub + 1 } (cat R) := HStep.then (Upd.of_below HB4.out) (fun _ hk => .inl hk) (((HB.out.rep.below HB4.out).redone (S.done ++ [o])).setPub (S.pub + 1))
      obtain ⟨x1, z1, u1, f1⟩ := HST
      have R1 : Hid _ := z1
      have U1 : Hid _ := u1
      have F1 : Hid _ := f1
      clear z1 u1 f1 hb4 k3
      go_wp2_with fail
      refine (hrWrite H x1 _ (cat R) ⟨3, 0, s, 0, b, c, d, 0⟩ _ R1.out hlen HSM.out).mono ?_
      rintro e w5 ⟨rfl, hst5⟩
      obtain ⟨x2, z2, u2, f2⟩ := hst5
      have R2 : Hid (HRep w5 H x2 { lk S fil wait with done := S.done ++ [o], pub := S.pub + 1 } (cat R ++ encM ⟨3, 0, s, 0, b, c, d, 0⟩)) := z2
      have U2 : Hid _ := u2
      have F2 : Hid _ := f2
      have HTH : Hid (∀ w6 T D, HStep w5 H x2 w6 T D → HStep w H x w6 T D) := fun w6 T D h => HStep.then U1.out F1.out (HStep.then U2.out F2.out h)
      have c2 : w5.cell? ⟨H, 2, none⟩ = some (.int .i64 S.time) := z2.cells.time
      have hH5 : H < w5.heap.size := z2.cells.lt
      obtain ⟨aw2, cw2, hvw2, -, -, hcw2⟩ := z2.wait.form
      have cw5 := z2.cells.wait
      rw [hvw2] at cw5
      have HCW5 : Hid (CellsAt w5 aw2 (wait.flatMap waitCells)) := hcw2
      have cw5' : w5.cell? ⟨H, 28, none⟩ = some (.slice aw2 wait.length cw2) := cw5
      have hfr5 := z2.cells.free 28
      have ht0 := HG.out.inv.time0
      have ht1 := HG.out.inv.time1
      clear hvw2 hcw2 cw5
      clear z2 u2 f2 k4 hfr4
      go_wp2_with fail
      refine (hrDeadlineOf S.time c _ ht0 ht1 hc0 hc1).mono ?_
      rintro e w5 ⟨rfl, rfl⟩
      have HWW : Hid (∀ w', CellsAt w' aw2 (wait.flatMap waitCells) → Calls Try.prog 50 #[.slice aw2 wait.length cw2, .agg #[.int .i64 S.pub, .string s, .int .i64 b, .int .i64 (laterM S.time c), .int .i64 d]] w' fun e w6 => ∃ v, e = .returned v ∧
          w6.ownsRow w'.heap.size 44 5 v (insM aheadB ⟨S.pub, s, b, laterM S.time c, d⟩ wait).length ((insM aheadB ⟨S.pub, s, b, laterM S.time c, d⟩ wait).flatMap waitCells) ∧ Below w'.heap.size w' w6) :=
        fun w' h => hrWithWaiting wait aw2 cw2 ⟨S.pub, s, b, laterM S.time c, d⟩ w' (by omega) h
      go_wp2_with fail
      generalize hWA : w5.alloc _ = wa
      have hbA : Below w5.heap.size w5 wa := by rw [← hWA]; exact below_one _ _
      have l0 : wa.cell? ⟨w5.heap.size, 0, none⟩ = some (.int .i64 S.pub) := by rw [← hWA]; simp
      have l1 : wa.cell? ⟨w5.heap.size, 1, none⟩ = some (.string s) := by rw [← hWA]; simp
      have l2 : wa.cell? ⟨w5.heap.size, 2, none⟩ = some (.int .i64 b) := by rw [← hWA]; simp
      have l3 : wa.cell? ⟨w5.heap.size, 3, none⟩ = some (.int .i64 (laterM S.time c)) := by rw [← hWA]; simp
      have l4 : wa.cell? ⟨w5.heap.size, 4, none⟩ = some (.int .i64 d) := by rw [← hWA]; simp
      have hsA : w5.heap.size < wa.heap.size := by rw [← hWA]; simp
      have cwA := cell_later hbA cw5'
      have hfrA := (hbA.frozen (p := ⟨H, 28, none⟩) hH5).trans hfr5
      have hHA : H < wa.heap.size := Nat.lt_of_lt_of_le hH5 hbA.size
      have HBA : Hid (Below w5.heap.size w5 wa) := hbA
      have HCWA : Hid (CellsAt wa aw2 (wait.flatMap waitCells)) := HCW5.out.below hbA
      clear hWA hbA cw5' hfr5
      go_region_with (go_at_call 50; refine (HWW.out _ (HCWA.out.below below_drew)).mono ?_; rintro e w7 ⟨v, rfl, ho7, hb7⟩; obtain ⟨a2, c2', rfl, -, -, -⟩ := Row.form (row_of_own (w := wa) ho7 nilV).1; have c7 := cell_later (w := wa.drew) hb7 cwA; have hfr7 := (hb7.frozen (p := ⟨H, 28, none⟩) hHA).trans hfrA)
      all_goals have HST : HStep w H x (w7.setCell ⟨H, 28, none⟩ (.slice a2 (insM aheadB ⟨S.pub, s, b, laterM S.time c, d⟩ wait).length c2')) { lk S fil wait with done := S.done ++ [o], pub := S.pub + 1, wait := insM aheadB ⟨S.pub, s, b, laterM S.time c, d⟩ wait } (cat R ++ encM ⟨3, 0, s, 0, b, c, d, 0⟩) := HTH.out _ _ _ (HStep.then (Upd.of_below HBA.out) (fun _ hk => .inl hk) ((R2.out.below HBA.out).setWait (Upd.of_below (below_drew.trans hb7)) (row_of_own (w := wa) ho7 nilV).1 (row_of_own (w := wa) ho7 _).2))
      all_goals have HST2 : Hid _ := HST
      all_goals clear HST ho7 hb7
      all_goals go_wp2_with fail
      all_goals go_ret2
      all_goals refine ⟨ret_two HDA.out.symm HD2.out.symm, out_done HB.out HF.out HG.out HD1.out (fil1 := fil) (wait1 := insM aheadB ⟨S.pub, s, b, laterM S.time c, d⟩ wait) ?_ ?_⟩
      all_goals first
        | (rw [HD3.out, HRE.out]; exact HST2.out)
        | (rw [HD3.out]; exact (HB.out.lk.later (x := ⟨S.pub, s, b, laterM S.time c, d⟩) rfl).other rfl rfl (Int.le_refl _))
    · have HFU : Hid (decide ((lk S fil wait).room ≤ ((cat R).size : Int) / 42) = true) := by
        show decide (S.room ≤ _) = true
        rw [HB.out.size, decide_eq_true_iff]
        omega
      have HE : Hid (doErr S o = 9) := is_full HZ.out (writes_not (by rw [← ho]; show (3 : Int) ≠ 6; decide)) hfull
      have HND := not_done (S := S) (o := o) (by rw [HE.out]; omega)
      have HND2 : Hid (doAns S o = 0) := HND.2.2
      have HND3 : Hid (doS S o = S) := HND.2.1
      clear HND ho hfull
      rw [HFU.out]
      go_wp2_with fail
      go_ret2
      exact ⟨ret_two HND2.out.symm HE.out.symm, out_same HP.out HB3.out HND3.out⟩
end Go.Proofs.Ytmjdndhfmfjbiaa
