import Derived.Test.YtmjdndhfmfjbiaaGreatM18
import Derived.Deep.DrawnRows
namespace Go.Proofs.YtmjdndhfmfjbiaaGreat
open Go.RowKit
attribute [local go_sem ↓] Go.wp_at_zero Go.wp_at_succ appSem_eq

set_option maxRecDepth 100000 in
set_option maxHeartbeats 1000000 in
theorem operatesDone (P : Prog) (w : World) (G : Nat) (c : Nat → Nat) (b : Nat) (v : GameV) (S : RefS) (x : RefV) (F : Nat → Prop) (R : List ByteArray) (ends : List Int) (o : OpD) (hg : Whole P w G c b v S x F R ends) (ho : Fine o) (hd : doneB S o = true) :
    Calls Tryz.prog 28 #[.pointer (some ⟨G, 0, none⟩), opV o] w fun e w' => e = .returned (.bool true) ∧ ∃ S1, Next P w G c b S1 w' := by
  obtain ⟨kk, oa, ob, oc, od, os⟩ := o
  have HO : Hid (Fine ⟨kk, oa, ob, oc, od, os⟩) := ho
  obtain ⟨ae, ec, hev, -, -, -⟩ := hg.core.endsR.form
  have HEV : Hid (v.endsV = .slice ae ends.length ec) := hev
  have HEL : Hid (ends.length = R.length + 1) := hg.core.endsL
  have HRL : Hid (R.length = S.done.length) := (P.recs hg.core.pr).1
  have HLEN0 : Hid ((doS S ⟨kk, oa, ob, oc, od, os⟩).done.length = R.length + 1) := by
    show _ = _
    rw [do_done, hd, HRL.out]
    simp
  have HGOOD0 : Hid (Good (doS S ⟨kk, oa, ob, oc, od, os⟩)) := hg.core.good.does ho
  have hr5 : R.length ≤ 500 := by rw [HRL.out]; exact hg.core.good.inv.done
  have HG : Hid (Whole P w G c b v S x F R ends) := hg
  have hGl := hg.core.lies.lt
  have k0 := hg.core.lies.h
  clear hg ho hd hev
  go_enter Tryz.func28, Tryz.ntmps28
  go_wp2_with fail
  generalize hWA : World.alloc _ _ = wa
  have hbA : Below w.heap.size w wa := by rw [← hWA]; exact ((Below.refl _ _).alloc (Nat.le_refl _) _).alloc (by simp) _
  have hsA : w.heap.size + 2 = wa.heap.size := by rw [← hWA]; simp
  have q0 : wa.cell? ⟨w.heap.size + 1, 0, none⟩ = some (.int .i64 kk) := by rw [← hWA]; simp
  have q1 : wa.cell? ⟨w.heap.size + 1, 1, none⟩ = some (.int .i64 oa) := by rw [← hWA]; simp
  have q2 : wa.cell? ⟨w.heap.size + 1, 2, none⟩ = some (.int .i64 ob) := by rw [← hWA]; simp
  have q3 : wa.cell? ⟨w.heap.size + 1, 3, none⟩ = some (.int .i64 oc) := by rw [← hWA]; simp
  have q4 : wa.cell? ⟨w.heap.size + 1, 4, none⟩ = some (.int .i64 od) := by rw [← hWA]; simp
  have q5 : wa.cell? ⟨w.heap.size + 1, 5, none⟩ = some (.string os) := by rw [← hWA]; simp
  have k0A := cell_later hbA k0
  have HGA : Hid (Whole P wa G (clean w c) b v S x F R ends) := HG.out.cleaned hbA
  have HSA : Hid (w.heap.size + 2 = wa.heap.size) := hsA
  have hGA : G < wa.heap.size := by omega
  have hwA : w.heap.size + 1 < wa.heap.size := by omega
  have HPD : Hid (P.PR wa.drew v.hB F S R) := P.upd (Q := fun _ => False) HGA.out.core.pr (Upd.of_below below_drew) (fun _ _ f => f)
  clear hWA hsA k0
  obtain ⟨S1, hS1⟩ : ∃ S1, doS S ⟨kk, oa, ob, oc, od, os⟩ = S1 := ⟨_, rfl⟩
  have HS1 : Hid (doS S ⟨kk, oa, ob, oc, od, os⟩ = S1) := hS1
  rw [hS1] at HLEN0 HGOOD0
  have HLEN : Hid (S1.done.length = R.length + 1) := HLEN0
  have HGOOD : Hid (Good S1) := HGOOD0
  clear hS1 HLEN0 HGOOD0
  go_region_with (go_at_call 50; refine (lawDoes P _ v.hB F S R ⟨kk, oa, ob, oc, od, os⟩ HPD.out HGA.out.core.good HO.out).mono ?_; rintro e w1 ⟨rfl, h1⟩; rw [HS1.out] at h1)
  all_goals obtain ⟨F1, R1, hp1, hu1, hf1⟩ := h1
  all_goals have H1 : Hid (P.PR w1 v.hB F1 S1 (R ++ R1) ∧ Upd F wa w1 ∧ (∀ k, F1 k → F k ∨ wa.heap.size ≤ k)) := ⟨hp1, (Upd.of_below below_drew).trans hu1 (fun _ _ e => e), hf1⟩
  all_goals have hFo : ∀ k, F k → k < w.heap.size := fun k e => P.lt HG.out.core.pr e
  all_goals have q0' := H1.out.2.1.cell q0 (fun e => by have := hFo _ e; simp at this; omega)
  all_goals have q1' := H1.out.2.1.cell q1 (fun e => by have := hFo _ e; simp at this; omega)
  all_goals have q2' := H1.out.2.1.cell q2 (fun e => by have := hFo _ e; simp at this; omega)
  all_goals have q3' := H1.out.2.1.cell q3 (fun e => by have := hFo _ e; simp at this; omega)
  all_goals have q4' := H1.out.2.1.cell q4 (fun e => by have := hFo _ e; simp at this; omega)
  all_goals have q5' := H1.out.2.1.cell q5 (fun e => by have := hFo _ e; simp at this; omega)
  all_goals have hFG : ¬ F G := fun e => by have h1 := HG.out.core.cF G e; have h2 := HG.out.core.cG; omega
  all_goals have HL1 : Hid (GameAt w1 G v) := HGA.out.core.lies.upd H1.out.2.1 hFG
  all_goals have k11 := HL1.out.w'
  all_goals have HRD : Hid (Rep w1.drew v.wB x S) := (HGA.out.core.rep.upd H1.out.2.1 (fun k e f => by have h1 := HG.out.core.cF k f; have h2 := HG.out.core.cR k e; omega)).below below_drew
  all_goals have hs1 := H1.out.2.1.size
  all_goals have hG1 : G < w1.heap.size := by omega
  all_goals have hw1 : w.heap.size + 1 < w1.heap.size := by omega
  all_goals clear hp1 hu1 hf1 q0 q1 q2 q3 q4 q5 k0A hFo hFG
  all_goals go_wp2_with fail
  all_goals go_region_with (go_at_call 51; refine (refDo v.wB x S ⟨kk, oa, ob, oc, od, os⟩ _ HRD.out HG.out.core.good.inv HG.out.core.good.room HO.out.2 HO.out.1).mono ?_; rintro e w2 ⟨rfl, h2⟩)
  all_goals rw [HS1.out] at h2
  all_goals obtain ⟨x2, hr2, hu2, hf2⟩ := h2
  all_goals have H2 : Hid (Rep w2 v.wB x2 S1 ∧ Upd (RefFP v.wB x) w1 w2 ∧ (∀ k, RefFP v.wB x2 k → RefFP v.wB x k ∨ w1.heap.size ≤ k)) := ⟨hr2, (Upd.of_below below_drew).trans hu2 (fun _ _ e => e), hf2⟩
  all_goals have hRG : ¬ RefFP v.wB x G := (fun e => by have h1 := HG.out.core.cR G e; have h2 := HG.out.core.cG; omega)
  all_goals have HL2 : Hid (GameAt w2 G v) := HL1.out.upd H2.out.2.1 hRG
  all_goals have k12 := HL2.out.w'
  all_goals have k22 := HL2.out.ends
  all_goals rw [HEV.out, HEL.out] at k22
  all_goals obtain ⟨ad, dc, hdv, d1, d2, -⟩ := hr2.done.form
  all_goals have kd2 := hr2.cells.done
  all_goals rw [hdv, HLEN.out] at kd2
  all_goals have hG2 := HL2.out.lt
  all_goals have hB2 := hr2.cells.lt
  all_goals clear hr2 hu2 hf2 hdv d1 d2 hRG q0' q1' q2' q3' q4' q5' k11
  all_goals go_wp2_with fail
  all_goals go_quiet (fail)
  all_goals generalize hw3 : w2.drewN nq = w3
  all_goals have b3 : Below w2.heap.size w2 w3 := (by rw [← hw3]; exact below_drewN (Below.refl _ _))
  all_goals obtain ⟨a4, c4, w4, x4, e4, z4, hn4⟩ := operated_more HGA.out H1.out.1 H1.out.2.1 H1.out.2.2 H2.out.1 H2.out.2.1 H2.out.2.2 HGOOD.out HLEN.out b3 HEV.out
  all_goals have HN4 : Hid (Next P w G c b S1 (w4.setCell ⟨G, 2, none⟩ (.slice a4 (R.length + 1 + 1) c4))) := next_clean hbA hn4
  all_goals have k23 := cell_later b3 k22
  all_goals have hs3 := b3.size
  all_goals have hG3 : G < w3.heap.size := by omega
  all_goals clear hw3 hn4 k12 k22 kd2
  all_goals go_wp2_with fail
  all_goals refine (lawNum _ _).mono ?_
  all_goals rintro e wz ⟨rfl, rfl⟩
  all_goals go_wp2_with fail
  all_goals go_ret
  all_goals exact ⟨ret_bool' (by simp), S1, HN4.out⟩

set_option maxRecDepth 100000 in
set_option maxHeartbeats 1000000 in
theorem operatesSame (P : Prog) (w : World) (G : Nat) (c : Nat → Nat) (b : Nat) (v : GameV) (S : RefS) (x : RefV) (F : Nat → Prop) (R : List ByteArray) (ends : List Int) (o : OpD) (hg : Whole P w G c b v S x F R ends) (ho : Fine o) (hd : doneB S o = false) :
    Calls Tryz.prog 28 #[.pointer (some ⟨G, 0, none⟩), opV o] w fun e w' => e = .returned (.bool true) ∧ ∃ S1, Next P w G c b S1 w' := by
  obtain ⟨kk, oa, ob, oc, od, os⟩ := o
  have HO : Hid (Fine ⟨kk, oa, ob, oc, od, os⟩) := ho
  obtain ⟨ae, ec, hev, -, -, -⟩ := hg.core.endsR.form
  have HEV : Hid (v.endsV = .slice ae ends.length ec) := hev
  have HEL : Hid (ends.length = R.length + 1) := hg.core.endsL
  have HRL : Hid (R.length = S.done.length) := (P.recs hg.core.pr).1
  have HLEN0 : Hid ((doS S ⟨kk, oa, ob, oc, od, os⟩).done.length = R.length) := by
    show _ = _
    rw [do_done, hd, HRL.out]
    simp
  have HGOOD0 : Hid (Good (doS S ⟨kk, oa, ob, oc, od, os⟩)) := hg.core.good.does ho
  have hr5 : R.length ≤ 500 := by rw [HRL.out]; exact hg.core.good.inv.done
  have HG : Hid (Whole P w G c b v S x F R ends) := hg
  have hGl := hg.core.lies.lt
  have k0 := hg.core.lies.h
  clear hg ho hd hev
  go_enter Tryz.func28, Tryz.ntmps28
  go_wp2_with fail
  generalize hWA : World.alloc _ _ = wa
  have hbA : Below w.heap.size w wa := by rw [← hWA]; exact ((Below.refl _ _).alloc (Nat.le_refl _) _).alloc (by simp) _
  have hsA : w.heap.size + 2 = wa.heap.size := by rw [← hWA]; simp
  have q0 : wa.cell? ⟨w.heap.size + 1, 0, none⟩ = some (.int .i64 kk) := by rw [← hWA]; simp
  have q1 : wa.cell? ⟨w.heap.size + 1, 1, none⟩ = some (.int .i64 oa) := by rw [← hWA]; simp
  have q2 : wa.cell? ⟨w.heap.size + 1, 2, none⟩ = some (.int .i64 ob) := by rw [← hWA]; simp
  have q3 : wa.cell? ⟨w.heap.size + 1, 3, none⟩ = some (.int .i64 oc) := by rw [← hWA]; simp
  have q4 : wa.cell? ⟨w.heap.size + 1, 4, none⟩ = some (.int .i64 od) := by rw [← hWA]; simp
  have q5 : wa.cell? ⟨w.heap.size + 1, 5, none⟩ = some (.string os) := by rw [← hWA]; simp
  have k0A := cell_later hbA k0
  have HGA : Hid (Whole P wa G (clean w c) b v S x F R ends) := HG.out.cleaned hbA
  have HSA : Hid (w.heap.size + 2 = wa.heap.size) := hsA
  have hGA : G < wa.heap.size := by omega
  have hwA : w.heap.size + 1 < wa.heap.size := by omega
  have HPD : Hid (P.PR wa.drew v.hB F S R) := P.upd (Q := fun _ => False) HGA.out.core.pr (Upd.of_below below_drew) (fun _ _ f => f)
  clear hWA hsA k0
  obtain ⟨S1, hS1⟩ : ∃ S1, doS S ⟨kk, oa, ob, oc, od, os⟩ = S1 := ⟨_, rfl⟩
  have HS1 : Hid (doS S ⟨kk, oa, ob, oc, od, os⟩ = S1) := hS1
  rw [hS1] at HLEN0 HGOOD0
  have HLEN : Hid (S1.done.length = R.length) := HLEN0
  have HGOOD : Hid (Good S1) := HGOOD0
  clear hS1 HLEN0 HGOOD0
  go_region_with (go_at_call 50; refine (lawDoes P _ v.hB F S R ⟨kk, oa, ob, oc, od, os⟩ HPD.out HGA.out.core.good HO.out).mono ?_; rintro e w1 ⟨rfl, h1⟩; rw [HS1.out] at h1)
  all_goals obtain ⟨F1, R1, hp1, hu1, hf1⟩ := h1
  all_goals have H1 : Hid (P.PR w1 v.hB F1 S1 (R ++ R1) ∧ Upd F wa w1 ∧ (∀ k, F1 k → F k ∨ wa.heap.size ≤ k)) := ⟨hp1, (Upd.of_below below_drew).trans hu1 (fun _ _ e => e), hf1⟩
  all_goals have hFo : ∀ k, F k → k < w.heap.size := fun k e => P.lt HG.out.core.pr e
  all_goals have q0' := H1.out.2.1.cell q0 (fun e => by have := hFo _ e; simp at this; omega)
  all_goals have q1' := H1.out.2.1.cell q1 (fun e => by have := hFo _ e; simp at this; omega)
  all_goals have q2' := H1.out.2.1.cell q2 (fun e => by have := hFo _ e; simp at this; omega)
  all_goals have q3' := H1.out.2.1.cell q3 (fun e => by have := hFo _ e; simp at this; omega)
  all_goals have q4' := H1.out.2.1.cell q4 (fun e => by have := hFo _ e; simp at this; omega)
  all_goals have q5' := H1.out.2.1.cell q5 (fun e => by have := hFo _ e; simp at this; omega)
  all_goals have hFG : ¬ F G := fun e => by have h1 := HG.out.core.cF G e; have h2 := HG.out.core.cG; omega
  all_goals have HL1 : Hid (GameAt w1 G v) := HGA.out.core.lies.upd H1.out.2.1 hFG
  all_goals have k11 := HL1.out.w'
  all_goals have HRD : Hid (Rep w1.drew v.wB x S) := (HGA.out.core.rep.upd H1.out.2.1 (fun k e f => by have h1 := HG.out.core.cF k f; have h2 := HG.out.core.cR k e; omega)).below below_drew
  all_goals have hs1 := H1.out.2.1.size
  all_goals have hG1 : G < w1.heap.size := by omega
  all_goals have hw1 : w.heap.size + 1 < w1.heap.size := by omega
  all_goals clear hp1 hu1 hf1 q0 q1 q2 q3 q4 q5 k0A hFo hFG
  all_goals go_wp2_with fail
  all_goals go_region_with (go_at_call 51; refine (refDo v.wB x S ⟨kk, oa, ob, oc, od, os⟩ _ HRD.out HG.out.core.good.inv HG.out.core.good.room HO.out.2 HO.out.1).mono ?_; rintro e w2 ⟨rfl, h2⟩)
  all_goals rw [HS1.out] at h2
  all_goals obtain ⟨x2, hr2, hu2, hf2⟩ := h2
  all_goals have H2 : Hid (Rep w2 v.wB x2 S1 ∧ Upd (RefFP v.wB x) w1 w2 ∧ (∀ k, RefFP v.wB x2 k → RefFP v.wB x k ∨ w1.heap.size ≤ k)) := ⟨hr2, (Upd.of_below below_drew).trans hu2 (fun _ _ e => e), hf2⟩
  all_goals have hRG : ¬ RefFP v.wB x G := (fun e => by have h1 := HG.out.core.cR G e; have h2 := HG.out.core.cG; omega)
  all_goals have HL2 : Hid (GameAt w2 G v) := HL1.out.upd H2.out.2.1 hRG
  all_goals have k12 := HL2.out.w'
  all_goals have k22 := HL2.out.ends
  all_goals rw [HEV.out, HEL.out] at k22
  all_goals obtain ⟨ad, dc, hdv, d1, d2, -⟩ := hr2.done.form
  all_goals have kd2 := hr2.cells.done
  all_goals rw [hdv, HLEN.out] at kd2
  all_goals have hG2 := HL2.out.lt
  all_goals have hB2 := hr2.cells.lt
  all_goals clear hr2 hu2 hf2 hdv d1 d2 hRG q0' q1' q2' q3' q4' q5' k11
  all_goals go_wp2_with fail
  all_goals go_quiet (fail)
  all_goals generalize hw3 : w2.drewN nq = w3
  all_goals have b3 : Below w2.heap.size w2 w3 := (by rw [← hw3]; exact below_drewN (Below.refl _ _))
  all_goals have HN4 : Hid (Next P w G c b S1 w3) := next_clean hbA (operated_same HGA.out H1.out.1 H1.out.2.1 H1.out.2.2 H2.out.1 H2.out.2.1 H2.out.2.2 HGOOD.out HLEN.out b3)
  all_goals clear hw3 k12 k22 kd2
  all_goals go_wp2_with fail
  all_goals refine (lawNum _ _).mono ?_
  all_goals rintro e wz ⟨rfl, rfl⟩
  all_goals go_wp2_with fail
  all_goals go_ret
  all_goals exact ⟨ret_bool' (by simp), S1, HN4.out⟩

theorem lawOperates (P : Prog) (w : World) (G : Nat) (c : Nat → Nat) (b : Nat) (v : GameV) (S : RefS) (x : RefV) (F : Nat → Prop) (R : List ByteArray) (ends : List Int) (o : OpD) (hg : Whole P w G c b v S x F R ends) (ho : Fine o) :
    Calls Tryz.prog 28 #[.pointer (some ⟨G, 0, none⟩), opV o] w fun e w' => e = .returned (.bool true) ∧ ∃ S1, Next P w G c b S1 w' := by
  cases hd : doneB S o with
  | true => exact operatesDone P w G c b v S x F R ends o hg ho hd
  | false => exact operatesSame P w G c b v S x F R ends o hg ho hd
end Go.Proofs.YtmjdndhfmfjbiaaGreat
