import Derived.Test.YtmjdndhfmfjbiaaGreatM28
namespace Go.Proofs.YtmjdndhfmfjbiaaGreat
open Go.RowKit

set_option maxRecDepth 100000 in
set_option maxHeartbeats 4000000 in
theorem hrSend (H : Nat) (x : RefV) (S : RefS) (D : ByteArray) (m : WaitD) (w : World) (hr : HRep w H x S D) (ht : m.topic.size ≤ 1048576) (hf : ∀ a, a < 8 → ∀ f ∈ S.fil a, f.size ≤ 1048576)
    (hfl : ∀ a, a < 8 → (S.fil a).length ≤ 1048576) (hl : ∀ a, a < 8 → 0 ≤ S.lost a ∧ S.lost a ≤ 1099511627776) (hq : ∀ a, a < 8 → (S.que a).length ≤ 1048576) :
    Calls Tryz.prog 86 #[.pointer (some ⟨H, 0, none⟩), msgV (sentOf S m)] w fun e w' => e = .returned (.tuple #[]) ∧ HStep w H x w' (sendTo S m 8) D := by
  have HR : Hid (HRep w H x S D) := hr
  have hH := hr.cells.lt
  clear hr
  have HQM : Hid (∀ a, sentOf (sendTo S m a) m = sentOf S m) := fun a => by unfold sentOf; rw [(sendTo_keeps S m a).2.1]
  have HTOP : Hid ((sentOf S m).topic = m.topic) := rfl
  generalize sentOf S m = q at *
  have htq : q.topic.size ≤ 1048576 := by rw [HTOP.out]; exact ht
  go_enter Tryz.func86, Tryz.ntmps86
  go_wp2_with fail
  generalize hWA : w.alloc _ = wa
  have hbA : Below w.heap.size w wa := by rw [← hWA]; exact below_one _ _
  have b0 : wa.cell? ⟨w.heap.size, 0, none⟩ = some (.int .i64 q.number) := by rw [← hWA]; simp
  have b1 : wa.cell? ⟨w.heap.size, 1, none⟩ = some (.string q.topic) := by rw [← hWA]; simp
  have b2 : wa.cell? ⟨w.heap.size, 2, none⟩ = some (.int .i64 q.value) := by rw [← hWA]; simp
  have b3 : wa.cell? ⟨w.heap.size, 3, none⟩ = some (.int .i64 q.life) := by rw [← hWA]; simp
  have b4 : wa.cell? ⟨w.heap.size, 4, none⟩ = some (.int .i64 q.sentAt) := by rw [← hWA]; simp
  have hsA : w.heap.size < wa.heap.size := by rw [← hWA]; simp
  clear hWA
  have HBA : Hid (Below w.heap.size w wa) := hbA
  have RA : Hid (HRep wa H x S D) := HR.out.below hbA
  go_loopw [4] (fun i wr => ∃ a : Nat, a ≤ 8 ∧ i = .int .i64 a ∧ HStep wa H x wr (sendTo S m a) D) (fun i _ => 8 - (intOf i).toNat)
  case atStart => exact ⟨0, by omega, rfl, HStep.refl RA.out⟩
  case round =>
    obtain ⟨a, ha, rfl, x1, r1, u1, f1⟩ := hrel
    by_cases hlt : a < 8
    · have ha0 : (0 : Int) ≤ (a : Int) := by omega
      have ha1 : (a : Int) < 8 := by omega
      obtain ⟨k1, k2, -, -, -, -, k7⟩ := sendTo_keeps S m a
      obtain ⟨k8, k9⟩ := k7 a (Nat.le_refl _)
      have HSTEP : Hid (sendTo S m (a + 1) = if fitAny ((sendTo S m a).fil a) q.topic then recvM (sendTo S m a) a q else sendTo S m a) := by
        show sendTo S m (a + 1) = _
        rw [HTOP.out, ← HQM.out a]; rfl
      have hff := hf a hlt
      have hfl := hfl a hlt
      have hll := hl a hlt
      have hqq := hq a hlt
      rw [← k1] at hff hfl
      rw [← k8] at hll
      rw [← k9] at hqq
      have HFF : Hid (∀ f ∈ (sendTo S m a).fil a, f.size ≤ 1048576) := hff
      clear k1 k2 k7 k8 k9 hff hf hl hq
      generalize sendTo S m a = T at *
      obtain ⟨af, cf, hvf, q1, q2, hcf⟩ := (r1.fil a hlt).form
      have HCF : Hid (CellsAt wr af ((T.fil a).map Value.string)) := hcf
      have R1 : Hid (HRep wr H x1 T D) := r1
      have HST : Hid (HStep wa H x wr T D) := ⟨x1, r1, u1, f1⟩
      have HTH : Hid (∀ w2 S2, HStep wr H x1 w2 S2 D → HStep wa H x w2 S2 D) := fun w2 S2 h => HStep.then u1 f1 h
      have cfil := r1.cells.fil a hlt
      rw [hvf] at cfil
      have hbx : ¬ HFP H x w.heap.size := fun hk => by have := HR.out.lt hk; omega
      have c0 := u1.cell b0 hbx
      have c1 := u1.cell b1 hbx
      have c2 := u1.cell b2 hbx
      have c3 := u1.cell b3 hbx
      have c4 := u1.cell b4 hbx
      have hHl := r1.cells.lt
      have hxl : w.heap.size < wr.heap.size := by have := u1.size; omega
      clear r1 u1 f1 hcf hbx q1 q2 hvf b0 b1 b2 b3 b4
      cases hfit : fitAny (T.fil a) q.topic
      · have HFIT : Hid (fitAny (T.fil a) q.topic = false) := hfit
        have HE : Hid (sendTo S m (a + 1) = T) := by show _ = _; rw [HSTEP.out, hfit]; rfl
        clear hfit HSTEP
        go_wp2_with fail
        go_region_with (go_at_call 110; refine (hrFitsOne (T.fil a) af cf q.topic _ hfl (HCF.out.below below_drew) HFF.out htq).mono ?_; rintro e w2 ⟨rfl, hb2⟩; rw [HFIT.out])
        all_goals have b2 : Below wr.heap.size wr w2 := below_drew.trans (hb2.mono (Nat.le_refl _))
        all_goals go_wp2_with fail
        all_goals go_roundw
        all_goals first
          | (case rel => exact ⟨a + 1, by omega, by go_num, by rw [HE.out]; exact HST.out.below b2⟩)
          | (case measure => simp [intOf]; omega)
          | skip
      · have HFIT : Hid (fitAny (T.fil a) q.topic = true) := hfit
        have HE : Hid (sendTo S m (a + 1) = recvM T a q) := by show _ = _; rw [HSTEP.out, hfit]; rfl
        clear hfit HSTEP
        go_wp2_with fail
        go_region_with (go_at_call 110; refine (hrFitsOne (T.fil a) af cf q.topic _ hfl (HCF.out.below below_drew) HFF.out htq).mono ?_; rintro e w2 ⟨rfl, hb2⟩; rw [HFIT.out])
        all_goals have b2 : Below wr.heap.size wr w2 := below_drew.trans (hb2.mono (Nat.le_refl _))
        all_goals have d0 := cell_later b2 c0
        all_goals have d1 := cell_later b2 c1
        all_goals have d2 := cell_later b2 c2
        all_goals have d3 := cell_later b2 c3
        all_goals have d4 := cell_later b2 c4
        all_goals have HB2 : Hid (Below wr.heap.size wr w2) := b2
        all_goals clear hb2 b2 c0 c1 c2 c3 c4
        all_goals go_wp2_with fail
        all_goals go_region_with (go_at_call 111; refine (hrReceive H x1 T D a q _ ((R1.out.below HB2.out).below below_drew) hlt hll hqq).mono ?_; rintro e w3 ⟨rfl, hst⟩)
        all_goals go_wp2_with fail
        all_goals go_roundw
        all_goals first
          | (case rel => exact ⟨a + 1, by omega, by go_num, by rw [HE.out]; exact HTH.out _ _ (HStep.then (Upd.of_below HB2.out) (fun _ hk => .inl hk) (HStep.then (Upd.of_below below_drew) (fun _ hk => .inl hk) hst))⟩)
          | (case measure => simp [intOf]; omega)
          | skip
    · have e : a = 8 := by omega
      subst e
      go_wp2_with fail
      go_end0
      exact ⟨rfl, HStep.then (Upd.of_below HBA.out) (fun _ hk => .inl hk) ⟨x1, r1, u1, f1⟩⟩
end Go.Proofs.YtmjdndhfmfjbiaaGreat
