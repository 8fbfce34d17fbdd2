import Derived.Test.YtmjdndhfmfjbiaaGreatM02
import Derived.Test.YtmjdndhfmfjbiaaGreatM01
import Derived.Deep.RegionHeld3
import Derived.Deep.AppendLies
import Derived.Deep.DrawnRows
namespace Go.Proofs.YtmjdndhfmfjbiaaGreat
open Go.RowKit
/-- An append, kept whole, so that the walk takes its run from a hypothesis. -/
def appSem (ts : Array TypeId) (ty : TypeId) (args : Array Value) : Sem Value := Builtin.append_ ts ty args
theorem appSem_eq (ts : Array TypeId) (ty : TypeId) (args : Array Value) : Builtin.append_ ts ty args = appSem ts ty args := rfl
attribute [local go_sem ↓] Go.wp_at_zero Go.wp_at_succ appSem_eq

/-- Does one of the filters fit? -/
def fitAny (fs : List ByteArray) (t : ByteArray) : Bool := fs.any (fun f => M.alongM (M.wordsM f) (M.wordsM t))
def sentOf (S : RefS) (m : WaitD) : SentD := ⟨m.number, m.topic, m.value, S.time, m.life⟩
/-- A message goes to one client. -/
def sendOne (T : RefS) (m : WaitD) (a : Nat) : RefS :=
  if fitAny (T.fil a) m.topic then (if 10 ≤ (T.que a).length then { T with lost := setAt T.lost a (T.lost a + 1) } else { T with que := setAt T.que a (T.que a ++ [sentOf T m]) }) else T
def sendTo (S : RefS) (m : WaitD) : Nat → RefS
  | 0 => S
  | a + 1 => sendOne (sendTo S m a) m a

theorem sendOne_keeps (T : RefS) (m : WaitD) (a : Nat) : (sendOne T m a).fil = T.fil ∧ (sendOne T m a).time = T.time ∧ (sendOne T m a).done = T.done ∧ (sendOne T m a).wait = T.wait ∧ (sendOne T m a).room = T.room ∧ (sendOne T m a).pub = T.pub ∧
    ∀ b, b ≠ a → (sendOne T m a).lost b = T.lost b ∧ (sendOne T m a).que b = T.que b := by
  unfold sendOne
  split
  · split
    · exact ⟨rfl, rfl, rfl, rfl, rfl, rfl, fun b hb => ⟨setAt_other _ _ _ _ hb, rfl⟩⟩
    · exact ⟨rfl, rfl, rfl, rfl, rfl, rfl, fun b hb => ⟨rfl, setAt_other _ _ _ _ hb⟩⟩
  · exact ⟨rfl, rfl, rfl, rfl, rfl, rfl, fun b _ => ⟨rfl, rfl⟩⟩

theorem sendTo_keeps (S : RefS) (m : WaitD) (a : Nat) : (sendTo S m a).fil = S.fil ∧ (sendTo S m a).time = S.time ∧ (sendTo S m a).done = S.done ∧ (sendTo S m a).wait = S.wait ∧ (sendTo S m a).room = S.room ∧ (sendTo S m a).pub = S.pub ∧
    ∀ b, a ≤ b → (sendTo S m a).lost b = S.lost b ∧ (sendTo S m a).que b = S.que b := by
  induction a with
  | zero => exact ⟨rfl, rfl, rfl, rfl, rfl, rfl, fun b _ => ⟨rfl, rfl⟩⟩
  | succ a ih =>
    obtain ⟨i1, i2, i3, i4, i5, i6, i7⟩ := ih
    obtain ⟨h1, h2, h3, h4, h5, h6, h7⟩ := sendOne_keeps (sendTo S m a) m a
    refine ⟨h1.trans i1, h2.trans i2, h3.trans i3, h4.trans i4, h5.trans i5, h6.trans i6, fun b hb => ?_⟩
    obtain ⟨k1, k2⟩ := h7 b (by omega)
    obtain ⟨l1, l2⟩ := i7 b (by omega)
    exact ⟨k1.trans l1, k2.trans l2⟩

theorem any_step {α : Type} (p : α → Bool) (l : List α) (k : Nat) (x : α) (h : l[k]? = some x) : (l.take (k + 1)).any p = ((l.take k).any p || p x) := by
  rw [List.take_add_one, h]; simp

theorem frozen_alloc_drew {w : World} {o : Obj} {p : Addr} (hb : p.block < w.heap.size) (h : w.frozen? p = false) : (w.alloc o).drew.frozen? p = false :=
  (World.frozen?_alloc_past _ _ _ hb).trans h
theorem below_drew {w : World} : Below w.heap.size w w.drew := ⟨rfl, rfl, rfl, Nat.le_refl _, fun _ _ => rfl⟩

set_option maxRecDepth 100000 in
set_option maxHeartbeats 4000000 in
theorem refSend (B : Nat) (x : RefV) (S : RefS) (m : WaitD) (w : World) (hr : Rep w B x S) (ht : m.topic.size ≤ 1048576) (hf : ∀ a, a < 8 → ∀ f ∈ S.fil a, f.size ≤ 1048576)
    (hfl : ∀ a, a < 8 → (S.fil a).length ≤ 1048576) (hl : ∀ a, a < 8 → 0 ≤ S.lost a ∧ S.lost a ≤ 1099511627776) (hq : ∀ a, a < 8 → (S.que a).length ≤ 1048576) :
    Calls Tryz.prog 101 #[.pointer (some ⟨B, 0, none⟩), .agg #[.int .i64 m.number, .string m.topic, .int .i64 m.value, .int .i64 m.deadline, .int .i64 m.life]] w fun e w' =>
      e = .returned (.tuple #[]) ∧ RefStep w B x w' (sendTo S m 8) := by
  obtain ⟨i0, hi, hz0, hz1, hz2⟩ := info_parts infoSent
  have HR : Hid (Rep w B x S) := hr
  have hBx := hr.cells.lt
  clear hr
  go_enter Tryz.func101, Tryz.ntmps101
  go_wp2_with fail
  have hb0 : Below w.heap.size w (w.alloc (Obj.cells #[.int .i64 m.number, .string m.topic, .int .i64 m.value, .int .i64 m.deadline, .int .i64 m.life] 80)) := below_one _ _
  have HR0 : Hid (Rep (w.alloc (Obj.cells #[.int .i64 m.number, .string m.topic, .int .i64 m.value, .int .i64 m.deadline, .int .i64 m.life] 80)) B x S) := HR.out.below hb0
  go_loopw [4] (fun i wr => ∃ a : Nat, a ≤ 8 ∧ i = .int .i64 a ∧ RefStep (w.alloc (Obj.cells #[.int .i64 m.number, .string m.topic, .int .i64 m.value, .int .i64 m.deadline, .int .i64 m.life] 80)) B x wr (sendTo S m a)) (fun i _ => 8 - (intOf i).toNat)
  case atStart => exact ⟨0, by omega, rfl, RefStep.refl HR0.out⟩
  case round =>
    obtain ⟨a, ha, rfl, x1, r1, u1, f1⟩ := hrel
    by_cases hlt : a < 8
    · have ha0 : (0 : Int) ≤ (a : Int) := by omega
      have ha1 : (a : Int) < 8 := by omega
      obtain ⟨k1, k2, -, -, -, -, k7⟩ := sendTo_keeps S m a
      obtain ⟨k8, k9⟩ := k7 a (Nat.le_refl _)
      have hstep : Hid (sendTo S m (a + 1) = sendOne (sendTo S m a) m a) := rfl
      have hT : Hid (fitAny ((sendTo S m a).fil a) m.topic = (S.fil a).any (fun f => M.alongM (M.wordsM f) (M.wordsM m.topic))) := by rw [k1]; rfl
      have hff := hf a hlt
      have hfl := hfl a hlt
      have hll := hl a hlt
      have hqq := hq a hlt
      rw [← k1] at hff hfl
      rw [← k8] at hll
      rw [← k9] at hqq
      have hT2 : Hid (sentOf (sendTo S m a) m = ⟨m.number, m.topic, m.value, (sendTo S m a).time, m.life⟩) := rfl
      rw [← k1] at hT
      have HFF : Hid (∀ f ∈ (sendTo S m a).fil a, f.size ≤ 1048576) := hff
      clear k1 k2 k7 k8 k9 hff hf hl hq
      generalize hTT : sendTo S m a = T at *
      clear hTT
      obtain ⟨af, cf, hvf, q1, q2, hcf⟩ := (r1.fil a hlt).form
      obtain ⟨aq, cq, hvq, q3, q4, hcq⟩ := (r1.que a hlt).form
      unfold maxLen at q2 q4
      have HCF : Hid (CellsAt wr af ((T.fil a).map Value.string)) := hcf
      have R1 : Hid (Rep wr B x1 T) := r1
      have HST : Hid (RefStep _ B x wr T) := ⟨x1, r1, u1, f1⟩
      have HTH : Hid (∀ w2 S2, RefStep wr B x1 w2 S2 → RefStep (w.alloc (Obj.cells #[.int .i64 m.number, .string m.topic, .int .i64 m.value, .int .i64 m.deadline, .int .i64 m.life] 80)) B x w2 S2) := fun w2 S2 h => RefStep.then u1 f1 h
      have hqB : (x1.queV a).ownBlock ≠ some B := fun e => (r1.apart.2.2.2.1 a B hlt e rfl)
      have hqx : (x1.queV a).ownBlock ≠ some w.heap.size := fun e => by
        rcases f1 w.heap.size (.inr (.inr (.inr ⟨a, hlt, .inr e⟩))) with h | h
        · have := HR.out.lt h; omega
        · simp at h
          omega
      have cfil := r1.cells.fil a hlt
      have cque := r1.cells.que a hlt
      have clost := r1.cells.lost a hlt
      have ctime := r1.cells.time
      rw [hvf] at cfil
      rw [hvq] at cque
      have hbx : ¬ RefFP B x w.heap.size := fun hk => by have := HR.out.lt hk; omega
      have b0 : wr.cell? ⟨w.heap.size, 0, none⟩ = some (.int .i64 m.number) := u1.cell (by simp) hbx
      have b1 : wr.cell? ⟨w.heap.size, 1, none⟩ = some (.string m.topic) := u1.cell (by simp) hbx
      have b2 : wr.cell? ⟨w.heap.size, 2, none⟩ = some (.int .i64 m.value) := u1.cell (by simp) hbx
      have b4 : wr.cell? ⟨w.heap.size, 4, none⟩ = some (.int .i64 m.life) := u1.cell (by simp) hbx
      have hBl := r1.cells.lt
      have hxl : w.heap.size < wr.heap.size := by have := u1.size; simp at this; omega
      clear r1 u1 f1 hcf hcq hbx
      go_wp2_with fail
      go_loopw [5, 6] (fun sm i w2 => ∃ j : Nat, j ≤ (T.fil a).length ∧ i = .int .i64 j ∧ sm = .bool (((T.fil a).take j).any (fun f => M.alongM (M.wordsM f) (M.wordsM m.topic))) ∧ Below wr.heap.size wr w2) (fun _ i _ => (T.fil a).length - (intOf i).toNat)
      case atStart => exact ⟨0, Nat.zero_le _, rfl, by simp, Below.refl _ _⟩
      case round =>
        obtain ⟨j, hj, rfl, rfl, hb2⟩ := hrel
        have cfil2 := cell_later hb2 cfil
        by_cases hjl : j < (T.fil a).length
        · obtain ⟨f, hfx⟩ : ∃ f, (T.fil a)[j]? = some f := ⟨_, List.getElem?_eq_getElem hjl⟩
          have HS : Hid (((T.fil a).take (j + 1)).any (fun f => M.alongM (M.wordsM f) (M.wordsM m.topic)) = (((T.fil a).take j).any (fun f => M.alongM (M.wordsM f) (M.wordsM m.topic)) || M.alongM (M.wordsM f) (M.wordsM m.topic))) := any_step _ _ _ _ hfx
          obtain ⟨g, rfl, hcg⟩ := HCF.out j _ (strs_get hfx)
          have hcg2 := cell_later hb2 hcg
          have b12 := cell_later hb2 b1
          have hfsz := HFF.out f (List.mem_of_getElem? hfx)
          clear hfx
          have hj0 : (0 : Int) ≤ (j : Int) := by omega
          have hj1 : (j : Int) < ((T.fil a).length : Int) := by omega
          go_wp2_with fail
          go_region_held3 (fun w' => w'.cell? ⟨B, 4 + a * 3, none⟩ = some (.slice (some ⟨g, 0, none⟩) (T.fil a).length cf) ∧ w'.cell? ⟨g, j, none⟩ = some (.string f) ∧ w'.cell? ⟨w.heap.size, 1, none⟩ = some (.string m.topic)) (first | go_keep | exact ⟨cell_later hb3 cfil2, cell_later hb3 hcg2, cell_later hb3 b12⟩)
            (first | (go_at_call 116; refine (refFit f m.topic _ hfsz ht).mono ?_; rintro e w3 ⟨rfl, hb3⟩))
          cases hsm : (((T.fil a).take j).any (fun f => M.alongM (M.wordsM f) (M.wordsM m.topic)))
          all_goals
            rw [hsm] at HS
            go_wp2_with fail
            go_roundw
            case rel => exact ⟨j + 1, by omega, by go_num, by rw [HS.out]; simp, (hb2.drew).trans (hb3.mono hb2.size)⟩
            case measure => simp [intOf]; omega
        · have HA : Hid (fitAny (T.fil a) m.topic = ((T.fil a).take j).any (fun f => M.alongM (M.wordsM f) (M.wordsM m.topic))) := by rw [List.take_of_length_le (by omega)]; rfl
          cases hsm : (((T.fil a).take j).any (fun f => M.alongM (M.wordsM f) (M.wordsM m.topic)))
          · rw [hsm] at HA
            have HE : Hid (sendOne T m a = T) := by show sendOne T m a = T; unfold sendOne; rw [HA.out]; rfl
            go_wp2_with fail
            go_roundw
            case rel => exact ⟨a + 1, by omega, by go_num, by rw [hstep.out, HE.out]; exact HST.out.below hb2⟩
            case measure => simp [intOf]; omega
          · rw [hsm] at HA
            have cque2 := cell_later hb2 cque
            have clost2 := cell_later hb2 clost
            have hfree2 := (R1.out.below hb2).cells.free
            by_cases h10 : 10 ≤ (T.que a).length
            · have HE : Hid (sendOne T m a = { T with lost := setAt T.lost a (T.lost a + 1) }) := by show sendOne T m a = _; unfold sendOne; rw [HA.out, if_pos rfl, if_pos h10]
              have hfr := hfree2 (4 + a * 3 + 2)
              clear hfree2
              go_wp2_with fail
              go_region
              all_goals go_wp2_with fail
              go_roundw
              case rel => exact ⟨a + 1, by omega, by go_num, by rw [hstep.out, HE.out]; exact (HTH.out _ _ (RefStep.then (Upd.of_below hb2) (fun _ hk => .inl hk) ((R1.out.below hb2).setLost hlt _))).below below_drew⟩
              case measure => simp [intOf]; omega
            · have HE : Hid (sendOne T m a = { T with que := setAt T.que a (T.que a ++ [sentOf T m]) }) := by show sendOne T m a = _; unfold sendOne; rw [HA.out, if_pos rfl, if_neg h10]
              have hfr := hfree2 (4 + a * 3 + 1)
              have ctime2 := cell_later hb2 ctime
              have b02 := cell_later hb2 b0
              have b12 := cell_later hb2 b1
              have b22 := cell_later hb2 b2
              have b42 := cell_later hb2 b4
              have hrow : Hid (Row wr 100 5 (.slice aq (T.que a).length cq) (T.que a).length ((T.que a).flatMap sentCells)) := by
                have := (R1.out.below hb2).que a hlt
                rw [hvq] at this
                exact this
              have hsz2 := hb2.size
              have hBl2 : B < wr.heap.size := by omega
              rw [hvq] at hqB hqx
              clear hfree2
              obtain ⟨v1, w1, hrun, hown1, hgrow, -, hat⟩ := run_append_own_at (P := Tryz.prog) ((wr.alloc (Obj.cells #[.int .i64 m.number, .string m.topic, .int .i64 m.value, .int .i64 T.time, .int .i64 m.life] 100)).drew) 0 61 61 100 i0 _ 5 48 Tryz.underlying61 hi hz0 hz1 hz2 rfl (by omega)
                (.slice aq (T.que a).length cq) (T.que a).length _ ((hrow.out.alloc _).drew) ⟨wr.heap.size, 0, none⟩ 1 1 (sentCells (sentOf T m)) rfl (World.news_of_block (cs := (sentCells (sentOf T m)).toArray) (t := 100) (fr := (0, 0)) (heap_alloc_new wr _)) (sent_one _)
                (by unfold maxLen; omega) (by omega) (by omega)
              rw [appSem_eq] at hrun
              have hw1 : w1.cell? ⟨B, 4 + a * 3 + 1, none⟩ = some (.slice aq (T.que a).length cq) := (hgrow.cell_far _ (by simp; omega) (Ne.symm hqB)).trans ((World.cell?_alloc_past _ _ _ hBl2).trans cque2)
              have hf1 : w1.frozen? ⟨B, 4 + a * 3 + 1, none⟩ = false := (hgrow.frozen_far _ (by simp; omega) (Ne.symm hqB)).trans ((World.frozen?_alloc_past _ _ _ hBl2).trans hfr)
              obtain ⟨a1, c1, rfl, -, -, -⟩ := Row.form hown1
              have HO1 : Hid (Row w1 100 5 (.slice a1 ((T.que a).length + 1) c1) ((T.que a).length + 1) ((T.que a).flatMap sentCells ++ sentCells (sentOf T m))) := hown1
              have HU1 : Hid (Upd (fun k => (x1.queV a).ownBlock = some k) wr w1) := by
                rw [hvq]; exact (((Upd.refl _ wr).alloc _).drew).grown hgrow (fun i e _ => e)
              have HF1 : Hid (Fresh wr (x1.queV a) (.slice a1 ((T.que a).length + 1) c1)) := by
                rw [hvq]
                intro g hg
                rcases hat with h | h
                · exact .inl (h.symm.trans hg)
                · rw [h] at hg
                  simp at hg
                  exact .inr (by omega)
              clear hown1 hgrow hat
              go_wp2_with fail
              go_region
              all_goals go_wp2_with fail
              go_roundw
              case rel => exact ⟨a + 1, by omega, by go_num, by
                rw [hstep.out, HE.out]
                exact HTH.out _ _ (RefStep.then (Upd.of_below hb2) (fun _ hk => .inl hk) ((R1.out.below hb2).setQue hlt (l := T.que a ++ [sentOf T m]) HU1.out (by simpa using HO1.out) HF1.out))⟩
              case measure => simp [intOf]; omega
    · have e : a = 8 := by omega
      subst e
      go_wp2_with fail
      go_end0
      exact ⟨rfl, RefStep.then (Upd.of_below hb0) (fun _ hk => .inl hk) ⟨x1, r1, u1, f1⟩⟩
end Go.Proofs.YtmjdndhfmfjbiaaGreat
