import Derived.Test.YtmjdndhfmfjbiaaGreatM29
import Derived.Deep.RegionHeld3
import Derived.Test.YtmjdndhfmfjbiaaGreatM28
namespace Go.Proofs.YtmjdndhfmfjbiaaGreat
open Go.RowKit

theorem over_alive (t : Int) (m : SentD) (h : 0 ≤ m.life) : (!overB t m) = aliveB t m := by
  unfold overB aliveB
  by_cases h0 : m.life = 0
  · simp [h0]
  · have h1 : 0 < m.life := by omega
    have e : (m.life == 0) = false := by simp [h0]
    simp only [h1, e, decide_true, Bool.true_and, Bool.false_or]
    rw [Bool.eq_iff_iff]
    simp
theorem filter_alive (t : Int) (l : List SentD) (h : ∀ m ∈ l, 0 ≤ m.life) : l.filter (fun m => !overB t m) = l.filter (aliveB t) :=
  List.filter_congr (fun m hm => over_alive t m (h m hm))

/-- What is over leaves the queues, the time being what it is. -/
def oldTo (S : RefS) : Nat → RefS
  | 0 => S
  | a + 1 => { oldTo S a with que := setAt (oldTo S a).que a (((oldTo S a).que a).filter (aliveB S.time)) }
theorem aged_old (S : RefS) (to : Int) : ∀ a, agedTo S to a = oldTo { S with time := to } a
  | 0 => rfl
  | a + 1 => by rw [agedTo, aged_old S to a]; rfl
theorem old_keeps (S : RefS) (a : Nat) : (oldTo S a).time = S.time ∧ ∀ b, (oldTo S a).que b = if b < a then (S.que b).filter (aliveB S.time) else S.que b := by
  have h := aged_keeps S S.time a
  rw [aged_old] at h
  have e : { S with time := S.time } = S := rfl
  rw [e] at h
  obtain ⟨-, h2, -, -, -, -, -, h8⟩ := h
  exact ⟨h2, h8⟩

set_option maxRecDepth 100000 in
set_option maxHeartbeats 4000000 in
theorem hrDropOver (H : Nat) (x : RefV) (S : RefS) (D : ByteArray) (w : World) (hr : HRep w H x S D) (h0 : 0 ≤ S.time) (h1 : S.time ≤ 1099511627776)
    (hq : ∀ a, a < 8 → (S.que a).length ≤ 1048576 ∧ ∀ m ∈ S.que a, 0 ≤ m.sentAt ∧ m.sentAt ≤ 1099511627776 ∧ 0 ≤ m.life ∧ m.life ≤ 1099511627776) :
    Calls Tryz.prog 91 #[.pointer (some ⟨H, 0, none⟩)] w fun e w' => e = .returned (.tuple #[]) ∧ HStep w H x w' (oldTo S 8) D := by
  have HR : Hid (HRep w H x S D) := hr
  clear hr
  go_enter Tryz.func91, Tryz.ntmps91
  go_wp2_with fail
  go_loopw [2] (fun i wr => ∃ a : Nat, a ≤ 8 ∧ i = .int .i64 a ∧ HStep w H x wr (oldTo S a) D) (fun i _ => 8 - (intOf i).toNat)
  case atStart => exact ⟨0, by omega, rfl, HStep.refl HR.out⟩
  case round =>
    obtain ⟨a, ha, rfl, x1, r1, u1, f1⟩ := hrel
    by_cases hlt : a < 8
    · have ha0 : (0 : Int) ≤ (a : Int) := by omega
      have ha1 : (a : Int) < 8 := by omega
      obtain ⟨k1, k2⟩ := old_keeps S a
      have k3 := k2 a
      rw [if_neg (by omega)] at k3
      have hqa := hq a hlt
      rw [← k3] at hqa
      have HSTEP : Hid (oldTo S (a + 1) = { oldTo S a with que := setAt (oldTo S a).que a (((oldTo S a).que a).filter (fun m => !overB S.time m)) }) := by
        show _ = _
        rw [filter_alive _ _ (fun m hm => (hqa.2 m hm).2.2.1)]; rfl
      have ctime := r1.cells.time
      rw [k1] at ctime
      clear k1 k2 k3
      generalize oldTo S a = T at *
      obtain ⟨aq, cq, hvq, q1, q2, hcq⟩ := (r1.que a hlt).form
      have HCQ : Hid (CellsAt wr aq ((T.que a).flatMap msgCells)) := hcq
      have hql := hqa.1
      have HQM : Hid (∀ m ∈ T.que a, 0 ≤ m.sentAt ∧ m.sentAt ≤ 1099511627776) := fun m hm => ⟨(hqa.2 m hm).1, (hqa.2 m hm).2.1⟩
      have R1 : Hid (HRep wr H x1 T D) := r1
      have HTH : Hid (∀ w2 S2, HStep wr H x1 w2 S2 D → HStep w H x w2 S2 D) := fun w2 S2 h => HStep.then u1 f1 h
      have cque := r1.cells.que a hlt
      rw [hvq] at cque
      have hHl := r1.cells.lt
      have hfr := r1.cells.free (4 + a * 3 + 1)
      clear r1 u1 f1 hcq q1 q2 hvq hqa hq
      go_wp2_with fail
      go_region_with (go_at_call 113; refine (hrWithoutOver (T.que a) aq cq S.time _ hql (HCQ.out.below below_drew) h0 h1 HQM.out).mono ?_; rintro e w2 ⟨v, rfl, ho2, hb2⟩; obtain ⟨a1, c1, rfl, -, -, -⟩ := Row.form (row_of_own (w := wr) ho2 nilV).1; have cque2 := cell_later (w := wr.drew) hb2 cque; have hfr2 := (hb2.frozen (p := ⟨H, 4 + a * 3 + 1, none⟩) hHl).trans hfr)
      all_goals have HO2 : Hid (wr.heap.size ≤ w2.heap.size ∧ Below wr.heap.size wr w2) := ⟨hb2.size, below_drew.trans hb2⟩
      all_goals go_wp2_with fail
      all_goals go_roundw
      all_goals first
        | (case rel => exact ⟨a + 1, by omega, by go_num, by rw [HSTEP.out]; exact HTH.out _ _ (R1.out.setQue hlt (Upd.of_below HO2.out.2) (row_of_own (w := wr) ho2 nilV).1 (row_of_own (w := wr) ho2 _).2)⟩)
        | (case measure => simp [intOf]; omega)
        | skip
    · have e : a = 8 := by omega
      subst e
      go_wp2_with fail
      go_end0
      exact ⟨rfl, ⟨x1, r1, u1, f1⟩⟩
end Go.Proofs.YtmjdndhfmfjbiaaGreat

namespace Go.Proofs.YtmjdndhfmfjbiaaGreat
open Go.RowKit

theorem sendAll_keeps (D : List WaitD) : ∀ (T : RefS), (sendAll T D).fil = T.fil ∧ (sendAll T D).time = T.time ∧ (sendAll T D).wait = T.wait ∧ ∀ a, (T.lost a ≤ (sendAll T D).lost a ∧ (sendAll T D).lost a ≤ T.lost a + (D.length : Int)) ∧ ((sendAll T D).que a).length ≤ (T.que a).length + D.length := by
  induction D with
  | nil => intro T; exact ⟨rfl, rfl, rfl, fun a => ⟨⟨Int.le_refl _, by show T.lost a ≤ _; simp⟩, Nat.le_refl _⟩⟩
  | cons m D ih =>
    intro T
    rw [sendAll_cons]
    obtain ⟨i1, i2, i3, i4⟩ := ih (sendTo T m 8)
    obtain ⟨k1, k2, -, k4, -⟩ := sendTo_keeps T m 8
    refine ⟨i1.trans k1, i2.trans k2, i3.trans k4, fun a => ?_⟩
    obtain ⟨⟨j1, j2⟩, j3⟩ := i4 a
    obtain ⟨s1, s2⟩ := sendTo_at T m 8 a
    have hl : T.lost a ≤ (sendTo T m 8).lost a ∧ (sendTo T m 8).lost a ≤ T.lost a + 1 := by rcases s2 with e | e <;> rw [e] <;> omega
    have hq : ((sendTo T m 8).que a).length ≤ (T.que a).length + 1 := by rcases s1 with e | ⟨-, e⟩ <;> rw [e] <;> simp
    rw [List.length_cons]
    push_cast
    omega

theorem own_upd {P : Nat → Prop} {w w1 : World} {base : Nat} {e : TypeId} {size : Nat} {v : Value} {n : Nat} {xs : List Value} (h : w.ownsRow base e size v n xs) (k : Upd P w w1) (hs : ∀ g, v.ownBlock = some g → ¬ P g) : w1.ownsRow base e size v n xs := by
  refine ⟨h.1, ?_⟩
  rcases h.2 with hn | ⟨g, cap, cur, rfl, hb, hg, rest⟩
  · exact .inl hn
  · refine .inr ⟨g, cap, cur, rfl, hb, ?_, rest⟩
    rw [k.block g (Array.getElem?_eq_some_iff.1 hg).1 (hs g rfl)]
    exact hg

theorem HRep.putWait {w : World} {B : Nat} {x : RefV} {S : RefS} {D : ByteArray} (h : HRep w B x S D) {v : Value} {l : List WaitD} (r : Row w 80 5 v l.length (l.flatMap waitCells)) :
    HRep (w.setCell ⟨B, 28, none⟩ v) B { x with waitV := v } { S with wait := l } D := by
  have hc := h.cells
  refine ⟨?_, h.done.hstore hc.obj (by decide), fun b hb => (h.fil b hb).hstore hc.obj (by decide), fun b hb => (h.que b hb).hstore hc.obj (by decide), r.hstore hc.obj (by decide), h.filApart, h.queApart⟩
  refine hc.store 28 v hc.wait ?_ ?_ ?_ ?_ ?_ ?_ ?_ ?_
  · rw [if_neg (by omega)]
  · rw [if_neg (by omega)]
  · rw [if_neg (by omega)]
  · rw [if_neg (by omega)]
  · intro b _; rw [if_neg (by omega)]
  · intro b _; rw [if_neg (by omega)]
  · intro b _; rw [if_neg (by omega)]
  · rw [if_pos rfl]

set_option maxRecDepth 100000 in
set_option maxHeartbeats 4000000 in
theorem hrSendDue (H : Nat) (x : RefV) (S : RefS) (D : ByteArray) (w : World) (hr : HRep w H x S D) (hw : S.wait.length ≤ 1048576) (ht : ∀ m ∈ S.wait, m.topic.size ≤ 1048576) (hf : ∀ a, a < 8 → ∀ f ∈ S.fil a, f.size ≤ 1048576)
    (hfl : ∀ a, a < 8 → (S.fil a).length ≤ 1048576) (hl : ∀ a, a < 8 → 0 ≤ S.lost a ∧ S.lost a + (S.wait.length : Int) ≤ 1099511627776) (hq : ∀ a, a < 8 → (S.que a).length + S.wait.length ≤ 1048576) :
    Calls Tryz.prog 92 #[.pointer (some ⟨H, 0, none⟩)] w fun e w' => e = .returned (.tuple #[]) ∧ HStep w H x w' (waited (sendAll S (S.wait.filter (dueB S.time))) (S.wait.filter (fun m => !dueB S.time m))) D := by
  obtain ⟨i0, hi, hz0, hz1, hz2⟩ := info_parts infoWait
  have HR : Hid (HRep w H x S D) := hr
  have hH := hr.cells.lt
  clear hr
  go_enter Tryz.func92, Tryz.ntmps92
  go_wp2_with fail
  go_loopw [2, 3] (fun v i wr => ∃ (k : Nat) (x1 : RefV), k ≤ S.wait.length ∧ i = .int .i64 k ∧ wr.ownsRow w.heap.size 80 5 v (kept (fun m => !dueB S.time m) S.wait k).length ((kept (fun m => !dueB S.time m) S.wait k).flatMap waitCells) ∧
    HRep wr H x1 (sendAll S (kept (dueB S.time) S.wait k)) D ∧ Upd (HFP H x) w wr ∧ (∀ g, HFP H x1 g → HFP H x g ∨ w.heap.size ≤ g) ∧ ∀ g, v.ownBlock = some g → ¬ HFP H x1 g) (fun _ i _ => S.wait.length - (intOf i).toNat)
  case atStart => exact ⟨0, x, Nat.zero_le _, rfl, World.ownsRow_nil _ _ _ _, HR.out, Upd.refl _ _, fun g hg => .inl hg, fun g hg => by simp [Value.ownBlock] at hg⟩
  case round =>
    obtain ⟨k, x1, hk, rfl, hown, r1, u1, f1, hap⟩ := hrel
    obtain ⟨e1, e2, e3, e4⟩ := sendAll_keeps (kept (dueB S.time) S.wait k) S
    have hkd := kept_le (dueB S.time) S.wait k
    have hkl := kept_le (fun m => !dueB S.time m) S.wait k
    have HF2 : Hid (∀ a, a < 8 → ∀ f ∈ (sendAll S (kept (dueB S.time) S.wait k)).fil a, f.size ≤ 1048576) := by rw [e1]; exact hf
    have HFL2 : Hid (∀ a, a < 8 → ((sendAll S (kept (dueB S.time) S.wait k)).fil a).length ≤ 1048576) := by rw [e1]; exact hfl
    have HL2 : Hid (∀ a, a < 8 → 0 ≤ (sendAll S (kept (dueB S.time) S.wait k)).lost a ∧ (sendAll S (kept (dueB S.time) S.wait k)).lost a ≤ 1099511627776) := fun a ha => by have h1 := (e4 a).1; have h2 := hl a ha; omega
    have HQ2 : Hid (∀ a, a < 8 → ((sendAll S (kept (dueB S.time) S.wait k)).que a).length ≤ 1048576) := fun a ha => by have h1 := (e4 a).2; have h2 := hq a ha; omega
    have hrw := r1.wait
    rw [e3] at hrw
    have ctime := r1.cells.time
    rw [e2] at ctime
    have HTIME : Hid ((sendAll S (kept (dueB S.time) S.wait k)).time = S.time) := e2
    have HSO : Hid (∀ m, sentOf (sendAll S (kept (dueB S.time) S.wait k)) m = ⟨m.number, m.topic, m.value, S.time, m.life⟩) := fun m => by unfold sentOf; rw [e2]
    obtain ⟨aw, cw, hvw, q1, q2, hcw⟩ := hrw.form
    have cwait := r1.cells.wait
    rw [hvw] at cwait
    have HCW : Hid (CellsAt wr aw (S.wait.flatMap waitCells)) := hcw
    have R1 : Hid (HRep wr H x1 (sendAll S (kept (dueB S.time) S.wait k)) D) := r1
    have U1 : Hid (Upd (HFP H x) w wr) := u1
    have F1 : Hid (∀ g, HFP H x1 g → HFP H x g ∨ w.heap.size ≤ g) := f1
    have HAP : Hid _ := hap
    have hHl := r1.cells.lt
    have hsz := u1.size
    clear hcw q1 q2 hvw e1 e2 e3 e4 r1 u1 f1 hap hrw hkd
    by_cases hlt : k < S.wait.length
    · obtain ⟨y, hy⟩ : ∃ y, S.wait[k]? = some y := ⟨_, List.getElem?_eq_getElem hlt⟩
      obtain ⟨g, rfl, hg, c0, c1, c2, c3, c4⟩ := wait_cells HCW.out hy
      have hty := ht y (List.mem_of_getElem? hy)
      by_cases hdue : S.time < y.deadline
      · have HK : Hid (kept (fun m => !dueB S.time m) S.wait (k + 1) = kept (fun m => !dueB S.time m) S.wait k ++ [y]) := kept_hit hy (by simp [dueB]; omega)
        have HD : Hid (kept (dueB S.time) S.wait (k + 1) = kept (dueB S.time) S.wait k) := kept_miss hy (by simp [dueB]; omega)
        clear hy
        go_wp2_with fail
        go_quiet (fail)
        generalize hw2 : (wr.alloc _).drewN nq = w2
        have b2 : Below wr.heap.size wr w2 := by rw [← hw2]; exact below_drewN (below_one _ _)
        have d0 : w2.cell? ⟨wr.heap.size, 0, none⟩ = some (.int .i64 y.number) := by rw [← hw2]; simp
        have d1 : w2.cell? ⟨wr.heap.size, 1, none⟩ = some (.string y.topic) := by rw [← hw2]; simp
        have d2 : w2.cell? ⟨wr.heap.size, 2, none⟩ = some (.int .i64 y.value) := by rw [← hw2]; simp
        have d3 : w2.cell? ⟨wr.heap.size, 3, none⟩ = some (.int .i64 y.deadline) := by rw [← hw2]; simp
        have d4 : w2.cell? ⟨wr.heap.size, 4, none⟩ = some (.int .i64 y.life) := by rw [← hw2]; simp
        have hs2 : wr.heap.size < w2.heap.size := by rw [← hw2]; simp
        clear hw2
        have hown2 := own_below hown b2
        obtain ⟨v1, w3, hrun, hown3, hgrow, -, hat⟩ := run_append_own_at (P := Tryz.prog) (w2.alloc (.cells (waitCells y).toArray 80)) w.heap.size 56 56 80 i0 _ 5 48 Tryz.underlying56 hi hz0 hz1 hz2 rfl (by omega) _ _ _ (hown2.alloc _) ⟨w2.heap.size, 0, none⟩ 1 1 (waitCells y) rfl (cells_new _ _ _) (wait_one _) (by unfold maxLen; omega) (by omega) (by simp; omega)
        have U3 : Hid (Upd (HFP H x) w w3) := (((U1.out.below b2).alloc _).grown hgrow (fun i e hiw => absurd (hown.lt i e).1 (by omega)))
        have R3 : Hid (HRep w3 H x1 (sendAll S (kept (dueB S.time) S.wait k)) D) := ((R1.out.below b2).below (below_one _ _)).upd (((Upd.refl _ _).grown hgrow (fun i e _ => e)) : Upd (fun i => Value.ownBlock _ = some i) _ _) (fun i hi2 e => HAP.out i e hi2)
        have AP3 : Hid (∀ g, v1.ownBlock = some g → ¬ HFP H x1 g) := fun g hg hfp => by
          rcases hat with h | h
          · exact HAP.out g (h.symm.trans hg) hfp
          · rw [h] at hg
            simp at hg
            have := R1.out.lt hfp
            omega
        have HO3 : Hid (w3.ownsRow w.heap.size 80 5 v1 (kept (fun m => !dueB S.time m) S.wait k ++ [y]).length ((kept (fun m => !dueB S.time m) S.wait k ++ [y]).flatMap waitCells)) := by
          show World.ownsRow _ _ _ _ _ _ _
          simpa using hown3
        clear hown3 hgrow hat hown2 hown
        go_wp2_with (first | (at_builtin; refine wpList_append_run rfl _ _ 56 rfl _ _ _ _ rfl rfl hrun ?_))
        go_wp2_with fail
        go_roundw
        case rel => exact ⟨k + 1, x1, by omega, by go_num, by rw [HK.out]; exact HO3.out, by rw [HD.out]; exact R3.out, U3.out, F1.out, AP3.out⟩
        case measure => simp [intOf]; omega
      · have HK : Hid (kept (fun m => !dueB S.time m) S.wait (k + 1) = kept (fun m => !dueB S.time m) S.wait k) := kept_miss hy (by simp [dueB]; omega)
        have HD : Hid (kept (dueB S.time) S.wait (k + 1) = kept (dueB S.time) S.wait k ++ [y]) := kept_hit hy (by simp [dueB]; omega)
        clear hy
        go_wp2_with fail
        go_quiet (fail)
        generalize hw2 : (wr.alloc _).drewN nq = w2
        have b2 : Below wr.heap.size wr w2 := by rw [← hw2]; exact below_drewN (below_one _ _)
        have d0 : w2.cell? ⟨wr.heap.size, 0, none⟩ = some (.int .i64 y.number) := by rw [← hw2]; simp
        have d1 : w2.cell? ⟨wr.heap.size, 1, none⟩ = some (.string y.topic) := by rw [← hw2]; simp
        have d2 : w2.cell? ⟨wr.heap.size, 2, none⟩ = some (.int .i64 y.value) := by rw [← hw2]; simp
        have d3 : w2.cell? ⟨wr.heap.size, 3, none⟩ = some (.int .i64 y.deadline) := by rw [← hw2]; simp
        have d4 : w2.cell? ⟨wr.heap.size, 4, none⟩ = some (.int .i64 y.life) := by rw [← hw2]; simp
        have hs2 : wr.heap.size < w2.heap.size := by rw [← hw2]; simp
        clear hw2
        have HS : Hid (∀ w', HRep w' H x1 (sendAll S (kept (dueB S.time) S.wait k)) D → Calls Tryz.prog 86 #[.pointer (some ⟨H, 0, none⟩), msgV ⟨y.number, y.topic, y.value, S.time, y.life⟩] w' fun e w2 => e = .returned (.tuple #[]) ∧ HStep w' H x1 w2 (sendTo (sendAll S (kept (dueB S.time) S.wait k)) y 8) D) := fun w' hw' => by
          rw [← HSO.out y]
          exact hrSend H x1 _ D y w' hw' hty HF2.out HFL2.out HL2.out HQ2.out
        have ctime2 := cell_later b2 ctime
        have HB2 : Hid (Below wr.heap.size wr w2) := b2
        have HOW : Hid _ := hown
        have KEEP : Hid (∀ w3, HStep w2.drew H x1 w3 (sendTo (sendAll S (kept (dueB S.time) S.wait k)) y 8) D → w3.cell? ⟨wr.heap.size, 0, none⟩ = some (.int .i64 y.number) ∧ w3.cell? ⟨wr.heap.size, 1, none⟩ = some (.string y.topic) ∧ w3.cell? ⟨wr.heap.size, 2, none⟩ = some (.int .i64 y.value) ∧ w3.cell? ⟨wr.heap.size, 4, none⟩ = some (.int .i64 y.life) ∧ w3.cell? ⟨H, 2, none⟩ = some (.int .i64 S.time)) := fun w3 hst => by
          obtain ⟨x2, r2, u2, f2⟩ := hst
          have hno : ¬ HFP H x1 wr.heap.size := fun hf => by have := R1.out.lt hf; omega
          refine ⟨u2.cell (p := ⟨wr.heap.size, 0, none⟩) d0 hno, u2.cell (p := ⟨wr.heap.size, 1, none⟩) d1 hno, u2.cell (p := ⟨wr.heap.size, 2, none⟩) d2 hno, u2.cell (p := ⟨wr.heap.size, 4, none⟩) d4 hno, ?_⟩
          have ht2 := r2.cells.time
          rw [(sendTo_keeps _ y 8).2.1, HTIME.out] at ht2
          exact ht2
        clear b2 hown
        go_wp2_with fail
        go_region_held3 (fun w' => w'.cell? ⟨wr.heap.size, 0, none⟩ = some (.int .i64 y.number) ∧ w'.cell? ⟨wr.heap.size, 1, none⟩ = some (.string y.topic) ∧ w'.cell? ⟨wr.heap.size, 2, none⟩ = some (.int .i64 y.value) ∧ w'.cell? ⟨wr.heap.size, 4, none⟩ = some (.int .i64 y.life) ∧ w'.cell? ⟨H, 2, none⟩ = some (.int .i64 S.time)) (first | go_keep | exact KEEP.out _ hst)
          (first | (go_at_call 86; refine (HS.out _ ((R1.out.below HB2.out).below below_drew)).mono ?_; rintro e w3 ⟨rfl, hst⟩))
        all_goals obtain ⟨x2, r2, u2, f2⟩ := hst
        all_goals have U3 : Hid (Upd (HFP H x) w w3) := ((U1.out.below HB2.out).drew).trans u2 (fun i hiw t => (F1.out i t).resolve_right (by omega))
        all_goals have F3 : Hid (∀ g, HFP H x2 g → HFP H x g ∨ w.heap.size ≤ g) := fun g hg => (f2 g hg).elim (F1.out g) (fun h => .inr (Nat.le_trans hsz (Nat.le_trans (Nat.le_of_lt hs2) h)))
        all_goals have HO3 := own_upd (own_below (own_below HOW.out HB2.out) below_drew) u2 (fun g hg hf => HAP.out g hg hf)
        all_goals have AP3 : Hid (∀ g, Value.ownBlock _ = some g → ¬ HFP H x2 g) := fun g hg hf => (f2 g hf).elim (HAP.out g hg) (fun h => absurd (World.ownsRow.lt HOW.out g hg).2 (Nat.not_lt.2 (Nat.le_trans (Nat.le_of_lt hs2) h)))
        all_goals have R3 : Hid (HRep w3 H x2 (sendTo (sendAll S (kept (dueB S.time) S.wait k)) y 8) D) := r2
        all_goals have HO4 : Hid _ := HO3
        all_goals clear r2 u2 f2 HO3
        all_goals go_wp2_with fail
        all_goals go_roundw
        all_goals first
          | (case rel => exact ⟨k + 1, x2, by omega, by go_num, by rw [HK.out]; exact HO4.out, by rw [HD.out, sendAll_snoc]; exact R3.out, U3.out, F3.out, AP3.out⟩)
          | (case measure => simp [intOf]; omega)
          | skip
    · have HK : Hid (kept (fun m => !dueB S.time m) S.wait k = S.wait.filter (fun m => !dueB S.time m)) := kept_end _ _ _ (by omega)
      have HD : Hid (kept (dueB S.time) S.wait k = S.wait.filter (dueB S.time)) := kept_end _ _ _ (by omega)
      have hfr := R1.out.cells.free 28
      obtain ⟨av, cv, rfl, -, -, -⟩ := Row.form (row_of_own (w := w) hown nilV).1
      have HOW : Hid (wr.ownsRow w.heap.size 80 5 (.slice av (kept (fun m => !dueB S.time m) S.wait k).length cv) (kept (fun m => !dueB S.time m) S.wait k).length ((kept (fun m => !dueB S.time m) S.wait k).flatMap waitCells)) := hown
      clear hown
      go_wp2_with fail
      go_end0
      refine ⟨rfl, { x1 with waitV := .slice av (kept (fun m => !dueB S.time m) S.wait k).length cv }, ?_, ?_, ?_⟩
      · rw [← HK.out, ← HD.out]
        exact R1.out.putWait (row_of_own (w := w) HOW.out nilV).1
      · exact U1.out.setCell (p := ⟨H, 28, none⟩) (fun _ => .inl rfl) _
      · rintro g (rfl | hk | hk | ⟨b, hb, hk | hk⟩)
        · exact .inl (.inl rfl)
        · exact F1.out g (.inr (.inl hk))
        · exact .inr (HOW.out.lt g hk).1
        · exact F1.out g (.inr (.inr (.inr ⟨b, hb, .inl hk⟩)))
        · exact F1.out g (.inr (.inr (.inr ⟨b, hb, .inr hk⟩)))
end Go.Proofs.YtmjdndhfmfjbiaaGreat

/-
  THE BROKER that the laws speak of: what holds of it between two calls.
-/
namespace Go.Proofs.YtmjdndhfmfjbiaaGreat
open Go.RowKit

structure Br (w : World) (H : Nat) (x : RefV) (S : RefS) (fil : Nat → List ByteArray) (wait : List WaitD) (R : List ByteArray) : Prop where
  rep : HRep w H x (lk S fil wait) (cat R)
  lk : Lk S fil wait
  num : Num S
  recs : R = S.done.map recOf
  valid : ∀ o ∈ S.done, Valid (recD o)
  few : S.done.length ≤ 500
def PRc (w : World) (H : Nat) (F : Nat → Prop) (S : RefS) (R : List ByteArray) : Prop := ∃ x fil wait, Br w H x S fil wait R ∧ ∀ k, F k ↔ HFP H x k

theorem Br.upd {P : Nat → Prop} {w w1 : World} {H : Nat} {x : RefV} {S : RefS} {fil : Nat → List ByteArray} {wait : List WaitD} {R : List ByteArray} (h : Br w H x S fil wait R) (k : Upd P w w1) (hs : ∀ i, HFP H x i → ¬ P i) : Br w1 H x S fil wait R :=
  ⟨h.rep.upd k hs, h.lk, h.num, h.recs, h.valid, h.few⟩
theorem Br.below {w w1 : World} {H : Nat} {x : RefV} {S : RefS} {fil : Nat → List ByteArray} {wait : List WaitD} {R : List ByteArray} (h : Br w H x S fil wait R) (k : Below w.heap.size w w1) : Br w1 H x S fil wait R :=
  ⟨h.rep.below k, h.lk, h.num, h.recs, h.valid, h.few⟩
theorem Br.r42 {w : World} {H : Nat} {x : RefV} {S : RefS} {fil : Nat → List ByteArray} {wait : List WaitD} {R : List ByteArray} (h : Br w H x S fil wait R) : ∀ r ∈ R, r.size = 42 := fun r hr => by
  rw [h.recs] at hr
  obtain ⟨o, ho, rfl⟩ := List.mem_map.1 hr
  exact enc_size _ (h.valid o ho).text
theorem Br.size {w : World} {H : Nat} {x : RefV} {S : RefS} {fil : Nat → List ByteArray} {wait : List WaitD} {R : List ByteArray} (h : Br w H x S fil wait R) : (cat R).size = 42 * S.done.length := by
  rw [cat_size h.r42, h.recs, List.length_map]
theorem Br.len {w : World} {H : Nat} {x : RefV} {S : RefS} {fil : Nat → List ByteArray} {wait : List WaitD} {R : List ByteArray} (h : Br w H x S fil wait R) : (cat R).size ≤ 1048576 := by
  have := h.size; have := h.few; omega

theorem HRep.redone {w : World} {B : Nat} {x : RefV} {S : RefS} {D : ByteArray} (h : HRep w B x S D) (l : List OpD) : HRep w B x { S with done := l } D :=
  ⟨⟨h.cells.obj, h.cells.room, h.cells.done, h.cells.time, h.cells.pub, h.cells.fil, h.cells.que, h.cells.lost, h.cells.wait⟩, h.done, h.fil, h.que, h.wait, h.filApart, h.queApart⟩
theorem HStep.redone {w w1 : World} {B : Nat} {x : RefV} {S : RefS} {D : ByteArray} (h : HStep w B x w1 S D) (l : List OpD) : HStep w B x w1 { S with done := l } D := by
  obtain ⟨x1, r, u, f⟩ := h
  exact ⟨x1, r.redone l, u, f⟩

/-- Nothing has changed. -/
theorem out_same {w w1 : World} {H : Nat} {F : Nat → Prop} {S S1 : RefS} {R : List ByteArray} (hp : PRc w H F S R) (hb : Below w.heap.size w w1) (hS : S1 = S) : Outcome PRc w H F R S1 w1 := by
  subst hS
  obtain ⟨x, fil, wait, hb1, hF⟩ := hp
  exact ⟨F, [], ⟨x, fil, wait, by rw [List.append_nil]; exact hb1.below hb, hF⟩, Upd.of_below hb, fun k hk => .inl hk⟩

theorem not_done {S : RefS} {o : OpD} (h : doErr S o ≠ 0) : doneB S o = false ∧ doS S o = S ∧ doAns S o = 0 := by
  have hd : doneB S o = false := by
    unfold doErr at h
    unfold doneB
    split at h
    · rename_i hw
      split at h
      · split at h
        · omega
        · rename_i hr
          rw [show decide ((S.done.length : Int) < S.room) = false from decide_eq_false hr, Bool.and_false]
      · omega
    · rename_i hw
      rw [show (wrongM S o == 0) = false from by simpa using hw]
      rfl
  exact ⟨hd, by unfold doS; rw [hd]; rfl, by unfold doAns; rw [hd]; rfl⟩
theorem is_done {S : RefS} {o : OpD} (h1 : wrongM S o = 0) (h2 : writesB S o = true) (h3 : (S.done.length : Int) < S.room) : doneB S o = true ∧ doErr S o = 0 ∧ doS S o = turnM { S with done := S.done ++ [o] } o := by
  have hd : doneB S o = true := by unfold doneB; rw [h1, h2, decide_eq_true h3]; rfl
  exact ⟨hd, by unfold doErr; rw [if_pos h1, if_pos h2, if_pos h3], by unfold doS; rw [if_pos hd]⟩
theorem is_full {S : RefS} {o : OpD} (h1 : wrongM S o = 0) (h2 : writesB S o = true) (h3 : ¬ (S.done.length : Int) < S.room) : doErr S o = 9 := by
  unfold doErr; rw [if_pos h1, if_pos h2, if_neg h3]
theorem is_wrong {S : RefS} {o : OpD} {e : Int} (h1 : wrongM S o = e) (h0 : e ≠ 0) : doErr S o = e := by
  unfold doErr; rw [if_neg (by omega)]; exact h1
theorem writes_not {S : RefS} {o : OpD} (h : o.kind ≠ 6) : writesB S o = true := by
  unfold writesB
  rw [show (o.kind != 6) = true from by simpa using h]; rfl
theorem done_list {S : RefS} {o : OpD} (h : doneB S o = true) : (doS S o).done = S.done ++ [o] := (do_done S o).trans (if_pos h)

/-- An operation that is done. -/
theorem out_done {w w1 : World} {H : Nat} {F : Nat → Prop} {x : RefV} {S : RefS} {fil fil1 : Nat → List ByteArray} {wait wait1 : List WaitD} {R : List ByteArray} {o : OpD} (hb : Br w H x S fil wait R) (hF : ∀ k, F k ↔ HFP H x k) (hg : Good S) (hd : doneB S o = true)
    (hst : HStep w H x w1 (lk (doS S o) fil1 wait1) (cat R ++ recOf o)) (hlk : Lk (doS S o) fil1 wait1) : Outcome PRc w H F R (doS S o) w1 := by
  obtain ⟨x1, r1, u1, f1⟩ := hst
  have hdl := done_list hd
  have hw : wrongM S o = 0 := by
    unfold doneB at hd
    simp only [Bool.and_eq_true, beq_iff_eq] at hd
    exact hd.1.1
  have hfew : (doS S o).done.length ≤ 500 := by
    have hr := hg.room
    unfold doneB at hd
    simp only [Bool.and_eq_true, decide_eq_true_eq] at hd
    rw [hdl, List.length_append]
    have := hd.2
    simp only [List.length_cons, List.length_nil]
    omega
  have hv : Valid (recD o) := wrong_valid hb.num (by have h1 := hg.inv.pub; have h2 := hb.few; omega) hw
  refine ⟨HFP H x1, [recOf o], ⟨x1, fil1, wait1, ⟨?_, hlk, hb.num.does o, ?_, ?_, hfew⟩, fun k => Iff.rfl⟩, u1.mono (fun k hk => (hF k).2 hk), fun k hk => (f1 k hk).imp (hF k).2 id⟩
  · rw [cat_snoc]; exact r1
  · rw [hdl, List.map_append, hb.recs]; rfl
  · rw [hdl]
    intro p hp
    rcases List.mem_append.1 hp with hp | hp
    · exact hb.valid p hp
    · rw [List.mem_singleton] at hp; subst hp; exact hv

theorem valid_small {r : RecD} (h : Valid r) : Small r := by
  have := h.call; have := h.client; have := h.number; have := h.value; have := h.delay; have := h.life; have := h.to
  exact ⟨by omega, by omega, h.text, by omega, by omega, by omega, by omega, by omega⟩

theorem hrIsFilter (s : ByteArray) (w : World) (hs : s.size ≤ 1048576) : Calls Tryz.prog 76 #[.string s] w fun e w' => e = .returned (.bool (M.isPathM true s)) ∧ Below w.heap.size w w' := by
  go_enter Tryz.func76, Tryz.ntmps76
  go_wp2_with fail
  refine (topIsPath s true _ (by unfold maxLen; omega)).mono ?_
  rintro e w1 ⟨rfl, hb⟩
  go_wp2_with fail
  go_ret
  exact ⟨rfl, hb⟩
theorem hrIsTopic (s : ByteArray) (w : World) (hs : s.size ≤ 1048576) : Calls Tryz.prog 83 #[.string s] w fun e w' => e = .returned (.bool (M.isPathM false s)) ∧ Below w.heap.size w w' := by
  go_enter Tryz.func83, Tryz.ntmps83
  go_wp2_with fail
  refine (topIsPath s false _ (by unfold maxLen; omega)).mono ?_
  rintro e w1 ⟨rfl, hb⟩
  go_wp2_with fail
  go_ret
  exact ⟨rfl, hb⟩
end Go.Proofs.YtmjdndhfmfjbiaaGreat
