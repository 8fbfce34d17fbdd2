import Derived.Test.YtmjdndhfmfjbiabM05
import Derived.Deep.RegionHeld3
namespace Go.Proofs.Ytmjdndhfmfjbiab
open Go.RowKit

theorem sendAll_keeps (D : List WaitD) : ∀ (T : RefS), (sendAll T D).fil = T.fil ∧ (sendAll T D).time = T.time ∧ (sendAll T D).wait = T.wait ∧ ∀ a, (T.lost a ≤ (sendAll T D).lost a ∧ (sendAll T D).lost a ≤ T.lost a + (D.length : Int)) ∧ ((sendAll T D).que a).length ≤ (T.que a).length + D.length := by
  induction D with
  | nil => intro T; exact ⟨rfl, rfl, rfl, fun a => ⟨⟨Int.le_refl _, by show T.lost a ≤ _; simp⟩, Nat.le_refl _⟩⟩
  | cons m D ih =>
    intro T
    rw [sendAll_cons]
    obtain ⟨i1, i2, i3, i4⟩ := ih (sendTo T m 8)
    obtain ⟨k1, k2, -, k4, -⟩ := sendTo_keeps T m 8
    refine ⟨i1.trans k1, i2.trans k2, i3.trans k4, fun a => ?_⟩
    obtain ⟨⟨j1, j2⟩, j3⟩ := i4 a
    obtain ⟨s1, s2⟩ := sendTo_at T m 8 a
    have hl : T.lost a ≤ (sendTo T m 8).lost a ∧ (sendTo T m 8).lost a ≤ T.lost a + 1 := by rcases s2 with e | e <;> rw [e] <;> omega
    have hq : ((sendTo T m 8).que a).length ≤ (T.que a).length + 1 := by rcases s1 with e | ⟨-, e⟩ <;> rw [e] <;> simp
    rw [List.length_cons]
    push_cast
    omega

theorem own_upd {P : Nat → Prop} {w w1 : World} {base : Nat} {e : TypeId} {size : Nat} {v : Value} {n : Nat} {xs : List Value} (h : w.ownsRow base e size v n xs) (k : Upd P w w1) (hs : ∀ g, v.ownBlock = some g → ¬ P g) : w1.ownsRow base e size v n xs := by
  refine ⟨h.1, ?_⟩
  rcases h.2 with hn | ⟨g, cap, cur, rfl, hb, hg, rest⟩
  · exact .inl hn
  · refine .inr ⟨g, cap, cur, rfl, hb, ?_, rest⟩
    rw [k.block g (Array.getElem?_eq_some_iff.1 hg).1 (hs g rfl)]
    exact hg

theorem HRep.putWait {w : World} {B : Nat} {x : RefV} {S : RefS} {D : ByteArray} (h : HRep w B x S D) {v : Value} {l : List WaitD} (r : Row w 50 5 v l.length (l.flatMap waitCells)) :
    HRep (w.setCell ⟨B, 28, none⟩ v) B { x with waitV := v } { S with wait := l } D := by
  have hc := h.cells
  refine ⟨?_, h.done.hstore hc.obj (by decide), fun b hb => (h.fil b hb).hstore hc.obj (by decide), fun b hb => (h.que b hb).hstore hc.obj (by decide), r.hstore hc.obj (by decide), h.filApart, h.queApart⟩
  refine hc.store 28 v hc.wait ?_ ?_ ?_ ?_ ?_ ?_ ?_ ?_
  · rw [if_neg (by omega)]
  · rw [if_neg (by omega)]
  · rw [if_neg (by omega)]
  · rw [if_neg (by omega)]
  · intro b _; rw [if_neg (by omega)]
  · intro b _; rw [if_neg (by omega)]
  · intro b _; rw [if_neg (by omega)]
  · rw [if_pos rfl]

set_option maxRecDepth 100000 in
set_option maxHeartbeats 4000000 in
theorem hrSendDue (H : Nat) (x : RefV) (S : RefS) (D : ByteArray) (w : World) (hr : HRep w H x S D) (hw : S.wait.length ≤ 1048576) (ht : ∀ m ∈ S.wait, m.topic.size ≤ 1048576) (hf : ∀ a, a < 8 → ∀ f ∈ S.fil a, f.size ≤ 1048576)
    (hfl : ∀ a, a < 8 → (S.fil a).length ≤ 1048576) (hl : ∀ a, a < 8 → 0 ≤ S.lost a ∧ S.lost a + (S.wait.length : Int) ≤ 1099511627776) (hq : ∀ a, a < 8 → (S.que a).length + S.wait.length ≤ 1048576) :
    Calls Try.prog 63 #[.pointer (some ⟨H, 0, none⟩)] w fun e w' => e = .returned (.tuple #[]) ∧ HStep w H x w' (waited (sendAll S (S.wait.filter (dueB S.time))) (S.wait.filter (fun m => !dueB S.time m))) D := by
  obtain ⟨i0, hi, hz0, hz1, hz2⟩ := info_parts infoWait
  have HR : Hid (HRep w H x S D) := hr
  have hH := hr.cells.lt
  clear hr
  go_enter Try.func63, Try.ntmps63
  go_wp2_with fail
  go_loopw [2, 3] (fun v i wr => ∃ (k : Nat) (x1 : RefV), k ≤ S.wait.length ∧ i = .int .i64 k ∧ wr.ownsRow w.heap.size 50 5 v (kept (fun m => !dueB S.time m) S.wait k).length ((kept (fun m => !dueB S.time m) S.wait k).flatMap waitCells) ∧
    HRep wr H x1 (sendAll S (kept (dueB S.time) S.wait k)) D ∧ Upd (HFP H x) w wr ∧ (∀ g, HFP H x1 g → HFP H x g ∨ w.heap.size ≤ g) ∧ ∀ g, v.ownBlock = some g → ¬ HFP H x1 g) (fun _ i _ => S.wait.length - (intOf i).toNat)
  case atStart => exact ⟨0, x, Nat.zero_le _, rfl, World.ownsRow_nil _ _ _ _, HR.out, Upd.refl _ _, fun g hg => .inl hg, fun g hg => by simp [Value.ownBlock] at hg⟩
  case round =>
    obtain ⟨k, x1, hk, rfl, hown, r1, u1, f1, hap⟩ := hrel
    obtain ⟨e1, e2, e3, e4⟩ := sendAll_keeps (kept (dueB S.time) S.wait k) S
    have hkd := kept_le (dueB S.time) S.wait k
    have hkl := kept_le (fun m => !dueB S.time m) S.wait k
    have HF2 : Hid (∀ a, a < 8 → ∀ f ∈ (sendAll S (kept (dueB S.time) S.wait k)).fil a, f.size ≤ 1048576) := by rw [e1]; exact hf
    have HFL2 : Hid (∀ a, a < 8 → ((sendAll S (kept (dueB S.time) S.wait k)).fil a).length ≤ 1048576) := by rw [e1]; exact hfl
    have HL2 : Hid (∀ a, a < 8 → 0 ≤ (sendAll S (kept (dueB S.time) S.wait k)).lost a ∧ (sendAll S (kept (dueB S.time) S.wait k)).lost a ≤ 1099511627776) := fun a ha => by have h1 := (e4 a).1; have h2 := hl a ha; omega
    have HQ2 : Hid (∀ a, a < 8 → ((sendAll S (kept (dueB S.time) S.wait k)).que a).length ≤ 1048576) := fun a ha => by have h1 := (e4 a).2; have h2 := hq a ha; omega
    have hrw := r1.wait
    rw [e3] at hrw
    have ctime := r1.cells.time
    rw [e2] at ctime
    have HTIME : Hid ((sendAll S (kept (dueB S.time) S.wait k)).time = S.time) := e2
    have HSO : Hid (∀ m, sentOf (sendAll S (kept (dueB S.time) S.wait k)) m = ⟨m.number, m.topic, m.value, S.time, m.life⟩) := fun m => by unfold sentOf; rw [e2]
    obtain ⟨aw, cw, hvw, q1, q2, hcw⟩ := hrw.form
    have cwait := r1.cells.wait
    rw [hvw] at cwait
    have HCW : Hid (CellsAt wr aw (S.wait.flatMap waitCells)) := hcw
    have R1 : Hid (HRep wr H x1 (sendAll S (kept (dueB S.time) S.wait k)) D) := r1
    have U1 : Hid (Upd (HFP H x) w wr) := u1
    have F1 : Hid (∀ g, HFP H x1 g → HFP H x g ∨ w.heap.size ≤ g) := f1
    have HAP : Hid _ := hap
    have hHl := r1.cells.lt
    have hsz := u1.size
    clear hcw q1 q2 hvw e1 e2 e3 e4 r1 u1 f1 hap hrw hkd
    by_cases hlt : k < S.wait.length
    · obtain ⟨y, hy⟩ : ∃ y, S.wait[k]? = some y := ⟨_, List.getElem?_eq_getElem hlt⟩
      obtain ⟨g, rfl, hg, c0, c1, c2, c3, c4⟩ := wait_cells HCW.out hy
      have hty := ht y (List.mem_of_getElem? hy)
      by_cases hdue : S.time < y.deadline
      · have HK : Hid (kept (fun m => !dueB S.time m) S.wait (k + 1) = kept (fun m => !dueB S.time m) S.wait k ++ [y]) := kept_hit hy (by simp [dueB]; omega)
        have HD : Hid (kept (dueB S.time) S.wait (k + 1) = kept (dueB S.time) S.wait k) := kept_miss hy (by simp [dueB]; omega)
        clear hy
        go_wp2_with fail
        go_quiet (fail)
        generalize hw2 : (wr.alloc _).drewN nq = w2
        have b2 : Below wr.heap.size wr w2 := by rw [← hw2]; exact below_drewN (below_one _ _)
        have d0 : w2.cell? ⟨wr.heap.size, 0, none⟩ = some (.int .i64 y.number) := by rw [← hw2]; simp
        have d1 : w2.cell? ⟨wr.heap.size, 1, none⟩ = some (.string y.topic) := by rw [← hw2]; simp
        have d2 : w2.cell? ⟨wr.heap.size, 2, none⟩ = some (.int .i64 y.value) := by rw [← hw2]; simp
        have d3 : w2.cell? ⟨wr.heap.size, 3, none⟩ = some (.int .i64 y.deadline) := by rw [← hw2]; simp
        have d4 : w2.cell? ⟨wr.heap.size, 4, none⟩ = some (.int .i64 y.life) := by rw [← hw2]; simp
        have hs2 : wr.heap.size < w2.heap.size := by rw [← hw2]; simp
        clear hw2
        have hown2 := own_below hown b2
        obtain ⟨v1, w3, hrun, hown3, hgrow, -, hat⟩ := run_append_own_at (P := Try.prog) (w2.alloc (.cells (waitCells y).toArray 50)) w.heap.size 44 44 50 i0 _ 5 48 Try.underlying44 hi hz0 hz1 hz2 rfl (by omega) _ _ _ (hown2.alloc _) ⟨w2.heap.size, 0, none⟩ 1 1 (waitCells y) rfl (cells_new _ _ _) (wait_one _) (by unfold maxLen; omega) (by omega) (by simp; omega)
        have U3 : Hid (Upd (HFP H x) w w3) := (((U1.out.below b2).alloc _).grown hgrow (fun i e hiw => absurd (hown.lt i e).1 (by omega)))
        have R3 : Hid (HRep w3 H x1 (sendAll S (kept (dueB S.time) S.wait k)) D) := ((R1.out.below b2).below (below_one _ _)).upd (((Upd.refl _ _).grown hgrow (fun i e _ => e)) : Upd (fun i => Value.ownBlock _ = some i) _ _) (fun i hi2 e => HAP.out i e hi2)
        have AP3 : Hid (∀ g, v1.ownBlock = some g → ¬ HFP H x1 g) := fun g hg hfp => by
          rcases hat with h | h
          · exact HAP.out g (h.symm.trans hg) hfp
          · rw [h] at hg
            simp at hg
            have := R1.out.lt hfp
            omega
        have HO3 : Hid (w3.ownsRow w.heap.size 50 5 v1 (kept (fun m => !dueB S.time m) S.wait k ++ [y]).length ((kept (fun m => !dueB S.time m) S.wait k ++ [y]).flatMap waitCells)) := by
          show World.ownsRow _ _ _ _ _ _ _
          simpa using hown3
        clear hown3 hgrow hat hown2 hown
        go_wp2_with (first | (at_builtin; refine wpList_append_run rfl _ _ 44 rfl _ _ _ _ rfl rfl hrun ?_))
        go_wp2_with fail
        go_roundw
        case rel => exact ⟨k + 1, x1, by omega, by go_num, by rw [HK.out]; exact HO3.out, by rw [HD.out]; exact R3.out, U3.out, F1.out, AP3.out⟩
        case measure => simp [intOf]; omega
      · have HK : Hid (kept (fun m => !dueB S.time m) S.wait (k + 1) = kept (fun m => !dueB S.time m) S.wait k) := kept_miss hy (by simp [dueB]; omega)
        have HD : Hid (kept (dueB S.time) S.wait (k + 1) = kept (dueB S.time) S.wait k ++ [y]) := kept_hit hy (by simp [dueB]; omega)
        clear hy
        go_wp2_with fail
        go_quiet (fail)
        generalize hw2 : (wr.alloc _).drewN nq = w2
        have b2 : Below wr.heap.size wr w2 := by rw [← hw2]; exact below_drewN (below_one _ _)
        have d0 : w2.cell? ⟨wr.heap.size, 0, none⟩ = some (.int .i64 y.number) := by rw [← hw2]; simp
        have d1 : w2.cell? ⟨wr.heap.size, 1, none⟩ = some (.string y.topic) := by rw [← hw2]; simp
        have d2 : w2.cell? ⟨wr.heap.size, 2, none⟩ = some (.int .i64 y.value) := by rw [← hw2]; simp
        have d3 : w2.cell? ⟨wr.heap.size, 3, none⟩ = some (.int .i64 y.deadline) := by rw [← hw2]; simp
        have d4 : w2.cell? ⟨wr.heap.size, 4, none⟩ = some (.int .i64 y.life) := by rw [← hw2]; simp
        have hs2 : wr.heap.size < w2.heap.size := by rw [← hw2]; simp
        clear hw2
        have HS : Hid (∀ w', HRep w' H x1 (sendAll S (kept (dueB S.time) S.wait k)) D → Calls Try.prog 58 #[.pointer (some ⟨H, 0, none⟩), msgV ⟨y.number, y.topic, y.value, S.time, y.life⟩] w' fun e w2 => e = .returned (.tuple #[]) ∧ HStep w' H x1 w2 (sendTo (sendAll S (kept (dueB S.time) S.wait k)) y 8) D) := fun w' hw' => by
          rw [← HSO.out y]
          exact hrSend H x1 _ D y w' hw' hty HF2.out HFL2.out HL2.out HQ2.out
        have ctime2 := cell_later b2 ctime
        have HB2 : Hid (Below wr.heap.size wr w2) := b2
        have HOW : Hid _ := hown
        have KEEP : Hid (∀ w3, HStep w2.drew H x1 w3 (sendTo (sendAll S (kept (dueB S.time) S.wait k)) y 8) D → w3.cell? ⟨wr.heap.size, 0, none⟩ = some (.int .i64 y.number) ∧ w3.cell? ⟨wr.heap.size, 1, none⟩ = some (.string y.topic) ∧ w3.cell? ⟨wr.heap.size, 2, none⟩ = some (.int .i64 y.value) ∧ w3.cell? ⟨wr.heap.size, 4, none⟩ = some (.int .i64 y.life) ∧ w3.cell? ⟨H, 2, none⟩ = some (.int .i64 S.time)) := fun w3 hst => by
          obtain ⟨x2, r2, u2, f2⟩ := hst
          have hno : ¬ HFP H x1 wr.heap.size := fun hf => by have := R1.out.lt hf; omega
          refine ⟨u2.cell (p := ⟨wr.heap.size, 0, none⟩) d0 hno, u2.cell (p := ⟨wr.heap.size, 1, none⟩) d1 hno, u2.cell (p := ⟨wr.heap.size, 2, none⟩) d2 hno, u2.cell (p := ⟨wr.heap.size, 4, none⟩) d4 hno, ?_⟩
          have ht2 := r2.cells.time
          rw [(sendTo_keeps _ y 8).2.1, HTIME.out] at ht2
          exact ht2
        clear b2 hown
        go_wp2_with fail
        go_region_held3 (fun w' => w'.cell? ⟨wr.heap.size, 0, none⟩ = some (.int .i64 y.number) ∧ w'.cell? ⟨wr.heap.size, 1, none⟩ = some (.string y.topic) ∧ w'.cell? ⟨wr.heap.size, 2, none⟩ = some (.int .i64 y.value) ∧ w'.cell? ⟨wr.heap.size, 4, none⟩ = some (.int .i64 y.life) ∧ w'.cell? ⟨H, 2, none⟩ = some (.int .i64 S.time)) (first | go_keep | exact KEEP.out _ hst)
          (first | (go_at_call 58; refine (HS.out _ ((R1.out.below HB2.out).below below_drew)).mono ?_; rintro e w3 ⟨rfl, hst⟩))
        all_goals obtain ⟨x2, r2, u2, f2⟩ := hst
        all_goals have U3 : Hid (Upd (HFP H x) w w3) := ((U1.out.below HB2.out).drew).trans u2 (fun i hiw t => (F1.out i t).resolve_right (by omega))
        all_goals have F3 : Hid (∀ g, HFP H x2 g → HFP H x g ∨ w.heap.size ≤ g) := fun g hg => (f2 g hg).elim (F1.out g) (fun h => .inr (Nat.le_trans hsz (Nat.le_trans (Nat.le_of_lt hs2) h)))
        all_goals have HO3 := own_upd (own_below (own_below HOW.out HB2.out) below_drew) u2 (fun g hg hf => HAP.out g hg hf)
        all_goals have AP3 : Hid (∀ g, Value.ownBlock _ = some g → ¬ HFP H x2 g) := fun g hg hf => (f2 g hf).elim (HAP.out g hg) (fun h => absurd (World.ownsRow.lt HOW.out g hg).2 (Nat.not_lt.2 (Nat.le_trans (Nat.le_of_lt hs2) h)))
        all_goals have R3 : Hid (HRep w3 H x2 (sendTo (sendAll S (kept (dueB S.time) S.wait k)) y 8) D) := r2
        all_goals have HO4 : Hid _ := HO3
        all_goals clear r2 u2 f2 HO3
        all_goals go_wp2_with fail
        all_goals go_roundw
        all_goals first
          | (case rel => exact ⟨k + 1, x2, by omega, by go_num, by rw [HK.out]; exact HO4.out, by rw [HD.out, sendAll_snoc]; exact R3.out, U3.out, F3.out, AP3.out⟩)
          | (case measure => simp [intOf]; omega)
          | skip
    · have HK : Hid (kept (fun m => !dueB S.time m) S.wait k = S.wait.filter (fun m => !dueB S.time m)) := kept_end _ _ _ (by omega)
      have HD : Hid (kept (dueB S.time) S.wait k = S.wait.filter (dueB S.time)) := kept_end _ _ _ (by omega)
      have hfr := R1.out.cells.free 28
      obtain ⟨av, cv, rfl, -, -, -⟩ := Row.form (row_of_own (w := w) hown nilV).1
      have HOW : Hid (wr.ownsRow w.heap.size 50 5 (.slice av (kept (fun m => !dueB S.time m) S.wait k).length cv) (kept (fun m => !dueB S.time m) S.wait k).length ((kept (fun m => !dueB S.time m) S.wait k).flatMap waitCells)) := hown
      clear hown
      go_wp2_with fail
      go_end0
      refine ⟨rfl, { x1 with waitV := .slice av (kept (fun m => !dueB S.time m) S.wait k).length cv }, ?_, ?_, ?_⟩
      · rw [← HK.out, ← HD.out]
        exact R1.out.putWait (row_of_own (w := w) HOW.out nilV).1
      · exact U1.out.setCell (p := ⟨H, 28, none⟩) (fun _ => .inl rfl) _
      · rintro g (rfl | hk | hk | ⟨b, hb, hk | hk⟩)
        · exact .inl (.inl rfl)
        · exact F1.out g (.inr (.inl hk))
        · exact .inr (HOW.out.lt g hk).1
        · exact F1.out g (.inr (.inr (.inr ⟨b, hb, .inl hk⟩)))
        · exact F1.out g (.inr (.inr (.inr ⟨b, hb, .inr hk⟩)))
end Go.Proofs.Ytmjdndhfmfjbiab

/-
  THE BROKER that the laws speak of: what holds of it between two calls.
-/
namespace Go.Proofs.Ytmjdndhfmfjbiab
open Go.RowKit

structure Br (w : World) (H : Nat) (x : RefV) (S : RefS) (fil : Nat → List ByteArray) (wait : List WaitD) (R : List ByteArray) : Prop where
  rep : HRep w H x (lk S fil wait) (cat R)
  lk : Lk S fil wait
  num : Num S
  recs : R = S.done.map recOf
  valid : ∀ o ∈ S.done, Valid (recD o)
  few : S.done.length ≤ 500
def PRc (w : World) (H : Nat) (F : Nat → Prop) (S : RefS) (R : List ByteArray) : Prop := ∃ x fil wait, Br w H x S fil wait R ∧ ∀ k, F k ↔ HFP H x k

theorem Br.upd {P : Nat → Prop} {w w1 : World} {H : Nat} {x : RefV} {S : RefS} {fil : Nat → List ByteArray} {wait : List WaitD} {R : List ByteArray} (h : Br w H x S fil wait R) (k : Upd P w w1) (hs : ∀ i, HFP H x i → ¬ P i) : Br w1 H x S fil wait R :=
  ⟨h.rep.upd k hs, h.lk, h.num, h.recs, h.valid, h.few⟩
theorem Br.below {w w1 : World} {H : Nat} {x : RefV} {S : RefS} {fil : Nat → List ByteArray} {wait : List WaitD} {R : List ByteArray} (h : Br w H x S fil wait R) (k : Below w.heap.size w w1) : Br w1 H x S fil wait R :=
  ⟨h.rep.below k, h.lk, h.num, h.recs, h.valid, h.few⟩
theorem Br.r42 {w : World} {H : Nat} {x : RefV} {S : RefS} {fil : Nat → List ByteArray} {wait : List WaitD} {R : List ByteArray} (h : Br w H x S fil wait R) : ∀ r ∈ R, r.size = 42 := fun r hr => by
  rw [h.recs] at hr
  obtain ⟨o, ho, rfl⟩ := List.mem_map.1 hr
  exact enc_size _ (h.valid o ho).text
theorem Br.size {w : World} {H : Nat} {x : RefV} {S : RefS} {fil : Nat → List ByteArray} {wait : List WaitD} {R : List ByteArray} (h : Br w H x S fil wait R) : (cat R).size = 42 * S.done.length := by
  rw [cat_size h.r42, h.recs, List.length_map]
theorem Br.len {w : World} {H : Nat} {x : RefV} {S : RefS} {fil : Nat → List ByteArray} {wait : List WaitD} {R : List ByteArray} (h : Br w H x S fil wait R) : (cat R).size ≤ 1048576 := by
  have := h.size; have := h.few; omega

theorem HRep.redone {w : World} {B : Nat} {x : RefV} {S : RefS} {D : ByteArray} (h : HRep w B x S D) (l : List OpD) : HRep w B x { S with done := l } D :=
  ⟨⟨h.cells.obj, h.cells.room, h.cells.done, h.cells.time, h.cells.pub, h.cells.fil, h.cells.que, h.cells.lost, h.cells.wait⟩, h.done, h.fil, h.que, h.wait, h.filApart, h.queApart⟩
theorem HStep.redone {w w1 : World} {B : Nat} {x : RefV} {S : RefS} {D : ByteArray} (h : HStep w B x w1 S D) (l : List OpD) : HStep w B x w1 { S with done := l } D := by
  obtain ⟨x1, r, u, f⟩ := h
  exact ⟨x1, r.redone l, u, f⟩

/-- Nothing has changed. -/
theorem out_same {w w1 : World} {H : Nat} {F : Nat → Prop} {S S1 : RefS} {R : List ByteArray} (hp : PRc w H F S R) (hb : Below w.heap.size w w1) (hS : S1 = S) : Outcome PRc w H F R S1 w1 := by
  subst hS
  obtain ⟨x, fil, wait, hb1, hF⟩ := hp
  exact ⟨F, [], ⟨x, fil, wait, by rw [List.append_nil]; exact hb1.below hb, hF⟩, Upd.of_below hb, fun k hk => .inl hk⟩

theorem not_done {S : RefS} {o : OpD} (h : doErr S o ≠ 0) : doneB S o = false ∧ doS S o = S ∧ doAns S o = 0 := by
  have hd : doneB S o = false := by
    unfold doErr at h
    unfold doneB
    split at h
    · rename_i hw
      split at h
      · split at h
        · omega
        · rename_i hr
          rw [show decide ((S.done.length : Int) < S.room) = false from decide_eq_false hr, Bool.and_false]
      · omega
    · rename_i hw
      rw [show (wrongM S o == 0) = false from by simpa using hw]
      rfl
  exact ⟨hd, by unfold doS; rw [hd]; rfl, by unfold doAns; rw [hd]; rfl⟩
theorem is_done {S : RefS} {o : OpD} (h1 : wrongM S o = 0) (h2 : writesB S o = true) (h3 : (S.done.length : Int) < S.room) : doneB S o = true ∧ doErr S o = 0 ∧ doS S o = turnM { S with done := S.done ++ [o] } o := by
  have hd : doneB S o = true := by unfold doneB; rw [h1, h2, decide_eq_true h3]; rfl
  exact ⟨hd, by unfold doErr; rw [if_pos h1, if_pos h2, if_pos h3], by unfold doS; rw [if_pos hd]⟩
theorem is_full {S : RefS} {o : OpD} (h1 : wrongM S o = 0) (h2 : writesB S o = true) (h3 : ¬ (S.done.length : Int) < S.room) : doErr S o = 9 := by
  unfold doErr; rw [if_pos h1, if_pos h2, if_neg h3]
theorem is_wrong {S : RefS} {o : OpD} {e : Int} (h1 : wrongM S o = e) (h0 : e ≠ 0) : doErr S o = e := by
  unfold doErr; rw [if_neg (by omega)]; exact h1
theorem writes_not {S : RefS} {o : OpD} (h : o.kind ≠ 6) : writesB S o = true := by
  unfold writesB
  rw [show (o.kind != 6) = true from by simpa using h]; rfl
theorem done_list {S : RefS} {o : OpD} (h : doneB S o = true) : (doS S o).done = S.done ++ [o] := (do_done S o).trans (if_pos h)

/-- An operation that is done. -/
theorem out_done {w w1 : World} {H : Nat} {F : Nat → Prop} {x : RefV} {S : RefS} {fil fil1 : Nat → List ByteArray} {wait wait1 : List WaitD} {R : List ByteArray} {o : OpD} (hb : Br w H x S fil wait R) (hF : ∀ k, F k ↔ HFP H x k) (hg : Good S) (hd : doneB S o = true)
    (hst : HStep w H x w1 (lk (doS S o) fil1 wait1) (cat R ++ recOf o)) (hlk : Lk (doS S o) fil1 wait1) : Outcome PRc w H F R (doS S o) w1 := by
  obtain ⟨x1, r1, u1, f1⟩ := hst
  have hdl := done_list hd
  have hw : wrongM S o = 0 := by
    unfold doneB at hd
    simp only [Bool.and_eq_true, beq_iff_eq] at hd
    exact hd.1.1
  have hfew : (doS S o).done.length ≤ 500 := by
    have hr := hg.room
    unfold doneB at hd
    simp only [Bool.and_eq_true, decide_eq_true_eq] at hd
    rw [hdl, List.length_append]
    have := hd.2
    simp only [List.length_cons, List.length_nil]
    omega
  have hv : Valid (recD o) := wrong_valid hb.num (by have h1 := hg.inv.pub; have h2 := hb.few; omega) hw
  refine ⟨HFP H x1, [recOf o], ⟨x1, fil1, wait1, ⟨?_, hlk, hb.num.does o, ?_, ?_, hfew⟩, fun k => Iff.rfl⟩, u1.mono (fun k hk => (hF k).2 hk), fun k hk => (f1 k hk).imp (hF k).2 id⟩
  · rw [cat_snoc]; exact r1
  · rw [hdl, List.map_append, hb.recs]; rfl
  · rw [hdl]
    intro p hp
    rcases List.mem_append.1 hp with hp | hp
    · exact hb.valid p hp
    · rw [List.mem_singleton] at hp; subst hp; exact hv

theorem valid_small {r : RecD} (h : Valid r) : Small r := by
  have := h.call; have := h.client; have := h.number; have := h.value; have := h.delay; have := h.life; have := h.to
  exact ⟨by omega, by omega, h.text, by omega, by omega, by omega, by omega, by omega⟩

theorem hrIsFilter (s : ByteArray) (w : World) (hs : s.size ≤ 1048576) : Calls Try.prog 47 #[.string s] w fun e w' => e = .returned (.bool (M.isPathM true s)) ∧ Below w.heap.size w w' := by
  go_enter Try.func47, Try.ntmps47
  go_wp2_with fail
  refine (topIsPath s true _ (by unfold maxLen; omega)).mono ?_
  rintro e w1 ⟨rfl, hb⟩
  go_wp2_with fail
  go_ret
  exact ⟨rfl, hb⟩
theorem hrIsTopic (s : ByteArray) (w : World) (hs : s.size ≤ 1048576) : Calls Try.prog 55 #[.string s] w fun e w' => e = .returned (.bool (M.isPathM false s)) ∧ Below w.heap.size w w' := by
  go_enter Try.func55, Try.ntmps55
  go_wp2_with fail
  refine (topIsPath s false _ (by unfold maxLen; omega)).mono ?_
  rintro e w1 ⟨rfl, hb⟩
  go_wp2_with fail
  go_ret
  exact ⟨rfl, hb⟩
end Go.Proofs.Ytmjdndhfmfjbiab

namespace Go.Proofs.Ytmjdndhfmfjbiab
open Go.RowKit

theorem any_find {fil : Nat → List ByteArray} {wait : List WaitD} {S : RefS} (h : Lk S fil wait) {n : Nat} (hn : n < 8) (s : ByteArray) : (findM (fun f => f.toList == s.toList) (S.fil n) 0 < 0) ↔ (fil n).any (fun f => f.toList == s.toList) = false := by
  have := h.has hn s
  constructor
  · intro hlt; rw [decide_eq_true hlt] at this; simpa using this.symm
  · intro hf; rw [hf] at this; simpa using this

set_option maxRecDepth 100000 in
set_option maxHeartbeats 4000000 in
theorem hrSubscribe {w : World} {H : Nat} {F : Nat → Prop} {S : RefS} {R : List ByteArray} (a b c d : Int) (s : ByteArray) (hp : PRc w H F S R) (hg : Good S) (hs : s.size ≤ 1048576) :
    Calls Try.prog 11 #[.pointer (some ⟨H, 0, none⟩), .int .i64 a, .string s] w fun e w' =>
      e = .returned (.int .i64 (doErr S ⟨1, a, b, c, d, s⟩)) ∧ Outcome PRc w H F R (doS S ⟨1, a, b, c, d, s⟩) w' := by
  have HP : Hid (PRc w H F S R) := hp
  obtain ⟨x, fil, wait, hb, hF⟩ := hp
  have HB : Hid (Br w H x S fil wait R) := hb
  have HF : Hid (∀ k, F k ↔ HFP H x k) := hF
  have HG : Hid (Good S) := hg
  have hlen := hb.len
  clear hb hF hg
  generalize ho : (⟨1, a, b, c, d, s⟩ : OpD) = o
  have err : ∀ e w1, wrongM S o = e → e ≠ 0 → Below w.heap.size w w1 → Ending.returned (.int .i64 e) = .returned (.int .i64 (doErr S o)) ∧ Outcome PRc w H F R (doS S o) w1 := fun e w1 h1 h0 hbw => by
    have h2 := is_wrong h1 h0
    exact ⟨ret_int h2.symm, out_same HP.out hbw (not_done (by rw [h2]; exact h0)).2.1⟩
  have ERR : Hid (∀ e w1, wrongM S o = e → e ≠ 0 → Below w.heap.size w w1 → Ending.returned (.int .i64 e) = .returned (.int .i64 (doErr S o)) ∧ Outcome PRc w H F R (doS S o) w1) := err
  clear err
  cases hk : knownB a
  · have HE : Hid (wrongM S o = 2) := by show _ = _; rw [← ho]; simp [wrongM, hk]
    clear ho
    go_enter Try.func11, Try.ntmps11
    go_wp2_with fail
    refine (hrIsClient a _).mono ?_
    rintro e w ⟨rfl, rfl⟩
    rw [hk]
    go_wp2_with fail
    go_ret
    exact ERR.out _ _ HE.out (by omega) (Below.refl _ _)
  obtain ⟨n, rfl, hn⟩ := known_nat hk
  have HK : Hid (knownB (n : Int) = true) := hk
  have hn0 : (0 : Int) ≤ (n : Int) := by omega
  have hn1 : (n : Int) < 8 := by omega
  cases hpt : M.isPathM true s
  · have HE : Hid (wrongM S o = 4) := by show _ = _; rw [← ho]; simp [wrongM, hk, hpt]
    clear ho hk
    go_enter Try.func11, Try.ntmps11
    go_wp2_with fail
    refine (hrIsClient (n : Int) _).mono ?_
    rintro e w ⟨rfl, rfl⟩
    rw [HK.out]
    go_wp2_with fail
    refine (hrIsFilter s _ hs).mono ?_
    rintro e w1 ⟨rfl, hb1⟩
    rw [hpt]
    go_wp2_with fail
    go_ret
    exact ERR.out _ _ HE.out (by omega) hb1
  have HPT : Hid (M.isPathM true s = true) := hpt
  have HW : Hid (wrongM S o = subErr (findM (fun f => f.toList == s.toList) (S.fil n) 0) (S.fil n).length) := by show _ = _; rw [← ho]; simp [wrongM, hk, hpt]
  have HFI := any_find HB.out.lk hn s
  have HLE : Hid ((fil n).length = (S.fil n).length) := (HB.out.lk.filP n hn).length_eq
  have HFE : Hid ((findM (fun f => f.toList == s.toList) (S.fil n) 0 < 0) ↔ (fil n).any (fun f => f.toList == s.toList) = false) := HFI
  have hfl : (fil n).length ≤ 6 := by rw [HLE.out]; exact (HG.out.inv.fil n hn).1
  obtain ⟨af, cf, hvf, -, -, hcf⟩ := (HB.out.rep.fil n hn).form
  have cfil := HB.out.rep.cells.fil n hn
  rw [hvf] at cfil
  have HCF : Hid (CellsAt w af ((fil n).map Value.string)) := hcf
  have HHV : Hid (x.filV n = .slice af (fil n).length cf) := hvf
  have hH := HB.out.rep.cells.lt
  have cfil' : w.cell? ⟨H, 4 + n * 3, none⟩ = some (.slice af (fil n).length cf) := cfil
  clear hvf hcf HFI hk hpt cfil
  cases hhas : (fil n).any (fun f => f.toList == s.toList)
  case true =>
    have HE : Hid (wrongM S o = 6) := by
      show _ = _
      rw [HW.out, subErr, if_pos]
      have := HFE.out
      rw [hhas] at this
      simpa using this
    clear ho
    go_enter Try.func11, Try.ntmps11
    go_wp2_with fail
    refine (hrIsClient (n : Int) _).mono ?_
    rintro e w ⟨rfl, rfl⟩
    rw [HK.out]
    go_wp2_with fail
    refine (hrIsFilter s _ hs).mono ?_
    rintro e w1 ⟨rfl, hb1⟩
    rw [HPT.out]
    have c1 := cell_later hb1 cfil'
    have HB1 : Hid (Below _ _ w1) := hb1
    clear hb1
    go_wp2_with fail
    refine (hrHasFilter (fil n) af cf s _ (by omega) (HCF.out.below HB1.out)).mono ?_
    rintro e w1 ⟨rfl, rfl⟩
    rw [hhas]
    go_wp2_with fail
    go_ret
    exact ERR.out _ _ HE.out (by omega) HB1.out
  case false =>
    have HHAS : Hid ((fil n).any (fun f => f.toList == s.toList) = false) := hhas
    have HNEG : Hid (findM (fun f => f.toList == s.toList) (S.fil n) 0 < 0) := HFE.out.2 hhas
    clear hhas
    go_enter Try.func11, Try.ntmps11
    go_wp2_with fail
    refine (hrIsClient (n : Int) _).mono ?_
    rintro e w ⟨rfl, rfl⟩
    rw [HK.out]
    go_wp2_with fail
    refine (hrIsFilter s _ hs).mono ?_
    rintro e w1 ⟨rfl, hb1⟩
    rw [HPT.out]
    have c1 := cell_later hb1 cfil'
    have HB1 : Hid (Below _ _ w1) := hb1
    clear hb1
    go_wp2_with fail
    refine (hrHasFilter (fil n) af cf s _ (by omega) (HCF.out.below HB1.out)).mono ?_
    rintro e w1 ⟨rfl, rfl⟩
    rw [HHAS.out]
    by_cases h6 : 6 ≤ (fil n).length
    · have HE : Hid (wrongM S o = 8) := by
        show _ = _
        rw [HW.out, subErr, if_neg (by have := HNEG.out; omega), if_pos (by rw [← HLE.out]; exact h6)]
      clear ho
      go_wp2_with fail
      go_ret
      exact ERR.out _ _ HE.out (by omega) HB1.out
    · have HZ : Hid (wrongM S o = 0) := by
        show _ = _
        rw [HW.out, subErr, if_neg (by have := HNEG.out; omega), if_neg (by rw [← HLE.out]; exact h6)]
      go_wp2_with fail
      refine (hrIsFull H x _ _ _ (HB.out.rep.below HB1.out) hlen).mono ?_
      rintro e w3 ⟨rfl, hb3⟩
      have c3 := cell_later hb3 c1
      have HB3 : Hid (Below w.heap.size w w3) := HB1.out.trans (hb3.mono HB1.out.size)
      clear hb3
      by_cases hfull : (S.done.length : Int) < S.room
      · have HNF : Hid (decide ((lk S fil wait).room ≤ ((cat R).size : Int) / 42) = false) := by
          show decide (S.room ≤ _) = false
          rw [HB.out.size, decide_eq_false_iff_not]
          omega
        obtain ⟨q1, q2, q3⟩ := is_done HZ.out (writes_not (by rw [← ho]; show (1 : Int) ≠ 6; decide)) hfull
        have HD1 : Hid (doneB S o = true) := q1
        have HD2 : Hid (doErr S o = 0) := q2
        have HD3 : Hid (doS S o = { S with done := S.done ++ [o], fil := setAt S.fil n (S.fil n ++ [s]) }) := by show _ = _; rw [q3, ← ho]; simp [turnM]
        have HRE : Hid (recOf o = encM ⟨1, n, s, 0, 0, 0, 0, 0⟩) := by show _ = _; rw [← ho]; simp [recOf, recD]
        have HREC : Hid (recD o = ⟨1, n, s, 0, 0, 0, 0, 0⟩) := by show _ = _; rw [← ho]; simp [recD]
        clear q1 q2 q3 ho hfull
        rw [HNF.out]
        go_wp2_with fail
        refine (hrCopyText s _).mono ?_
        rintro e w4 ⟨rfl, hb4⟩
        have c4 := cell_later hb4 c3
        have HB4 : Hid (Below w.heap.size w w4) := HB3.out.trans (hb4.mono HB3.out.size)
        clear hb4
        have hfr4 := (HB4.out.frozen (p := ⟨H, 4 + n * 3, none⟩) hH).trans (HB.out.rep.cells.free (4 + n * 3))
        have hH4 : H < w4.heap.size := Nat.lt_of_lt_of_le hH HB4.out.size
        have HSM : Hid (Small ⟨1, n, s, 0, 0, 0, 0, 0⟩) := by
          have hv := wrong_valid HB.out.num (by have h1 := HG.out.inv.pub; have h2 := HB.out.few; omega) HZ.out
          have hr := HREC.out
          rw [hr] at hv
          exact valid_small hv
        go_wp2_with fail
        go_region_with (go_at_call 51; refine (hrWithFilter (fil n) af cf s _ (by omega) ((HCF.out.below HB4.out).below below_drew)).mono ?_; rintro e w5 ⟨v, rfl, ho5, hb5⟩; obtain ⟨a1, c1', rfl, -, -, -⟩ := Row.form (row_of_own (w := w4) ho5 nilV).1; have c5 := cell_later (w := w4.drew) hb5 c4; have hfr5 := (hb5.frozen (p := ⟨H, 4 + n * 3, none⟩) hH4).trans hfr4)
        all_goals have HST : HStep w H x (w5.setCell ⟨H, 4 + n * 3, none⟩ (.slice a1 (insM ltB s (fil n)).length c1')) { lk S fil wait with fil := setAt fil n (insM ltB s (fil n)) } (cat R) := HStep.then (Upd.of_below HB4.out) (fun _ hk => .inl hk) ((HB.out.rep.below HB4.out).setFil hn (Upd.of_below (below_drew.trans hb5)) (by rw [← flat_sing]; exact (row_of_own (w := w4) ho5 nilV).1) (row_of_own (w := w4) ho5 _).2)
        all_goals obtain ⟨x1, r1, u1, f1⟩ := HST
        all_goals have R1 : Hid _ := r1
        all_goals have U1 : Hid _ := u1
        all_goals have F1 : Hid _ := f1
        all_goals clear r1 u1 f1 ho5 hb5 c5 hfr5 c4 hfr4
        all_goals go_wp2_with fail
        all_goals refine (hrWrite H x1 _ (cat R) ⟨1, n, s, 0, 0, 0, 0, 0⟩ _ R1.out hlen HSM.out).mono ?_
        all_goals rintro e w6 ⟨rfl, hst⟩
        all_goals go_wp2_with fail
        all_goals go_ret
        all_goals refine ⟨ret_int HD2.out.symm, out_done HB.out HF.out HG.out HD1.out (fil1 := setAt fil n (insM ltB s (fil n))) (wait1 := wait) ?_ ?_⟩
        all_goals first
          | (rw [HD3.out, HRE.out]; exact (HStep.then U1.out F1.out hst).redone _)
          | (rw [HD3.out]; exact (HB.out.lk.sub hn (path_some HPT.out) HHAS.out).other rfl rfl (Int.le_refl _))
      · have HFU : Hid (decide ((lk S fil wait).room ≤ ((cat R).size : Int) / 42) = true) := by
          show decide (S.room ≤ _) = true
          rw [HB.out.size, decide_eq_true_iff]
          omega
        have HE : Hid (doErr S o = 9) := is_full HZ.out (writes_not (by rw [← ho]; show (1 : Int) ≠ 6; decide)) hfull
        clear ho hfull
        rw [HFU.out]
        go_wp2_with fail
        go_ret
        exact ⟨ret_int HE.out.symm, out_same HP.out HB3.out (not_done (by rw [HE.out]; omega)).2.1⟩
end Go.Proofs.Ytmjdndhfmfjbiab

namespace Go.Proofs.Ytmjdndhfmfjbiab
open Go.RowKit

set_option maxRecDepth 100000 in
set_option maxHeartbeats 4000000 in
theorem hrUnsubscribe {w : World} {H : Nat} {F : Nat → Prop} {S : RefS} {R : List ByteArray} (a b c d : Int) (s : ByteArray) (hp : PRc w H F S R) (hg : Good S) (hs : s.size ≤ 1048576) :
    Calls Try.prog 73 #[.pointer (some ⟨H, 0, none⟩), .int .i64 a, .string s] w fun e w' =>
      e = .returned (.int .i64 (doErr S ⟨2, a, b, c, d, s⟩)) ∧ Outcome PRc w H F R (doS S ⟨2, a, b, c, d, s⟩) w' := by
  have HP : Hid (PRc w H F S R) := hp
  obtain ⟨x, fil, wait, hb, hF⟩ := hp
  have HB : Hid (Br w H x S fil wait R) := hb
  have HF : Hid (∀ k, F k ↔ HFP H x k) := hF
  have HG : Hid (Good S) := hg
  have hlen := hb.len
  clear hb hF hg
  generalize ho : (⟨2, a, b, c, d, s⟩ : OpD) = o
  have err : ∀ e w1, wrongM S o = e → e ≠ 0 → Below w.heap.size w w1 → Ending.returned (.int .i64 e) = .returned (.int .i64 (doErr S o)) ∧ Outcome PRc w H F R (doS S o) w1 := fun e w1 h1 h0 hbw => by
    have h2 := is_wrong h1 h0
    exact ⟨ret_int h2.symm, out_same HP.out hbw (not_done (by rw [h2]; exact h0)).2.1⟩
  have ERR : Hid (∀ e w1, wrongM S o = e → e ≠ 0 → Below w.heap.size w w1 → Ending.returned (.int .i64 e) = .returned (.int .i64 (doErr S o)) ∧ Outcome PRc w H F R (doS S o) w1) := err
  clear err
  cases hk : knownB a
  · have HE : Hid (wrongM S o = 2) := by show _ = _; rw [← ho]; simp [wrongM, hk]
    clear ho
    go_enter Try.func73, Try.ntmps73
    go_wp2_with fail
    refine (hrIsClient a _).mono ?_
    rintro e w ⟨rfl, rfl⟩
    rw [hk]
    go_wp2_with fail
    go_ret
    exact ERR.out _ _ HE.out (by omega) (Below.refl _ _)
  obtain ⟨n, rfl, hn⟩ := known_nat hk
  have HK : Hid (knownB (n : Int) = true) := hk
  have hn0 : (0 : Int) ≤ (n : Int) := by omega
  have hn1 : (n : Int) < 8 := by omega
  cases hpt : M.isPathM true s
  · have HE : Hid (wrongM S o = 4) := by show _ = _; rw [← ho]; simp [wrongM, hk, hpt]
    clear ho hk
    go_enter Try.func73, Try.ntmps73
    go_wp2_with fail
    refine (hrIsClient (n : Int) _).mono ?_
    rintro e w ⟨rfl, rfl⟩
    rw [HK.out]
    go_wp2_with fail
    refine (hrIsFilter s _ hs).mono ?_
    rintro e w1 ⟨rfl, hb1⟩
    rw [hpt]
    go_wp2_with fail
    go_ret
    exact ERR.out _ _ HE.out (by omega) hb1
  have HPT : Hid (M.isPathM true s = true) := hpt
  have HW : Hid (wrongM S o = noneErr (findM (fun f => f.toList == s.toList) (S.fil n) 0)) := by show _ = _; rw [← ho]; simp [wrongM, hk, hpt]
  have HFI := any_find HB.out.lk hn s
  have HLE : Hid ((fil n).length = (S.fil n).length) := (HB.out.lk.filP n hn).length_eq
  have HFE : Hid ((findM (fun f => f.toList == s.toList) (S.fil n) 0 < 0) ↔ (fil n).any (fun f => f.toList == s.toList) = false) := HFI
  have hfl : (fil n).length ≤ 6 := by rw [HLE.out]; exact (HG.out.inv.fil n hn).1
  obtain ⟨af, cf, hvf, -, -, hcf⟩ := (HB.out.rep.fil n hn).form
  have cfil := HB.out.rep.cells.fil n hn
  rw [hvf] at cfil
  have HCF : Hid (CellsAt w af ((fil n).map Value.string)) := hcf
  have HHV : Hid (x.filV n = .slice af (fil n).length cf) := hvf
  have hH := HB.out.rep.cells.lt
  have cfil' : w.cell? ⟨H, 4 + n * 3, none⟩ = some (.slice af (fil n).length cf) := cfil
  clear hvf hcf HFI hk hpt cfil
  cases hhas : (fil n).any (fun f => f.toList == s.toList)
  case false =>
    have HE : Hid (wrongM S o = 7) := by
      show _ = _
      rw [HW.out, noneErr, if_pos (HFE.out.2 hhas)]
    clear ho
    go_enter Try.func73, Try.ntmps73
    go_wp2_with fail
    refine (hrIsClient (n : Int) _).mono ?_
    rintro e w ⟨rfl, rfl⟩
    rw [HK.out]
    go_wp2_with fail
    refine (hrIsFilter s _ hs).mono ?_
    rintro e w1 ⟨rfl, hb1⟩
    rw [HPT.out]
    have c1 := cell_later hb1 cfil'
    have HB1 : Hid (Below _ _ w1) := hb1
    clear hb1
    go_wp2_with fail
    refine (hrHasFilter (fil n) af cf s _ (by omega) (HCF.out.below HB1.out)).mono ?_
    rintro e w1 ⟨rfl, rfl⟩
    rw [hhas]
    go_wp2_with fail
    go_ret
    exact ERR.out _ _ HE.out (by omega) HB1.out
  case true =>
    have HHAS : Hid ((fil n).any (fun f => f.toList == s.toList) = true) := hhas
    have HNEG : Hid (¬ findM (fun f => f.toList == s.toList) (S.fil n) 0 < 0) := fun h => by have := HFE.out.1 h; rw [hhas] at this; cases this
    clear hhas
    go_enter Try.func73, Try.ntmps73
    go_wp2_with fail
    refine (hrIsClient (n : Int) _).mono ?_
    rintro e w ⟨rfl, rfl⟩
    rw [HK.out]
    go_wp2_with fail
    refine (hrIsFilter s _ hs).mono ?_
    rintro e w1 ⟨rfl, hb1⟩
    rw [HPT.out]
    have c1 := cell_later hb1 cfil'
    have HB1 : Hid (Below _ _ w1) := hb1
    clear hb1
    go_wp2_with fail
    refine (hrHasFilter (fil n) af cf s _ (by omega) (HCF.out.below HB1.out)).mono ?_
    rintro e w1 ⟨rfl, rfl⟩
    rw [HHAS.out]
    · have HZ : Hid (wrongM S o = 0) := by
        show _ = _
        rw [HW.out, noneErr, if_neg (by have := HNEG.out; omega)]
      go_wp2_with fail
      refine (hrIsFull H x _ _ _ (HB.out.rep.below HB1.out) hlen).mono ?_
      rintro e w3 ⟨rfl, hb3⟩
      have c3 := cell_later hb3 c1
      have HB3 : Hid (Below w.heap.size w w3) := HB1.out.trans (hb3.mono HB1.out.size)
      clear hb3
      by_cases hfull : (S.done.length : Int) < S.room
      · have HNF : Hid (decide ((lk S fil wait).room ≤ ((cat R).size : Int) / 42) = false) := by
          show decide (S.room ≤ _) = false
          rw [HB.out.size, decide_eq_false_iff_not]
          omega
        obtain ⟨q1, q2, q3⟩ := is_done HZ.out (writes_not (by rw [← ho]; show (2 : Int) ≠ 6; decide)) hfull
        have HD1 : Hid (doneB S o = true) := q1
        have HD2 : Hid (doErr S o = 0) := q2
        have HD3 : Hid (doS S o = { S with done := S.done ++ [o], fil := setAt S.fil n ((S.fil n).filter (fun f => !(f.toList == s.toList))) }) := by show _ = _; rw [q3, ← ho]; simp [turnM]
        have HRE : Hid (recOf o = encM ⟨2, n, s, 0, 0, 0, 0, 0⟩) := by show _ = _; rw [← ho]; simp [recOf, recD]
        have HREC : Hid (recD o = ⟨2, n, s, 0, 0, 0, 0, 0⟩) := by show _ = _; rw [← ho]; simp [recD]
        clear q1 q2 q3 ho hfull
        rw [HNF.out]
        have hfr3 := (HB3.out.frozen (p := ⟨H, 4 + n * 3, none⟩) hH).trans (HB.out.rep.cells.free (4 + n * 3))
        have hH3 : H < w3.heap.size := Nat.lt_of_lt_of_le hH HB3.out.size
        have HSM : Hid (Small ⟨2, n, s, 0, 0, 0, 0, 0⟩) := by
          have hv := wrong_valid HB.out.num (by have h1 := HG.out.inv.pub; have h2 := HB.out.few; omega) HZ.out
          have hr := HREC.out
          rw [hr] at hv
          exact valid_small hv
        go_wp2_with fail
        go_region_with (go_at_call 85; refine (hrWithoutFilter (fil n) af cf s _ (by omega) ((HCF.out.below HB3.out).below below_drew)).mono ?_; rintro e w5 ⟨v, rfl, ho5, hb5⟩; obtain ⟨a1, c1', rfl, -, -, -⟩ := Row.form (row_of_own (w := w3) ho5 nilV).1; have c5 := cell_later (w := w3.drew) hb5 c3; have hfr5 := (hb5.frozen (p := ⟨H, 4 + n * 3, none⟩) hH3).trans hfr3)
        all_goals have HST : HStep w H x (w5.setCell ⟨H, 4 + n * 3, none⟩ (.slice a1 ((fil n).filter (fun f => !(f.toList == s.toList))).length c1')) { lk S fil wait with fil := setAt fil n ((fil n).filter (fun f => !(f.toList == s.toList))) } (cat R) := HStep.then (Upd.of_below HB3.out) (fun _ hk => .inl hk) ((HB.out.rep.below HB3.out).setFil hn (Upd.of_below (below_drew.trans hb5)) (by rw [← flat_sing]; exact (row_of_own (w := w3) ho5 nilV).1) (row_of_own (w := w3) ho5 _).2)
        all_goals obtain ⟨x1, r1, u1, f1⟩ := HST
        all_goals have R1 : Hid _ := r1
        all_goals have U1 : Hid _ := u1
        all_goals have F1 : Hid _ := f1
        all_goals clear r1 u1 f1 ho5 hb5 c5 hfr5 c3 hfr3
        all_goals go_wp2_with fail
        all_goals refine (hrWrite H x1 _ (cat R) ⟨2, n, s, 0, 0, 0, 0, 0⟩ _ R1.out hlen HSM.out).mono ?_
        all_goals rintro e w6 ⟨rfl, hst⟩
        all_goals go_wp2_with fail
        all_goals go_ret
        all_goals refine ⟨ret_int HD2.out.symm, out_done HB.out HF.out HG.out HD1.out (fil1 := setAt fil n ((fil n).filter (fun f => !(f.toList == s.toList)))) (wait1 := wait) ?_ ?_⟩
        all_goals first
          | (rw [HD3.out, HRE.out]; exact (HStep.then U1.out F1.out hst).redone _)
          | (rw [HD3.out]; exact (HB.out.lk.unsub hn s).other rfl rfl (Int.le_refl _))
      · have HFU : Hid (decide ((lk S fil wait).room ≤ ((cat R).size : Int) / 42) = true) := by
          show decide (S.room ≤ _) = true
          rw [HB.out.size, decide_eq_true_iff]
          omega
        have HE : Hid (doErr S o = 9) := is_full HZ.out (writes_not (by rw [← ho]; show (2 : Int) ≠ 6; decide)) hfull
        clear ho hfull
        rw [HFU.out]
        go_wp2_with fail
        go_ret
        exact ⟨ret_int HE.out.symm, out_same HP.out HB3.out (not_done (by rw [HE.out]; omega)).2.1⟩
end Go.Proofs.Ytmjdndhfmfjbiab

namespace Go.Proofs.Ytmjdndhfmfjbiab
open Go.RowKit

theorem any_findL {α : Type} (p : α → Bool) (l : List α) : (findM p l 0 < 0) ↔ l.any p = false := by
  have := find_has p l
  constructor
  · intro hlt; rw [decide_eq_true hlt] at this; simpa using this.symm
  · intro hf; rw [hf] at this; simpa using this

set_option maxRecDepth 100000 in
set_option maxHeartbeats 4000000 in
theorem hrAck {w : World} {H : Nat} {F : Nat → Prop} {S : RefS} {R : List ByteArray} (a b c d : Int) (s : ByteArray) (hp : PRc w H F S R) (hg : Good S) :
    Calls Try.prog 13 #[.pointer (some ⟨H, 0, none⟩), .int .i64 a, .int .i64 b] w fun e w' =>
      e = .returned (.int .i64 (doErr S ⟨7, a, b, c, d, s⟩)) ∧ Outcome PRc w H F R (doS S ⟨7, a, b, c, d, s⟩) w' := by
  have HP : Hid (PRc w H F S R) := hp
  obtain ⟨x, fil, wait, hb, hF⟩ := hp
  have HB : Hid (Br w H x S fil wait R) := hb
  have HF : Hid (∀ k, F k ↔ HFP H x k) := hF
  have HG : Hid (Good S) := hg
  have hlen := hb.len
  have hH := hb.rep.cells.lt
  clear hb hF hg
  generalize ho : (⟨7, a, b, c, d, s⟩ : OpD) = o
  have err : ∀ e w1, wrongM S o = e → e ≠ 0 → Below w.heap.size w w1 → Ending.returned (.int .i64 e) = .returned (.int .i64 (doErr S o)) ∧ Outcome PRc w H F R (doS S o) w1 := fun e w1 h1 h0 hbw => by
    have h2 := is_wrong h1 h0
    exact ⟨ret_int h2.symm, out_same HP.out hbw (not_done (by rw [h2]; exact h0)).2.1⟩
  have ERR : Hid (∀ e w1, wrongM S o = e → e ≠ 0 → Below w.heap.size w w1 → Ending.returned (.int .i64 e) = .returned (.int .i64 (doErr S o)) ∧ Outcome PRc w H F R (doS S o) w1) := err
  clear err
  cases hk : knownB a
  · have HE : Hid (wrongM S o = 2) := by show _ = _; rw [← ho]; simp [wrongM, hk]
    clear ho
    go_enter Try.func13, Try.ntmps13
    go_wp2_with fail
    refine (hrIsClient a _).mono ?_
    rintro e w ⟨rfl, rfl⟩
    rw [hk]
    go_wp2_with fail
    go_ret
    exact ERR.out _ _ HE.out (by omega) (Below.refl _ _)
  obtain ⟨n, rfl, hn⟩ := known_nat hk
  have HK : Hid (knownB (n : Int) = true) := hk
  have hn0 : (0 : Int) ≤ (n : Int) := by omega
  have hn1 : (n : Int) < 8 := by omega
  have HW : Hid (wrongM S o = noneErr (findM (fun m => m.number == b) (S.que n) 0)) := by show _ = _; rw [← ho]; simp [wrongM, hk]
  have HFE : Hid ((findM (fun m : SentD => m.number == b) (S.que n) 0 < 0) ↔ (S.que n).any (fun m => m.number == b) = false) := any_findL _ _
  have hql : (S.que n).length ≤ 10 := (HG.out.inv.que n hn).1
  obtain ⟨aq, cq, hvq, -, -, hcq⟩ := (HB.out.rep.que n hn).form
  have cque := HB.out.rep.cells.que n hn
  rw [hvq] at cque
  have HCQ : Hid (CellsAt w aq ((S.que n).flatMap msgCells)) := hcq
  have cque' : w.cell? ⟨H, 4 + n * 3 + 1, none⟩ = some (.slice aq (S.que n).length cq) := cque
  clear hvq hcq hk cque
  cases hhas : (S.que n).any (fun m => m.number == b)
  · have HE : Hid (wrongM S o = 7) := by show _ = _; rw [HW.out, noneErr, if_pos (HFE.out.2 hhas)]
    clear ho
    go_enter Try.func13, Try.ntmps13
    go_wp2_with fail
    refine (hrIsClient (n : Int) _).mono ?_
    rintro e w ⟨rfl, rfl⟩
    rw [HK.out]
    go_wp2_with fail
    refine (hrHasMessage (S.que n) aq cq b _ (by omega) HCQ.out).mono ?_
    rintro e w ⟨rfl, rfl⟩
    rw [hhas]
    go_wp2_with fail
    go_ret
    exact ERR.out _ _ HE.out (by omega) (Below.refl _ _)
  · have HHAS : Hid ((S.que n).any (fun m => m.number == b) = true) := hhas
    have HZ : Hid (wrongM S o = 0) := by
      show _ = _
      rw [HW.out, noneErr, if_neg]
      intro h
      have := HFE.out.1 h
      rw [hhas] at this
      cases this
    clear hhas
    have HBR : Hid (Below w.heap.size w w) := Below.refl _ _
    go_enter Try.func13, Try.ntmps13
    go_wp2_with fail
    refine (hrIsClient (n : Int) _).mono ?_
    rintro e w ⟨rfl, rfl⟩
    rw [HK.out]
    go_wp2_with fail
    refine (hrHasMessage (S.que n) aq cq b _ (by omega) HCQ.out).mono ?_
    rintro e w ⟨rfl, rfl⟩
    rw [HHAS.out]
    go_wp2_with fail
    refine (hrIsFull H x _ _ _ (HB.out.rep.below HBR.out) hlen).mono ?_
    rintro e w3 ⟨rfl, hb3⟩
    have HB3 : Hid (Below w.heap.size w w3) := HBR.out.trans (hb3.mono HBR.out.size)
    clear hb3
    by_cases hfull : (S.done.length : Int) < S.room
    · have HNF : Hid (decide ((lk S fil wait).room ≤ ((cat R).size : Int) / 42) = false) := by
        show decide (S.room ≤ _) = false
        rw [HB.out.size, decide_eq_false_iff_not]
        omega
      obtain ⟨q1, q2, q3⟩ := is_done HZ.out (writes_not (by rw [← ho]; show (7 : Int) ≠ 6; decide)) hfull
      have HD1 : Hid (doneB S o = true) := q1
      have HD2 : Hid (doErr S o = 0) := q2
      have HD3 : Hid (doS S o = { S with done := S.done ++ [o], que := setAt S.que n ((S.que n).filter (fun m => m.number != b)) }) := by show _ = _; rw [q3, ← ho]; simp [turnM]
      have HREC : Hid (recD o = ⟨7, n, ⟨#[]⟩, b, 0, 0, 0, 0⟩) := by show _ = _; rw [← ho]; simp [recD]
      have HRE : Hid (recOf o = encM ⟨7, n, ⟨#[]⟩, b, 0, 0, 0, 0⟩) := by show _ = _; rw [recOf, HREC.out]
      have HSM : Hid (Small ⟨7, n, ⟨#[]⟩, b, 0, 0, 0, 0⟩) := by
        have hv := wrong_valid HB.out.num (by have h1 := HG.out.inv.pub; have h2 := HB.out.few; omega) HZ.out
        have hr := HREC.out
        rw [hr] at hv
        exact valid_small hv
      clear q1 q2 q3 ho hfull
      rw [HNF.out]
      have k3 := HB3.out.cell (p := ⟨H, 4 + n * 3 + 1, none⟩) hH |>.trans cque'
      have hfr3 := (HB3.out.frozen (p := ⟨H, 4 + n * 3 + 1, none⟩) hH).trans (HB.out.rep.cells.free (4 + n * 3 + 1))
      have hH3 : H < w3.heap.size := Nat.lt_of_lt_of_le hH HB3.out.size
      go_wp2_with fail
      go_region_with (go_at_call 54; refine (hrWithoutMessage (S.que n) aq cq b _ (by omega) ((HCQ.out.below HB3.out).below below_drew)).mono ?_; rintro e w5 ⟨v, rfl, ho5, hb5⟩; obtain ⟨a1, c1', rfl, -, -, -⟩ := Row.form (row_of_own (w := w3) ho5 nilV).1; have c5 := cell_later (w := w3.drew) hb5 k3; have hfr5 := (hb5.frozen (p := ⟨H, 4 + n * 3 + 1, none⟩) hH3).trans hfr3)
      all_goals have HST : HStep w H x (w5.setCell ⟨H, 4 + n * 3 + 1, none⟩ (.slice a1 ((S.que n).filter (fun m => m.number != b)).length c1')) { lk S fil wait with que := setAt S.que n ((S.que n).filter (fun m => m.number != b)) } (cat R) := HStep.then (Upd.of_below HB3.out) (fun _ hk => .inl hk) ((HB.out.rep.below HB3.out).setQue hn (Upd.of_below (below_drew.trans hb5)) (row_of_own (w := w3) ho5 nilV).1 (row_of_own (w := w3) ho5 _).2)
      all_goals obtain ⟨x1, r1, u1, f1⟩ := HST
      all_goals have R1 : Hid _ := r1
      all_goals have U1 : Hid _ := u1
      all_goals have F1 : Hid _ := f1
      all_goals clear r1 u1 f1 ho5 hb5 c5 hfr5 k3 hfr3
      all_goals go_wp2_with fail
      all_goals refine (hrWrite H x1 _ (cat R) ⟨7, n, ⟨#[]⟩, b, 0, 0, 0, 0⟩ _ R1.out hlen HSM.out).mono ?_
      all_goals rintro e w6 ⟨rfl, hst⟩
      all_goals go_wp2_with fail
      all_goals go_ret
      all_goals refine ⟨ret_int HD2.out.symm, out_done HB.out HF.out HG.out HD1.out (fil1 := fil) (wait1 := wait) ?_ ?_⟩
      all_goals first
        | (rw [HD3.out, HRE.out]; exact (HStep.then U1.out F1.out hst).redone _)
        | (rw [HD3.out]; exact HB.out.lk.other rfl rfl (Int.le_refl _))
    · have HFU : Hid (decide ((lk S fil wait).room ≤ ((cat R).size : Int) / 42) = true) := by
        show decide (S.room ≤ _) = true
        rw [HB.out.size, decide_eq_true_iff]
        omega
      have HE : Hid (doErr S o = 9) := is_full HZ.out (writes_not (by rw [← ho]; show (7 : Int) ≠ 6; decide)) hfull
      clear ho hfull
      rw [HFU.out]
      go_wp2_with fail
      go_ret
      exact ⟨ret_int HE.out.symm, out_same HP.out HB3.out (not_done (by rw [HE.out]; omega)).2.1⟩
end Go.Proofs.Ytmjdndhfmfjbiab

namespace Go.Proofs.Ytmjdndhfmfjbiab
open Go.RowKit

theorem one_any (ws : List WaitD) (n : Int) : (theOne ws n).2 = ws.any (fun m => m.number == n) := by
  unfold theOne
  cases h : ws.find? (fun m => m.number == n) with
  | none => rw [List.find?_eq_none] at h; symm; simp only [List.any_eq_false]; exact h
  | some m => symm; exact List.any_eq_true.2 ⟨m, List.mem_of_find?_eq_some h, List.find?_some (p := fun m : WaitD => m.number == n) h⟩
theorem one_mem {ws : List WaitD} {n : Int} (h : ws.any (fun m => m.number == n) = true) : (theOne ws n).1 ∈ ws ∧ (theOne ws n).1.number = n := by
  rw [← one_any] at h
  unfold theOne at h ⊢
  cases hf : ws.find? (fun m => m.number == n) with
  | none => rw [hf] at h; cases h
  | some m => exact ⟨List.mem_of_find?_eq_some hf, by simpa using List.find?_some (p := fun m : WaitD => m.number == n) hf⟩

set_option maxRecDepth 100000 in
set_option maxHeartbeats 4000000 in
theorem hrCancel {w : World} {H : Nat} {F : Nat → Prop} {S : RefS} {R : List ByteArray} (a b c d : Int) (s : ByteArray) (hp : PRc w H F S R) (hg : Good S) :
    Calls Try.prog 22 #[.pointer (some ⟨H, 0, none⟩), .int .i64 b] w fun e w' =>
      e = .returned (.int .i64 (doErr S ⟨4, a, b, c, d, s⟩)) ∧ Outcome PRc w H F R (doS S ⟨4, a, b, c, d, s⟩) w' := by
  have HP : Hid (PRc w H F S R) := hp
  obtain ⟨x, fil, wait, hb, hF⟩ := hp
  have HB : Hid (Br w H x S fil wait R) := hb
  have HF : Hid (∀ k, F k ↔ HFP H x k) := hF
  have HG : Hid (Good S) := hg
  have hlen := hb.len
  have hH := hb.rep.cells.lt
  clear hb hF hg
  generalize ho : (⟨4, a, b, c, d, s⟩ : OpD) = o
  have err : ∀ e w1, wrongM S o = e → e ≠ 0 → Below w.heap.size w w1 → Ending.returned (.int .i64 e) = .returned (.int .i64 (doErr S o)) ∧ Outcome PRc w H F R (doS S o) w1 := fun e w1 h1 h0 hbw => by
    have h2 := is_wrong h1 h0
    exact ⟨ret_int h2.symm, out_same HP.out hbw (not_done (by rw [h2]; exact h0)).2.1⟩
  have ERR : Hid (∀ e w1, wrongM S o = e → e ≠ 0 → Below w.heap.size w w1 → Ending.returned (.int .i64 e) = .returned (.int .i64 (doErr S o)) ∧ Outcome PRc w H F R (doS S o) w1) := err
  clear err
  have HW : Hid (wrongM S o = noneErr (findM (fun m => m.number == b) S.wait 0)) := by show _ = _; rw [← ho]; simp [wrongM]
  have HFE : Hid ((findM (fun m : WaitD => m.number == b) S.wait 0 < 0) ↔ wait.any (fun m => m.number == b) = false) := by
    have h := HB.out.lk.waits b
    constructor
    · intro hlt; rw [decide_eq_true hlt] at h; simpa using h.symm
    · intro hf; rw [hf] at h; simpa using h
  have hwl : wait.length ≤ 64 := by rw [HB.out.lk.waitP.length_eq]; exact HG.out.inv.wait.1
  obtain ⟨aw, cw, hvw, -, -, hcw⟩ := HB.out.rep.wait.form
  have cwait := HB.out.rep.cells.wait
  rw [hvw] at cwait
  have HCW : Hid (CellsAt w aw (wait.flatMap waitCells)) := hcw
  have cwait' : w.cell? ⟨H, 28, none⟩ = some (.slice aw wait.length cw) := cwait
  clear hvw hcw cwait
  have HONE : Hid ((theOne wait b).2 = wait.any (fun m => m.number == b)) := one_any _ _
  cases hhas : wait.any (fun m => m.number == b)
  · have HE : Hid (wrongM S o = 7) := by show _ = _; rw [HW.out, noneErr, if_pos (HFE.out.2 hhas)]
    clear ho
    go_enter Try.func22, Try.ntmps22
    go_wp2_with fail
    refine (hrFindWaiting wait aw cw b _ (by omega) HCW.out).mono ?_
    rintro e w1 ⟨rfl, hb1⟩
    rw [HONE.out, hhas]
    go_wp2_with fail
    go_ret
    exact ERR.out _ _ HE.out (by omega) (hb1.alloc hb1.size _)
  · have HHAS : Hid (wait.any (fun m => m.number == b) = true) := hhas
    have HZ : Hid (wrongM S o = 0) := by
      show _ = _
      rw [HW.out, noneErr, if_neg]
      intro h
      have := HFE.out.1 h
      rw [hhas] at this
      cases this
    clear hhas
    go_enter Try.func22, Try.ntmps22
    go_wp2_with fail
    refine (hrFindWaiting wait aw cw b _ (by omega) HCW.out).mono ?_
    rintro e w1 ⟨rfl, hb1⟩
    rw [HONE.out, HHAS.out]
    have HB1 : Hid (Below w.heap.size w w1) := hb1
    have HBA : Hid (∀ o, Below w.heap.size w (w1.alloc o)) := fun o => hb1.alloc hb1.size _
    clear hb1
    go_wp2_with fail
    generalize hWA : w1.alloc _ = wa
    have HBX : Hid (Below w.heap.size w wa) := by rw [← hWA]; exact HBA.out _
    clear hWA HBA HB1
    refine (hrIsFull H x _ _ _ (HB.out.rep.below HBX.out) hlen).mono ?_
    rintro e w3 ⟨rfl, hb3⟩
    have HB3 : Hid (Below w.heap.size w w3) := HBX.out.trans (hb3.mono HBX.out.size)
    clear hb3
    by_cases hfull : (S.done.length : Int) < S.room
    · have HNF : Hid (decide ((lk S fil wait).room ≤ ((cat R).size : Int) / 42) = false) := by
        show decide (S.room ≤ _) = false
        rw [HB.out.size, decide_eq_false_iff_not]
        omega
      obtain ⟨q1, q2, q3⟩ := is_done HZ.out (writes_not (by rw [← ho]; show (4 : Int) ≠ 6; decide)) hfull
      have HD1 : Hid (doneB S o = true) := q1
      have HD2 : Hid (doErr S o = 0) := q2
      have HD3 : Hid (doS S o = { S with done := S.done ++ [o], wait := S.wait.filter (fun m => m.number != b) }) := by show _ = _; rw [q3, ← ho]; simp [turnM]
      have HREC : Hid (recD o = ⟨4, 0, ⟨#[]⟩, b, 0, 0, 0, 0⟩) := by show _ = _; rw [← ho]; simp [recD]
      have HRE : Hid (recOf o = encM ⟨4, 0, ⟨#[]⟩, b, 0, 0, 0, 0⟩) := by show _ = _; rw [recOf, HREC.out]
      have HSM : Hid (Small ⟨4, 0, ⟨#[]⟩, b, 0, 0, 0, 0⟩) := by
        have hv := wrong_valid HB.out.num (by have h1 := HG.out.inv.pub; have h2 := HB.out.few; omega) HZ.out
        have hr := HREC.out
        rw [hr] at hv
        exact valid_small hv
      clear q1 q2 q3 ho hfull
      rw [HNF.out]
      have k3 := HB3.out.cell (p := ⟨H, 28, none⟩) hH |>.trans cwait'
      have hfr3 := (HB3.out.frozen (p := ⟨H, 28, none⟩) hH).trans (HB.out.rep.cells.free 28)
      have hH3 : H < w3.heap.size := Nat.lt_of_lt_of_le hH HB3.out.size
      go_wp2_with fail
      refine (hrWithoutWaiting wait aw cw b _ (by omega) (HCW.out.below HB3.out)).mono ?_
      rintro e w5 ⟨v, rfl, ho5, hb5⟩
      obtain ⟨a1, c1', rfl, -, -, -⟩ := Row.form (row_of_own (w := w3) ho5 nilV).1
      have c5 := cell_later hb5 k3
      have hfr5 := (hb5.frozen (p := ⟨H, 28, none⟩) hH3).trans hfr3
      have HST : HStep w H x (w5.setCell ⟨H, 28, none⟩ (.slice a1 (wait.filter (fun m => m.number != b)).length c1')) { lk S fil wait with wait := wait.filter (fun m => m.number != b) } (cat R) := HStep.then (Upd.of_below HB3.out) (fun _ hk => .inl hk) ((HB.out.rep.below HB3.out).setWait (Upd.of_below hb5) (row_of_own (w := w3) ho5 nilV).1 (row_of_own (w := w3) ho5 _).2)
      all_goals obtain ⟨x1, r1, u1, f1⟩ := HST
      have hH5 : H < w5.heap.size := Nat.lt_of_lt_of_le hH3 hb5.size
      all_goals have R1 : Hid _ := r1
      all_goals have U1 : Hid _ := u1
      all_goals have F1 : Hid _ := f1
      all_goals clear r1 u1 f1 ho5 hb5 k3 hfr3
      all_goals go_wp2_with fail
      all_goals refine (hrWrite H x1 _ (cat R) ⟨4, 0, ⟨#[]⟩, b, 0, 0, 0, 0⟩ _ R1.out hlen HSM.out).mono ?_
      all_goals rintro e w6 ⟨rfl, hst⟩
      all_goals go_wp2_with fail
      all_goals go_ret
      all_goals refine ⟨ret_int HD2.out.symm, out_done HB.out HF.out HG.out HD1.out (fil1 := fil) (wait1 := wait.filter (fun m => m.number != b)) ?_ ?_⟩
      all_goals first
        | (rw [HD3.out, HRE.out]; exact (HStep.then U1.out F1.out hst).redone _)
        | (rw [HD3.out]; exact (HB.out.lk.cancel b).other rfl rfl (Int.le_refl _))
    · have HFU : Hid (decide ((lk S fil wait).room ≤ ((cat R).size : Int) / 42) = true) := by
        show decide (S.room ≤ _) = true
        rw [HB.out.size, decide_eq_true_iff]
        omega
      have HE : Hid (doErr S o = 9) := is_full HZ.out (writes_not (by rw [← ho]; show (4 : Int) ≠ 6; decide)) hfull
      clear ho hfull
      rw [HFU.out]
      go_wp2_with fail
      go_ret
      exact ⟨ret_int HE.out.symm, out_same HP.out HB3.out (not_done (by rw [HE.out]; omega)).2.1⟩
end Go.Proofs.Ytmjdndhfmfjbiab

namespace Go.Proofs.Ytmjdndhfmfjbiab
open Go.RowKit

set_option maxRecDepth 100000 in
set_option maxHeartbeats 4000000 in
theorem hrMove {w : World} {H : Nat} {F : Nat → Prop} {S : RefS} {R : List ByteArray} (a b c d : Int) (s : ByteArray) (hp : PRc w H F S R) (hg : Good S) :
    Calls Try.prog 23 #[.pointer (some ⟨H, 0, none⟩), .int .i64 b, .int .i64 c] w fun e w' =>
      e = .returned (.int .i64 (doErr S ⟨5, a, b, c, d, s⟩)) ∧ Outcome PRc w H F R (doS S ⟨5, a, b, c, d, s⟩) w' := by
  have HP : Hid (PRc w H F S R) := hp
  obtain ⟨x, fil, wait, hb, hF⟩ := hp
  have HB : Hid (Br w H x S fil wait R) := hb
  have HF : Hid (∀ k, F k ↔ HFP H x k) := hF
  have HG : Hid (Good S) := hg
  have hlen := hb.len
  have hH := hb.rep.cells.lt
  clear hb hF hg
  generalize ho : (⟨5, a, b, c, d, s⟩ : OpD) = o
  have err : ∀ e w1, wrongM S o = e → e ≠ 0 → Below w.heap.size w w1 → Ending.returned (.int .i64 e) = .returned (.int .i64 (doErr S o)) ∧ Outcome PRc w H F R (doS S o) w1 := fun e w1 h1 h0 hbw => by
    have h2 := is_wrong h1 h0
    exact ⟨ret_int h2.symm, out_same HP.out hbw (not_done (by rw [h2]; exact h0)).2.1⟩
  have ERR : Hid (∀ e w1, wrongM S o = e → e ≠ 0 → Below w.heap.size w w1 → Ending.returned (.int .i64 e) = .returned (.int .i64 (doErr S o)) ∧ Outcome PRc w H F R (doS S o) w1) := err
  clear err
  have HW : Hid (wrongM S o = moveErr (findM (fun m => m.number == b) S.wait 0) c) := by show _ = _; rw [← ho]; simp [wrongM]
  have HFE : Hid ((findM (fun m : WaitD => m.number == b) S.wait 0 < 0) ↔ wait.any (fun m => m.number == b) = false) := by
    have h := HB.out.lk.waits b
    constructor
    · intro hlt; rw [decide_eq_true hlt] at h; simpa using h.symm
    · intro hf; rw [hf] at h; simpa using h
  have hwl : wait.length ≤ 64 := by rw [HB.out.lk.waitP.length_eq]; exact HG.out.inv.wait.1
  obtain ⟨aw, cw, hvw, -, -, hcw⟩ := HB.out.rep.wait.form
  have cwait := HB.out.rep.cells.wait
  rw [hvw] at cwait
  have HCW : Hid (CellsAt w aw (wait.flatMap waitCells)) := hcw
  have cwait' : w.cell? ⟨H, 28, none⟩ = some (.slice aw wait.length cw) := cwait
  clear hvw hcw cwait
  have HONE : Hid ((theOne wait b).2 = wait.any (fun m => m.number == b)) := one_any _ _
  cases hhas : wait.any (fun m => m.number == b)
  · have HE : Hid (wrongM S o = 7) := by show _ = _; rw [HW.out, moveErr, if_pos (HFE.out.2 hhas)]
    clear ho
    go_enter Try.func23, Try.ntmps23
    go_wp2_with fail
    refine (hrFindWaiting wait aw cw b _ (by omega) HCW.out).mono ?_
    rintro e w1 ⟨rfl, hb1⟩
    rw [HONE.out, hhas]
    go_wp2_with fail
    go_ret
    exact ERR.out _ _ HE.out (by omega) (hb1.alloc hb1.size _)
  · have HHAS : Hid (wait.any (fun m => m.number == b) = true) := hhas
    have HNN : Hid (¬ findM (fun m : WaitD => m.number == b) S.wait 0 < 0) := fun h => by
      have := HFE.out.1 h
      rw [hhas] at this
      cases this
    have HMEM : Hid ((theOne wait b).1 ∈ wait ∧ (theOne wait b).1.number = b) := one_mem hhas
    clear hhas
    generalize hy : (theOne wait b).1 = y at *
    have HTO : Hid (theOne wait b = (y, true)) := by
      show _ = _
      have h1 := HONE.out
      rw [HHAS.out] at h1
      rw [← hy, ← h1]
    clear hy
    by_cases hc : 1 ≤ c ∧ c ≤ 1099511627776
    · have HZ : Hid (wrongM S o = 0) := by
        show _ = _
        rw [HW.out, moveErr, if_neg HNN.out, if_neg (by omega), if_neg (by omega)]
      have hc0 : (c == 0) = false := by simp; omega
      have HIT : Hid (isTimeM c = true) := by show _ = _; unfold isTimeM; simp; omega
      obtain ⟨hc1, hc2⟩ := hc
      go_enter Try.func23, Try.ntmps23
      go_wp2_with fail
      refine (hrFindWaiting wait aw cw b _ (by omega) HCW.out).mono ?_
      rintro e w1 ⟨rfl, hb1⟩
      rw [HTO.out]
      have HB1 : Hid (Below w.heap.size w w1) := hb1
      have HBA : Hid (∀ o, Below w.heap.size w (w1.alloc o)) := fun o => hb1.alloc hb1.size _
      have hs1 := hb1.size
      clear hb1
      go_wp2_with fail
      refine (hrIsInstant c _).mono ?_
      rintro e wa ⟨rfl, hwa⟩
      rw [HIT.out, hwa]
      clear hwa wa
      go_wp2_with fail
      generalize hWA : w1.alloc _ = wa
      have HBX : Hid (Below w.heap.size w wa) := by rw [← hWA]; exact HBA.out _
      have m0 : wa.cell? ⟨w1.heap.size, 0, none⟩ = some (.int .i64 y.number) := by rw [← hWA]; simp
      have m1 : wa.cell? ⟨w1.heap.size, 1, none⟩ = some (.string y.topic) := by rw [← hWA]; simp
      have m2 : wa.cell? ⟨w1.heap.size, 2, none⟩ = some (.int .i64 y.value) := by rw [← hWA]; simp
      have m3 : wa.cell? ⟨w1.heap.size, 3, none⟩ = some (.int .i64 y.deadline) := by rw [← hWA]; simp
      have m4 : wa.cell? ⟨w1.heap.size, 4, none⟩ = some (.int .i64 y.life) := by rw [← hWA]; simp
      have mf : wa.frozen? ⟨w1.heap.size, 3, none⟩ = false := by rw [← hWA]; simp
      have hsa : w1.heap.size < wa.heap.size := by rw [← hWA]; simp
      clear hWA HBA HB1
      refine (hrIsFull H x _ _ _ (HB.out.rep.below HBX.out) hlen).mono ?_
      rintro e w3 ⟨rfl, hb3⟩
      have HB3 : Hid (Below w.heap.size w w3) := HBX.out.trans (hb3.mono HBX.out.size)
      have n0 := cell_later hb3 m0
      have n1 := cell_later hb3 m1
      have n2 := cell_later hb3 m2
      have n3 := cell_later hb3 m3
      have n4 := cell_later hb3 m4
      have nf := (hb3.frozen (p := ⟨w1.heap.size, 3, none⟩) hsa).trans mf
      have hs3 : w1.heap.size < w3.heap.size := Nat.lt_of_lt_of_le hsa hb3.size
      clear hb3 m0 m1 m2 m3 m4 mf
      by_cases hfull : (S.done.length : Int) < S.room
      · have HNF : Hid (decide ((lk S fil wait).room ≤ ((cat R).size : Int) / 42) = false) := by
          show decide (S.room ≤ _) = false
          rw [HB.out.size, decide_eq_false_iff_not]
          omega
        obtain ⟨q1, q2, q3⟩ := is_done HZ.out (writes_not (by rw [← ho]; show (5 : Int) ≠ 6; decide)) hfull
        have HD1 : Hid (doneB S o = true) := q1
        have HD2 : Hid (doErr S o = 0) := q2
        have HD3 : Hid (doS S o = { S with done := S.done ++ [o], wait := moveL S.wait b (laterM S.time c) }) := by show _ = _; rw [q3, ← ho]; simp [turnM]
        have HREC : Hid (recD o = ⟨5, 0, ⟨#[]⟩, b, 0, c, 0, 0⟩) := by show _ = _; rw [← ho]; simp [recD]
        have HRE : Hid (recOf o = encM ⟨5, 0, ⟨#[]⟩, b, 0, c, 0, 0⟩) := by show _ = _; rw [recOf, HREC.out]
        have HSM : Hid (Small ⟨5, 0, ⟨#[]⟩, b, 0, c, 0, 0⟩) := by
          have hv := wrong_valid HB.out.num (by have h1 := HG.out.inv.pub; have h2 := HB.out.few; omega) HZ.out
          have hr := HREC.out
          rw [hr] at hv
          exact valid_small hv
        clear q1 q2 q3 ho hfull
        rw [HNF.out]
        have ht0 := HG.out.inv.time0
        have ht1 := HG.out.inv.time1
        have k2 : w3.cell? ⟨H, 2, none⟩ = some (.int .i64 S.time) := HB3.out.cell (p := ⟨H, 2, none⟩) hH |>.trans HB.out.rep.cells.time
        have k3 := HB3.out.cell (p := ⟨H, 28, none⟩) hH |>.trans cwait'
        have hfr3 := (HB3.out.frozen (p := ⟨H, 28, none⟩) hH).trans (HB.out.rep.cells.free 28)
        have hH3 : H < w3.heap.size := Nat.lt_of_lt_of_le hH HB3.out.size
        have hHw : H ≠ w1.heap.size := by omega
        go_wp2_with fail
        refine (hrDeadlineOf S.time c _ ht0 ht1 (by omega) hc2).mono ?_
        rintro e w3 ⟨rfl, rfl⟩
        have HB4 : Hid (Below w.heap.size w (w3.setCell ⟨w1.heap.size, 3, none⟩ (.int .i64 (laterM S.time c)))) := HB3.out.setCell (p := ⟨w1.heap.size, 3, none⟩) hs1 _
        go_wp2_with fail
        generalize hW4 : w3.setCell _ _ = w4 at *
        have p0 : w4.cell? ⟨w1.heap.size, 0, none⟩ = some (.int .i64 y.number) := by rw [← hW4, World.cell?_setCell_other _ _ _ _ (by simp)]; exact n0
        have p1 : w4.cell? ⟨w1.heap.size, 1, none⟩ = some (.string y.topic) := by rw [← hW4, World.cell?_setCell_other _ _ _ _ (by simp)]; exact n1
        have p2 : w4.cell? ⟨w1.heap.size, 2, none⟩ = some (.int .i64 y.value) := by rw [← hW4, World.cell?_setCell_other _ _ _ _ (by simp)]; exact n2
        have p3 : w4.cell? ⟨w1.heap.size, 3, none⟩ = some (.int .i64 (laterM S.time c)) := by rw [← hW4]; exact World.cell?_setCell_same _ _ _ n3
        have p4 : w4.cell? ⟨w1.heap.size, 4, none⟩ = some (.int .i64 y.life) := by rw [← hW4, World.cell?_setCell_other _ _ _ _ (by simp)]; exact n4
        have hs4 : w1.heap.size < w4.heap.size := by rw [← hW4]; simp [World.setCell]; exact hs3
        have k4 := HB4.out.cell (p := ⟨H, 28, none⟩) hH |>.trans cwait'
        have hfr4 := (HB4.out.frozen (p := ⟨H, 28, none⟩) hH).trans (HB.out.rep.cells.free 28)
        have hH4 : H < w4.heap.size := Nat.lt_of_lt_of_le hH HB4.out.size
        clear hW4 n0 n1 n2 n3 n4 nf k2 k3 hfr3
        refine (hrWithoutWaiting wait aw cw b _ (by omega) (HCW.out.below HB4.out)).mono ?_
        rintro e w5 ⟨v, rfl, ho5, hb5⟩
        obtain ⟨a1, c1', rfl, -, -, hc5⟩ := Row.form (row_of_own (w := w4) ho5 nilV).1
        have HC5 : Hid (CellsAt w5 a1 ((wait.filter (fun m => m.number != b)).flatMap waitCells)) := hc5
        have hl5 : (wait.filter (fun m => m.number != b)).length ≤ 64 := Nat.le_trans (List.length_filter_le _ _) hwl
        have r0 := cell_later hb5 p0
        have r1 := cell_later hb5 p1
        have r2 := cell_later hb5 p2
        have r3 := cell_later hb5 p3
        have r4 := cell_later hb5 p4
        have k5 := cell_later hb5 k4
        have hfr5 := (hb5.frozen (p := ⟨H, 28, none⟩) hH4).trans hfr4
        have HB5 : Hid (Below w.heap.size w w5) := HB4.out.trans (hb5.mono HB4.out.size)
        have hH5 : H < w5.heap.size := Nat.lt_of_lt_of_le hH4 hb5.size
        have hs5 : w1.heap.size < w5.heap.size := Nat.lt_of_lt_of_le hs4 hb5.size
        have HWW : Hid (∀ w', CellsAt w' a1 ((wait.filter (fun m => m.number != b)).flatMap waitCells) → Calls Try.prog 60 #[.slice a1 (wait.filter (fun m => m.number != b)).length c1', .agg #[.int .i64 y.number, .string y.topic, .int .i64 y.value, .int .i64 (laterM S.time c), .int .i64 y.life]] w' fun e w6 => ∃ v, e = .returned v ∧
            w6.ownsRow w'.heap.size 50 5 v (insM aheadB { y with deadline := laterM S.time c } (wait.filter (fun m => m.number != b))).length ((insM aheadB { y with deadline := laterM S.time c } (wait.filter (fun m => m.number != b))).flatMap waitCells) ∧ Below w'.heap.size w' w6) :=
          fun w' h => hrWithWaiting (wait.filter (fun m => m.number != b)) a1 c1' { y with deadline := laterM S.time c } w' (by omega) h
        clear ho5 hb5 hc5 p0 p1 p2 p3 p4 k4 hfr4
        go_wp2_with fail
        refine (HWW.out _ HC5.out).mono ?_
        rintro e w6 ⟨v, rfl, ho6, hb6⟩
        obtain ⟨a2, c2', rfl, -, -, -⟩ := Row.form (row_of_own (w := w5) ho6 nilV).1
        have c6 := cell_later hb6 k5
        have hfr6 := (hb6.frozen (p := ⟨H, 28, none⟩) hH5).trans hfr5
        have hH6 : H < w6.heap.size := Nat.lt_of_lt_of_le hH5 hb6.size
        have HST : HStep w H x (w6.setCell ⟨H, 28, none⟩ (.slice a2 (insM aheadB { y with deadline := laterM S.time c } (wait.filter (fun m => m.number != b))).length c2')) { lk S fil wait with wait := insM aheadB { y with deadline := laterM S.time c } (wait.filter (fun m => m.number != b)) } (cat R) := HStep.then (Upd.of_below HB5.out) (fun _ hk => .inl hk) ((HB.out.rep.below HB5.out).setWait (Upd.of_below hb6) (row_of_own (w := w5) ho6 nilV).1 (row_of_own (w := w5) ho6 _).2)
        obtain ⟨x1, z1, u1, f1⟩ := HST
        have R1 : Hid _ := z1
        have U1 : Hid _ := u1
        have F1 : Hid _ := f1
        clear z1 u1 f1 ho6 hb6 k5 hfr5 r0 r1 r2 r3 r4
        go_wp2_with fail
        refine (hrWrite H x1 _ (cat R) ⟨5, 0, ⟨#[]⟩, b, 0, c, 0, 0⟩ _ R1.out hlen HSM.out).mono ?_
        rintro e w7 ⟨rfl, hst⟩
        go_wp2_with fail
        go_ret
        refine ⟨ret_int HD2.out.symm, out_done HB.out HF.out HG.out HD1.out (fil1 := fil) (wait1 := insM aheadB { y with deadline := laterM S.time c } (wait.filter (fun m => m.number != b))) ?_ ?_⟩
        · rw [HD3.out, HRE.out]; exact (HStep.then U1.out F1.out hst).redone _
        · rw [HD3.out]; exact (HB.out.lk.move HMEM.out.1 HMEM.out.2).other rfl rfl (Int.le_refl _)
      · have HFU : Hid (decide ((lk S fil wait).room ≤ ((cat R).size : Int) / 42) = true) := by
          show decide (S.room ≤ _) = true
          rw [HB.out.size, decide_eq_true_iff]
          omega
        have HE : Hid (doErr S o = 9) := is_full HZ.out (writes_not (by rw [← ho]; show (5 : Int) ≠ 6; decide)) hfull
        clear ho hfull
        rw [HFU.out]
        go_wp2_with fail
        go_ret
        exact ⟨ret_int HE.out.symm, out_same HP.out HB3.out (not_done (by rw [HE.out]; omega)).2.1⟩
    · have HE : Hid (wrongM S o = 5) := by
        show _ = _
        rw [HW.out, moveErr, if_neg HNN.out]
        by_cases h1 : c < 1
        · rw [if_pos h1]
        · rw [if_neg h1, if_pos (by omega)]
      clear ho
      by_cases h0 : c = 0
      · subst h0
        go_enter Try.func23, Try.ntmps23
        go_wp2_with fail
        refine (hrFindWaiting wait aw cw b _ (by omega) HCW.out).mono ?_
        rintro e w1 ⟨rfl, hb1⟩
        rw [HTO.out]
        go_wp2_with fail
        go_ret
        exact ERR.out _ _ HE.out (by omega) (hb1.alloc hb1.size _)
      · have hc0 : (c == 0) = false := by simp; omega
        have HIT : Hid (isTimeM c = false) := by show _ = _; unfold isTimeM; simp; omega
        clear hc
        go_enter Try.func23, Try.ntmps23
        go_wp2_with fail
        refine (hrFindWaiting wait aw cw b _ (by omega) HCW.out).mono ?_
        rintro e w1 ⟨rfl, hb1⟩
        rw [HTO.out]
        go_wp2_with fail
        refine (hrIsInstant c _).mono ?_
        rintro e wa ⟨rfl, hwa⟩
        rw [HIT.out, hwa]
        go_wp2_with fail
        go_ret
        exact ERR.out _ _ HE.out (by omega) (hb1.alloc hb1.size _)
end Go.Proofs.Ytmjdndhfmfjbiab

namespace Go.Proofs.Ytmjdndhfmfjbiab
open Go.RowKit

theorem sendAll_pub (D : List WaitD) : ∀ (T : RefS), (sendAll T D).pub = T.pub := by
  induction D with
  | nil => exact fun T => rfl
  | cons m D ih => intro T; rw [sendAll_cons, ih, (sendTo_keeps T m 8).2.2.2.2.2.1]

set_option maxRecDepth 100000 in
set_option maxHeartbeats 4000000 in
theorem hrTick {w : World} {H : Nat} {F : Nat → Prop} {S : RefS} {R : List ByteArray} (a b c d : Int) (s : ByteArray) (hp : PRc w H F S R) (hg : Good S) :
    Calls Try.prog 19 #[.pointer (some ⟨H, 0, none⟩), .int .i64 b] w fun e w' =>
      e = .returned (.int .i64 (doErr S ⟨6, a, b, c, d, s⟩)) ∧ Outcome PRc w H F R (doS S ⟨6, a, b, c, d, s⟩) w' := by
  have HP : Hid (PRc w H F S R) := hp
  obtain ⟨x, fil, wait, hb, hF⟩ := hp
  have HB : Hid (Br w H x S fil wait R) := hb
  have HF : Hid (∀ k, F k ↔ HFP H x k) := hF
  have HG : Hid (Good S) := hg
  have hlen := hb.len
  have hH := hb.rep.cells.lt
  clear hb hF hg
  generalize ho : (⟨6, a, b, c, d, s⟩ : OpD) = o
  have err : ∀ e w1, wrongM S o = e → e ≠ 0 → Below w.heap.size w w1 → Ending.returned (.int .i64 e) = .returned (.int .i64 (doErr S o)) ∧ Outcome PRc w H F R (doS S o) w1 := fun e w1 h1 h0 hbw => by
    have h2 := is_wrong h1 h0
    exact ⟨ret_int h2.symm, out_same HP.out hbw (not_done (by rw [h2]; exact h0)).2.1⟩
  have ERR : Hid (∀ e w1, wrongM S o = e → e ≠ 0 → Below w.heap.size w w1 → Ending.returned (.int .i64 e) = .returned (.int .i64 (doErr S o)) ∧ Outcome PRc w H F R (doS S o) w1) := err
  clear err
  have HW : Hid (wrongM S o = tickErr b) := by show _ = _; rw [← ho]; simp [wrongM]
  have HWB : Hid (writesB S o = decide (S.time < b)) := by show _ = _; rw [← ho]; simp [writesB]
  have ctime : w.cell? ⟨H, 2, none⟩ = some (.int .i64 S.time) := HB.out.rep.cells.time
  cases hit : isTimeM b
  · have HE : Hid (wrongM S o = 5) := by show _ = _; rw [HW.out, tickErr, hit]; rfl
    clear ho
    go_enter Try.func19, Try.ntmps19
    go_wp2_with fail
    refine (hrIsInstant b _).mono ?_
    rintro e w ⟨rfl, rfl⟩
    rw [hit]
    go_wp2_with fail
    go_ret
    exact ERR.out _ _ HE.out (by omega) (Below.refl _ _)
  have HIT : Hid (isTimeM b = true) := hit
  have HZ : Hid (wrongM S o = 0) := by show _ = _; rw [HW.out, tickErr, hit]; rfl
  obtain ⟨hb0, hb1⟩ := time_ok hit
  clear hit
  by_cases hlt : S.time < b
  · have HWR : Hid (writesB S o = true) := by show _ = _; rw [HWB.out, decide_eq_true hlt]
    have hle : ¬ b ≤ S.time := by omega
    have HBR : Hid (Below w.heap.size w w) := Below.refl _ _
    go_enter Try.func19, Try.ntmps19
    go_wp2_with fail
    refine (hrIsInstant b _).mono ?_
    rintro e w ⟨rfl, rfl⟩
    rw [HIT.out]
    go_wp2_with fail
    refine (hrIsFull H x _ _ _ HB.out.rep hlen).mono ?_
    rintro e w3 ⟨rfl, hb3⟩
    have HB3 : Hid (Below w.heap.size w w3) := hb3
    clear hb3
    by_cases hfull : (S.done.length : Int) < S.room
    · have HNF : Hid (decide ((lk S fil wait).room ≤ ((cat R).size : Int) / 42) = false) := by
        show decide (S.room ≤ _) = false
        rw [HB.out.size, decide_eq_false_iff_not]
        omega
      obtain ⟨q1, q2, q3⟩ := is_done HZ.out HWR.out hfull
      have HD1 : Hid (doneB S o = true) := q1
      have HD2 : Hid (doErr S o = 0) := q2
      have HD3 : Hid (doS S o = tickM { S with done := S.done ++ [o] } b) := by show _ = _; rw [q3, ← ho]; simp [turnM]
      have HREC : Hid (recD o = ⟨6, 0, ⟨#[]⟩, 0, 0, 0, 0, b⟩) := by show _ = _; rw [← ho]; simp [recD]
      have HRE : Hid (recOf o = encM ⟨6, 0, ⟨#[]⟩, 0, 0, 0, 0, b⟩) := by show _ = _; rw [recOf, HREC.out]
      have HSM : Hid (Small ⟨6, 0, ⟨#[]⟩, 0, 0, 0, 0, b⟩) := by
        have hv := wrong_valid HB.out.num (by have h1 := HG.out.inv.pub; have h2 := HB.out.few; omega) HZ.out
        have hr := HREC.out
        rw [hr] at hv
        exact valid_small hv
      clear q1 q2 q3 ho hfull
      rw [HNF.out]
      have k2 : w3.cell? ⟨H, 2, none⟩ = some (.int .i64 S.time) := HB3.out.cell (p := ⟨H, 2, none⟩) hH |>.trans ctime
      have hfr3 := (HB3.out.frozen (p := ⟨H, 2, none⟩) hH).trans (HB.out.rep.cells.free 2)
      have hH3 : H < w3.heap.size := Nat.lt_of_lt_of_le hH HB3.out.size
      -- the state with the record, as the document has it
      obtain ⟨S1, hS1⟩ : ∃ S1 : RefS, S1 = { S with done := S.done ++ [o] } := ⟨_, rfl⟩
      have HS1 : Hid (S1 = { S with done := S.done ++ [o] }) := hS1
      have HI1 : Hid (S1.fil = S.fil ∧ S1.wait = S.wait ∧ S1.que = S.que ∧ S1.lost = S.lost ∧ S1.pub = S.pub) := by rw [hS1]; exact ⟨rfl, rfl, rfl, rfl, rfl⟩
      have R0 : Hid (HRep w3 H x (lk S1 fil wait) (cat R)) := by rw [hS1]; exact (HB.out.rep.below HB3.out).redone _
      have HT1 : Hid (HStep w3 H x (w3.setCell ⟨H, 2, none⟩ (.int .i64 b)) { lk S1 fil wait with time := b } (cat R)) := R0.out.setTime b
      clear hS1
      obtain ⟨x1, r1, u1, f1⟩ := HT1.out
      have R1 : Hid (HRep (w3.setCell ⟨H, 2, none⟩ (.int .i64 b)) H x1 { lk S1 fil wait with time := b } (cat R)) := r1
      have U1 : Hid (Upd (HFP H x) w3 (w3.setCell ⟨H, 2, none⟩ (.int .i64 b))) := u1
      have F1 : Hid (∀ k, HFP H x1 k → HFP H x k ∨ w3.heap.size ≤ k) := f1
      clear r1 u1 f1
      go_wp2_with fail
      refine (hrDropOver H x1 { lk S1 fil wait with time := b } (cat R) _ R1.out hb0 hb1 (fun n hn => ?_)).mono ?_
      · show (S1.que n).length ≤ 1048576 ∧ ∀ m ∈ S1.que n, _
        rw [HI1.out.2.2.1]
        have := HG.out.inv.que n hn
        exact ⟨by omega, this.2⟩
      rintro e w4 ⟨rfl, hst4⟩
      have HOLD : Hid (oldTo { lk S1 fil wait with time := b } 8 = lk (agedTo S1 b 8) fil wait) := by show _ = _; rw [← aged_old, lk_aged]
      rw [HOLD.out] at hst4
      obtain ⟨x2, r2, u2, f2⟩ := hst4
      have R2 : Hid (HRep w4 H x2 (lk (agedTo S1 b 8) fil wait) (cat R)) := r2
      have U2 : Hid _ := u2
      have F2 : Hid _ := f2
      clear r2 u2 f2
      obtain ⟨g1, g2, g3, g4, g5, g6, g7, g8⟩ := aged_keeps S1 b 8
      have HAT : Hid ((agedTo S1 b 8).time = b) := g2
      have HAL : Hid ((agedTo S1 b 8).lost = S.lost) := g7.trans HI1.out.2.2.2.1
      have HAF : Hid ((agedTo S1 b 8).fil = S.fil) := g1.trans HI1.out.1
      have HAW : Hid ((agedTo S1 b 8).wait = S.wait) := g4.trans HI1.out.2.1
      have HAP : Hid ((agedTo S1 b 8).pub = S.pub) := g6.trans HI1.out.2.2.2.2
      have HAQ : Hid (∀ n, ((agedTo S1 b 8).que n).length ≤ (S.que n).length) := fun n => by
        rw [g8, HI1.out.2.2.1]
        split
        · exact List.length_filter_le _ _
        · exact Nat.le_refl _
      clear g1 g2 g3 g4 g5 g6 g7 g8
      have hwl : wait.length ≤ 64 := by rw [HB.out.lk.waitP.length_eq]; exact HG.out.inv.wait.1
      go_wp2_with fail
      refine (hrSendDue H x2 (lk (agedTo S1 b 8) fil wait) (cat R) _ R2.out (by show wait.length ≤ _; omega) ?_ ?_ ?_ ?_ ?_).mono ?_
      · exact fun m hm => Nat.le_trans (HG.out.inv.wait.2 m (HB.out.lk.waitP.mem_iff.1 hm)).1 (by omega)
      · exact fun n hn f hf => Nat.le_trans ((HG.out.inv.fil n hn).2 f ((HB.out.lk.filP n hn).mem_iff.1 hf)) (by omega)
      · exact fun n hn => Nat.le_trans (Nat.le_of_eq (HB.out.lk.filP n hn).length_eq) (Nat.le_trans (HG.out.inv.fil n hn).1 (by omega))
      · intro n hn
        show 0 ≤ (agedTo S1 b 8).lost n ∧ (agedTo S1 b 8).lost n + (wait.length : Int) ≤ _
        rw [HAL.out]
        have := HG.out.inv.small hn
        omega
      · intro n hn
        show ((agedTo S1 b 8).que n).length + wait.length ≤ _
        have h1 := HAQ.out n
        have h2 := (HG.out.inv.que n hn).1
        omega
      rintro e w5 ⟨rfl, hst5⟩
      have HSD : Hid (waited (sendAll (lk (agedTo S1 b 8) fil wait) ((lk (agedTo S1 b 8) fil wait).wait.filter (dueB (lk (agedTo S1 b 8) fil wait).time))) ((lk (agedTo S1 b 8) fil wait).wait.filter (fun m => !dueB (lk (agedTo S1 b 8) fil wait).time m)) =
          lk (sendAll (agedTo S1 b 8) (wait.filter (dueB b))) fil (wait.filter (fun m => !dueB b m))) := by
        show waited (sendAll (lk (agedTo S1 b 8) fil wait) (wait.filter (dueB (agedTo S1 b 8).time))) (wait.filter (fun m => !dueB (agedTo S1 b 8).time m)) = _
        rw [HAT.out, lk_sendAll _ (by rw [HAF.out]; exact HB.out.lk.filP)]
        rfl
      rw [HSD.out] at hst5
      obtain ⟨x3, r3, u3, f3⟩ := hst5
      have R3 : Hid (HRep w5 H x3 (lk (sendAll (agedTo S1 b 8) (wait.filter (dueB b))) fil (wait.filter (fun m => !dueB b m))) (cat R)) := r3
      have U3 : Hid _ := u3
      have F3 : Hid _ := f3
      clear r3 u3 f3
      go_wp2_with fail
      refine (hrWrite H x3 _ (cat R) ⟨6, 0, ⟨#[]⟩, 0, 0, 0, 0, b⟩ _ R3.out hlen HSM.out).mono ?_
      rintro e w6 ⟨rfl, hst⟩
      go_wp2_with fail
      go_ret
      obtain ⟨W, hW1, hW2⟩ := HB.out.lk.ticked (T := agedTo S1 b 8) b HAW.out
      have HD4 : doS S o = waited (sendAll (agedTo S1 b 8) (wait.filter (dueB b))) W := by rw [HD3.out, ← HS1.out, tickM]; exact hW1
      obtain ⟨v1, v2, v3, v4⟩ := sendAll_keeps (wait.filter (dueB b)) (agedTo S1 b 8)
      refine ⟨ret_int HD2.out.symm, out_done HB.out HF.out HG.out HD1.out (fil1 := fil) (wait1 := wait.filter (fun m => !dueB b m)) ?_ ?_⟩
      · rw [HD4, HRE.out]
        exact HStep.then (Upd.of_below HB3.out) (fun _ hk => .inl hk) (HStep.then U1.out F1.out (HStep.then U2.out F2.out (HStep.then U3.out F3.out hst)))
      · rw [HD4]
        exact HB.out.lk.tick b (v1.trans HAF.out) rfl ((sendAll_pub _ _).trans HAP.out) hW2
    · have HFU : Hid (decide ((lk S fil wait).room ≤ ((cat R).size : Int) / 42) = true) := by
        show decide (S.room ≤ _) = true
        rw [HB.out.size, decide_eq_true_iff]
        omega
      have HE : Hid (doErr S o = 9) := is_full HZ.out HWR.out hfull
      clear ho hfull
      rw [HFU.out]
      go_wp2_with fail
      go_ret
      exact ⟨ret_int HE.out.symm, out_same HP.out HB3.out (not_done (by rw [HE.out]; omega)).2.1⟩
  · have HWR : Hid (writesB S o = false) := by show _ = _; rw [HWB.out, decide_eq_false hlt]
    have HE : Hid (doErr S o = 0) := by show doErr S o = 0; unfold doErr; rw [if_pos HZ.out, HWR.out]; rfl
    have HS : Hid (doS S o = S) := by
      show doS S o = S
      have hd : doneB S o = false := by unfold doneB; rw [HWR.out, Bool.and_false]; rfl
      unfold doS; rw [hd]; rfl
    have hle : b ≤ S.time := by omega
    clear ho
    go_enter Try.func19, Try.ntmps19
    go_wp2_with fail
    refine (hrIsInstant b _).mono ?_
    rintro e w ⟨rfl, rfl⟩
    rw [HIT.out]
    go_wp2_with fail
    go_ret
    exact ⟨ret_int HE.out.symm, out_same HP.out (Below.refl _ _) HS.out⟩
end Go.Proofs.Ytmjdndhfmfjbiab
