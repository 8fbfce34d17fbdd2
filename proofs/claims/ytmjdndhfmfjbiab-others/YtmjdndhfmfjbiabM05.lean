import Derived.Test.YtmjdndhfmfjbiabM04
import Derived.Deep.RegionWith
import Derived.Test.YtmjdndhfmfjbiabM02
import Derived.Test.YtmjdndhfmfjbiabM03
import Derived.Lib.AppendStr
import Derived.Test.YtmjdndhfmfjbiabM01
namespace Go.Proofs.Ytmjdndhfmfjbiab
open Go.RowKit

set_option maxRecDepth 100000 in
set_option maxHeartbeats 1000000 in
theorem hrWithoutOver (qs : List SentD) (ao : Option Addr) (c : Nat) (t : Int) (w : World) (hl : qs.length ≤ 1048576) (h : CellsAt w ao (qs.flatMap msgCells)) (h0 : 0 ≤ t) (h1 : t ≤ 1099511627776) (hq : ∀ m ∈ qs, 0 ≤ m.sentAt ∧ m.sentAt ≤ 1099511627776) :
    Calls Try.prog 82 #[.slice ao qs.length c, .int .i64 t] w fun e w' => ∃ v, e = .returned v ∧
      w'.ownsRow w.heap.size 107 5 v (qs.filter (fun m => !overB t m)).length ((qs.filter (fun m => !overB t m)).flatMap msgCells) ∧ Below w.heap.size w w' := by
  obtain ⟨i0, hi, hz0, hz1, hz2⟩ := info_parts infoMsg
  have H : Hid (CellsAt w ao (qs.flatMap msgCells)) := h
  have HQ : Hid (∀ m ∈ qs, 0 ≤ m.sentAt ∧ m.sentAt ≤ 1099511627776) := hq
  clear h hq
  go_enter Try.func82, Try.ntmps82
  go_wp2_with fail
  go_loopw [5, 6] (fun v i wr => ∃ k : Nat, k ≤ qs.length ∧ i = .int .i64 k ∧ wr.ownsRow w.heap.size 107 5 v (kept (fun m : SentD => !overB t m) qs k).length ((kept (fun m : SentD => !overB t m) qs k).flatMap msgCells) ∧ Below w.heap.size w wr) (fun _ i _ => qs.length - (intOf i).toNat)
  case atStart => exact ⟨0, Nat.zero_le _, rfl, World.ownsRow_nil _ _ _ _, Below.refl _ _⟩
  case round =>
    obtain ⟨k, hk, rfl, hown, hbr⟩ := hrel
    have hkl := kept_le (fun m : SentD => !overB t m) qs k
    have hsz := hbr.size
    by_cases hlt : k < qs.length
    · obtain ⟨y, hy⟩ : ∃ y, qs[k]? = some y := ⟨_, List.getElem?_eq_getElem hlt⟩
      obtain ⟨g, rfl, hg, c0, c1, c2, c3, c4⟩ := msg_cells (H.out.below hbr) hy
      obtain ⟨q0, q1⟩ := HQ.out y (List.mem_of_getElem? hy)
      have YY : Hid (qs[k]? = some y) := hy
      clear hy
      go_wp2_with fail
      refine (hrIsOver y t _ h0 h1 q0 q1).mono ?_
      rintro e w2 ⟨rfl, b2⟩
      have hown2 := own_below hown b2
      have hbr2 : Below w.heap.size w w2 := hbr.trans (b2.mono hbr.size)
      have d0 := cell_later b2 c0
      have d1 := cell_later b2 c1
      have d2 := cell_later b2 c2
      have d3 := cell_later b2 c3
      have d4 := cell_later b2 c4
      have hs2 := hbr2.size
      have hg2 : g < w2.heap.size := by have := b2.size; omega
      clear b2 hown hbr
      cases hov : overB t y
      · have HK : Hid (kept (fun m : SentD => !overB t m) qs (k + 1) = kept (fun m : SentD => !overB t m) qs k ++ [y]) := kept_hit YY.out (by simp only [hov]; rfl)
        clear hov
        go_wp2_with (first | (at_builtin; refine wpList_append_own _ rfl _ _ 91 rfl w.heap.size 107 i0 _ 5 48 Try.underlying91 hi hz0 hz1 hz2 rfl (by decide) _ _ _ rfl (hown2.alloc _) ⟨w2.heap.size, 0, none⟩ 1 1 (msgCells y) rfl rfl (cells_new _ _ _) (msg_one _) (by unfold maxLen; omega) (by omega) (by simp; omega) ?_))
        intro v' w1 hown' hgrow _
        have R := grow_row hown2 hbr2 hown' hgrow
        clear hown' hgrow hown2
        go_wp2_with fail
        go_roundw
        case rel => exact ⟨k + 1, by omega, by go_num, by rw [HK.out]; exact R.1, R.2⟩
        case measure => simp [intOf]; omega
      · have HK : Hid (kept (fun m : SentD => !overB t m) qs (k + 1) = kept (fun m : SentD => !overB t m) qs k) := kept_miss YY.out (by simp only [hov]; rfl)
        clear hov
        go_wp2_with fail
        go_roundw
        case rel => exact ⟨k + 1, by omega, by go_num, by rw [HK.out]; exact hown2, hbr2⟩
        case measure => simp [intOf]; omega
    · have HK : Hid (kept (fun m : SentD => !overB t m) qs k = qs.filter (fun m : SentD => !overB t m)) := kept_end _ _ _ (by omega)
      go_wp2_with fail
      go_ret
      exact ⟨_, rfl, by rw [← HK.out]; exact hown, hbr⟩

set_option maxRecDepth 100000 in
set_option maxHeartbeats 1000000 in
theorem hrFitsOne (fs : List ByteArray) (ao : Option Addr) (c : Nat) (s : ByteArray) (w : World) (hl : fs.length ≤ 1048576) (h : CellsAt w ao (fs.map Value.string)) (hf : ∀ f ∈ fs, f.size ≤ 1048576) (hs : s.size ≤ 1048576) :
    Calls Try.prog 78 #[.slice ao fs.length c, .string s] w fun e w' => e = .returned (.bool (fitAny fs s)) ∧ Below w.heap.size w w' := by
  have H : Hid (CellsAt w ao (fs.map Value.string)) := h
  have HF : Hid (∀ f ∈ fs, f.size ≤ 1048576) := hf
  clear h hf
  go_enter Try.func78, Try.ntmps78
  go_wp2_with fail
  go_loopw [5] (fun i wr => ∃ k : Nat, k ≤ fs.length ∧ i = .int .i64 k ∧ (fs.take k).any (fun f => M.alongM (M.wordsM f) (M.wordsM s)) = false ∧ Below w.heap.size w wr) (fun i _ => fs.length - (intOf i).toNat)
  case atStart => exact ⟨0, Nat.zero_le _, rfl, by simp, Below.refl _ _⟩
  case round =>
    obtain ⟨k, hk, rfl, ha, hbr⟩ := hrel
    have HA : Hid ((fs.take k).any (fun f => M.alongM (M.wordsM f) (M.wordsM s)) = false) := ha
    clear ha
    by_cases hlt : k < fs.length
    · obtain ⟨f, hf⟩ : ∃ f, fs[k]? = some f := ⟨_, List.getElem?_eq_getElem hlt⟩
      obtain ⟨g, rfl, hc⟩ := H.out.below hbr k _ (strs_get hf)
      have hfs := HF.out f (List.mem_of_getElem? hf)
      have FF : Hid (fs[k]? = some f) := hf
      clear hf
      go_wp2_with fail
      refine (topFits f s _ hfs hs).mono ?_
      rintro e w2 ⟨rfl, b2⟩
      have hbr2 : Below w.heap.size w w2 := hbr.trans (b2.mono hbr.size)
      clear b2 hbr
      cases he : M.alongM (M.wordsM f) (M.wordsM s)
      · have HS : Hid ((fs.take (k + 1)).any (fun f => M.alongM (M.wordsM f) (M.wordsM s)) = false) := by show _ = _; rw [any_take FF.out, HA.out, he]; rfl
        clear he
        go_wp2_with fail
        go_roundw
        case rel => exact ⟨k + 1, by omega, by go_num, HS.out, hbr2⟩
        case measure => simp [intOf]; omega
      · have HS : Hid (fitAny fs s = true) := List.any_eq_true.2 ⟨f, List.mem_of_getElem? FF.out, he⟩
        clear he
        go_wp2_with fail
        go_ret
        exact ⟨ret_bool' HS.out.symm, hbr2⟩
    · have HS : Hid (fitAny fs s = false) := by
        have := HA.out
        rw [List.take_of_length_le (by omega)] at this
        exact this
      go_wp2_with fail
      go_ret
      exact ⟨ret_bool' HS.out.symm, hbr⟩

set_option maxRecDepth 100000 in
set_option maxHeartbeats 1000000 in
theorem hrShownQueue (qs : List SentD) (ao : Option Addr) (c : Nat) (t : Int) (w : World) (hl : qs.length ≤ 1048576) (h : CellsAt w ao (qs.flatMap msgCells)) (h0 : 0 ≤ t) (h1 : t ≤ 1099511627776) (hq : ∀ m ∈ qs, 0 ≤ m.sentAt ∧ m.sentAt ≤ 1099511627776 ∧ 0 ≤ m.life ∧ m.life ≤ 1099511627776) :
    Calls Try.prog 61 #[.slice ao qs.length c, .int .i64 t] w fun e w' => ∃ v, e = .returned v ∧
      w'.ownsRow w.heap.size 35 5 v (qs.map (mailOf t)).length ((qs.map (mailOf t)).flatMap mailCells) ∧ Below w.heap.size w w' := by
  obtain ⟨i0, hi, hz0, hz1, hz2⟩ := info_parts infoMail
  have H : Hid (CellsAt w ao (qs.flatMap msgCells)) := h
  have HQ : Hid (∀ m ∈ qs, 0 ≤ m.sentAt ∧ m.sentAt ≤ 1099511627776 ∧ 0 ≤ m.life ∧ m.life ≤ 1099511627776) := hq
  clear h hq
  go_enter Try.func61, Try.ntmps61
  go_wp2_with fail
  go_loopw [5, 6] (fun v i wr => ∃ k : Nat, k ≤ qs.length ∧ i = .int .i64 k ∧ wr.ownsRow w.heap.size 35 5 v ((qs.take k).map (mailOf t)).length (((qs.take k).map (mailOf t)).flatMap mailCells) ∧ Below w.heap.size w wr) (fun _ i _ => qs.length - (intOf i).toNat)
  case atStart => exact ⟨0, Nat.zero_le _, rfl, World.ownsRow_nil _ _ _ _, Below.refl _ _⟩
  case round =>
    obtain ⟨k, hk, rfl, hown, hbr⟩ := hrel
    have hsz := hbr.size
    have htl : ((qs.take k).map (mailOf t)).length ≤ 1048576 := by rw [List.length_map, List.length_take]; omega
    by_cases hlt : k < qs.length
    · obtain ⟨y, hy⟩ : ∃ y, qs[k]? = some y := ⟨_, List.getElem?_eq_getElem hlt⟩
      obtain ⟨g, rfl, hg, c0, c1, c2, c3, c4⟩ := msg_cells (H.out.below hbr) hy
      obtain ⟨q0, q1, q2, q3⟩ := HQ.out y (List.mem_of_getElem? hy)
      have HK : Hid ((qs.take (k + 1)).map (mailOf t) = (qs.take k).map (mailOf t) ++ [mailOf t y]) := map_hit _ hy
      have HM : Hid (mailOf t y = ⟨y.number, y.topic, y.value, y.sentAt, leftM t y⟩) := rfl
      clear hy
      generalize hT : (qs.take k).map (mailOf t) = T at *
      clear hT
      go_wp2_with fail
      generalize hWA : wr.alloc _ = wm
      have bm : Below wr.heap.size wr wm := by rw [← hWA]; exact below_one _ _
      have hsm : wr.heap.size < wm.heap.size := by rw [← hWA]; simp
      have e0 : wm.cell? ⟨wr.heap.size, 0, none⟩ = some (.int .i64 y.number) := by rw [← hWA]; simp
      have e1 : wm.cell? ⟨wr.heap.size, 1, none⟩ = some (.string y.topic) := by rw [← hWA]; simp
      have e2 : wm.cell? ⟨wr.heap.size, 2, none⟩ = some (.int .i64 y.value) := by rw [← hWA]; simp
      have e4 : wm.cell? ⟨wr.heap.size, 4, none⟩ = some (.int .i64 y.sentAt) := by rw [← hWA]; simp
      clear hWA
      refine (hrLeft y t _ h0 h1 q0 q1 q2 q3).mono ?_
      rintro e w2 ⟨rfl, b2⟩
      have d0 := cell_later b2 e0
      have d1 := cell_later b2 e1
      have d2 := cell_later b2 e2
      have d4 := cell_later b2 e4
      have br2 : Below wr.heap.size wr w2 := bm.trans (b2.mono bm.size)
      have hown2 := own_below hown br2
      have hbr2 : Below w.heap.size w w2 := hbr.trans (br2.mono hbr.size)
      have hs2 := b2.size
      have hsw2 := hbr2.size
      have hm2 : wr.heap.size < w2.heap.size := by omega
      clear b2 bm br2 hown hbr e0 e1 e2 e4
      go_wp2_with (first | (at_builtin; refine wpList_append_own _ rfl _ _ 28 rfl w.heap.size 35 i0 _ 5 48 Try.underlying28 hi hz0 hz1 hz2 rfl (by decide) _ _ _ rfl (hown2.alloc _) ⟨w2.heap.size, 0, none⟩ 1 1 (mailCells ⟨y.number, y.topic, y.value, y.sentAt, leftM t y⟩) rfl rfl (cells_new _ _ _) (mail_one _) (by unfold maxLen; omega) (by omega) (by simp; omega) ?_))
      intro v' w3 hown' hgrow _
      have R := grow_row hown2 hbr2 hown' hgrow
      clear hown' hgrow hown2
      go_wp2_with fail
      go_roundw
      case rel => exact ⟨k + 1, by omega, by go_num, by rw [HK.out, HM.out]; exact R.1, R.2⟩
      case measure => simp [intOf]; omega
    · have HK : Hid ((qs.take k).map (mailOf t) = qs.map (mailOf t)) := by show _ = _; rw [List.take_of_length_le (by omega)]
      go_wp2_with fail
      go_ret
      exact ⟨_, rfl, by rw [HK.out] at hown; exact hown, hbr⟩
end Go.Proofs.Ytmjdndhfmfjbiab

/-
  THE BROKER, as it lies: its block, its lists, the bytes of its disk.
-/
namespace Go.Proofs.Ytmjdndhfmfjbiab
open Go.RowKit

structure HAt (w : World) (B : Nat) (x : RefV) (S : RefS) : Prop where
  obj : ∃ cur, w.heap[B]? = some (.cells cur 96 (0, 0))
  room : w.cell? ⟨B, 0, none⟩ = some (.int .i64 S.room)
  done : w.cell? ⟨B, 1, none⟩ = some x.doneV
  time : w.cell? ⟨B, 2, none⟩ = some (.int .i64 S.time)
  pub : w.cell? ⟨B, 3, none⟩ = some (.int .i64 S.pub)
  fil : ∀ a, a < 8 → w.cell? ⟨B, 4 + a * 3, none⟩ = some (x.filV a)
  que : ∀ a, a < 8 → w.cell? ⟨B, 4 + a * 3 + 1, none⟩ = some (x.queV a)
  lost : ∀ a, a < 8 → w.cell? ⟨B, 4 + a * 3 + 2, none⟩ = some (.int .i64 (S.lost a))
  wait : w.cell? ⟨B, 28, none⟩ = some x.waitV

theorem HAt.lt {w : World} {B : Nat} {x : RefV} {S : RefS} (h : HAt w B x S) : B < w.heap.size := World.block_lt_of_cell? _ _ h.room
theorem HAt.free {w : World} {B : Nat} {x : RefV} {S : RefS} (h : HAt w B x S) (o : Nat) : w.frozen? ⟨B, o, none⟩ = false := by
  obtain ⟨cur, hc⟩ := h.obj
  exact frozen_of_row w B o cur _ hc

theorem HAt.upd {P : Nat → Prop} {w w1 : World} {B : Nat} {x : RefV} {S : RefS} (h : HAt w B x S) (k : Upd P w w1) (hs : ¬ P B) : HAt w1 B x S :=
  ⟨by rw [k.block B h.lt hs]; exact h.obj, k.cell h.room hs, k.cell h.done hs, k.cell h.time hs, k.cell h.pub hs, fun a ha => k.cell (h.fil a ha) hs, fun a ha => k.cell (h.que a ha) hs, fun a ha => k.cell (h.lost a ha) hs, k.cell h.wait hs⟩

/-- The broker lies there, whole. -/
structure HRep (w : World) (B : Nat) (x : RefV) (S : RefS) (D : ByteArray) : Prop where
  cells : HAt w B x S
  done : Row w 5 1 x.doneV D.size (Lib.strCells D)
  fil : ∀ a, a < 8 → Row w 9 1 (x.filV a) (S.fil a).length ((S.fil a).map Value.string)
  que : ∀ a, a < 8 → Row w 107 5 (x.queV a) (S.que a).length ((S.que a).flatMap msgCells)
  wait : Row w 50 5 x.waitV S.wait.length (S.wait.flatMap waitCells)
  filApart : ∀ a b, a < 8 → b < 8 → a ≠ b → Apart (x.filV a) (x.filV b)
  queApart : ∀ a b, a < 8 → b < 8 → a ≠ b → Apart (x.queV a) (x.queV b)

/-- The blocks that it takes up. -/
def HFP (B : Nat) (x : RefV) (k : Nat) : Prop :=
  k = B ∨ x.doneV.ownBlock = some k ∨ x.waitV.ownBlock = some k ∨ ∃ a, a < 8 ∧ ((x.filV a).ownBlock = some k ∨ (x.queV a).ownBlock = some k)

theorem HRep.lt {w : World} {B : Nat} {x : RefV} {S : RefS} {D : ByteArray} (h : HRep w B x S D) {k : Nat} (hk : HFP B x k) : k < w.heap.size := by
  rcases hk with rfl | hk | hk | ⟨a, ha, hk | hk⟩
  · exact h.cells.lt
  · exact h.done.lt hk
  · exact h.wait.lt hk
  · exact (h.fil a ha).lt hk
  · exact (h.que a ha).lt hk

/-- It stays while nothing of it is touched. -/
theorem HRep.upd {P : Nat → Prop} {w w1 : World} {B : Nat} {x : RefV} {S : RefS} {D : ByteArray} (h : HRep w B x S D) (k : Upd P w w1) (hs : ∀ i, HFP B x i → ¬ P i) : HRep w1 B x S D :=
  ⟨h.cells.upd k (hs B (.inl rfl)), h.done.upd k fun g hg => hs g (.inr (.inl hg)), fun a ha => (h.fil a ha).upd k fun g hg => hs g (.inr (.inr (.inr ⟨a, ha, .inl hg⟩))),
    fun a ha => (h.que a ha).upd k fun g hg => hs g (.inr (.inr (.inr ⟨a, ha, .inr hg⟩))), h.wait.upd k fun g hg => hs g (.inr (.inr (.inl hg))), h.filApart, h.queApart⟩

theorem HRep.below {w w1 : World} {B : Nat} {x : RefV} {S : RefS} {D : ByteArray} (h : HRep w B x S D) (k : Below w.heap.size w w1) : HRep w1 B x S D :=
  h.upd (P := fun _ => False) (Upd.of_below k) (fun _ _ f => f)

/-- A step: the world lies there anew; only its own blocks were touched, and it takes up those and new ones. -/
def HStep (w : World) (B : Nat) (x : RefV) (w1 : World) (S1 : RefS) (D : ByteArray) : Prop :=
  ∃ x1, HRep w1 B x1 S1 D ∧ Upd (HFP B x) w w1 ∧ ∀ k, HFP B x1 k → HFP B x k ∨ w.heap.size ≤ k

theorem HStep.refl {w : World} {B : Nat} {x : RefV} {S : RefS} {D : ByteArray} (h : HRep w B x S D) : HStep w B x w S D := ⟨x, h, Upd.refl _ _, fun _ hk => .inl hk⟩

theorem HStep.then {w w1 w2 : World} {B : Nat} {x x1 : RefV} {S2 : RefS} {D : ByteArray} (hu : Upd (HFP B x) w w1) (hf : ∀ k, HFP B x1 k → HFP B x k ∨ w.heap.size ≤ k) (h2 : HStep w1 B x1 w2 S2 D) : HStep w B x w2 S2 D := by
  obtain ⟨x2, r, u, f⟩ := h2
  refine ⟨x2, r, hu.trans u (fun i hi t => ?_), fun k hk => ?_⟩
  · rcases hf i t with a | a
    · exact a
    · omega
  · rcases f k hk with a | a
    · exact hf k a
    · exact .inr (Nat.le_trans hu.size a)

theorem HStep.below {w w1 w2 : World} {B : Nat} {x : RefV} {S1 : RefS} {D : ByteArray} (h : HStep w B x w1 S1 D) (k : Below w1.heap.size w1 w2) : HStep w B x w2 S1 D := by
  obtain ⟨x1, r, u, f⟩ := h
  exact ⟨x1, r.below k, u.below k, f⟩

theorem HAt.store {w : World} {B : Nat} {x x1 : RefV} {S S1 : RefS} (h : HAt w B x S) (o : Nat) (v : Value) {old : Value} (ho : w.cell? ⟨B, o, none⟩ = some old)
    (e0 : (if o = 0 then some v else some (.int .i64 S.room)) = some (.int .i64 S1.room)) (e1 : (if o = 1 then v else x.doneV) = x1.doneV) (e2 : (if o = 2 then v else .int .i64 S.time) = .int .i64 S1.time)
    (e3 : (if o = 3 then v else .int .i64 S.pub) = .int .i64 S1.pub) (e4 : ∀ a, a < 8 → (if o = 4 + a * 3 then v else x.filV a) = x1.filV a) (e5 : ∀ a, a < 8 → (if o = 4 + a * 3 + 1 then v else x.queV a) = x1.queV a)
    (e6 : ∀ a, a < 8 → (if o = 4 + a * 3 + 2 then v else .int .i64 (S.lost a)) = .int .i64 (S1.lost a)) (e7 : (if o = 28 then v else x.waitV) = x1.waitV) : HAt (w.setCell ⟨B, o, none⟩ v) B x1 S1 := by
  have key : ∀ p u, w.cell? ⟨B, p, none⟩ = some u → (w.setCell ⟨B, o, none⟩ v).cell? ⟨B, p, none⟩ = some (if o = p then v else u) := by
    intro p u hp
    by_cases hop : o = p
    · subst hop
      rw [if_pos rfl]; exact World.cell?_setCell_same _ _ _ ho
    · rw [if_neg hop, World.cell?_setCell_other _ _ _ _ (by simp)]; exact hp
  refine ⟨?_, ?_, ?_, ?_, ?_, ?_, ?_, ?_, ?_⟩
  · obtain ⟨cur, hc⟩ := h.obj
    exact ⟨_, heap_setCell_row w B o cur _ v hc⟩
  · rw [key 0 _ h.room, ← e0]; split <;> rfl
  · rw [key 1 _ h.done, ← e1]
  · rw [key 2 _ h.time, ← e2]
  · rw [key 3 _ h.pub, ← e3]
  · intro a ha; rw [key _ _ (h.fil a ha), ← e4 a ha]
  · intro a ha; rw [key _ _ (h.que a ha), ← e5 a ha]
  · intro a ha; rw [key _ _ (h.lost a ha), ← e6 a ha]
  · rw [key 28 _ h.wait, ← e7]

/-- Storing into the broker's own block touches no row of it. -/
theorem Row.hstore {w : World} {B o : Nat} {u : Value} {e : TypeId} {size : Nat} {v : Value} {n : Nat} {xs : List Value} (h : Row w e size v n xs) (hb : ∃ cur, w.heap[B]? = some (.cells cur 96 (0, 0))) (hne : 96 ≠ e) : Row (w.setCell ⟨B, o, none⟩ u) e size v n xs :=
  h.upd (S := fun k => k = B) ((Upd.refl (fun k => k = B) w).setCell (p := ⟨B, o, none⟩) (fun _ => rfl) u) fun g hg hgb => by
    subst hgb
    exact typed_ne hb (h.typed hg) hne rfl

/-- The blocks of the broker's lists are apart by what they hold. -/
theorem HRep.apart {w : World} {B : Nat} {x : RefV} {S : RefS} {D : ByteArray} (h : HRep w B x S D) :
    (∀ g, x.doneV.ownBlock = some g → g ≠ B) ∧ (∀ g, x.waitV.ownBlock = some g → g ≠ B) ∧ (∀ a g, a < 8 → (x.filV a).ownBlock = some g → g ≠ B) ∧ (∀ a g, a < 8 → (x.queV a).ownBlock = some g → g ≠ B) ∧
    Apart x.doneV x.waitV ∧ (∀ a, a < 8 → Apart x.doneV (x.filV a)) ∧ (∀ a, a < 8 → Apart x.doneV (x.queV a)) ∧ (∀ a, a < 8 → Apart x.waitV (x.filV a)) ∧ (∀ a, a < 8 → Apart x.waitV (x.queV a)) ∧
    (∀ a b, a < 8 → b < 8 → Apart (x.filV a) (x.queV b)) :=
  ⟨fun _ hg => typed_ne (h.done.typed hg) h.cells.obj (by decide), fun _ hg => typed_ne (h.wait.typed hg) h.cells.obj (by decide), fun a _ ha hg => typed_ne ((h.fil a ha).typed hg) h.cells.obj (by decide), fun a _ ha hg => typed_ne ((h.que a ha).typed hg) h.cells.obj (by decide),
    fun _ hu hv => typed_ne (h.done.typed hu) (h.wait.typed hv) (by decide) rfl, fun a ha _ hu hv => typed_ne (h.done.typed hu) ((h.fil a ha).typed hv) (by decide) rfl,
    fun a ha _ hu hv => typed_ne (h.done.typed hu) ((h.que a ha).typed hv) (by decide) rfl, fun a ha _ hu hv => typed_ne (h.wait.typed hu) ((h.fil a ha).typed hv) (by decide) rfl,
    fun a ha _ hu hv => typed_ne (h.wait.typed hu) ((h.que a ha).typed hv) (by decide) rfl, fun a b ha hb _ hu hv => typed_ne ((h.fil a ha).typed hu) ((h.que b hb).typed hv) (by decide) rfl⟩

/-- One list is turned: a client's filters. -/
theorem HRep.setFil {w w1 : World} {B : Nat} {x : RefV} {S : RefS} {D : ByteArray} (h : HRep w B x S D) {a : Nat} (ha : a < 8) {v : Value} {l : List ByteArray}
    (u : Upd (fun k => (x.filV a).ownBlock = some k) w w1) (r : Row w1 9 1 v l.length (l.map Value.string)) (f : Fresh w (x.filV a) v) :
    HStep w B x (w1.setCell ⟨B, 4 + a * 3, none⟩ v) { S with fil := setAt S.fil a l } D := by
  obtain ⟨p1, p2, p3, p4, p5, p6, p7, p8, p9, p10⟩ := h.apart
  have hc := h.cells.upd u (fun e => p3 a B ha e rfl)
  refine ⟨{ x with filV := setAt x.filV a v }, ⟨?_, ?_, ?_, ?_, ?_, ?_, ?_⟩, ?_, ?_⟩
  · refine hc.store (4 + a * 3) v (hc.fil a ha) ?_ ?_ ?_ ?_ ?_ ?_ ?_ ?_
    · rw [if_neg (by omega)]
    · rw [if_neg (by omega)]
    · rw [if_neg (by omega)]
    · rw [if_neg (by omega)]
    · intro b _; simp only [setAt]; by_cases e : b = a
      · rw [if_pos (by omega), if_pos e]
      · rw [if_neg (by omega), if_neg e]
    · intro b _; rw [if_neg (by omega)]
    · intro b _; rw [if_neg (by omega)]
    · rw [if_neg (by omega)]
  · exact (h.done.upd u fun g hg e => p6 a ha g hg e).hstore hc.obj (by decide)
  · intro b hb
    simp only [setAt]
    by_cases e : b = a
    · simp only [if_pos e]; exact r.hstore hc.obj (by decide)
    · simp only [if_neg e]
      exact ((h.fil b hb).upd u fun g hg e2 => h.filApart b a hb ha e g hg e2).hstore hc.obj (by decide)
  · exact fun b hb => ((h.que b hb).upd u fun g hg e => p10 a b ha hb g e hg).hstore hc.obj (by decide)
  · exact (h.wait.upd u fun g hg e => p8 a ha g hg e).hstore hc.obj (by decide)
  · intro b c hb hc' hne
    simp only [setAt]
    by_cases e : b = a
    · rw [if_pos e, if_neg (by omega)]
      exact f.apart (h.filApart a c ha hc' (by omega)) (fun g hg => (h.fil c hc').lt hg)
    · by_cases e2 : c = a
      · rw [if_neg e, if_pos e2]
        exact (f.apart (h.filApart a b ha hb (by omega)) (fun g hg => (h.fil b hb).lt hg)).symm
      · rw [if_neg e, if_neg e2]; exact h.filApart b c hb hc' hne
  · exact h.queApart
  · exact (u.mono fun k hk => .inr (.inr (.inr ⟨a, ha, .inl hk⟩))).setCell (p := ⟨B, 4 + a * 3, none⟩) (fun _ => .inl rfl) v
  · rintro k (rfl | hk | hk | ⟨b, hb, hk | hk⟩)
    · exact .inl (.inl rfl)
    · exact .inl (.inr (.inl hk))
    · exact .inl (.inr (.inr (.inl hk)))
    · simp only [setAt] at hk
      by_cases e : b = a
      · rw [if_pos e] at hk
        rcases f k hk with o | o
        · exact .inl (.inr (.inr (.inr ⟨a, ha, .inl o⟩)))
        · exact .inr o
      · rw [if_neg e] at hk
        exact .inl (.inr (.inr (.inr ⟨b, hb, .inl hk⟩)))
    · exact .inl (.inr (.inr (.inr ⟨b, hb, .inr hk⟩)))

theorem HRep.setQue {w w1 : World} {B : Nat} {x : RefV} {S : RefS} {D : ByteArray} (h : HRep w B x S D) {a : Nat} (ha : a < 8) {v : Value} {l : List SentD}
    (u : Upd (fun k => (x.queV a).ownBlock = some k) w w1) (r : Row w1 107 5 v l.length (l.flatMap msgCells)) (f : Fresh w (x.queV a) v) :
    HStep w B x (w1.setCell ⟨B, 4 + a * 3 + 1, none⟩ v) { S with que := setAt S.que a l } D := by
  obtain ⟨p1, p2, p3, p4, p5, p6, p7, p8, p9, p10⟩ := h.apart
  have hc := h.cells.upd u (fun e => p4 a B ha e rfl)
  refine ⟨{ x with queV := setAt x.queV a v }, ⟨?_, ?_, ?_, ?_, ?_, ?_, ?_⟩, ?_, ?_⟩
  · refine hc.store (4 + a * 3 + 1) v (hc.que a ha) ?_ ?_ ?_ ?_ ?_ ?_ ?_ ?_
    · rw [if_neg (by omega)]
    · rw [if_neg (by omega)]
    · rw [if_neg (by omega)]
    · rw [if_neg (by omega)]
    · intro b _; rw [if_neg (by omega)]
    · intro b _; simp only [setAt]; by_cases e : b = a
      · rw [if_pos (by omega), if_pos e]
      · rw [if_neg (by omega), if_neg e]
    · intro b _; rw [if_neg (by omega)]
    · rw [if_neg (by omega)]
  · exact (h.done.upd u fun g hg e => p7 a ha g hg e).hstore hc.obj (by decide)
  · exact fun b hb => ((h.fil b hb).upd u fun g hg e => p10 b a hb ha g hg e).hstore hc.obj (by decide)
  · intro b hb
    simp only [setAt]
    by_cases e : b = a
    · simp only [if_pos e]; exact r.hstore hc.obj (by decide)
    · simp only [if_neg e]
      exact ((h.que b hb).upd u fun g hg e2 => h.queApart b a hb ha e g hg e2).hstore hc.obj (by decide)
  · exact (h.wait.upd u fun g hg e => p9 a ha g hg e).hstore hc.obj (by decide)
  · exact h.filApart
  · intro b c hb hc' hne
    simp only [setAt]
    by_cases e : b = a
    · rw [if_pos e, if_neg (by omega)]
      exact f.apart (h.queApart a c ha hc' (by omega)) (fun g hg => (h.que c hc').lt hg)
    · by_cases e2 : c = a
      · rw [if_neg e, if_pos e2]
        exact (f.apart (h.queApart a b ha hb (by omega)) (fun g hg => (h.que b hb).lt hg)).symm
      · rw [if_neg e, if_neg e2]; exact h.queApart b c hb hc' hne
  · exact (u.mono fun k hk => .inr (.inr (.inr ⟨a, ha, .inr hk⟩))).setCell (p := ⟨B, 4 + a * 3 + 1, none⟩) (fun _ => .inl rfl) v
  · rintro k (rfl | hk | hk | ⟨b, hb, hk | hk⟩)
    · exact .inl (.inl rfl)
    · exact .inl (.inr (.inl hk))
    · exact .inl (.inr (.inr (.inl hk)))
    · exact .inl (.inr (.inr (.inr ⟨b, hb, .inl hk⟩)))
    · simp only [setAt] at hk
      by_cases e : b = a
      · rw [if_pos e] at hk
        rcases f k hk with o | o
        · exact .inl (.inr (.inr (.inr ⟨a, ha, .inr o⟩)))
        · exact .inr o
      · rw [if_neg e] at hk
        exact .inl (.inr (.inr (.inr ⟨b, hb, .inr hk⟩)))

theorem HRep.setDone {w w1 : World} {B : Nat} {x : RefV} {S : RefS} {D : ByteArray} (h : HRep w B x S D) {v : Value} {D1 : ByteArray}
    (u : Upd (fun k => x.doneV.ownBlock = some k) w w1) (r : Row w1 5 1 v D1.size (Lib.strCells D1)) (f : Fresh w x.doneV v) :
    HStep w B x (w1.setCell ⟨B, 1, none⟩ v) S D1 := by
  obtain ⟨p1, p2, p3, p4, p5, p6, p7, p8, p9, p10⟩ := h.apart
  have hc := h.cells.upd u (fun e => p1 B e rfl)
  refine ⟨{ x with doneV := v }, ⟨?_, ?_, ?_, ?_, ?_, h.filApart, h.queApart⟩, ?_, ?_⟩
  · refine hc.store 1 v hc.done ?_ ?_ ?_ ?_ ?_ ?_ ?_ ?_
    · rw [if_neg (by omega)]
    · rw [if_pos rfl]
    · rw [if_neg (by omega)]
    · rw [if_neg (by omega)]
    · intro b _; rw [if_neg (by omega)]
    · intro b _; rw [if_neg (by omega)]
    · intro b _; rw [if_neg (by omega)]
    · rw [if_neg (by omega)]
  · exact r.hstore hc.obj (by decide)
  · exact fun b hb => ((h.fil b hb).upd u fun g hg e => p6 b hb g e hg).hstore hc.obj (by decide)
  · exact fun b hb => ((h.que b hb).upd u fun g hg e => p7 b hb g e hg).hstore hc.obj (by decide)
  · exact (h.wait.upd u fun g hg e => p5 g e hg).hstore hc.obj (by decide)
  · exact (u.mono fun k hk => .inr (.inl hk)).setCell (p := ⟨B, 1, none⟩) (fun _ => .inl rfl) v
  · rintro k (rfl | hk | hk | ⟨b, hb, hk | hk⟩)
    · exact .inl (.inl rfl)
    · rcases f k hk with o | o
      · exact .inl (.inr (.inl o))
      · exact .inr o
    · exact .inl (.inr (.inr (.inl hk)))
    · exact .inl (.inr (.inr (.inr ⟨b, hb, .inl hk⟩)))
    · exact .inl (.inr (.inr (.inr ⟨b, hb, .inr hk⟩)))

theorem HRep.setWait {w w1 : World} {B : Nat} {x : RefV} {S : RefS} {D : ByteArray} (h : HRep w B x S D) {v : Value} {l : List WaitD}
    (u : Upd (fun k => x.waitV.ownBlock = some k) w w1) (r : Row w1 50 5 v l.length (l.flatMap waitCells)) (f : Fresh w x.waitV v) :
    HStep w B x (w1.setCell ⟨B, 28, none⟩ v) { S with wait := l } D := by
  obtain ⟨p1, p2, p3, p4, p5, p6, p7, p8, p9, p10⟩ := h.apart
  have hc := h.cells.upd u (fun e => p2 B e rfl)
  refine ⟨{ x with waitV := v }, ⟨?_, ?_, ?_, ?_, ?_, h.filApart, h.queApart⟩, ?_, ?_⟩
  · refine hc.store 28 v hc.wait ?_ ?_ ?_ ?_ ?_ ?_ ?_ ?_
    · rw [if_neg (by omega)]
    · rw [if_neg (by omega)]
    · rw [if_neg (by omega)]
    · rw [if_neg (by omega)]
    · intro b _; rw [if_neg (by omega)]
    · intro b _; rw [if_neg (by omega)]
    · intro b _; rw [if_neg (by omega)]
    · rw [if_pos rfl]
  · exact (h.done.upd u fun g hg e => p5 g hg e).hstore hc.obj (by decide)
  · exact fun b hb => ((h.fil b hb).upd u fun g hg e => p8 b hb g e hg).hstore hc.obj (by decide)
  · exact fun b hb => ((h.que b hb).upd u fun g hg e => p9 b hb g e hg).hstore hc.obj (by decide)
  · exact r.hstore hc.obj (by decide)
  · exact (u.mono fun k hk => .inr (.inr (.inl hk))).setCell (p := ⟨B, 28, none⟩) (fun _ => .inl rfl) v
  · rintro k (rfl | hk | hk | ⟨b, hb, hk | hk⟩)
    · exact .inl (.inl rfl)
    · exact .inl (.inr (.inl hk))
    · rcases f k hk with o | o
      · exact .inl (.inr (.inr (.inl o)))
      · exact .inr o
    · exact .inl (.inr (.inr (.inr ⟨b, hb, .inl hk⟩)))
    · exact .inl (.inr (.inr (.inr ⟨b, hb, .inr hk⟩)))

/-- A number of it is turned. -/
theorem HRep.setNum {w : World} {B : Nat} {x : RefV} {S S1 : RefS} {D : ByteArray} (h : HRep w B x S D) (o : Nat) (n : Int) (hc : HAt (w.setCell ⟨B, o, none⟩ (.int .i64 n)) B x S1)
    (e2 : S1.fil = S.fil) (e3 : S1.que = S.que) (e4 : S1.wait = S.wait) : HStep w B x (w.setCell ⟨B, o, none⟩ (.int .i64 n)) S1 D :=
  ⟨x, ⟨hc, h.done.hstore h.cells.obj (by decide), fun a ha => by rw [e2]; exact (h.fil a ha).hstore h.cells.obj (by decide), fun a ha => by rw [e3]; exact (h.que a ha).hstore h.cells.obj (by decide),
    by rw [e4]; exact h.wait.hstore h.cells.obj (by decide), h.filApart, h.queApart⟩, (Upd.refl _ _).setCell (p := ⟨B, o, none⟩) (fun _ => .inl rfl) _, fun _ hk => .inl hk⟩

theorem HRep.setTime {w : World} {B : Nat} {x : RefV} {S : RefS} {D : ByteArray} (h : HRep w B x S D) (n : Int) : HStep w B x (w.setCell ⟨B, 2, none⟩ (.int .i64 n)) { S with time := n } D :=
  h.setNum 2 n (h.cells.store 2 _ h.cells.time (by rw [if_neg (by omega)]) (by rw [if_neg (by omega)]) (by rw [if_pos rfl]) (by rw [if_neg (by omega)]) (fun b _ => by rw [if_neg (by omega)]) (fun b _ => by rw [if_neg (by omega)]) (fun b _ => by rw [if_neg (by omega)]) (by rw [if_neg (by omega)])) rfl rfl rfl
theorem HRep.setPub {w : World} {B : Nat} {x : RefV} {S : RefS} {D : ByteArray} (h : HRep w B x S D) (n : Int) : HStep w B x (w.setCell ⟨B, 3, none⟩ (.int .i64 n)) { S with pub := n } D :=
  h.setNum 3 n (h.cells.store 3 _ h.cells.pub (by rw [if_neg (by omega)]) (by rw [if_neg (by omega)]) (by rw [if_neg (by omega)]) (by rw [if_pos rfl]) (fun b _ => by rw [if_neg (by omega)]) (fun b _ => by rw [if_neg (by omega)]) (fun b _ => by rw [if_neg (by omega)]) (by rw [if_neg (by omega)])) rfl rfl rfl
theorem HRep.setRoom {w : World} {B : Nat} {x : RefV} {S : RefS} {D : ByteArray} (h : HRep w B x S D) (n : Int) : HStep w B x (w.setCell ⟨B, 0, none⟩ (.int .i64 n)) { S with room := n } D :=
  h.setNum 0 n (h.cells.store 0 _ h.cells.room (by rw [if_pos rfl]) (by rw [if_neg (by omega)]) (by rw [if_neg (by omega)]) (by rw [if_neg (by omega)]) (fun b _ => by rw [if_neg (by omega)]) (fun b _ => by rw [if_neg (by omega)]) (fun b _ => by rw [if_neg (by omega)]) (by rw [if_neg (by omega)])) rfl rfl rfl
theorem HRep.setLost {w : World} {B : Nat} {x : RefV} {S : RefS} {D : ByteArray} (h : HRep w B x S D) {a : Nat} (ha : a < 8) (n : Int) : HStep w B x (w.setCell ⟨B, 4 + a * 3 + 2, none⟩ (.int .i64 n)) { S with lost := setAt S.lost a n } D :=
  h.setNum _ n (h.cells.store _ _ (h.cells.lost a ha) (by rw [if_neg (by omega)]) (by rw [if_neg (by omega)]) (by rw [if_neg (by omega)]) (by rw [if_neg (by omega)]) (fun b _ => by rw [if_neg (by omega)]) (fun b _ => by rw [if_neg (by omega)])
    (fun b _ => by
      simp only [setAt]
      by_cases e : b = a
      · rw [if_pos (by omega), if_pos e]
      · rw [if_neg (by omega), if_neg e]) (by rw [if_neg (by omega)])) rfl rfl rfl
end Go.Proofs.Ytmjdndhfmfjbiab

/-
  THE BROKER, walked: the small ones, and what is shown.
-/
namespace Go.Proofs.Ytmjdndhfmfjbiab
open Go.RowKit

theorem hrIsClient (c : Int) (w : World) : Calls Try.prog 46 #[.int .i64 c] w fun e w' => e = .returned (.bool (knownB c)) ∧ w' = w := by
  by_cases h0 : 0 ≤ c
  all_goals
    go_enter Try.func46, Try.ntmps46
    go_wp2
    go_ret
    exact ⟨ret_bool' (by unfold knownB; first | (rw [decide_eq_true h0]; rfl) | (rw [decide_eq_false (by omega)]; rfl)), rfl⟩

def isValueM (v : Int) : Bool := decide (0 ≤ v) && decide (v ≤ 1073741824)
theorem hrIsValue (v : Int) (w : World) : Calls Try.prog 56 #[.int .i64 v] w fun e w' => e = .returned (.bool (isValueM v)) ∧ w' = w := by
  by_cases h0 : 0 ≤ v
  all_goals
    go_enter Try.func56, Try.ntmps56
    go_wp2
    go_ret
    exact ⟨ret_bool' (by unfold isValueM; first | (rw [decide_eq_true h0]; rfl) | (rw [decide_eq_false (by omega)]; rfl)), rfl⟩

theorem hrIsInstant (t : Int) (w : World) : Calls Try.prog 57 #[.int .i64 t] w fun e w' => e = .returned (.bool (isTimeM t)) ∧ w' = w := by
  by_cases h0 : 0 ≤ t
  all_goals
    go_enter Try.func57, Try.ntmps57
    go_wp2
    go_ret
    exact ⟨ret_bool' (by unfold isTimeM; first | (rw [decide_eq_true h0]; rfl) | (rw [decide_eq_false (by omega)]; rfl)), rfl⟩

theorem hrRecords (H : Nat) (x : RefV) (T : RefS) (D : ByteArray) (w : World) (hr : HRep w H x T D) (hd : D.size ≤ 1048576) :
    Calls Try.prog 43 #[.pointer (some ⟨H, 0, none⟩)] w fun e w' => e = .returned (.int .i64 ((D.size : Int) / 42)) ∧ w' = w := by
  obtain ⟨ao, c, hv, h1, h2, -⟩ := hr.done.form
  have k1 := hr.cells.done
  rw [hv] at k1
  clear hr hv
  go_enter Try.func43, Try.ntmps43
  go_wp2_with fail
  go_ret
  exact ⟨rfl, rfl⟩

theorem hrIsFull (H : Nat) (x : RefV) (T : RefS) (D : ByteArray) (w : World) (hr : HRep w H x T D) (hd : D.size ≤ 1048576) :
    Calls Try.prog 49 #[.pointer (some ⟨H, 0, none⟩)] w fun e w' => e = .returned (.bool (decide (T.room ≤ (D.size : Int) / 42))) ∧ Below w.heap.size w w' := by
  have HR : Hid (HRep w H x T D) := hr
  have k0 := hr.cells.room
  clear hr
  go_enter Try.func49, Try.ntmps49
  go_wp2_with fail
  go_region_with (go_at_call 43; refine (hrRecords H x T D _ (HR.out.below below_drew) hd).mono ?_; rintro e w2 ⟨rfl, rfl⟩)
  all_goals go_wp2_with fail
  all_goals go_ret
  all_goals exact ⟨rfl, below_drew⟩

theorem hrTime (H : Nat) (x : RefV) (T : RefS) (D : ByteArray) (w : World) (hr : HRep w H x T D) :
    Calls Try.prog 42 #[.pointer (some ⟨H, 0, none⟩)] w fun e w' => e = .returned (.int .i64 T.time) ∧ w' = w := by
  have k0 := hr.cells.time
  clear hr
  go_enter Try.func42, Try.ntmps42
  go_wp2_with fail
  go_ret
  exact ⟨rfl, rfl⟩

theorem nil_text (w : World) : (convert 63 9 (.slice none 0 0)).run Try.prog w = .ok (.string ⟨#[]⟩) w := by
  rw [run_convert_bytes_string w 63 9 5 none 0 0 Try.underlying63 Try.underlying5 Try.underlying9]
  rfl

theorem disk_text {w : World} {v : Value} {D : ByteArray} (h : Row w 5 1 v D.size (Lib.strCells D)) : (convert 63 9 v).run Try.prog w = .ok (.string D) w := by
  rcases h.2 with ⟨rfl, h0⟩ | ⟨g, cap, cur, rfl, hb, hg, rest⟩
  · have : D = ⟨#[]⟩ := by
      apply ba_ext
      rw [ba_size] at h0
      exact List.eq_nil_of_length_eq_zero h0
    rw [this]
    exact nil_text w
  · have h1 := run_convert_bytes_back (P := Try.prog) w 63 9 5 ⟨g, 0, none⟩ cap D.data.toList Try.underlying63 Try.underlying5 Try.underlying9 (fun j hj => by
      refine h.cells (g := g) rfl j _ ?_
      rw [Lib.strCells, List.getElem?_map, List.getElem?_eq_getElem hj]
      rfl)
    rw [← ba_size] at h1
    exact h1

theorem hrDisk (H : Nat) (x : RefV) (T : RefS) (D : ByteArray) (w : World) (hr : HRep w H x T D) :
    Calls Try.prog 29 #[.pointer (some ⟨H, 0, none⟩)] w fun e w' => e = .returned (.string D) ∧ w' = w := by
  have hcv := disk_text hr.done
  have k1 := hr.cells.done
  clear hr
  generalize x.doneV = v at *
  go_enter Try.func29, Try.ntmps29
  go_wp2_with fail
  go_ret
  exact ⟨rfl, rfl⟩

theorem hrLost (H : Nat) (x : RefV) (T : RefS) (D : ByteArray) (k : Int) (w : World) (hr : HRep w H x T D) :
    Calls Try.prog 16 #[.pointer (some ⟨H, 0, none⟩), .int .i64 k] w fun e w' => e = .returned (.int .i64 (lostM T k)) ∧ w' = w := by
  have HR : Hid (HRep w H x T D) := hr
  clear hr
  cases hk : knownB k
  · have HE : Hid (lostM T k = 0) := by show _ = _; unfold lostM; rw [hk]; rfl
    go_enter Try.func16, Try.ntmps16
    go_wp2_with fail
    refine (hrIsClient k _).mono ?_
    rintro e w1 ⟨rfl, rfl⟩
    rw [hk]
    go_wp2_with fail
    go_ret
    exact ⟨ret_int HE.out.symm, rfl⟩
  · obtain ⟨n, rfl, hn⟩ := known_nat hk
    have HE : Hid (lostM T (n : Int) = T.lost n) := by show _ = _; unfold lostM; rw [hk]; rfl
    have HK : Hid (knownB (n : Int) = true) := hk
    have k0 := HR.out.cells.lost n hn
    have hn0 : (0 : Int) ≤ (n : Int) := by omega
    have hn1 : (n : Int) < 8 := by omega
    clear hk
    go_enter Try.func16, Try.ntmps16
    go_wp2_with fail
    refine (hrIsClient (n : Int) _).mono ?_
    rintro e w1 ⟨rfl, rfl⟩
    rw [HK.out]
    go_wp2_with fail
    go_ret
    exact ⟨ret_int HE.out.symm, rfl⟩
end Go.Proofs.Ytmjdndhfmfjbiab

/-
  THE BROKER, walked: its lists that are shown; what it writes.
-/
namespace Go.Proofs.Ytmjdndhfmfjbiab
open Go.RowKit

theorem flat_sing (l : List ByteArray) : l.flatMap (fun f => [Value.string f]) = l.map Value.string := by
  induction l with
  | nil => rfl
  | cons a l ih => simp [ih]

def filP (T : RefS) (k : Int) : List ByteArray := if knownB k = true then T.fil k.toNat else []

set_option maxRecDepth 100000 in
theorem hrFilters (H : Nat) (x : RefV) (T : RefS) (D : ByteArray) (k : Int) (w : World) (hr : HRep w H x T D) (hl : ∀ a, a < 8 → (T.fil a).length ≤ 1048576) :
    Calls Try.prog 44 #[.pointer (some ⟨H, 0, none⟩), .int .i64 k] w fun e w' => ∃ v, e = .returned v ∧ w'.ownsRow w.heap.size 9 1 v (filP T k).length ((filP T k).flatMap (fun f => [Value.string f])) ∧ Below w.heap.size w w' := by
  have HR : Hid (HRep w H x T D) := hr
  clear hr
  cases hk : knownB k
  · have HE : Hid (filP T k = []) := by show _ = _; unfold filP; rw [hk]; rfl
    go_enter Try.func44, Try.ntmps44
    go_wp2_with fail
    refine (hrIsClient k _).mono ?_
    rintro e w1 ⟨rfl, rfl⟩
    rw [hk]
    go_wp2_with fail
    go_ret
    exact ⟨_, rfl, by rw [HE.out]; exact World.ownsRow_nil _ _ _ _, Below.refl _ _⟩
  · obtain ⟨n, rfl, hn⟩ := known_nat hk
    have HE : Hid (filP T (n : Int) = T.fil n) := by show _ = _; unfold filP; rw [hk]; rfl
    have HK : Hid (knownB (n : Int) = true) := hk
    obtain ⟨ao, c, hv, -, -, hc⟩ := (HR.out.fil n hn).form
    have k0 := HR.out.cells.fil n hn
    rw [hv] at k0
    have HC : Hid (CellsAt w ao ((T.fil n).map Value.string)) := hc
    have hln := hl n hn
    have hn0 : (0 : Int) ≤ (n : Int) := by omega
    have hn1 : (n : Int) < 8 := by omega
    clear hk hv hc hl
    go_enter Try.func44, Try.ntmps44
    go_wp2_with fail
    refine (hrIsClient (n : Int) _).mono ?_
    rintro e w1 ⟨rfl, rfl⟩
    rw [HK.out]
    go_wp2_with fail
    refine (hrCopyFilters (T.fil n) ao c _ hln HC.out).mono ?_
    rintro e w2 ⟨v, rfl, ho, hb⟩
    go_wp2_with fail
    go_ret
    exact ⟨_, rfl, by rw [HE.out]; exact ho, hb⟩

def queP (T : RefS) (k : Int) : List MailD := if knownB k = true then (T.que k.toNat).map (mailOf T.time) else []

set_option maxRecDepth 100000 in
theorem hrQueue (H : Nat) (x : RefV) (T : RefS) (D : ByteArray) (k : Int) (w : World) (hr : HRep w H x T D) (h0 : 0 ≤ T.time) (h1 : T.time ≤ 1099511627776)
    (hl : ∀ a, a < 8 → (T.que a).length ≤ 1048576 ∧ ∀ m ∈ T.que a, 0 ≤ m.sentAt ∧ m.sentAt ≤ 1099511627776 ∧ 0 ≤ m.life ∧ m.life ≤ 1099511627776) :
    Calls Try.prog 15 #[.pointer (some ⟨H, 0, none⟩), .int .i64 k] w fun e w' => ∃ v, e = .returned v ∧ w'.ownsRow w.heap.size 35 5 v (queP T k).length ((queP T k).flatMap mailCells) ∧ Below w.heap.size w w' := by
  have HR : Hid (HRep w H x T D) := hr
  clear hr
  cases hk : knownB k
  · have HE : Hid (queP T k = []) := by show _ = _; unfold queP; rw [hk]; rfl
    go_enter Try.func15, Try.ntmps15
    go_wp2_with fail
    refine (hrIsClient k _).mono ?_
    rintro e w1 ⟨rfl, rfl⟩
    rw [hk]
    go_wp2_with fail
    go_ret
    exact ⟨_, rfl, by rw [HE.out]; exact World.ownsRow_nil _ _ _ _, Below.refl _ _⟩
  · obtain ⟨n, rfl, hn⟩ := known_nat hk
    have HE : Hid (queP T (n : Int) = (T.que n).map (mailOf T.time)) := by show _ = _; unfold queP; rw [hk]; rfl
    have HK : Hid (knownB (n : Int) = true) := hk
    obtain ⟨ao, c, hv, -, -, hc⟩ := (HR.out.que n hn).form
    have k0 := HR.out.cells.que n hn
    rw [hv] at k0
    have k1 := HR.out.cells.time
    have HC : Hid (CellsAt w ao ((T.que n).flatMap msgCells)) := hc
    have hln := (hl n hn).1
    have HL : Hid (∀ m ∈ T.que n, 0 ≤ m.sentAt ∧ m.sentAt ≤ 1099511627776 ∧ 0 ≤ m.life ∧ m.life ≤ 1099511627776) := (hl n hn).2
    have hn0 : (0 : Int) ≤ (n : Int) := by omega
    have hn1 : (n : Int) < 8 := by omega
    clear hk hv hc hl
    go_enter Try.func15, Try.ntmps15
    go_wp2_with fail
    refine (hrIsClient (n : Int) _).mono ?_
    rintro e w1 ⟨rfl, rfl⟩
    rw [HK.out]
    go_wp2_with fail
    go_region_with (go_at_call 61; refine (hrShownQueue (T.que n) ao c T.time _ hln (HC.out.below below_drew) h0 h1 HL.out).mono ?_; rintro e w2 ⟨v, rfl, ho, hb⟩)
    all_goals go_wp2_with fail
    all_goals go_ret
    all_goals exact ⟨_, rfl, by rw [HE.out]; exact ho, below_drew.trans hb⟩

set_option maxRecDepth 100000 in
theorem hrWaiting (H : Nat) (x : RefV) (T : RefS) (D : ByteArray) (w : World) (hr : HRep w H x T D) (hl : T.wait.length ≤ 1048576) :
    Calls Try.prog 26 #[.pointer (some ⟨H, 0, none⟩)] w fun e w' => ∃ v, e = .returned v ∧ w'.ownsRow w.heap.size 50 5 v T.wait.length (T.wait.flatMap waitCells) ∧ Below w.heap.size w w' := by
  obtain ⟨ao, c, hv, -, -, hc⟩ := hr.wait.form
  have k0 := hr.cells.wait
  rw [hv] at k0
  have HC : Hid (CellsAt w ao (T.wait.flatMap waitCells)) := hc
  clear hr hv hc
  go_enter Try.func26, Try.ntmps26
  go_wp2_with fail
  refine (hrCopyWaiting T.wait ao c _ hl HC.out).mono ?_
  rintro e w2 ⟨v, rfl, ho, hb⟩
  go_wp2_with fail
  go_ret
  exact ⟨_, rfl, ho, hb⟩

theorem disk_app (D t : ByteArray) : Lib.strCells D ++ Lib.strCells t = Lib.strCells (D ++ t) := by
  simp [Lib.strCells]
theorem ba_size_app (D t : ByteArray) : (D ++ t).size = D.size + t.size := by rw [ba_size, ba_list, List.length_append, ← ba_size, ← ba_size]

/-- A text's bytes behind a row: in its own room, or in a new one. -/
theorem app_str (W : World) (v : Value) (n : Nat) (xs : List Value) (hrow : Row W 5 1 v n xs) (t : ByteArray) (h0 : 0 < t.size) (hn : n + t.size ≤ 1099511627776) :
    ∃ v1 w1, (Builtin.append_ #[63, 9] 63 #[v, .string t]).run Try.prog W = .ok v1 w1 ∧ Row w1 5 1 v1 (n + t.size) (xs ++ Lib.strCells t) ∧ Upd (fun k => v.ownBlock = some k) W w1 ∧ Fresh W v v1 := by
  obtain ⟨i0, hi, hz0, hz1, hz2⟩ := info_parts infoU8
  obtain ⟨v1, w1, hr, hown, hg, -⟩ := Lib.run_append_own_string (P := Try.prog) W 0 63 9 63 5 i0 Try.underlying63 Try.underlying9 hi hz0 hz1 hz2 v n xs hrow t (by unfold maxLen; omega) (by omega) (Nat.zero_le _)
  refine ⟨v1, w1, hr, hown, (Upd.refl _ W).grown hg (fun i e _ => e), ?_⟩
  have new : ∀ n c w2, (Builtin.append_ #[63, 9] 63 #[v, .string t]).run Try.prog W = .ok (.slice (some ⟨W.heap.size, 0, none⟩) n c) w2 → Fresh W v v1 := fun n c w2 e => by
    rw [hr] at e
    simp only [Result.ok.injEq] at e
    rw [e.1]
    intro g hgg
    simp [Value.ownBlock] at hgg
    exact .inr (by omega)
  rcases hrow.2 with ⟨rfl, rfl⟩ | ⟨g, cap, cur, rfl, hbg, hgg, hnc, hcm, hcs, htake⟩
  · exact new _ _ _ (run_append_nil_string (P := Try.prog) W 63 9 63 5 i0 (.int .u8 0) Try.underlying63 Try.underlying9 hi hz0 t h0 (by omega) (by rw [hz2]; omega))
  · by_cases hroom : n + t.size ≤ cap
    · have e := Lib.run_append_room_string (P := Try.prog) W 63 9 63 5 i0 Try.underlying63 Try.underlying9 hi hz1 g n cap cur hgg t hroom (by omega)
      rw [hr] at e
      simp only [Result.ok.injEq] at e
      rw [e.1]
      exact fun k hk => .inl hk
    · have holds : ∀ j u, xs[j]? = some u → W.cell? ((⟨g, 0, none⟩ : Addr).add j) = some u := World.ownsRow.cells hrow (g := g) rfl
      exact new _ _ _ (Lib.run_append_grow_string (P := Try.prog) W 63 9 63 5 i0 (.int .u8 0) Try.underlying63 Try.underlying9 hi hz0 ⟨g, 0, none⟩ n cap xs (by rw [hz1]; exact hrow.1) holds t (by omega) (by omega) (by rw [hz2]; exact growslice_fits (by omega) (by omega)))

theorem wpList_append_run2 {P : Program} {w : World} {ops : Array Oper} {rest : List Oper} {o : Oper} {a : Act} {Q : Exit → Act → World → Prop} (hgd : o.guard = none) (s x : Operand) (t t2 : TypeId)
    (ho : o.op = .call { callee := .builtin .append, args := #[s, x], argTypes := #[t, t2] }) (u y v' : Value) (w' : World) (hs : a.eval s = u) (hx : a.eval x = y) (hr : (Builtin.append_ #[t, t2] o.type #[u, y]).run P w = .ok v' w')
    (h : wpList P ops Q rest (a.put o.dst v') w') : wpList P ops Q (o :: rest) a w := by
  refine wpList_plain hgd fun K hK => ?_
  unfold Oper.wp execOp
  simp only [ho, resolve, invoke, builtin, Sem.run_bind, Sem.run_pure, Result.andThen_ok, List.map_toArray, List.map_cons, List.map_nil, hs, hx, hr]
  exact hK _ _ h

set_option maxRecDepth 100000 in
set_option maxHeartbeats 1000000 in
theorem hrWrite (H : Nat) (x : RefV) (T : RefS) (D : ByteArray) (r : RecD) (w : World) (hr : HRep w H x T D) (hd : D.size ≤ 1048576) (hs : Small r) :
    Calls Try.prog 52 #[.pointer (some ⟨H, 0, none⟩), recV r] w fun e w' => e = .returned (.tuple #[]) ∧ HStep w H x w' T (D ++ encM r) := by
  obtain ⟨i0, hi, hz0, hz1, hz2⟩ := info_parts infoU8
  have HR : Hid (HRep w H x T D) := hr
  have hH := hr.cells.lt
  clear hr
  have hsz := enc_size r hs.text
  go_enter Try.func52, Try.ntmps52
  go_wp2_with fail
  refine (recWrite r _ hs).mono ?_
  rintro e w1 ⟨rfl, hb1⟩
  have HB1 : Hid (Below w.heap.size w w1) := (below_one _ _).trans (hb1.mono (by simp))
  have HR1 : Hid (HRep w1 H x T D) := HR.out.below HB1.out
  have k1 := HR1.out.cells.done
  have hf1 := HR1.out.cells.free 1
  have hown := HR1.out.done
  have HAP : Hid (∀ g, x.doneV.ownBlock = some g → g ≠ H) := HR1.out.apart.1
  have hH1 := HR1.out.cells.lt
  clear hb1
  have HX : Hid (Lib.strCells D ++ Lib.strCells (encM r) = Lib.strCells (D ++ encM r)) := disk_app _ _
  have HY : Hid ((D ++ encM r).size = D.size + (encM r).size) := ba_size_app _ _
  have hle : (encM r).size ≤ 42 := by omega
  have hpo : 0 < (encM r).size := by omega
  clear hsz
  generalize hen : encM r = t at *
  have HEN : Hid (encM r = t) := hen
  clear hen
  obtain ⟨v', w2, hrun, hown', hu, hfr⟩ := app_str w1 x.doneV D.size (Lib.strCells D) hown t (by omega) (by omega)
  have HU : Hid (Upd (fun k => x.doneV.ownBlock = some k) w1 w2) := hu
  have HO : Hid (Row w2 5 1 v' (D ++ t).size (Lib.strCells (D ++ t))) := by rw [HY.out, ← HX.out]; exact hown'
  have k2 : w2.cell? ⟨H, 1, none⟩ = some x.doneV := HU.out.cell k1 (fun e => HAP.out H e rfl)
  have hf2 : w2.frozen? ⟨H, 1, none⟩ = false := (HU.out.frozen hH1 (fun e => HAP.out H e rfl)).trans hf1
  clear hown hu
  have HF : Hid (Fresh w1 x.doneV v') := hfr
  obtain ⟨a1, c1, rfl, -, -, -⟩ := Row.form hown'
  clear hown' hfr
  go_wp2_with (first | (at_builtin; refine wpList_append_run2 rfl _ _ 63 9 rfl _ _ _ _ rfl rfl hrun ?_))
  clear k1 hf1
  go_wp2_with fail
  go_end0
  exact ⟨rfl, by rw [HEN.out]; exact HStep.then (Upd.of_below HB1.out) (fun _ hk => .inl hk) (HR1.out.setDone HU.out HO.out HF.out)⟩
end Go.Proofs.Ytmjdndhfmfjbiab

/-
  THE BROKER, walked: what is sent.
-/
namespace Go.Proofs.Ytmjdndhfmfjbiab
open Go.RowKit
attribute [local go_sem ↓] Go.wp_at_zero Go.wp_at_succ appSem_eq

/-- A client is given a message. -/
def recvM (T : RefS) (a : Nat) (q : SentD) : RefS := if 10 ≤ (T.que a).length then { T with lost := setAt T.lost a (T.lost a + 1) } else { T with que := setAt T.que a (T.que a ++ [q]) }

set_option maxRecDepth 100000 in
set_option maxHeartbeats 4000000 in
theorem hrReceive (H : Nat) (x : RefV) (T : RefS) (D : ByteArray) (a : Nat) (q : SentD) (w : World) (hr : HRep w H x T D) (ha : a < 8) (hl : 0 ≤ T.lost a ∧ T.lost a ≤ 1099511627776) (hq : (T.que a).length ≤ 1048576) :
    Calls Try.prog 79 #[.pointer (some ⟨H, 4 + a * 3, none⟩), msgV q] w fun e w' => e = .returned (.tuple #[]) ∧ HStep w H x w' (recvM T a q) D := by
  obtain ⟨i0, hi, hz0, hz1, hz2⟩ := info_parts infoMsg
  have HR : Hid (HRep w H x T D) := hr
  have hH := hr.cells.lt
  clear hr
  obtain ⟨aq, cq, hvq, q3, q4, -⟩ := (HR.out.que a ha).form
  unfold maxLen at q4
  have cque := HR.out.cells.que a ha
  rw [hvq] at cque
  have clost := HR.out.cells.lost a ha
  by_cases h10 : 10 ≤ (T.que a).length
  · have HE : Hid (recvM T a q = { T with lost := setAt T.lost a (T.lost a + 1) }) := if_pos h10
    have hfr := HR.out.cells.free (4 + a * 3 + 2)
    go_enter Try.func79, Try.ntmps79
    go_wp2_with fail
    exact bodyPost_ret (results_none rfl _ _ _) rfl ⟨rfl, by rw [HE.out]; exact (HR.out.setLost ha _).below (below_one _ _)⟩
  · have HE : Hid (recvM T a q = { T with que := setAt T.que a (T.que a ++ [q]) }) := if_neg h10
    have hfr := HR.out.cells.free (4 + a * 3 + 1)
    have hbA : Below w.heap.size w (w.alloc (Obj.cells #[.int .i64 q.number, .string q.topic, .int .i64 q.value, .int .i64 q.life, .int .i64 q.sentAt] 107)) := below_one _ _
    have RA : Hid (HRep (w.alloc (Obj.cells #[.int .i64 q.number, .string q.topic, .int .i64 q.value, .int .i64 q.life, .int .i64 q.sentAt] 107)) H x T D) := HR.out.below hbA
    have hrow : Hid (Row (w.alloc (Obj.cells #[.int .i64 q.number, .string q.topic, .int .i64 q.value, .int .i64 q.life, .int .i64 q.sentAt] 107)) 107 5 (.slice aq (T.que a).length cq) (T.que a).length ((T.que a).flatMap msgCells)) := by
      have := RA.out.que a ha
      rw [hvq] at this
      exact this
    have hqB : (x.queV a).ownBlock ≠ some H := fun e => (RA.out.apart.2.2.2.1 a H ha e rfl)
    rw [hvq] at hqB
    have HBA : Hid (Below w.heap.size w (w.alloc (Obj.cells #[.int .i64 q.number, .string q.topic, .int .i64 q.value, .int .i64 q.life, .int .i64 q.sentAt] 107))) := hbA
    obtain ⟨v1, w1, hrun, hown1, hgrow, -, hat⟩ := run_append_own_at (P := Try.prog) ((w.alloc (Obj.cells #[.int .i64 q.number, .string q.topic, .int .i64 q.value, .int .i64 q.life, .int .i64 q.sentAt] 107)).alloc (Obj.cells #[.int .i64 q.number, .string q.topic, .int .i64 q.value, .int .i64 q.life, .int .i64 q.sentAt] 107)).drew 0 91 91 107 i0 _ 5 48 Try.underlying91 hi hz0 hz1 hz2 rfl (by omega)
      (.slice aq (T.que a).length cq) (T.que a).length _ ((hrow.out.alloc _).drew) ⟨w.heap.size + 1, 0, none⟩ 1 1 (msgCells q) rfl (World.news_of_block (cs := (msgCells q).toArray) (t := 107) (fr := (0, 0)) (by have h := heap_alloc_new (w.alloc (Obj.cells #[.int .i64 q.number, .string q.topic, .int .i64 q.value, .int .i64 q.life, .int .i64 q.sentAt] 107)) (Obj.cells #[.int .i64 q.number, .string q.topic, .int .i64 q.value, .int .i64 q.life, .int .i64 q.sentAt] 107); rw [show (w.alloc (Obj.cells #[.int .i64 q.number, .string q.topic, .int .i64 q.value, .int .i64 q.life, .int .i64 q.sentAt] 107)).heap.size = w.heap.size + 1 from by simp] at h; exact h)) (msg_one _)
      (by unfold maxLen; omega) (by omega) (by omega)
    rw [appSem_eq] at hrun
    have hw1 : w1.cell? ⟨H, 4 + a * 3 + 1, none⟩ = some (.slice aq (T.que a).length cq) := (hgrow.cell_far _ (by simp; omega) (Ne.symm hqB)).trans ((World.cell?_alloc_past _ _ _ (by simp; omega)).trans ((World.cell?_alloc_past _ _ _ hH).trans cque))
    have hf1 : w1.frozen? ⟨H, 4 + a * 3 + 1, none⟩ = false := (hgrow.frozen_far _ (by simp; omega) (Ne.symm hqB)).trans ((World.frozen?_alloc_past _ _ _ (by simp; omega)).trans ((World.frozen?_alloc_past _ _ _ hH).trans hfr))
    obtain ⟨a1, c1, rfl, -, -, -⟩ := Row.form hown1
    have HO1 : Hid (Row w1 107 5 (.slice a1 ((T.que a).length + 1) c1) ((T.que a).length + 1) ((T.que a).flatMap msgCells ++ msgCells q)) := hown1
    have HU1 : Hid (Upd (fun k => (x.queV a).ownBlock = some k) w w1) := by
      rw [hvq]; exact ((((Upd.refl _ w).alloc _).alloc _).drew).grown hgrow (fun i e _ => e)
    have HF1 : Hid (Fresh w (x.queV a) (.slice a1 ((T.que a).length + 1) c1)) := by
      rw [hvq]
      intro g hg
      rcases hat with h | h
      · exact .inl (h.symm.trans hg)
      · rw [h] at hg
        simp at hg
        exact .inr (by omega)
    clear hown1 hgrow hat hbA
    go_enter Try.func79, Try.ntmps79
    go_wp2_with fail
    go_region
    all_goals go_wp2_with fail
    go_end0
    exact ⟨rfl, by rw [HE.out]; exact HR.out.setQue ha (l := T.que a ++ [q]) HU1.out (by simpa using HO1.out) HF1.out⟩
end Go.Proofs.Ytmjdndhfmfjbiab

namespace Go.Proofs.Ytmjdndhfmfjbiab
open Go.RowKit

set_option maxRecDepth 100000 in
set_option maxHeartbeats 4000000 in
theorem hrSend (H : Nat) (x : RefV) (S : RefS) (D : ByteArray) (m : WaitD) (w : World) (hr : HRep w H x S D) (ht : m.topic.size ≤ 1048576) (hf : ∀ a, a < 8 → ∀ f ∈ S.fil a, f.size ≤ 1048576)
    (hfl : ∀ a, a < 8 → (S.fil a).length ≤ 1048576) (hl : ∀ a, a < 8 → 0 ≤ S.lost a ∧ S.lost a ≤ 1099511627776) (hq : ∀ a, a < 8 → (S.que a).length ≤ 1048576) :
    Calls Try.prog 58 #[.pointer (some ⟨H, 0, none⟩), msgV (sentOf S m)] w fun e w' => e = .returned (.tuple #[]) ∧ HStep w H x w' (sendTo S m 8) D := by
  have HR : Hid (HRep w H x S D) := hr
  have hH := hr.cells.lt
  clear hr
  have HQM : Hid (∀ a, sentOf (sendTo S m a) m = sentOf S m) := fun a => by unfold sentOf; rw [(sendTo_keeps S m a).2.1]
  have HTOP : Hid ((sentOf S m).topic = m.topic) := rfl
  generalize sentOf S m = q at *
  have htq : q.topic.size ≤ 1048576 := by rw [HTOP.out]; exact ht
  go_enter Try.func58, Try.ntmps58
  go_wp2_with fail
  generalize hWA : w.alloc _ = wa
  have hbA : Below w.heap.size w wa := by rw [← hWA]; exact below_one _ _
  have b0 : wa.cell? ⟨w.heap.size, 0, none⟩ = some (.int .i64 q.number) := by rw [← hWA]; simp
  have b1 : wa.cell? ⟨w.heap.size, 1, none⟩ = some (.string q.topic) := by rw [← hWA]; simp
  have b2 : wa.cell? ⟨w.heap.size, 2, none⟩ = some (.int .i64 q.value) := by rw [← hWA]; simp
  have b3 : wa.cell? ⟨w.heap.size, 3, none⟩ = some (.int .i64 q.life) := by rw [← hWA]; simp
  have b4 : wa.cell? ⟨w.heap.size, 4, none⟩ = some (.int .i64 q.sentAt) := by rw [← hWA]; simp
  have hsA : w.heap.size < wa.heap.size := by rw [← hWA]; simp
  clear hWA
  have HBA : Hid (Below w.heap.size w wa) := hbA
  have RA : Hid (HRep wa H x S D) := HR.out.below hbA
  go_loopw [4] (fun i wr => ∃ a : Nat, a ≤ 8 ∧ i = .int .i64 a ∧ HStep wa H x wr (sendTo S m a) D) (fun i _ => 8 - (intOf i).toNat)
  case atStart => exact ⟨0, by omega, rfl, HStep.refl RA.out⟩
  case round =>
    obtain ⟨a, ha, rfl, x1, r1, u1, f1⟩ := hrel
    by_cases hlt : a < 8
    · have ha0 : (0 : Int) ≤ (a : Int) := by omega
      have ha1 : (a : Int) < 8 := by omega
      obtain ⟨k1, k2, -, -, -, -, k7⟩ := sendTo_keeps S m a
      obtain ⟨k8, k9⟩ := k7 a (Nat.le_refl _)
      have HSTEP : Hid (sendTo S m (a + 1) = if fitAny ((sendTo S m a).fil a) q.topic then recvM (sendTo S m a) a q else sendTo S m a) := by
        show sendTo S m (a + 1) = _
        rw [HTOP.out, ← HQM.out a]; rfl
      have hff := hf a hlt
      have hfl := hfl a hlt
      have hll := hl a hlt
      have hqq := hq a hlt
      rw [← k1] at hff hfl
      rw [← k8] at hll
      rw [← k9] at hqq
      have HFF : Hid (∀ f ∈ (sendTo S m a).fil a, f.size ≤ 1048576) := hff
      clear k1 k2 k7 k8 k9 hff hf hl hq
      generalize sendTo S m a = T at *
      obtain ⟨af, cf, hvf, q1, q2, hcf⟩ := (r1.fil a hlt).form
      have HCF : Hid (CellsAt wr af ((T.fil a).map Value.string)) := hcf
      have R1 : Hid (HRep wr H x1 T D) := r1
      have HST : Hid (HStep wa H x wr T D) := ⟨x1, r1, u1, f1⟩
      have HTH : Hid (∀ w2 S2, HStep wr H x1 w2 S2 D → HStep wa H x w2 S2 D) := fun w2 S2 h => HStep.then u1 f1 h
      have cfil := r1.cells.fil a hlt
      rw [hvf] at cfil
      have hbx : ¬ HFP H x w.heap.size := fun hk => by have := HR.out.lt hk; omega
      have c0 := u1.cell b0 hbx
      have c1 := u1.cell b1 hbx
      have c2 := u1.cell b2 hbx
      have c3 := u1.cell b3 hbx
      have c4 := u1.cell b4 hbx
      have hHl := r1.cells.lt
      have hxl : w.heap.size < wr.heap.size := by have := u1.size; omega
      clear r1 u1 f1 hcf hbx q1 q2 hvf b0 b1 b2 b3 b4
      cases hfit : fitAny (T.fil a) q.topic
      · have HFIT : Hid (fitAny (T.fil a) q.topic = false) := hfit
        have HE : Hid (sendTo S m (a + 1) = T) := by show _ = _; rw [HSTEP.out, hfit]; rfl
        clear hfit HSTEP
        go_wp2_with fail
        go_region_with (go_at_call 78; refine (hrFitsOne (T.fil a) af cf q.topic _ hfl (HCF.out.below below_drew) HFF.out htq).mono ?_; rintro e w2 ⟨rfl, hb2⟩; rw [HFIT.out])
        all_goals have b2 : Below wr.heap.size wr w2 := below_drew.trans (hb2.mono (Nat.le_refl _))
        all_goals go_wp2_with fail
        all_goals go_roundw
        all_goals first
          | (case rel => exact ⟨a + 1, by omega, by go_num, by rw [HE.out]; exact HST.out.below b2⟩)
          | (case measure => simp [intOf]; omega)
          | skip
      · have HFIT : Hid (fitAny (T.fil a) q.topic = true) := hfit
        have HE : Hid (sendTo S m (a + 1) = recvM T a q) := by show _ = _; rw [HSTEP.out, hfit]; rfl
        clear hfit HSTEP
        go_wp2_with fail
        go_region_with (go_at_call 78; refine (hrFitsOne (T.fil a) af cf q.topic _ hfl (HCF.out.below below_drew) HFF.out htq).mono ?_; rintro e w2 ⟨rfl, hb2⟩; rw [HFIT.out])
        all_goals have b2 : Below wr.heap.size wr w2 := below_drew.trans (hb2.mono (Nat.le_refl _))
        all_goals have d0 := cell_later b2 c0
        all_goals have d1 := cell_later b2 c1
        all_goals have d2 := cell_later b2 c2
        all_goals have d3 := cell_later b2 c3
        all_goals have d4 := cell_later b2 c4
        all_goals have HB2 : Hid (Below wr.heap.size wr w2) := b2
        all_goals clear hb2 b2 c0 c1 c2 c3 c4
        all_goals go_wp2_with fail
        all_goals go_region_with (go_at_call 79; refine (hrReceive H x1 T D a q _ ((R1.out.below HB2.out).below below_drew) hlt hll hqq).mono ?_; rintro e w3 ⟨rfl, hst⟩)
        all_goals go_wp2_with fail
        all_goals go_roundw
        all_goals first
          | (case rel => exact ⟨a + 1, by omega, by go_num, by rw [HE.out]; exact HTH.out _ _ (HStep.then (Upd.of_below HB2.out) (fun _ hk => .inl hk) (HStep.then (Upd.of_below below_drew) (fun _ hk => .inl hk) hst))⟩)
          | (case measure => simp [intOf]; omega)
          | skip
    · have e : a = 8 := by omega
      subst e
      go_wp2_with fail
      go_end0
      exact ⟨rfl, HStep.then (Upd.of_below HBA.out) (fun _ hk => .inl hk) ⟨x1, r1, u1, f1⟩⟩
end Go.Proofs.Ytmjdndhfmfjbiab

namespace Go.Proofs.Ytmjdndhfmfjbiab
open Go.RowKit

theorem over_alive (t : Int) (m : SentD) (h : 0 ≤ m.life) : (!overB t m) = aliveB t m := by
  unfold overB aliveB
  by_cases h0 : m.life = 0
  · simp [h0]
  · have h1 : 0 < m.life := by omega
    have e : (m.life == 0) = false := by simp [h0]
    simp only [h1, e, decide_true, Bool.true_and, Bool.false_or]
    rw [Bool.eq_iff_iff]
    simp
theorem filter_alive (t : Int) (l : List SentD) (h : ∀ m ∈ l, 0 ≤ m.life) : l.filter (fun m => !overB t m) = l.filter (aliveB t) :=
  List.filter_congr (fun m hm => over_alive t m (h m hm))

/-- What is over leaves the queues, the time being what it is. -/
def oldTo (S : RefS) : Nat → RefS
  | 0 => S
  | a + 1 => { oldTo S a with que := setAt (oldTo S a).que a (((oldTo S a).que a).filter (aliveB S.time)) }
theorem aged_old (S : RefS) (to : Int) : ∀ a, agedTo S to a = oldTo { S with time := to } a
  | 0 => rfl
  | a + 1 => by rw [agedTo, aged_old S to a]; rfl
theorem old_keeps (S : RefS) (a : Nat) : (oldTo S a).time = S.time ∧ ∀ b, (oldTo S a).que b = if b < a then (S.que b).filter (aliveB S.time) else S.que b := by
  have h := aged_keeps S S.time a
  rw [aged_old] at h
  have e : { S with time := S.time } = S := rfl
  rw [e] at h
  obtain ⟨-, h2, -, -, -, -, -, h8⟩ := h
  exact ⟨h2, h8⟩

set_option maxRecDepth 100000 in
set_option maxHeartbeats 4000000 in
theorem hrDropOver (H : Nat) (x : RefV) (S : RefS) (D : ByteArray) (w : World) (hr : HRep w H x S D) (h0 : 0 ≤ S.time) (h1 : S.time ≤ 1099511627776)
    (hq : ∀ a, a < 8 → (S.que a).length ≤ 1048576 ∧ ∀ m ∈ S.que a, 0 ≤ m.sentAt ∧ m.sentAt ≤ 1099511627776 ∧ 0 ≤ m.life ∧ m.life ≤ 1099511627776) :
    Calls Try.prog 62 #[.pointer (some ⟨H, 0, none⟩)] w fun e w' => e = .returned (.tuple #[]) ∧ HStep w H x w' (oldTo S 8) D := by
  have HR : Hid (HRep w H x S D) := hr
  clear hr
  go_enter Try.func62, Try.ntmps62
  go_wp2_with fail
  go_loopw [2] (fun i wr => ∃ a : Nat, a ≤ 8 ∧ i = .int .i64 a ∧ HStep w H x wr (oldTo S a) D) (fun i _ => 8 - (intOf i).toNat)
  case atStart => exact ⟨0, by omega, rfl, HStep.refl HR.out⟩
  case round =>
    obtain ⟨a, ha, rfl, x1, r1, u1, f1⟩ := hrel
    by_cases hlt : a < 8
    · have ha0 : (0 : Int) ≤ (a : Int) := by omega
      have ha1 : (a : Int) < 8 := by omega
      obtain ⟨k1, k2⟩ := old_keeps S a
      have k3 := k2 a
      rw [if_neg (by omega)] at k3
      have hqa := hq a hlt
      rw [← k3] at hqa
      have HSTEP : Hid (oldTo S (a + 1) = { oldTo S a with que := setAt (oldTo S a).que a (((oldTo S a).que a).filter (fun m => !overB S.time m)) }) := by
        show _ = _
        rw [filter_alive _ _ (fun m hm => (hqa.2 m hm).2.2.1)]; rfl
      have ctime := r1.cells.time
      rw [k1] at ctime
      clear k1 k2 k3
      generalize oldTo S a = T at *
      obtain ⟨aq, cq, hvq, q1, q2, hcq⟩ := (r1.que a hlt).form
      have HCQ : Hid (CellsAt wr aq ((T.que a).flatMap msgCells)) := hcq
      have hql := hqa.1
      have HQM : Hid (∀ m ∈ T.que a, 0 ≤ m.sentAt ∧ m.sentAt ≤ 1099511627776) := fun m hm => ⟨(hqa.2 m hm).1, (hqa.2 m hm).2.1⟩
      have R1 : Hid (HRep wr H x1 T D) := r1
      have HTH : Hid (∀ w2 S2, HStep wr H x1 w2 S2 D → HStep w H x w2 S2 D) := fun w2 S2 h => HStep.then u1 f1 h
      have cque := r1.cells.que a hlt
      rw [hvq] at cque
      have hHl := r1.cells.lt
      have hfr := r1.cells.free (4 + a * 3 + 1)
      clear r1 u1 f1 hcq q1 q2 hvq hqa hq
      go_wp2_with fail
      go_region_with (go_at_call 82; refine (hrWithoutOver (T.que a) aq cq S.time _ hql (HCQ.out.below below_drew) h0 h1 HQM.out).mono ?_; rintro e w2 ⟨v, rfl, ho2, hb2⟩; obtain ⟨a1, c1, rfl, -, -, -⟩ := Row.form (row_of_own (w := wr) ho2 nilV).1; have cque2 := cell_later (w := wr.drew) hb2 cque; have hfr2 := (hb2.frozen (p := ⟨H, 4 + a * 3 + 1, none⟩) hHl).trans hfr)
      all_goals have HO2 : Hid (wr.heap.size ≤ w2.heap.size ∧ Below wr.heap.size wr w2) := ⟨hb2.size, below_drew.trans hb2⟩
      all_goals go_wp2_with fail
      all_goals go_roundw
      all_goals first
        | (case rel => exact ⟨a + 1, by omega, by go_num, by rw [HSTEP.out]; exact HTH.out _ _ (R1.out.setQue hlt (Upd.of_below HO2.out.2) (row_of_own (w := wr) ho2 nilV).1 (row_of_own (w := wr) ho2 _).2)⟩)
        | (case measure => simp [intOf]; omega)
        | skip
    · have e : a = 8 := by omega
      subst e
      go_wp2_with fail
      go_end0
      exact ⟨rfl, ⟨x1, r1, u1, f1⟩⟩
end Go.Proofs.Ytmjdndhfmfjbiab
