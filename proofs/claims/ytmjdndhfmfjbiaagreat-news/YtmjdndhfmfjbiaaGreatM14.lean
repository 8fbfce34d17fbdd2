import Derived.Test.YtmjdndhfmfjbiaaGreatM13
import Derived.Deep.DrawnRows
namespace Go.Proofs.YtmjdndhfmfjbiaaGreat
open Go.RowKit
attribute [local go_sem ↓] Go.wp_at_zero Go.wp_at_succ appSem_eq

theorem selN_few : ∀ (n : Nat) (l : List WaitD), (selN n l).length ≤ n
  | 0, _ => by simp [selN]
  | n + 1, l => by
    rw [selN]
    split
    · simp
    · split
      · simp
      · simp only [List.length_cons]
        exact Nat.succ_le_succ (selN_few n _)

theorem waiting_few {S : RefS} (h : Inv S) : (waitingM S).length ≤ 64 := Nat.le_trans (selN_few _ _) h.wait.1

theorem whole_waits {P : Prog} {w w4 w5 : World} {G : Nat} {c : Nat → Nat} {b : Nat} {v : GameV} {S : RefS} {x : RefV} {F : Nat → Prop} {R : List ByteArray} {ends : List Int} {v4 v5 : Value} {T TT : List Value}
    (hg : Whole P w G c b v S x F R ends) (hc : ∃ c1, Ext w c c1 ∧ Lists (w5.setCell ⟨G, 9, none⟩ v5) c1 56 fW 9 10 v4 v5 (b + 1) T TT) (hu : Upd (fun k => c k = 3 ∨ c k = 9 ∨ c k = 10) w (w5.setCell ⟨G, 9, none⟩ v5))
    (h4 : Upd (fun k => c k = 9) w w4) (h5 : Upd (fun k => c k = 10) (w4.setCell ⟨G, 6, none⟩ v4) w5) : Next P w G c (b + 1) S (w5.setCell ⟨G, 9, none⟩ v5) := by
  obtain ⟨c1, hext, hL⟩ := hc
  obtain ⟨M, MM, hM⟩ := hg.texts
  obtain ⟨U, UU, hU⟩ := hg.mails
  have l1 := (hg.core.lies.upd h4 (by rw [hg.core.cG]; omega)).store (v1 := { v with waitsV := v4 }) 6 v4 (h4.cell hg.core.lies.waits (by show ¬ c G = 9; rw [hg.core.cG]; omega)) rfl rfl rfl rfl rfl rfl rfl rfl rfl rfl
  have l2 := l1.upd h5 (by rw [hg.core.cG]; omega)
  have l3 := l2.store (v1 := { v with waitsV := v4, wtV := v5 }) 9 v5 l2.wt rfl rfl rfl rfl rfl rfl rfl rfl rfl rfl
  exact ⟨c1, _, x, F, R, ends, ⟨hg.core.relist hu (by omega) (by omega) hext l3 rfl rfl rfl rfl, ⟨M, MM, (hM.upd hu (fun g e => by omega) hext).more (by omega)⟩, ⟨U, UU, (hU.upd hu (fun g e => by omega) hext).more (by omega)⟩, ⟨_, _, hL⟩⟩, hext, hu.mono (fun k e => by omega)⟩

set_option maxRecDepth 100000 in
set_option maxHeartbeats 4000000 in
theorem lawWaiting (P : Prog) (w : World) (G : Nat) (c : Nat → Nat) (b : Nat) (v : GameV) (S : RefS) (x : RefV) (F : Nat → Prop) (R : List ByteArray) (ends : List Int) (hg : Whole P w G c b v S x F R ends) (hb : b ≤ 100000000) :
    Calls Tryz.prog 24 #[.pointer (some ⟨G, 0, none⟩)] w fun e w' => e = .returned (.bool true) ∧ Next P w G c (b + 1) S w' := by
  obtain ⟨T, TT, hL⟩ := hg.waits
  have ch := hg.core.lies.h
  have cw := hg.core.lies.w'
  have ct := hg.core.lies.waits
  obtain ⟨at', tc, htv, t1, t2, -⟩ := hL.row.form
  obtain ⟨aq, qc, hqv, -, -, -⟩ := hL.rows.form
  rw [htv] at ct
  unfold maxLen at t2
  have hfew := hL.few
  have HG : Hid (Whole P w G c b v S x F R ends) := hg
  have HL : Hid (Lists w c 56 fW 9 10 v.waitsV v.wtV b T TT) := hL
  have HT : Hid (v.waitsV = .slice at' T.length tc) := htv
  have HQ : Hid (v.wtV = .slice aq TT.length qc) := hqv
  have hfl := waiting_few hg.core.good.inv
  have hGl := hg.core.lies.lt
  clear hg hL htv hqv
  go_enter Tryz.func24, Tryz.ntmps24
  go_wp2_with fail
  refine (P.waiting HG.out.core.pr HG.out.core.good).mono ?_
  rintro e w1 ⟨va, rfl, hown1, hb1⟩
  have cw1 := cell_later hb1 cw
  have HO1 : Hid (w1.ownsRow w.heap.size 80 5 va (waitingM S).length ((waitingM S).flatMap waitCells)) := hown1
  clear hown1
  go_wp2_with fail
  refine (refWaiting v.wB x S _ (HG.out.core.rep.below hb1) HG.out.core.good.inv).mono ?_
  rintro e w2 ⟨vb, rfl, hown2, hb2⟩
  obtain ⟨ab, cb, rfl, -, -, hcb⟩ := own_cells hown2
  have ho1 := own_below HO1.out hb2
  obtain ⟨aa, ca, rfl, hca, hca2, hcc⟩ := own_cells ho1
  have hb12 : Below w.heap.size w w2 := hb1.trans (hb2.mono hb1.size)
  clear hb2 hown2 HO1 cw1 hb1
  go_wp2_with fail
  refine (lawSameWaits _ _ _ _ _ _ (by omega) hcc hcb).mono ?_
  rintro e w3 ⟨rfl, hb3⟩
  have ho4 := own_below ho1 hb3
  have hb14 : Below w.heap.size w w3 := hb12.trans (hb3.mono hb12.size)
  have ct3 := cell_later hb14 ct
  clear hb3 ho1 hcc hcb hb12
  have hw1 : IntKind.i64.wrap (-1 - (T.length : Int)) = -1 - (T.length : Int) := wrap_ok _ (by omega) (by omega)
  go_wp2_with fail
  clear ct3
  generalize hxs : waitingM S = xs at *
  have HMK : Hid (fW T.length = [.int .i64 (-1 - (T.length : Int)), .string ⟨#[]⟩, .int .i64 0, .int .i64 0, .int .i64 (-1 - (T.length : Int))]) := rfl
  generalize hq : -1 - (T.length : Int) = q at *
  clear hq hw1
  have HX : Hid (waitingM S = xs) := hxs
  clear hxs
  go_loopw [7] (fun i wr => ∃ j : Nat, j ≤ xs.length ∧ i = .int .i64 j ∧ wr.ownsRow w.heap.size 80 5 (.slice aa xs.length ca) xs.length ((List.replicate j (⟨q, ⟨#[]⟩, 0, 0, q⟩ : WaitD) ++ xs.drop j).flatMap waitCells) ∧ Below w.heap.size w wr) (fun i _ => xs.length - (intOf i).toNat)
  case atStart => exact ⟨0, Nat.zero_le _, rfl, by simpa using ho4, hb14⟩
  case round =>
    obtain ⟨j, hj, rfl, hor, hbr⟩ := hrel
    by_cases hjl : j < xs.length
    · obtain ⟨ag, cg, hvg, -, -, hcr⟩ := own_cells hor
      simp only [Value.slice.injEq, true_and] at hvg
      obtain ⟨rfl, rfl⟩ := hvg
      have hlen : (List.replicate j (⟨q, ⟨#[]⟩, 0, 0, q⟩ : WaitD) ++ xs.drop j).length = xs.length := by rw [List.length_append, List.length_replicate, List.length_drop]; omega
      obtain ⟨y, hy⟩ : ∃ y, (List.replicate j (⟨q, ⟨#[]⟩, 0, 0, q⟩ : WaitD) ++ xs.drop j)[j]? = some y := ⟨_, List.getElem?_eq_getElem (by omega)⟩
      obtain ⟨g, rfl, hgl, f0, f1, f2, f3, f4⟩ := wait_cells hcr hy
      have z0 := World.ownsRow.frozenAt hor (j * 5)
      have z1 := World.ownsRow.frozenAt hor (j * 5 + 1)
      have z2 := World.ownsRow.frozenAt hor (j * 5 + 2)
      have z3 := World.ownsRow.frozenAt hor (j * 5 + 3)
      have z4 := World.ownsRow.frozenAt hor (j * 5 + 4)
      have st := row5 hor hy (z := ⟨q, ⟨#[]⟩, 0, 0, q⟩)
      rw [set_step _ xs j hjl] at st
      have ST : Hid (_ ∧ World.grownBy wr _ _) := st
      clear hy st hor hcr hlen
      go_wp2_with fail
      go_roundw
      case rel => exact ⟨j + 1, by omega, by go_num, ST.out.1, hbr.grown ST.out.2 hbr.size (fun q hq => by simp at hq; subst hq; exact (ST.out.1.lt _ rfl).1)⟩
      case measure => simp [intOf]; omega
    · have hjn : j = xs.length := by omega
      subst hjn
      have hrow : wr.ownsRow w.heap.size 80 5 (.slice aa xs.length ca) xs.length (rep (fW T.length) xs.length) := by
        rw [List.drop_of_length_le (by simp), List.append_nil, rep_flat] at hor
        rw [HMK.out]; exact hor
      clear hor
      obtain ⟨a1, c1, w1, a2, c2, w2, a3, c3, w3, x1, x2, x3, r0, r1, r2, r3, bl, g0, g1, g2, g3, ua, ub⟩ := tails3 56 80 _ 5 48 Tryz.underlying56 infoWait rfl (by omega) (by omega) (fW T.length) rfl (wait_one _) (wr.alloc (.cells (fW T.length).toArray 80)) w.heap.size aa _ ca (hrow.alloc _) (by have := hbr.size; simp; omega) (by omega)
      have hmA : ¬ (Value.slice aa xs.length ca).ownBlock = some wr.heap.size := fun e => by have := (hrow.lt _ e).2; omega
      have hmc : ∀ j u, (fW T.length)[j]? = some u → (wr.alloc (.cells (fW T.length).toArray 80)).cell? ⟨wr.heap.size, j, none⟩ = some u := fun j u hj => by
        have := cells_new wr (fW T.length) 80 j u hj
        rwa [Addr.add_lit, Nat.zero_add] at this
      rw [HMK.out] at x1 x2 x3 ua ub hmc
      have ma0 := ua.cell (hmc 0 _ rfl) hmA
      have ma1 := ua.cell (hmc 1 _ rfl) hmA
      have ma2 := ua.cell (hmc 2 _ rfl) hmA
      have ma3 := ua.cell (hmc 3 _ rfl) hmA
      have ma4 := ua.cell (hmc 4 _ rfl) hmA
      have mb0 := ub.cell (hmc 0 _ rfl) hmA
      have mb1 := ub.cell (hmc 1 _ rfl) hmA
      have mb2 := ub.cell (hmc 2 _ rfl) hmA
      have mb3 := ub.cell (hmc 3 _ rfl) hmA
      have mb4 := ub.cell (hmc 4 _ rfl) hmA
      have hsa := ua.size
      have hsb := ub.size
      simp only [List.cons_append, List.nil_append, size_alloc] at x1 x2 x3 hsa hsb
      have hb3 : Below w.heap.size w w3 := (hbr.alloc hbr.size _).trans bl
      have ct5 := cell_later hb3 ct
      obtain ⟨a4, c4, w4', a5, c5, w5, x4, e1, z1, e2, x5, e3, z3, hc1, hu1, hu4, hu5⟩ := lists_add 45 56 Tryz.underlying45 infoWaits HL.out (by omega) (by omega) (by omega) (by omega) (by omega) hb HG.out.core.lies HG.out.core.cG 6 9 (by omega) HG.out.core.lies.waits HG.out.core.lies.wt hb3 HT.out HQ.out (newList r0 (by omega) g0) (newList r1 (by omega) g1) (newList r2 (by omega) g2) (newList r3 (by omega) g3)
      have HN : Hid (Next P w G c (b + 1) S (w5.setCell ⟨G, 9, none⟩ (.slice a5 (TT.length + 3) c5))) := whole_waits HG.out hc1 hu1 hu4 hu5
      clear ho4 hrow hbr hb14 bl hc1 hu1 hu4 hu5 r0 r1 r2 r3 g0 g1 g2 g3 ua ub hmc hmA
      go_wp2_with fail
      go_ret
      exact ⟨rfl, HN.out⟩
end Go.Proofs.YtmjdndhfmfjbiaaGreat

namespace Go.Proofs.YtmjdndhfmfjbiaaGreat
open Go.RowKit

/-! The disk -/
theorem cat_append : ∀ (A B : List ByteArray), cat (A ++ B) = cat A ++ cat B
  | [], B => by
    show cat B = ByteArray.empty ++ cat B
    rw [ByteArray.empty_append]
  | r :: A, B => by
    rw [List.cons_append, cat, cat, cat_append A B, ByteArray.append_assoc]
theorem cat_split (R : List ByteArray) (k : Nat) : cat R = cat (R.take k) ++ cat (R.drop k) := by rw [← cat_append, List.take_append_drop]
theorem cat_size_split (R : List ByteArray) (k : Nat) : (cat R).size = (cat (R.take k)).size + (cat (R.drop k)).size := by
  conv => lhs; rw [cat_split R k]
  exact ByteArray.size_append
theorem cat_ge : ∀ (R : List ByteArray), (∀ r ∈ R, 0 < r.size) → R.length ≤ (cat R).size
  | [], _ => by simp
  | r :: R, h => by
    have h1 := h r (by simp)
    have h2 := cat_ge R (fun q hq => h q (by simp [hq]))
    rw [cat, ByteArray.size_append, List.length_cons]
    omega
/-- Of records, those ahead take up less, by a byte or more for each between. -/
theorem cat_mono {R : List ByteArray} (h : ∀ r ∈ R, 0 < r.size) {i j : Nat} (hij : i ≤ j) (hj : j ≤ R.length) : (cat (R.take i)).size + (j - i) ≤ (cat (R.take j)).size := by
  have e := cat_size_split (R.take j) i
  rw [List.take_take, Nat.min_eq_left hij] at e
  have g := cat_ge ((R.take j).drop i) (fun r hr => h r (List.mem_of_mem_take (List.mem_of_mem_drop hr)))
  rw [List.length_drop, List.length_take, Nat.min_eq_left hj] at g
  omega
theorem cat_take_le (R : List ByteArray) (i : Nat) : (cat (R.take i)).size ≤ (cat R).size := by
  rw [cat_size_split R i]; omega
theorem cat_head (R : List ByteArray) (i : Nat) : (cat R).extract 0 (cat (R.take i)).size = cat (R.take i) := by
  conv => lhs; rw [cat_split R i]
  exact ByteArray.extract_append_eq_left rfl

theorem whole_le : ∀ (R : List ByteArray) (k : Nat), wholeN R k ≤ R.length
  | [], _ => Nat.le_refl _
  | r :: R, k => by
    rw [wholeN]
    split
    · exact Nat.succ_le_succ (whole_le R _)
    · exact Nat.zero_le _
theorem whole_size : ∀ (R : List ByteArray) (k : Nat), (cat (R.take (wholeN R k))).size ≤ k
  | [], k => by
    show ByteArray.size ⟨#[]⟩ ≤ k
    exact Nat.zero_le _
  | r :: R, k => by
    rw [wholeN]
    split
    · have := whole_size R (k - r.size)
      rw [List.take_succ_cons, cat, ByteArray.size_append]
      omega
    · show ByteArray.size ⟨#[]⟩ ≤ k
      exact Nat.zero_le _
theorem whole_max : ∀ (R : List ByteArray) (k n : Nat), n ≤ R.length → (cat (R.take n)).size ≤ k → n ≤ wholeN R k
  | [], _, n, h, _ => h
  | r :: R, k, 0, _, _ => Nat.zero_le _
  | r :: R, k, n + 1, h, hk => by
    rw [List.take_succ_cons, cat, ByteArray.size_append] at hk
    rw [wholeN, if_pos (by omega)]
    exact Nat.succ_le_succ (whole_max R _ n (by simpa using h) (by omega))

/-- The last place up to n that is known. -/
theorem known_spec {ends : List Int} (h0 : ends[0]? = some 0) : ∀ n, n < ends.length → knownTo ends n ≤ n ∧ ∃ e, ends[knownTo ends n]? = some e ∧ 0 ≤ e
  | 0, _ => ⟨Nat.le_refl _, 0, h0, Int.le_refl _⟩
  | n + 1, hn => by
    obtain ⟨e, he⟩ : ∃ e, ends[n + 1]? = some e := ⟨_, List.getElem?_eq_getElem hn⟩
    by_cases hneg : e < 0
    · have hk : knownTo ends (n + 1) = knownTo ends n := by rw [knownTo, he]; simp only [if_pos hneg]
      rw [hk]
      obtain ⟨h1, h2⟩ := known_spec h0 n (by omega)
      exact ⟨by omega, h2⟩
    · have hk : knownTo ends (n + 1) = n + 1 := by rw [knownTo, he]; simp only [if_neg hneg]
      rw [hk]
      exact ⟨Nat.le_refl _, e, he, by omega⟩

/-! Room is nothing to what an operation brings about. -/
def roomed (S : RefS) (r : Int) : RefS := { S with room := r }
theorem sendOne_room (T : RefS) (m : WaitD) (a : Nat) (r : Int) : sendOne (roomed T r) m a = roomed (sendOne T m a) r := by
  unfold sendOne roomed
  simp only
  split
  · split <;> rfl
  · rfl
theorem sendTo_room (T : RefS) (m : WaitD) (r : Int) : ∀ a, sendTo (roomed T r) m a = roomed (sendTo T m a) r
  | 0 => rfl
  | a + 1 => by rw [sendTo, sendTo, sendTo_room T m r a, sendOne_room]
theorem deliverN_room (to r : Int) : ∀ (n : Nat) (T : RefS), deliverN to n (roomed T r) = roomed (deliverN to n T) r
  | 0, _ => rfl
  | n + 1, T => by
    rw [deliverN, deliverN]
    show (match bestTo T.wait T.wait.length with | none => roomed T r | some b => _) = _
    cases bestTo T.wait T.wait.length with
    | none => rfl
    | some b =>
      show (match T.wait[b]? with | none => roomed T r | some x => _) = _
      cases hx : T.wait[b]? with
      | none => simp only [hx]
      | some x =>
        simp only [hx]
        split
        · rfl
        · rw [← deliverN_room to r n, ← sendTo_room]
          rfl
theorem aged_room (T : RefS) (to r : Int) : ∀ a, agedTo (roomed T r) to a = roomed (agedTo T to a) r
  | 0 => rfl
  | a + 1 => by rw [agedTo, agedTo, aged_room T to r a]; rfl
theorem tick_room (T : RefS) (to r : Int) : tickM (roomed T r) to = roomed (tickM T to) r := by
  rw [tickM, aged_room]
  exact deliverN_room to r _ _
theorem turn_room (T : RefS) (o : OpD) (r : Int) : turnM (roomed T r) o = roomed (turnM T o) r := by
  unfold turnM
  split
  · rfl
  · split
    · rfl
    · split
      · split
        · exact sendTo_room { T with pub := T.pub + 1 } _ r 8
        · rfl
      · split
        · rfl
        · split
          · rfl
          · split
            · exact tick_room T o.b r
            · rfl

theorem replay_take {l : List OpD} (h : ∀ i o, l[i]? = some o → doneB (replay (l.take i)) o = true) : ∀ n, (replay (l.take n)).done = l.take n
  | 0 => rfl
  | n + 1 => by
    by_cases hn : n < l.length
    · have ho : l[n]? = some l[n] := List.getElem?_eq_getElem hn
      rw [List.take_add_one, ho]
      show (replay (l.take n ++ [l[n]])).done = l.take n ++ [l[n]]
      rw [replay_snoc, do_done, if_pos (h n _ ho), replay_take h n]
    · have := replay_take h n
      rw [List.take_of_length_le (by omega)] at this ⊢
      exact this

theorem Good.back {S : RefS} (h : Good S) (n : Nat) {r : Int} (h0 : 0 ≤ r) (h1 : r ≤ 500) : Good { replay (S.done.take n) with room := r } := by
  have hd := replay_take h.steps n
  obtain ⟨i, -⟩ := replay_inv (S.done.take n) (fun o ho => h.fine o (List.mem_of_mem_take ho))
  refine ⟨⟨i.time0, i.time1, i.fil, i.que, i.wait, i.lost, i.pub, i.done⟩, h0, h1, ?_, ?_, ?_⟩
  · show ∀ o ∈ (replay (S.done.take n)).done, Fine o
    rw [hd]
    exact fun o ho => h.fine o (List.mem_of_mem_take ho)
  · show roomed (replay (S.done.take n)) r = roomed (replay (replay (S.done.take n)).done) r
    rw [hd]
  · show ∀ i o, (replay (S.done.take n)).done[i]? = some o → doneB (replay ((replay (S.done.take n)).done.take i)) o = true
    rw [hd]
    intro i o ho
    have hi : i < n := by
      obtain ⟨hl, -⟩ := List.getElem?_eq_some_iff.1 ho
      rw [List.length_take] at hl
      omega
    rw [List.getElem?_take_of_lt hi] at ho
    rw [List.take_take, Nat.min_eq_left (by omega)]
    exact h.steps i o ho

theorem Good.does {S : RefS} (h : Good S) {o : OpD} (ho : Fine o) : Good (doS S o) := by
  by_cases hd : doneB S o = true
  · have hdone : (doS S o).done = S.done ++ [o] := by rw [do_done, if_pos hd]
    have hQ : S = roomed (replay S.done) S.room := h.again
    have key : ∀ (S Q : RefS) (r : Int), S = roomed Q r → Q.done = S.done ∧ wrongM S o = wrongM Q o ∧ writesB S o = writesB Q o ∧ ({ S with done := S.done ++ [o] } : RefS) = roomed { Q with done := Q.done ++ [o] } r := by
      rintro S Q r rfl
      exact ⟨rfl, rfl, rfl, rfl⟩
    obtain ⟨hQd, hw, hr, hS⟩ := key _ _ _ hQ
    have hQr : (replay S.done).room = 500 := (replay_inv S.done h.fine).2
    have hdQ : doneB (replay S.done) o = true := by
      simp only [doneB, Bool.and_eq_true, decide_eq_true_eq] at hd ⊢
      rw [hQd, hQr, ← hw, ← hr]
      have := h.room
      exact ⟨hd.1, by omega⟩
    have hst : doS S o = roomed (doS (replay S.done) o) S.room := by
      rw [doS, if_pos hd, doS, if_pos hdQ, ← turn_room, hS]
    have hroom : (doS S o).room = S.room := do_room S o
    refine ⟨h.inv.does h.room ho.1, by rw [hroom]; exact h.room0, by rw [hroom]; exact h.room, ?_, ?_, ?_⟩
    · rw [hdone]
      intro p hp
      rcases List.mem_append.1 hp with hp | hp
      · exact h.fine p hp
      · simp at hp; subst hp; exact ho
    · rw [hdone, hroom, replay_snoc]
      exact hst
    · rw [hdone]
      intro i p hp
      by_cases hi : i < S.done.length
      · rw [List.getElem?_append_left hi] at hp
        rw [List.take_append_of_le_length (by omega)]
        exact h.steps i p hp
      · rw [List.getElem?_append_right (by omega)] at hp
        obtain ⟨hl, rfl⟩ := List.getElem?_eq_some_iff.1 hp
        simp at hl
        obtain rfl : i = S.done.length := by omega
        simpa using hdQ
  · have : doS S o = S := by rw [doS, if_neg hd]
    rw [this]; exact h

theorem good_new {r : Int} (h0 : 0 ≤ r) (h1 : r ≤ 500) : Good (refNew r) :=
  ⟨inv_new r, h0, h1, fun o ho => by simp [refNew] at ho, rfl, fun i o ho => by simp [refNew] at ho⟩
end Go.Proofs.YtmjdndhfmfjbiaaGreat

namespace Go.Proofs.YtmjdndhfmfjbiaaGreat
open Go.RowKit

theorem MarkedC.texts {w : World} {c : Nat → Nat} {each : Int} {vs : List Value} (h : MarkedC w c fT each vs) : MarkedT w each vs := fun k u hu => by
  obtain ⟨ao, n, cap, e, hn, hc, -⟩ := h k u hu
  exact ⟨ao, n, cap, e, hn, by rw [rep_sing]; exact hc⟩
theorem MarkedC.mails {w : World} {c : Nat → Nat} {each : Int} {vs : List Value} (h : MarkedC w c fM each vs) : MarkedM w each vs := fun k u hu => by
  obtain ⟨ao, n, cap, e, hn, hc, -⟩ := h k u hu
  exact ⟨ao, n, cap, e, hn, by rw [rep_flat]; exact hc⟩
theorem MarkedC.waits {w : World} {c : Nat → Nat} {each : Int} {vs : List Value} (h : MarkedC w c fW each vs) : MarkedW w each vs := fun k u hu => by
  obtain ⟨ao, n, cap, e, hn, hc, -⟩ := h k u hu
  exact ⟨ao, n, cap, e, hn, by rw [rep_flat]; exact hc⟩

set_option maxRecDepth 100000 in
set_option maxHeartbeats 400000 in
theorem lawKept (P : Prog) (w : World) (G : Nat) (c : Nat → Nat) (b : Nat) (v : GameV) (S : RefS) (x : RefV) (F : Nat → Prop) (R : List ByteArray) (ends : List Int) (hg : Whole P w G c b v S x F R ends) (hb : b ≤ 100000000) :
    Calls Tryz.prog 25 #[.pointer (some ⟨G, 0, none⟩)] w fun e w' => e = .returned (.bool true) ∧ Below w.heap.size w w' := by
  obtain ⟨T, TT, hT⟩ := hg.texts
  obtain ⟨M, MM, hM⟩ := hg.mails
  obtain ⟨U, UU, hU⟩ := hg.waits
  have k1 := hg.core.lies.texts
  have k2 := hg.core.lies.tt
  have k3 := hg.core.lies.mails
  have k4 := hg.core.lies.mt
  have k5 := hg.core.lies.waits
  have k6 := hg.core.lies.wt
  obtain ⟨a1, c1, e1, -, -, x1⟩ := hT.row.form
  obtain ⟨a2, c2, e2, -, -, x2⟩ := hT.rows.form
  obtain ⟨a3, c3, e3, -, -, x3⟩ := hM.row.form
  obtain ⟨a4, c4, e4, -, -, x4⟩ := hM.rows.form
  obtain ⟨a5, c5, e5, -, -, x5⟩ := hU.row.form
  obtain ⟨a6, c6, e6, -, -, x6⟩ := hU.rows.form
  rw [e1] at k1
  rw [e2] at k2
  rw [e3] at k3
  rw [e4] at k4
  rw [e5] at k5
  rw [e6] at k6
  have l1 := hT.few
  have l2 : TT.length ≤ 300000000 := by have h1 := hT.three; have h2 := hT.few; omega
  have l3 := hM.few
  have l4 : MM.length ≤ 300000000 := by have h1 := hM.three; have h2 := hM.few; omega
  have l5 := hU.few
  have l6 : UU.length ≤ 300000000 := by have h1 := hU.three; have h2 := hU.few; omega
  have y1 : Hid (CellsAt w a1 T ∧ MarkedT w 1 T) := ⟨x1, hT.marks.texts⟩
  have y2 : Hid (CellsAt w a2 TT ∧ MarkedT w 3 TT) := ⟨x2, hT.tails.texts⟩
  have y3 : Hid (CellsAt w a3 M ∧ MarkedM w 1 M) := ⟨x3, hM.marks.mails⟩
  have y4 : Hid (CellsAt w a4 MM ∧ MarkedM w 3 MM) := ⟨x4, hM.tails.mails⟩
  have y5 : Hid (CellsAt w a5 U ∧ MarkedW w 1 U) := ⟨x5, hU.marks.waits⟩
  have y6 : Hid (CellsAt w a6 UU ∧ MarkedW w 3 UU) := ⟨x6, hU.tails.waits⟩
  clear hg hT hM hU x1 x2 x3 x4 x5 x6 e1 e2 e3 e4 e5 e6
  go_enter Tryz.func25, Tryz.ntmps25
  go_wp2_with fail
  refine (lawTextsKept T a1 c1 1 _ (by omega) (by omega) (by omega) y1.out.1 y1.out.2).mono ?_
  rintro e w1 ⟨rfl, b1⟩
  have q2 := cell_later b1 k2
  go_wp2_with fail
  refine (lawTextsKept TT a2 c2 3 _ (by omega) (by omega) (by omega) (y2.out.1.below b1) (y2.out.2.below b1)).mono ?_
  rintro e w2 ⟨rfl, b2'⟩
  have b2 : Below w.heap.size w w2 := b1.trans (b2'.mono b1.size)
  have q3 := cell_later b2 k3
  clear b2' b1 q2
  go_wp2_with fail
  refine (lawMailsKept M a3 c3 1 _ (by omega) (by omega) (by omega) (y3.out.1.below b2) (y3.out.2.below b2)).mono ?_
  rintro e w3 ⟨rfl, b3'⟩
  have b3 : Below w.heap.size w w3 := b2.trans (b3'.mono b2.size)
  have q4 := cell_later b3 k4
  clear b3' b2 q3
  go_wp2_with fail
  refine (lawMailsKept MM a4 c4 3 _ (by omega) (by omega) (by omega) (y4.out.1.below b3) (y4.out.2.below b3)).mono ?_
  rintro e w4 ⟨rfl, b4'⟩
  have b4 : Below w.heap.size w w4 := b3.trans (b4'.mono b3.size)
  have q5 := cell_later b4 k5
  clear b4' b3 q4
  go_wp2_with fail
  refine (lawWaitsKept U a5 c5 1 _ (by omega) (by omega) (by omega) (y5.out.1.below b4) (y5.out.2.below b4)).mono ?_
  rintro e w5 ⟨rfl, b5'⟩
  have b5 : Below w.heap.size w w5 := b4.trans (b5'.mono b4.size)
  have q6 := cell_later b5 k6
  clear b5' b4 q5
  go_wp2_with fail
  refine (lawWaitsKept UU a6 c6 3 _ (by omega) (by omega) (by omega) (y6.out.1.below b5) (y6.out.2.below b5)).mono ?_
  rintro e w6 ⟨rfl, b6'⟩
  have b6 : Below w.heap.size w w6 := b5.trans (b6'.mono b5.size)
  clear b6' b5 q6
  go_wp2_with fail
  go_ret
  exact ⟨rfl, b6⟩

end Go.Proofs.YtmjdndhfmfjbiaaGreat

namespace Go.Proofs.YtmjdndhfmfjbiaaGreat
open Go.RowKit

set_option maxRecDepth 100000 in
set_option maxHeartbeats 1000000 in
/-- How many records stand whole on the first bytes: at least, and at the most. -/
theorem lawWhole (G : Nat) (v : GameV) (R : List ByteArray) (ends : List Int) (ao : Option Addr) (c k : Nat) (w : World) (hl : GameAt w G v) (hv : v.endsV = .slice ao ends.length c) (hc : CellsAt w ao (ends.map (Value.int .i64))) (hL : ends.length = R.length + 1) (h0 : ends[0]? = some 0)
    (hE : ∀ n e, ends[n]? = some e → e = -1 ∨ e = ((cat (R.take n)).size : Int)) (hr : R.length ≤ 1000000) :
    Calls Tryz.prog 59 #[.pointer (some ⟨G, 0, none⟩), .int .i64 (k : Int)] w fun e w' =>
      ∃ lo hi : Nat, e = .returned (.tuple #[.int .i64 (lo : Int), .int .i64 (hi : Int)]) ∧ w' = w ∧ lo ≤ wholeN R k ∧ wholeN R k ≤ hi ∧ hi ≤ R.length ∧ ends[lo]? = some ((cat (R.take lo)).size : Int) := by
  have ce := hl.ends
  rw [hv, hL] at ce
  have HC : Hid (CellsAt w ao (ends.map (Value.int .i64))) := hc
  have HE : Hid (∀ n e, ends[n]? = some e → e = -1 ∨ e = ((cat (R.take n)).size : Int)) := hE
  have H0 : Hid (ends[0]? = some 0) := h0
  have HL : Hid (ends.length = R.length + 1) := hL
  have hwl := whole_le R k
  have HM : Hid (∀ n, n ≤ R.length → (cat (R.take n)).size ≤ k → n ≤ wholeN R k) := fun n => whole_max R k n
  have HS : Hid (∀ n, n ≤ R.length → ¬ (cat (R.take n)).size ≤ k → wholeN R k < n) := fun n hn h => by
    rcases Nat.lt_or_ge (wholeN R k) n with h1 | h1
    · exact h1
    · exact absurd (Nat.le_trans (by
        have := cat_size_split (R.take (wholeN R k)) n
        rw [List.take_take, Nat.min_eq_left h1] at this
        omega) (whole_size R k)) h
  clear hl hv hc hE h0 hL
  generalize hN : R.length = N at *
  generalize hQ : wholeN R k = Q at *
  clear hQ
  have hlast : ((N + 1 : Nat) : Int) - 1 = (N : Int) := by omega
  go_enter Tryz.func59, Tryz.ntmps59
  go_wp2_with fail
  go_loop [7, 8] (fun h i => ∃ j hi : Nat, j ≤ N ∧ hi ≤ N ∧ Q ≤ hi ∧ i = .int .i64 j ∧ h = .int .i64 hi) (fun _ i => (intOf i).toNat)
  case atStart => exact ⟨N, N, Nat.le_refl _, Nat.le_refl _, hwl, rfl, rfl⟩
  case round =>
    obtain ⟨j, hi, hj, hhi, hq, rfl, rfl⟩ := hrel
    cases j with
    | zero =>
      go_wp2_with fail
      go_loop [6, 9] (fun l i => ∃ j lo : Nat, j ≤ N + 1 ∧ lo ≤ N ∧ lo ≤ Q ∧ ends[lo]? = some ((cat (R.take lo)).size : Int) ∧ i = .int .i64 j ∧ l = .int .i64 lo) (fun _ i => N + 1 - (intOf i).toNat)
      case atStart => exact ⟨0, 0, by omega, by omega, by omega, H0.out, rfl, rfl⟩
      case round =>
        obtain ⟨j, lo, hj, hlo, hlq, hel, rfl, rfl⟩ := hrel
        have HEL : Hid (ends[lo]? = some ((cat (R.take lo)).size : Int)) := hel
        clear hel
        by_cases hjl : j < N + 1
        · obtain ⟨e, he⟩ : ∃ e, ends[j]? = some e := ⟨_, List.getElem?_eq_getElem (by rw [HL.out]; exact hjl)⟩
          obtain ⟨g, rfl, hce⟩ := HC.out j _ (int_get he)
          have HJ : Hid (ends[j]? = some e) := he
          clear he
          by_cases hneg : e < 0
          · go_wp2_with fail
            go_round
            case rel => exact ⟨j + 1, lo, by omega, hlo, hlq, HEL.out, by go_num, rfl⟩
            case measure => simp [intOf]; omega
          · have hes : e = ((cat (R.take j)).size : Int) := by
              rcases HE.out j e HJ.out with h | h
              · omega
              · exact h
            have HES : Hid (e = ((cat (R.take j)).size : Int)) := hes
            clear hes
            by_cases hle : e ≤ (k : Int)
            · have hjQ : j ≤ Q := HM.out j (by omega) (by have := HES.out; omega)
              go_wp2_with fail
              go_round
              case rel => exact ⟨j + 1, j, by omega, by omega, hjQ, by rw [← HES.out]; exact HJ.out, by go_num, rfl⟩
              case measure => simp [intOf]; omega
            · go_wp2_with fail
              go_round
              case rel => exact ⟨j + 1, lo, by omega, hlo, hlq, HEL.out, by go_num, rfl⟩
              case measure => simp [intOf]; omega
        · go_wp2_with fail
          go_ret2
          exact ⟨lo, hi, rfl, rfl, hlq, hq, hhi, HEL.out⟩
    | succ j =>
      obtain ⟨e, he⟩ : ∃ e, ends[j + 1]? = some e := ⟨_, List.getElem?_eq_getElem (by rw [HL.out]; omega)⟩
      obtain ⟨g, rfl, hce⟩ := HC.out (j + 1) _ (int_get he)
      have HJ : Hid (ends[j + 1]? = some e) := he
      clear he
      by_cases hgt : (k : Int) < e
      · have hjQ : Q < j + 1 := HS.out (j + 1) (by omega) (by
          rcases HE.out (j + 1) e HJ.out with h | h
          · omega
          · omega)
        go_wp2_with fail
        go_round
        case rel => exact ⟨j, j, by omega, by omega, by omega, by go_num, by go_num⟩
        case measure => simp [intOf]
      · go_wp2_with fail
        go_round
        case rel => exact ⟨j, hi, by omega, hhi, hq, by go_num, rfl⟩
        case measure => simp [intOf]
end Go.Proofs.YtmjdndhfmfjbiaaGreat
