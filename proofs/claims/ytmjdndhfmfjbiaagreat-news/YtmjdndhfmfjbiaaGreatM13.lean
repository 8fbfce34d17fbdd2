import Derived.Test.YtmjdndhfmfjbiaaGreatM12
import Derived.Deep.DrawnRows
namespace Go.Proofs.YtmjdndhfmfjbiaaGreat
open Go.RowKit

/-- A list that came out just now, and was written over. -/
def NewList (w w3 : World) (f : List Value) (u : Value) : Prop := ∃ ao n cap, u = .slice ao n cap ∧ n ≤ 1048576 ∧ CellsAt w3 ao (rep f n) ∧ ∀ g, u.ownBlock = some g → w.heap.size ≤ g ∧ g < w3.heap.size

theorem newList {w w3 : World} {e : TypeId} {size : Nat} {f : List Value} {ao : Option Addr} {n cap : Nat} (h : Row w3 e size (.slice ao n cap) n (rep f n)) (hn : n ≤ 1048576) (hg : ∀ g, (Value.slice ao n cap).ownBlock = some g → w.heap.size ≤ g) : NewList w w3 f (.slice ao n cap) := by
  obtain ⟨a, c, hv, -, -, hc⟩ := h.form
  simp only [Value.slice.injEq, true_and] at hv
  obtain ⟨rfl, rfl⟩ := hv
  exact ⟨ao, n, cap, rfl, hn, hc, fun g e => ⟨hg g e, h.lt e⟩⟩

theorem upd_set (w : World) (G o : Nat) (v : Value) : Upd (fun k => k = G) w (w.setCell ⟨G, o, none⟩ v) := (Upd.refl (fun k => k = G) w).setCell (p := ⟨G, o, none⟩) (fun _ => rfl) v

theorem cell_set_same {w : World} {p : Addr} {u v : Value} (h : w.cell? p = some u) : (w.setCell p v).cell? p = some v := by
  exact World.cell?_setCell_same _ _ _ h

/-- A list more, and its three tails. -/
theorem lists_add (sll sl : TypeId) (hu : Tryz.prog.underlying sll = some (.slice sl)) (hinfo : (Tryz.prog.info? sl).map (fun i => (i.zero, i.size, i.bytes)) = some (some (.slice none 0 0), 1, 24))
    {w w3 : World} {G : Nat} {c : Nat → Nat} {f : Int → List Value} {ca cb : Nat} {tv ttv : Value} {b : Nat} {T TT : List Value} (hL : Lists w c sl f ca cb tv ttv b T TT) (hc1 : ca ≠ 3) (hc2 : cb ≠ 3) (hc3 : ca ≠ cb) (hc4 : ca ≠ 11) (hc5 : cb ≠ 11) (hb : b ≤ 100000000)
    {v : GameV} (hG : GameAt w G v) (cG : c G = 3) (o1 o2 : Nat) (h12 : o1 ≠ o2) (ho1 : w.cell? ⟨G, o1, none⟩ = some tv) (ho2 : w.cell? ⟨G, o2, none⟩ = some ttv) (hb3 : Below w.heap.size w w3)
    {at' aq : Option Addr} {tc qc : Nat} (htv : tv = .slice at' T.length tc) (httv : ttv = .slice aq TT.length qc) {A u1 u2 u3 : Value} (nA : NewList w w3 (f T.length) A) (n1 : NewList w w3 (f T.length) u1) (n2 : NewList w w3 (f T.length) u2) (n3 : NewList w w3 (f T.length) u3) :
    ∃ a4 c4 w4 a5 c5 w5,
      (appSem #[sll, sll] sll #[.slice at' T.length tc, .slice (some ⟨w3.heap.size, 0, none⟩) 1 1]).run Tryz.prog (w3.alloc (.cells #[A] sl)) = .ok (.slice a4 (T.length + 1) c4) w4 ∧
      w4.cell? ⟨G, o1, none⟩ = some (.slice at' T.length tc) ∧ w4.frozen? ⟨G, o1, none⟩ = false ∧
      (w4.setCell ⟨G, o1, none⟩ (.slice a4 (T.length + 1) c4)).cell? ⟨G, o2, none⟩ = some (.slice aq TT.length qc) ∧
      (appSem #[sll, sll] sll #[.slice aq TT.length qc, .slice (some ⟨w4.heap.size, 0, none⟩) 3 3]).run Tryz.prog ((w4.setCell ⟨G, o1, none⟩ (.slice a4 (T.length + 1) c4)).alloc (.cells #[u1, u2, u3] sl)) = .ok (.slice a5 (TT.length + 3) c5) w5 ∧
      w5.cell? ⟨G, o2, none⟩ = some (.slice aq TT.length qc) ∧ w5.frozen? ⟨G, o2, none⟩ = false ∧
      (∃ c1, Ext w c c1 ∧ Lists (w5.setCell ⟨G, o2, none⟩ (.slice a5 (TT.length + 3) c5)) c1 sl f ca cb (.slice a4 (T.length + 1) c4) (.slice a5 (TT.length + 3) c5) (b + 1) (T ++ [A]) (TT ++ [u1, u2, u3])) ∧
      Upd (fun k => c k = 3 ∨ c k = ca ∨ c k = cb) w (w5.setCell ⟨G, o2, none⟩ (.slice a5 (TT.length + 3) c5)) ∧
      Upd (fun k => c k = ca) w w4 ∧ Upd (fun k => c k = cb) (w4.setCell ⟨G, o1, none⟩ (.slice a4 (T.length + 1) c4)) w5 := by
  subst htv
  subst httv
  have hGl := hG.lt
  have htG : ¬ (Value.slice at' T.length tc).ownBlock = some G := fun e => hc1 ((hL.col G e).symm.trans cG)
  have hqG : ¬ (Value.slice aq TT.length qc).ownBlock = some G := fun e => hc2 ((hL.cols G e).symm.trans cG)
  have hs3 := hb3.size
  have hfew := hL.few
  have hthree := hL.three
  -- the list
  obtain ⟨a4, c4, w4, x4, r4, k4⟩ := app_more sll sl (.slice none 0 0) 1 24 hu hinfo rfl (by omega) (w3.alloc (.cells #[A] sl)) at' T.length tc T [A] ((hL.row.below hb3).alloc _) ⟨w3.heap.size, 0, none⟩ 1 1 (by omega) rfl (cells_new w3 [A] sl) (by
    obtain ⟨ao, n, cap, rfl, -⟩ := nA
    simp [Value.oneCell']) (by omega) (by omega)
  have u34 : Upd (fun k => (Value.slice at' T.length tc).ownBlock = some k) w3 w4 := by
    rcases k4 with ⟨-, -, h⟩ | ⟨-, h⟩
    · exact ((Upd.refl _ w3).alloc _).trans h (fun _ _ e => e)
    · exact ((Upd.refl _ w3).alloc _).below h
  have f4 : ∀ g, (Value.slice a4 (T.length + 1) c4).ownBlock = some g → (Value.slice at' T.length tc).ownBlock = some g ∨ w3.heap.size < g := fun g hg => by
    rcases k4 with ⟨rfl, -, -⟩ | ⟨rfl, -⟩
    · exact .inl (by cases a4 with | none => simp [Value.ownBlock] at hg | some a0 => simpa [Value.ownBlock] using hg)
    · simp [Value.ownBlock] at hg
      exact .inr (by omega)
  have u04 : Upd (fun k => (Value.slice at' T.length tc).ownBlock = some k) w w4 := (Upd.of_below hb3).trans u34 (fun _ _ e => e)
  have s34 := u34.size
  have e1 : w4.cell? ⟨G, o1, none⟩ = some (.slice at' T.length tc) := u04.cell ho1 htG
  have z1 : w4.frozen? ⟨G, o1, none⟩ = false := (u04.frozen (p := ⟨G, o1, none⟩) hGl htG).trans (hG.free _)
  generalize hv4 : Value.slice a4 (T.length + 1) c4 = v4 at *
  have u44 := upd_set w4 G o1 v4
  have s44 : (w4.setCell ⟨G, o1, none⟩ v4).heap.size = w4.heap.size := by simp [World.setCell]
  have e2 : (w4.setCell ⟨G, o1, none⟩ v4).cell? ⟨G, o2, none⟩ = some (.slice aq TT.length qc) := by
    rw [World.cell?_setCell_other _ _ _ _ (by simp)]
    exact u04.cell ho2 htG
  have u05 : Upd (fun k => (Value.slice at' T.length tc).ownBlock = some k ∨ k = G) w (w4.setCell ⟨G, o1, none⟩ v4) := (u04.mono (fun _ e => .inl e)).trans u44 (fun _ _ e => .inr e)
  have hv4G : ¬ v4.ownBlock = some G := fun e => by
    rcases f4 G e with h | h
    · exact htG h
    · omega
  have r4' : Row (w4.setCell ⟨G, o1, none⟩ v4) sl 1 v4 (T.length + 1) (T ++ [A]) := r4.upd u44 (fun g hg e => hv4G (e ▸ hg))
  have hqt : ∀ g, (Value.slice aq TT.length qc).ownBlock = some g → ¬ (Value.slice at' T.length tc).ownBlock = some g := fun g e1 e2 => hc3 ((hL.col g e2).symm.trans (hL.cols g e1))
  have q4 : Row (w4.setCell ⟨G, o1, none⟩ v4) sl 1 (.slice aq TT.length qc) TT.length TT := hL.rows.upd u05 (fun g hg e => by
    rcases e with e | e
    · exact hqt g hg e
    · exact hqG (e ▸ hg))
  -- the tails
  obtain ⟨a5, c5, w5, x5, r5, k5⟩ := app_more sll sl (.slice none 0 0) 1 24 hu hinfo rfl (by omega) ((w4.setCell ⟨G, o1, none⟩ v4).alloc (.cells #[u1, u2, u3] sl)) aq TT.length qc TT [u1, u2, u3] (q4.alloc _) ⟨(w4.setCell ⟨G, o1, none⟩ v4).heap.size, 0, none⟩ 3 3 (by omega) rfl (cells_new _ [u1, u2, u3] sl) (by
    obtain ⟨ao, n, cap, rfl, -⟩ := n1
    obtain ⟨ao2, n2, cap2, rfl, -⟩ := n2
    obtain ⟨ao3, n3, cap3, rfl, -⟩ := n3
    simp [Value.oneCell']) (by omega) (by omega)
  rw [s44] at x5
  have u45 : Upd (fun k => (Value.slice aq TT.length qc).ownBlock = some k) (w4.setCell ⟨G, o1, none⟩ v4) w5 := by
    rcases k5 with ⟨-, -, h⟩ | ⟨-, h⟩
    · exact ((Upd.refl _ _).alloc _).trans h (fun _ _ e => e)
    · exact ((Upd.refl _ _).alloc _).below h
  have f5 : ∀ g, (Value.slice a5 (TT.length + 3) c5).ownBlock = some g → (Value.slice aq TT.length qc).ownBlock = some g ∨ w4.heap.size < g := fun g hg => by
    rcases k5 with ⟨rfl, -, -⟩ | ⟨rfl, -⟩
    · exact .inl (by cases a5 with | none => simp [Value.ownBlock] at hg | some a0 => simpa [Value.ownBlock] using hg)
    · simp [Value.ownBlock, s44] at hg
      exact .inr (by omega)
  have s45 := u45.size
  rw [s44] at s45
  have e3 : w5.cell? ⟨G, o2, none⟩ = some (.slice aq TT.length qc) := u45.cell e2 hqG
  have hGc : (w4.setCell ⟨G, o1, none⟩ v4).frozen? ⟨G, o2, none⟩ = false := by
    obtain ⟨cur, hc⟩ := hG.obj
    have h4 : w4.heap[G]? = some (.cells cur 47 (0, 0)) := (u04.block G hGl htG).trans hc
    exact frozen_of_row _ G o2 _ _ (heap_setCell_row w4 G o1 cur _ v4 h4)
  have z3 : w5.frozen? ⟨G, o2, none⟩ = false := (u45.frozen (p := ⟨G, o2, none⟩) (by rw [s44]; show G < _; omega) hqG).trans hGc
  generalize hv5 : Value.slice a5 (TT.length + 3) c5 = v5 at *
  have u55 := upd_set w5 G o2 v5
  have hv5G : ¬ v5.ownBlock = some G := fun e => by
    rcases f5 G e with h | h
    · exact hqG h
    · omega
  have sF : (w5.setCell ⟨G, o2, none⟩ v5).heap.size = w5.heap.size := by simp [World.setCell]
  have r5' : Row (w5.setCell ⟨G, o2, none⟩ v5) sl 1 v5 (TT.length + 3) (TT ++ [u1, u2, u3]) := r5.upd u55 (fun g hg e => hv5G (e ▸ hg))
  have hq45 : ∀ g, v4.ownBlock = some g → ¬ (Value.slice aq TT.length qc).ownBlock = some g := fun g h4 hq => by
    rcases f4 g h4 with h | h
    · exact hqt g hq h
    · have := hL.rows.lt hq; omega
  have r4F : Row (w5.setCell ⟨G, o2, none⟩ v5) sl 1 v4 (T.length + 1) (T ++ [A]) := (r4'.upd u45 (fun g hg => hq45 g hg)).upd u55 (fun g hg e => hv4G (e ▸ hg))
  -- what changed
  have uF : Upd (fun k => k = G ∨ (Value.slice at' T.length tc).ownBlock = some k ∨ (Value.slice aq TT.length qc).ownBlock = some k) w (w5.setCell ⟨G, o2, none⟩ v5) :=
    ((u05.mono (T := fun k => k = G ∨ (Value.slice at' T.length tc).ownBlock = some k ∨ (Value.slice aq TT.length qc).ownBlock = some k) (fun k e => by rcases e with e | e; exact .inr (.inl e); exact .inl e)).trans u45 (fun k _ e => .inr (.inr e))).trans u55 (fun k _ e => .inl e)
  have u3F : Upd (fun k => k < w.heap.size) w3 (w5.setCell ⟨G, o2, none⟩ v5) :=
    (((u34.mono (T := fun k => k < w.heap.size) (fun k e => hL.row.lt e)).trans u44 (fun k _ e => by subst e; exact hGl)).trans u45 (fun k _ e => hL.rows.lt e)).trans u55 (fun k _ e => by subst e; exact hGl)
  have uc : Upd (fun k => c k = 3 ∨ c k = ca ∨ c k = cb) w (w5.setCell ⟨G, o2, none⟩ v5) := uF.mono (fun k e => by
    rcases e with e | e | e
    · subst e; exact .inl cG
    · exact .inr (.inl (hL.col k e))
    · exact .inr (.inr (hL.cols k e)))
  refine ⟨a4, c4, w4, a5, c5, w5, by rw [hv4]; exact x4, e1, z1, by rw [hv4]; exact e2, by rw [hv4, hv5]; exact x5, e3, z3, ?_, by rw [hv5]; exact uc, u04.mono (fun k e => hL.col k e), by rw [hv4]; exact u45.mono (fun k e => hL.cols k e)⟩
  rw [hv4, hv5]
  let c1 : Nat → Nat := fun k => if k < w.heap.size then c k else if v4.ownBlock = some k then ca else if v5.ownBlock = some k then cb else 11
  have hext : Ext w c c1 := fun k hk => if_pos hk
  have hnew : ∀ u, NewList w w3 (f T.length) u → ∃ ao n cap, u = .slice ao n cap ∧ n ≤ 1048576 ∧ CellsAt (w5.setCell ⟨G, o2, none⟩ v5) ao (rep (f T.length) n) ∧ ∀ g, u.ownBlock = some g → c1 g = 11 ∧ g < (w5.setCell ⟨G, o2, none⟩ v5).heap.size := by
    rintro u ⟨ao, n, cap, rfl, hn, hc, hg⟩
    refine ⟨ao, n, cap, rfl, hn, hc.upd u3F (fun g e => ?_), fun g e => ?_⟩
    · have := (hg g (by rw [e]; rfl)).1; omega
    · obtain ⟨g1, g2⟩ := hg g e
      refine ⟨?_, by rw [sF]; omega⟩
      have h4 : ¬ v4.ownBlock = some g := fun h => by
        rcases f4 g h with h | h
        · have := hL.row.lt h; omega
        · omega
      have h5 : ¬ v5.ownBlock = some g := fun h => by
        rcases f5 g h with h | h
        · have := hL.rows.lt h; omega
        · omega
      show (if g < w.heap.size then c g else _) = 11
      rw [if_neg (by omega), if_neg h4, if_neg h5]
  have mold : ∀ each vs, MarkedC w c f each vs → MarkedC (w5.setCell ⟨G, o2, none⟩ v5) c1 f each vs := fun each vs hm => hm.upd uc (fun g e => by omega) hext
  refine ⟨c1, hext, ⟨by simpa using r4F, by simpa using r5', by simp; omega, by simp; omega, ?_, ?_, fun g e => ?_, fun g e => ?_⟩⟩
  · intro k u hk
    by_cases hkl : k < T.length
    · rw [List.getElem?_append_left hkl] at hk
      exact mold _ _ hL.marks k u hk
    · rw [List.getElem?_append_right (by omega)] at hk
      obtain ⟨h0, rfl⟩ := List.getElem?_eq_some_iff.1 hk
      simp at h0
      obtain rfl : k = T.length := by omega
      simpa using hnew A nA
  · intro k u hk
    by_cases hkl : k < TT.length
    · rw [List.getElem?_append_left hkl] at hk
      exact mold _ _ hL.tails k u hk
    · rw [List.getElem?_append_right (by omega)] at hk
      obtain ⟨d, rfl⟩ : ∃ d, k = TT.length + d := ⟨k - TT.length, by omega⟩
      rw [Nat.add_sub_cancel_left] at hk
      have hd : d < 3 := by
        obtain ⟨h0, -⟩ := List.getElem?_eq_some_iff.1 hk
        simpa using h0
      have hq : ((TT.length + d : Nat) : Int) / 3 = (T.length : Int) := by omega
      rw [hq]
      rcases (show d = 0 ∨ d = 1 ∨ d = 2 from by omega) with rfl | rfl | rfl
      · simp at hk; subst hk; exact hnew _ n1
      · simp at hk; subst hk; exact hnew _ n2
      · simp at hk; subst hk; exact hnew _ n3
  · show (if g < w.heap.size then c g else _) = ca
    rcases f4 g e with h | h
    · rw [if_pos (hL.row.lt h)]; exact hL.col g h
    · rw [if_neg (by omega), if_pos e]
  · show (if g < w.heap.size then c g else _) = cb
    rcases f5 g e with h | h
    · rw [if_pos (hL.rows.lt h)]; exact hL.cols g h
    · have h4 : ¬ v4.ownBlock = some g := fun h' => by have := r4.lt h'; omega
      rw [if_neg (by omega), if_neg h4, if_pos e]

theorem GameAt.store {w : World} {G : Nat} {v v1 : GameV} (h : GameAt w G v) (o : Nat) (u : Value) {old : Value} (ho : w.cell? ⟨G, o, none⟩ = some old)
    (e0 : (if o = 0 then u else .pointer (some ⟨v.hB, 0, none⟩)) = .pointer (some ⟨v1.hB, 0, none⟩)) (e1 : (if o = 1 then u else .pointer (some ⟨v.wB, 0, none⟩)) = .pointer (some ⟨v1.wB, 0, none⟩)) (e2 : (if o = 2 then u else v.endsV) = v1.endsV) (e3 : (if o = 3 then u else .string v.disk) = .string v1.disk)
    (e4 : (if o = 4 then u else v.textsV) = v1.textsV) (e5 : (if o = 5 then u else v.mailsV) = v1.mailsV) (e6 : (if o = 6 then u else v.waitsV) = v1.waitsV) (e7 : (if o = 7 then u else v.ttV) = v1.ttV) (e8 : (if o = 8 then u else v.mtV) = v1.mtV) (e9 : (if o = 9 then u else v.wtV) = v1.wtV) : GameAt (w.setCell ⟨G, o, none⟩ u) G v1 := by
  have key : ∀ p q, w.cell? ⟨G, p, none⟩ = some q → (w.setCell ⟨G, o, none⟩ u).cell? ⟨G, p, none⟩ = some (if o = p then u else q) := by
    intro p q hp
    by_cases hop : o = p
    · subst hop
      rw [if_pos rfl]; exact World.cell?_setCell_same _ _ _ ho
    · rw [if_neg hop, World.cell?_setCell_other _ _ _ _ (by simp)]; exact hp
  refine ⟨?_, ?_, ?_, ?_, ?_, ?_, ?_, ?_, ?_, ?_, ?_⟩
  · obtain ⟨cur, hc⟩ := h.obj
    exact ⟨_, heap_setCell_row w G o cur _ u hc⟩
  · rw [key 0 _ h.h, e0]
  · rw [key 1 _ h.w', e1]
  · rw [key 2 _ h.ends, e2]
  · rw [key 3 _ h.disk, e3]
  · rw [key 4 _ h.texts, e4]
  · rw [key 5 _ h.mails, e5]
  · rw [key 6 _ h.waits, e6]
  · rw [key 7 _ h.tt, e7]
  · rw [key 8 _ h.mt, e8]
  · rw [key 9 _ h.wt, e9]
end Go.Proofs.YtmjdndhfmfjbiaaGreat

namespace Go.Proofs.YtmjdndhfmfjbiaaGreat
open Go.RowKit
attribute [local go_sem ↓] Go.wp_at_zero Go.wp_at_succ appSem_eq

theorem infoTexts : (Tryz.prog.info? 51).map (fun i => (i.zero, i.size, i.bytes)) = some (some (.slice none 0 0), 1, 24) := by kernel_rfl

theorem flat_strs (l : List ByteArray) : l.flatMap (fun f => [Value.string f]) = l.map Value.string := by
  induction l with
  | nil => rfl
  | cons a l ih => rw [List.flatMap_cons, ih]; rfl

theorem mark_step (u : Value) (xs : List Value) (j : Nat) (h : j < xs.length) : (rep [u] j ++ xs.drop j).set j u = rep [u] (j + 1) ++ xs.drop (j + 1) := by
  have hl : (rep [u] j).length = j := by simp [rep_len]
  rw [List.drop_eq_getElem_cons h, rep_add, rep_one, List.append_assoc, List.set_append_right _ _ (by omega), hl, Nat.sub_self]
  rfl

theorem own_cells {w : World} {base : Nat} {e : TypeId} {size : Nat} {v : Value} {n : Nat} {xs : List Value} (h : w.ownsRow base e size v n xs) : ∃ ao c, v = .slice ao n c ∧ n ≤ c ∧ c ≤ maxLen ∧ CellsAt w ao xs :=
  Row.form (own_mono h (Nat.zero_le _))

/-- The game's lists have changed, and nothing else of it. -/
theorem Core.relist {P : Prog} {w w1 : World} {G : Nat} {c c1 : Nat → Nat} {v v1 : GameV} {S : RefS} {x : RefV} {F : Nat → Prop} {R : List ByteArray} {ends : List Int} {ca cb : Nat} (h : Core P w G c v S x F R ends) (k : Upd (fun k => c k = 3 ∨ c k = ca ∨ c k = cb) w w1)
    (ha : 5 ≤ ca) (hb : 5 ≤ cb) (he : Ext w c c1) (hl : GameAt w1 G v1) (e1 : v1.hB = v.hB) (e2 : v1.wB = v.wB) (e3 : v1.endsV = v.endsV) (e4 : v1.disk = v.disk) : Core P w1 G c1 v1 S x F R ends :=
  ⟨hl, by rw [e1]; exact P.upd h.pr k (fun g e => by have := h.cF g e; omega), by rw [e2]; exact h.rep.upd k (fun g e => by have := h.cR g e; omega), h.good, by rw [e3]; exact h.endsR.upd k (fun g e => by have := h.cE g e; omega), h.endsL, h.ends0, h.endsE, by rw [e4]; exact h.disk,
    fun g e => by rw [he g (P.lt h.pr e)]; exact h.cF g e, fun g e => by rw [e2] at e; rw [he g (h.rep.lt e)]; exact h.cR g e, by rw [he G h.lies.lt]; exact h.cG, fun g e => by rw [e3] at e; rw [he g (h.endsR.lt e)]; exact h.cE g e⟩

theorem filters_few {S : RefS} (h : Inv S) (k : Int) : (filtersM S k).length ≤ 6 := by
  unfold filtersM
  split
  · rename_i hk
    rw [sel_len]
    exact (h.fil _ (by have := known_nat hk; omega)).1
  · simp

theorem whole_texts {P : Prog} {w w4 w5 : World} {G : Nat} {c : Nat → Nat} {b : Nat} {v : GameV} {S : RefS} {x : RefV} {F : Nat → Prop} {R : List ByteArray} {ends : List Int} {v4 v5 : Value} {T TT : List Value}
    (hg : Whole P w G c b v S x F R ends) (hc : ∃ c1, Ext w c c1 ∧ Lists (w5.setCell ⟨G, 7, none⟩ v5) c1 51 fT 5 6 v4 v5 (b + 1) T TT) (hu : Upd (fun k => c k = 3 ∨ c k = 5 ∨ c k = 6) w (w5.setCell ⟨G, 7, none⟩ v5))
    (h4 : Upd (fun k => c k = 5) w w4) (h5 : Upd (fun k => c k = 6) (w4.setCell ⟨G, 4, none⟩ v4) w5) : Next P w G c (b + 1) S (w5.setCell ⟨G, 7, none⟩ v5) := by
  obtain ⟨c1, hext, hL⟩ := hc
  obtain ⟨M, MM, hM⟩ := hg.mails
  obtain ⟨U, UU, hU⟩ := hg.waits
  have l1 := (hg.core.lies.upd h4 (by rw [hg.core.cG]; omega)).store (v1 := { v with textsV := v4 }) 4 v4 (h4.cell hg.core.lies.texts (by show ¬ c G = 5; rw [hg.core.cG]; omega)) rfl rfl rfl rfl rfl rfl rfl rfl rfl rfl
  have l2 := l1.upd h5 (by rw [hg.core.cG]; omega)
  have l3 := l2.store (v1 := { v with textsV := v4, ttV := v5 }) 7 v5 l2.tt rfl rfl rfl rfl rfl rfl rfl rfl rfl rfl
  exact ⟨c1, _, x, F, R, ends, ⟨hg.core.relist hu (by omega) (by omega) hext l3 rfl rfl rfl rfl, ⟨_, _, hL⟩, ⟨M, MM, (hM.upd hu (fun g e => by omega) hext).more (by omega)⟩, ⟨U, UU, (hU.upd hu (fun g e => by omega) hext).more (by omega)⟩⟩, hext, hu.mono (fun k e => by omega)⟩

set_option maxRecDepth 100000 in
set_option maxHeartbeats 4000000 in
theorem lawFilters (P : Prog) (w : World) (G : Nat) (c : Nat → Nat) (b : Nat) (v : GameV) (S : RefS) (x : RefV) (F : Nat → Prop) (R : List ByteArray) (ends : List Int) (k : Int) (hg : Whole P w G c b v S x F R ends) (hb : b ≤ 100000000) :
    Calls Tryz.prog 20 #[.pointer (some ⟨G, 0, none⟩), .int .i64 k] w fun e w' => e = .returned (.bool true) ∧ Next P w G c (b + 1) S w' := by
  obtain ⟨T, TT, hL⟩ := hg.texts
  have ch := hg.core.lies.h
  have cw := hg.core.lies.w'
  have ct := hg.core.lies.texts
  obtain ⟨at', tc, htv, t1, t2, -⟩ := hL.row.form
  obtain ⟨aq, qc, hqv, -, -, -⟩ := hL.rows.form
  rw [htv] at ct
  unfold maxLen at t2
  have hfew := hL.few
  have HG : Hid (Whole P w G c b v S x F R ends) := hg
  have HL : Hid (Lists w c 51 fT 5 6 v.textsV v.ttV b T TT) := hL
  have HT : Hid (v.textsV = .slice at' T.length tc) := htv
  have HQ : Hid (v.ttV = .slice aq TT.length qc) := hqv
  have hfl := filters_few hg.core.good.inv k
  have hGl := hg.core.lies.lt
  clear hg hL htv hqv
  go_enter Tryz.func20, Tryz.ntmps20
  go_wp2_with fail
  refine (P.filters k HG.out.core.pr HG.out.core.good).mono ?_
  rintro e w1 ⟨va, rfl, hown1, hb1⟩
  have cw1 := cell_later hb1 cw
  have HO1 : Hid (w1.ownsRow w.heap.size 9 1 va (filtersM S k).length ((filtersM S k).flatMap (fun f => [Value.string f]))) := hown1
  clear hown1
  go_wp2_with fail
  refine (refFilters v.wB x S k _ (HG.out.core.rep.below hb1) HG.out.core.good.inv).mono ?_
  rintro e w2 ⟨vb, rfl, hown2, hb2⟩
  obtain ⟨ab, cb, rfl, -, -, hcb⟩ := own_cells hown2
  have ho1 := own_below HO1.out hb2
  obtain ⟨aa, ca, rfl, hca, hca2, hcc⟩ := own_cells ho1
  rw [flat_strs] at hcb hcc ho1
  have hb12 : Below w.heap.size w w2 := hb1.trans (hb2.mono hb1.size)
  clear hb2 hown2 HO1 cw1 hb1
  go_wp2_with fail
  refine (lawSameTexts _ _ _ _ _ _ (by omega) hcc hcb).mono ?_
  rintro e w3 ⟨rfl, hb3⟩
  have ho3 := own_below ho1 hb3
  have hb13 : Below w.heap.size w w3 := hb12.trans (hb3.mono hb12.size)
  have ct3 := cell_later hb13 ct
  clear hb3 ho1 hcc hcb hb12
  go_wp2_with fail
  refine (lawMark _ _).mono ?_
  rintro e w4 ⟨rfl, hb4⟩
  have ho4 := own_below ho3 hb4
  have hb14 : Below w.heap.size w w4 := hb13.trans (hb4.mono hb13.size)
  clear hb4 ho3 hb13 ct3
  generalize hmk : markM (T.length : Int) = mk at *
  have HMK : Hid (fT T.length = [.string mk]) := by show fT T.length = _; rw [fT, hmk]
  clear hmk
  go_wp2_with fail
  go_loopw [9] (fun i wr => ∃ j : Nat, j ≤ (filtersM S k).length ∧ i = .int .i64 j ∧ wr.ownsRow w.heap.size 9 1 (.slice aa (filtersM S k).length ca) (filtersM S k).length (rep [.string mk] j ++ ((filtersM S k).map Value.string).drop j) ∧ Below w.heap.size w wr) (fun i _ => (filtersM S k).length - (intOf i).toNat)
  case atStart => exact ⟨0, Nat.zero_le _, rfl, by simpa [rep] using ho4, hb14⟩
  case round =>
    obtain ⟨j, hj, rfl, hor, hbr⟩ := hrel
    by_cases hjl : j < (filtersM S k).length
    · obtain ⟨ag, cg, hvg, -, -, hcr⟩ := own_cells hor
      simp only [Value.slice.injEq, true_and] at hvg
      obtain ⟨rfl, rfl⟩ := hvg
      have hlen : (rep [.string mk] j ++ ((filtersM S k).map Value.string).drop j).length = (filtersM S k).length := by rw [List.length_append, rep_len, List.length_drop, List.length_map]; simp; omega
      obtain ⟨u, hu⟩ : ∃ u, (rep [.string mk] j ++ ((filtersM S k).map Value.string).drop j)[j]? = some u := ⟨_, List.getElem?_eq_getElem (by omega)⟩
      obtain ⟨g, rfl, hcj⟩ := hcr j u hu
      have hfz := World.ownsRow.frozenAt hor j
      have st := World.ownsRow.stored hor j (.string mk)
      rw [mark_step (.string mk) ((filtersM S k).map Value.string) j (by simpa using hjl)] at st
      have ST : Hid (_ ∧ World.grownBy wr _ _) := st
      clear hu st hor
      go_wp2_with fail
      go_roundw
      case rel => exact ⟨j + 1, by omega, by go_num, ST.out.1, hbr.grown ST.out.2 hbr.size (fun q hq => by simp at hq; subst hq; exact (ST.out.1.lt _ rfl).1)⟩
      case measure => simp [intOf]; omega
    · have hjn : j = (filtersM S k).length := by omega
      subst hjn
      have hrow : wr.ownsRow w.heap.size 9 1 (.slice aa (filtersM S k).length ca) (filtersM S k).length (rep [.string mk] (filtersM S k).length) := by rw [List.drop_of_length_le (by simp), List.append_nil] at hor; exact hor
      clear hor
      obtain ⟨a1, c1, w1, a2, c2, w2, a3, c3, w3, x1, x2, x3, r0, r1, r2, r3, bl, g0, g1, g2, g3, -, -⟩ := tails3 51 9 _ 1 16 Tryz.underlying51 infoStr rfl (by omega) (by omega) [.string mk] rfl (by simp [Value.oneCell']) wr w.heap.size aa _ ca hrow hbr.size (by omega)
      simp only [List.cons_append, List.nil_append] at x1 x2 x3
      have hb3 : Below w.heap.size w w3 := hbr.trans bl
      have ct5 := cell_later hb3 ct
      rw [← HMK.out] at r0 r1 r2 r3
      obtain ⟨a4, c4, w4', a5, c5, w5, x4, e1, z1, e2, x5, e3, z3, hc1, hu1, hu4, hu5⟩ := lists_add 43 51 Tryz.underlying43 infoTexts HL.out (by omega) (by omega) (by omega) (by omega) (by omega) hb HG.out.core.lies HG.out.core.cG 4 7 (by omega) HG.out.core.lies.texts HG.out.core.lies.tt hb3 HT.out HQ.out (newList r0 (by omega) g0) (newList r1 (by omega) g1) (newList r2 (by omega) g2) (newList r3 (by omega) g3)
      have HN : Hid (Next P w G c (b + 1) S (w5.setCell ⟨G, 7, none⟩ (.slice a5 (TT.length + 3) c5))) := whole_texts HG.out hc1 hu1 hu4 hu5
      clear ho4 hrow hbr hb14 bl hc1 hu1 hu4 hu5 r0 r1 r2 r3 g0 g1 g2 g3
      go_wp2_with fail
      go_ret
      exact ⟨rfl, HN.out⟩
end Go.Proofs.YtmjdndhfmfjbiaaGreat

namespace Go.Proofs.YtmjdndhfmfjbiaaGreat
open Go.RowKit
attribute [local go_sem ↓] Go.wp_at_zero Go.wp_at_succ appSem_eq

theorem infoMails : (Tryz.prog.info? 72).map (fun i => (i.zero, i.size, i.bytes)) = some (some (.slice none 0 0), 1, 24) := by kernel_rfl
theorem infoWaits : (Tryz.prog.info? 56).map (fun i => (i.zero, i.size, i.bytes)) = some (some (.slice none 0 0), 1, 24) := by kernel_rfl

/-- One message of a row, written over by another. -/
theorem row5M {W : World} {base g n cap b : Nat} {cur : List MailD} {y z : MailD} (h : W.ownsRow base 76 5 (.slice (some ⟨g, 0, none⟩) n cap) n (cur.flatMap mailCells)) (hy : cur[b]? = some y) :
    (((((W.setCell ⟨g, b * 5, none⟩ (.int .i64 z.number)).setCell ⟨g, b * 5 + 1, none⟩ (.string z.topic)).setCell ⟨g, b * 5 + 2, none⟩ (.int .i64 z.value)).setCell ⟨g, b * 5 + 3, none⟩ (.int .i64 z.sentAt)).setCell ⟨g, b * 5 + 4, none⟩ (.int .i64 z.left)).ownsRow base 76 5 (.slice (some ⟨g, 0, none⟩) n cap) n ((cur.set b z).flatMap mailCells) ∧
      W.grownBy (((((W.setCell ⟨g, b * 5, none⟩ (.int .i64 z.number)).setCell ⟨g, b * 5 + 1, none⟩ (.string z.topic)).setCell ⟨g, b * 5 + 2, none⟩ (.int .i64 z.value)).setCell ⟨g, b * 5 + 3, none⟩ (.int .i64 z.sentAt)).setCell ⟨g, b * 5 + 4, none⟩ (.int .i64 z.left)) (some g) := by
  obtain ⟨hb, -⟩ := List.getElem?_eq_some_iff.1 hy
  have s0 := World.ownsRow.stored h (b * 5) (.int .i64 z.number)
  rw [show b * 5 = b * 5 + 0 from rfl, flat_set mailCells 5 mail_len cur b 0 y { y with number := z.number } _ hy (by omega) rfl] at s0
  have s1 := World.ownsRow.stored s0.1 (b * 5 + 1) (.string z.topic)
  rw [flat_set mailCells 5 mail_len _ b 1 { y with number := z.number } { y with number := z.number, topic := z.topic } _ (by rw [List.getElem?_set_self hb]) (by omega) rfl, List.set_set] at s1
  have s2 := World.ownsRow.stored s1.1 (b * 5 + 2) (.int .i64 z.value)
  rw [flat_set mailCells 5 mail_len _ b 2 { y with number := z.number, topic := z.topic } { y with number := z.number, topic := z.topic, value := z.value } _ (by rw [List.getElem?_set_self hb]) (by omega) rfl, List.set_set] at s2
  have s3 := World.ownsRow.stored s2.1 (b * 5 + 3) (.int .i64 z.sentAt)
  rw [flat_set mailCells 5 mail_len _ b 3 { y with number := z.number, topic := z.topic, value := z.value } { y with number := z.number, topic := z.topic, value := z.value, sentAt := z.sentAt } _ (by rw [List.getElem?_set_self hb]) (by omega) rfl, List.set_set] at s3
  have s4 := World.ownsRow.stored s3.1 (b * 5 + 4) (.int .i64 z.left)
  rw [flat_set mailCells 5 mail_len _ b 4 { y with number := z.number, topic := z.topic, value := z.value, sentAt := z.sentAt } z _ (by rw [List.getElem?_set_self hb]) (by omega) rfl, List.set_set] at s4
  exact ⟨s4.1, (((s0.2.trans s1.2).trans s2.2).trans s3.2).trans s4.2⟩

theorem set_step {α : Type} (u : α) (xs : List α) (j : Nat) (h : j < xs.length) : (List.replicate j u ++ xs.drop j).set j u = List.replicate (j + 1) u ++ xs.drop (j + 1) := by
  have hl : (List.replicate j u).length = j := by simp
  rw [List.drop_eq_getElem_cons h, ← List.replicate_append_replicate, List.append_assoc, List.set_append_right _ _ (by omega), hl, Nat.sub_self]
  rfl

theorem queue_few {S : RefS} (h : Inv S) (k : Int) : (queueM S k).length ≤ 10 := by
  unfold queueM
  split
  · rename_i hk
    rw [List.length_map]
    exact (h.que _ (by have := known_nat hk; omega)).1
  · simp

theorem whole_mails {P : Prog} {w w4 w5 : World} {G : Nat} {c : Nat → Nat} {b : Nat} {v : GameV} {S : RefS} {x : RefV} {F : Nat → Prop} {R : List ByteArray} {ends : List Int} {v4 v5 : Value} {T TT : List Value}
    (hg : Whole P w G c b v S x F R ends) (hc : ∃ c1, Ext w c c1 ∧ Lists (w5.setCell ⟨G, 8, none⟩ v5) c1 72 fM 7 8 v4 v5 (b + 1) T TT) (hu : Upd (fun k => c k = 3 ∨ c k = 7 ∨ c k = 8) w (w5.setCell ⟨G, 8, none⟩ v5))
    (h4 : Upd (fun k => c k = 7) w w4) (h5 : Upd (fun k => c k = 8) (w4.setCell ⟨G, 5, none⟩ v4) w5) :
    ∃ c1 v x F R ends, Whole P (w5.setCell ⟨G, 8, none⟩ v5) G c1 (b + 1) v S x F R ends ∧ Ext w c c1 ∧ Upd (fun k => c k ≠ 0) w (w5.setCell ⟨G, 8, none⟩ v5) := by
  obtain ⟨c1, hext, hL⟩ := hc
  obtain ⟨M, MM, hM⟩ := hg.texts
  obtain ⟨U, UU, hU⟩ := hg.waits
  have l1 := (hg.core.lies.upd h4 (by rw [hg.core.cG]; omega)).store (v1 := { v with mailsV := v4 }) 5 v4 (h4.cell hg.core.lies.mails (by show ¬ c G = 7; rw [hg.core.cG]; omega)) rfl rfl rfl rfl rfl rfl rfl rfl rfl rfl
  have l2 := l1.upd h5 (by rw [hg.core.cG]; omega)
  have l3 := l2.store (v1 := { v with mailsV := v4, mtV := v5 }) 8 v5 l2.mt rfl rfl rfl rfl rfl rfl rfl rfl rfl rfl
  exact ⟨c1, _, x, F, R, ends, ⟨hg.core.relist hu (by omega) (by omega) hext l3 rfl rfl rfl rfl, ⟨M, MM, (hM.upd hu (fun g e => by omega) hext).more (by omega)⟩, ⟨_, _, hL⟩, ⟨U, UU, (hU.upd hu (fun g e => by omega) hext).more (by omega)⟩⟩, hext, hu.mono (fun k e => by omega)⟩

set_option maxRecDepth 100000 in
set_option maxHeartbeats 4000000 in
theorem lawQueue (P : Prog) (w : World) (G : Nat) (c : Nat → Nat) (b : Nat) (v : GameV) (S : RefS) (x : RefV) (F : Nat → Prop) (R : List ByteArray) (ends : List Int) (k : Int) (hg : Whole P w G c b v S x F R ends) (hb : b ≤ 100000000) :
    Calls Tryz.prog 21 #[.pointer (some ⟨G, 0, none⟩), .int .i64 k] w fun e w' => e = .returned (.bool true) ∧ Next P w G c (b + 1) S w' := by
  obtain ⟨T, TT, hL⟩ := hg.mails
  have ch := hg.core.lies.h
  have cw := hg.core.lies.w'
  have ct := hg.core.lies.mails
  obtain ⟨at', tc, htv, t1, t2, -⟩ := hL.row.form
  obtain ⟨aq, qc, hqv, -, -, -⟩ := hL.rows.form
  rw [htv] at ct
  unfold maxLen at t2
  have hfew := hL.few
  have HG : Hid (Whole P w G c b v S x F R ends) := hg
  have HL : Hid (Lists w c 72 fM 7 8 v.mailsV v.mtV b T TT) := hL
  have HT : Hid (v.mailsV = .slice at' T.length tc) := htv
  have HQ : Hid (v.mtV = .slice aq TT.length qc) := hqv
  have hfl := queue_few hg.core.good.inv k
  have hGl := hg.core.lies.lt
  clear hg hL htv hqv
  go_enter Tryz.func21, Tryz.ntmps21
  go_wp2_with fail
  refine (P.queue k HG.out.core.pr HG.out.core.good).mono ?_
  rintro e w1 ⟨va, rfl, hown1, hb1⟩
  have cw1 := cell_later hb1 cw
  have HO1 : Hid (w1.ownsRow w.heap.size 76 5 va (queueM S k).length ((queueM S k).flatMap mailCells)) := hown1
  clear hown1
  go_wp2_with fail
  refine (refQueue v.wB x S k _ (HG.out.core.rep.below hb1) HG.out.core.good.inv).mono ?_
  rintro e w2 ⟨vb, rfl, hown2, hb2⟩
  obtain ⟨ab, cb, rfl, -, -, hcb⟩ := own_cells hown2
  have ho1 := own_below HO1.out hb2
  obtain ⟨aa, ca, rfl, hca, hca2, hcc⟩ := own_cells ho1
  have hb12 : Below w.heap.size w w2 := hb1.trans (hb2.mono hb1.size)
  clear hb2 hown2 HO1 cw1 hb1
  go_wp2_with fail
  refine (lawSameMails _ _ _ _ _ _ (by omega) hcc hcb).mono ?_
  rintro e w3 ⟨rfl, hb3⟩
  have ho4 := own_below ho1 hb3
  have hb14 : Below w.heap.size w w3 := hb12.trans (hb3.mono hb12.size)
  have ct3 := cell_later hb14 ct
  clear hb3 ho1 hcc hcb hb12
  have hw1 : IntKind.i64.wrap (-1 - (T.length : Int)) = -1 - (T.length : Int) := wrap_ok _ (by omega) (by omega)
  go_wp2_with fail
  clear ct3
  generalize hxs : queueM S k = xs at *
  have HMK : Hid (fM T.length = [.int .i64 (-1 - (T.length : Int)), .string ⟨#[]⟩, .int .i64 0, .int .i64 (-1 - (T.length : Int)), .int .i64 0]) := rfl
  have HMM : Hid (markMail T.length = ⟨-1 - (T.length : Int), ⟨#[]⟩, 0, -1 - (T.length : Int), 0⟩) := rfl
  generalize hq : -1 - (T.length : Int) = q at *
  clear hq hw1
  have HX : Hid (queueM S k = xs) := hxs
  clear hxs
  go_loopw [9] (fun i wr => ∃ j : Nat, j ≤ xs.length ∧ i = .int .i64 j ∧ wr.ownsRow w.heap.size 76 5 (.slice aa xs.length ca) xs.length ((List.replicate j (⟨q, ⟨#[]⟩, 0, q, 0⟩ : MailD) ++ xs.drop j).flatMap mailCells) ∧ Below w.heap.size w wr) (fun i _ => xs.length - (intOf i).toNat)
  case atStart => exact ⟨0, Nat.zero_le _, rfl, by simpa using ho4, hb14⟩
  case round =>
    obtain ⟨j, hj, rfl, hor, hbr⟩ := hrel
    by_cases hjl : j < xs.length
    · obtain ⟨ag, cg, hvg, -, -, hcr⟩ := own_cells hor
      simp only [Value.slice.injEq, true_and] at hvg
      obtain ⟨rfl, rfl⟩ := hvg
      have hlen : (List.replicate j (⟨q, ⟨#[]⟩, 0, q, 0⟩ : MailD) ++ xs.drop j).length = xs.length := by rw [List.length_append, List.length_replicate, List.length_drop]; omega
      obtain ⟨y, hy⟩ : ∃ y, (List.replicate j (⟨q, ⟨#[]⟩, 0, q, 0⟩ : MailD) ++ xs.drop j)[j]? = some y := ⟨_, List.getElem?_eq_getElem (by omega)⟩
      obtain ⟨g, rfl, hgl, f0, f1, f2, f3, f4⟩ := mail_cells hcr hy
      have z0 := World.ownsRow.frozenAt hor (j * 5)
      have z1 := World.ownsRow.frozenAt hor (j * 5 + 1)
      have z2 := World.ownsRow.frozenAt hor (j * 5 + 2)
      have z3 := World.ownsRow.frozenAt hor (j * 5 + 3)
      have z4 := World.ownsRow.frozenAt hor (j * 5 + 4)
      have st := row5M hor hy (z := ⟨q, ⟨#[]⟩, 0, q, 0⟩)
      rw [set_step _ xs j hjl] at st
      have ST : Hid (_ ∧ World.grownBy wr _ _) := st
      clear hy st hor hcr hlen
      go_wp2_with fail
      go_roundw
      case rel => exact ⟨j + 1, by omega, by go_num, ST.out.1, hbr.grown ST.out.2 hbr.size (fun q hq => by simp at hq; subst hq; exact (ST.out.1.lt _ rfl).1)⟩
      case measure => simp [intOf]; omega
    · have hjn : j = xs.length := by omega
      subst hjn
      have hrow : wr.ownsRow w.heap.size 76 5 (.slice aa xs.length ca) xs.length (rep (fM T.length) xs.length) := by
        rw [List.drop_of_length_le (by simp), List.append_nil, rep_flat] at hor
        rw [HMK.out]; exact hor
      clear hor
      obtain ⟨a1, c1, w1, a2, c2, w2, a3, c3, w3, x1, x2, x3, r0, r1, r2, r3, bl, g0, g1, g2, g3, ua, ub⟩ := tails3 72 76 _ 5 48 Tryz.underlying72 infoMail rfl (by omega) (by omega) (fM T.length) rfl (mail_one _) (wr.alloc (.cells (fM T.length).toArray 76)) w.heap.size aa _ ca (hrow.alloc _) (by have := hbr.size; simp; omega) (by omega)
      have hmA : ¬ (Value.slice aa xs.length ca).ownBlock = some wr.heap.size := fun e => by have := (hrow.lt _ e).2; omega
      have hmc : ∀ j u, (fM T.length)[j]? = some u → (wr.alloc (.cells (fM T.length).toArray 76)).cell? ⟨wr.heap.size, j, none⟩ = some u := fun j u hj => by
        have := cells_new wr (fM T.length) 76 j u hj
        rwa [Addr.add_lit, Nat.zero_add] at this
      rw [HMK.out] at x1 x2 x3 ua ub hmc
      have ma0 := ua.cell (hmc 0 _ rfl) hmA
      have ma1 := ua.cell (hmc 1 _ rfl) hmA
      have ma2 := ua.cell (hmc 2 _ rfl) hmA
      have ma3 := ua.cell (hmc 3 _ rfl) hmA
      have ma4 := ua.cell (hmc 4 _ rfl) hmA
      have mb0 := ub.cell (hmc 0 _ rfl) hmA
      have mb1 := ub.cell (hmc 1 _ rfl) hmA
      have mb2 := ub.cell (hmc 2 _ rfl) hmA
      have mb3 := ub.cell (hmc 3 _ rfl) hmA
      have mb4 := ub.cell (hmc 4 _ rfl) hmA
      have hsa := ua.size
      have hsb := ub.size
      simp only [List.cons_append, List.nil_append, size_alloc] at x1 x2 x3 hsa hsb
      have hb3 : Below w.heap.size w w3 := (hbr.alloc hbr.size _).trans bl
      have ct5 := cell_later hb3 ct
      obtain ⟨a4, c4, w4', a5, c5, w5, x4, e1, z1, e2, x5, e3, z3, hc1, hu1, hu4, hu5⟩ := lists_add 44 72 Tryz.underlying44 infoMails HL.out (by omega) (by omega) (by omega) (by omega) (by omega) hb HG.out.core.lies HG.out.core.cG 5 8 (by omega) HG.out.core.lies.mails HG.out.core.lies.mt hb3 HT.out HQ.out (newList r0 (by omega) g0) (newList r1 (by omega) g1) (newList r2 (by omega) g2) (newList r3 (by omega) g3)
      obtain ⟨cN, vN, xN, FN, RN, endsN, wN, eN, uN⟩ := whole_mails HG.out hc1 hu1 hu4 hu5
      have HW : Hid (Whole P (w5.setCell ⟨G, 8, none⟩ (.slice a5 (TT.length + 3) c5)) G cN (b + 1) vN S xN FN RN endsN) := wN
      have HE : Hid (Ext w c cN) := eN
      have HU : Hid (Upd (fun k => c k ≠ 0) w (w5.setCell ⟨G, 8, none⟩ (.slice a5 (TT.length + 3) c5))) := uN
      have cN0 := wN.core.lies.h
      clear ho4 hrow hbr hb14 bl hc1 hu1 hu4 hu5 r0 r1 r2 r3 g0 g1 g2 g3 wN eN uN ua ub hmc hmA HMM
      go_wp2_with fail
      generalize hWN : World.setCell w5 _ _ = wN at *
      clear hWN x1 x2 x3 x4 x5 e1 e2 e3 z1 z3 ma0 ma1 ma2 ma3 ma4 mb0 mb1 mb2 mb3 mb4 ct5 hb3
      refine (P.lost k HW.out.core.pr HW.out.core.good).mono ?_
      rintro e w6 ⟨rfl, hb6⟩
      have cN1 := cell_later hb6 HW.out.core.lies.w'
      go_wp2_with fail
      refine (refLost vN.wB xN S k _ (HW.out.core.rep.below hb6)).mono ?_
      rintro e w7 ⟨rfl, rfl⟩
      have HF : Hid (Next P w G c (b + 1) S w7) := ⟨cN, vN, xN, FN, RN, endsN, HW.out.below hb6, HE.out, HU.out.below hb6⟩
      go_wp2_with fail
      go_ret
      exact ⟨rfl, HF.out⟩
end Go.Proofs.YtmjdndhfmfjbiaaGreat
