import Derived.Test.YtmjdndhfmfjbiaaGreatM17
import Derived.Deep.DrawnRows
namespace Go.Proofs.YtmjdndhfmfjbiaaGreat
open Go.RowKit

theorem ans0 (S : RefS) (o : OpD) (h : o.kind ≠ 3) : doAns S o = 0 := by
  unfold doAns
  simp [h]

theorem Outcome.from {PR : World → Nat → (Nat → Prop) → RefS → List ByteArray → Prop} {w wa w1 : World} {H : Nat} {F : Nat → Prop} {R : List ByteArray} {S1 : RefS} (hb : Below w.heap.size w wa) (h : Outcome PR wa H F R S1 w1) : Outcome PR w H F R S1 w1 := by
  obtain ⟨F1, R1, h1, h2, h3⟩ := h
  exact ⟨F1, R1, h1, (Upd.of_below hb).trans h2 (fun _ _ e => e), fun k hk => by
    rcases h3 k hk with h | h
    · exact .inl h
    · have := hb.size
      exact .inr (by omega)⟩

theorem two_int {a b c d : Int} (h1 : a = b) (h2 : c = d) : Ending.returned (.tuple #[.int .i64 a, .int .i64 c]) = .returned (.tuple #[.int .i64 b, .int .i64 d]) := by rw [h1, h2]

set_option maxRecDepth 100000 in
set_option maxHeartbeats 1000000 in
theorem lawDoes (P : Prog) (w : World) (H : Nat) (F : Nat → Prop) (S : RefS) (R : List ByteArray) (o : OpD) (hp : P.PR w H F S R) (hg : Good S) (ho : Fine o) :
    Calls Tryz.prog 50 #[.pointer (some ⟨H, 0, none⟩), opV o] w fun e w' => e = .returned (.tuple #[.int .i64 (doAns S o), .int .i64 (doErr S o)]) ∧ Outcome P.PR w H F R (doS S o) w' := by
  obtain ⟨k, a, b, c, d, s⟩ := o
  have HP : Hid (P.PR w H F S R) := hp
  have HG : Hid (Good S) := hg
  have hs := ho.2
  have hk := ho.1
  simp only at hs hk
  clear hp hg ho
  have hbA : Below w.heap.size w (w.alloc (.cells #[.int .i64 k, .int .i64 a, .int .i64 b, .int .i64 c, .int .i64 d, .string s] 86)) := below_one _ _
  have HPA : Hid (P.PR (w.alloc (.cells #[.int .i64 k, .int .i64 a, .int .i64 b, .int .i64 c, .int .i64 d, .string s] 86)) H F S R) := P.upd (Q := fun _ => False) HP.out (Upd.of_below hbA) (fun _ _ f => f)
  have HBA : Hid (Below w.heap.size w (w.alloc (.cells #[.int .i64 k, .int .i64 a, .int .i64 b, .int .i64 c, .int .i64 d, .string s] 86))) := hbA
  clear hbA
  rcases (show k = 1 ∨ k = 2 ∨ k = 3 ∨ k = 4 ∨ k = 5 ∨ k = 6 ∨ k = 7 from by omega) with rfl | rfl | rfl | rfl | rfl | rfl | rfl
  · have HA : Hid (doAns S ⟨1, a, b, c, d, s⟩ = 0) := ans0 _ _ (by simp)
    go_enter Tryz.func50, Tryz.ntmps50
    go_wp2_with fail
    refine (P.sub a b c d s HPA.out HG.out hs).mono ?_
    rintro e w1 ⟨rfl, h1⟩
    have H1 : Hid (Outcome P.PR w H F R (doS S ⟨1, a, b, c, d, s⟩) w1) := h1.from HBA.out
    clear h1
    go_wp2_with fail
    go_ret2
    exact ⟨two_int HA.out.symm rfl, H1.out⟩
  · have HA : Hid (doAns S ⟨2, a, b, c, d, s⟩ = 0) := ans0 _ _ (by simp)
    go_enter Tryz.func50, Tryz.ntmps50
    go_wp2_with fail
    refine (P.unsub a b c d s HPA.out HG.out hs).mono ?_
    rintro e w1 ⟨rfl, h1⟩
    have H1 : Hid (Outcome P.PR w H F R (doS S ⟨2, a, b, c, d, s⟩) w1) := h1.from HBA.out
    clear h1
    go_wp2_with fail
    go_ret2
    exact ⟨two_int HA.out.symm rfl, H1.out⟩
  · go_enter Tryz.func50, Tryz.ntmps50
    go_wp2_with fail
    refine (P.publish a b c d s HPA.out HG.out hs).mono ?_
    rintro e w1 ⟨rfl, h1⟩
    have H1 : Hid (Outcome P.PR w H F R (doS S ⟨3, a, b, c, d, s⟩) w1) := h1.from HBA.out
    clear h1
    go_wp2_with fail
    go_ret2
    exact ⟨rfl, H1.out⟩
  · have HA : Hid (doAns S ⟨4, a, b, c, d, s⟩ = 0) := ans0 _ _ (by simp)
    go_enter Tryz.func50, Tryz.ntmps50
    go_wp2_with fail
    refine (P.cancel a b c d s HPA.out HG.out).mono ?_
    rintro e w1 ⟨rfl, h1⟩
    have H1 : Hid (Outcome P.PR w H F R (doS S ⟨4, a, b, c, d, s⟩) w1) := h1.from HBA.out
    clear h1
    go_wp2_with fail
    go_ret2
    exact ⟨two_int HA.out.symm rfl, H1.out⟩
  · have HA : Hid (doAns S ⟨5, a, b, c, d, s⟩ = 0) := ans0 _ _ (by simp)
    go_enter Tryz.func50, Tryz.ntmps50
    go_wp2_with fail
    refine (P.move a b c d s HPA.out HG.out).mono ?_
    rintro e w1 ⟨rfl, h1⟩
    have H1 : Hid (Outcome P.PR w H F R (doS S ⟨5, a, b, c, d, s⟩) w1) := h1.from HBA.out
    clear h1
    go_wp2_with fail
    go_ret2
    exact ⟨two_int HA.out.symm rfl, H1.out⟩
  · have HA : Hid (doAns S ⟨6, a, b, c, d, s⟩ = 0) := ans0 _ _ (by simp)
    go_enter Tryz.func50, Tryz.ntmps50
    go_wp2_with fail
    refine (P.tick a b c d s HPA.out HG.out).mono ?_
    rintro e w1 ⟨rfl, h1⟩
    have H1 : Hid (Outcome P.PR w H F R (doS S ⟨6, a, b, c, d, s⟩) w1) := h1.from HBA.out
    clear h1
    go_wp2_with fail
    go_ret2
    exact ⟨two_int HA.out.symm rfl, H1.out⟩
  · have HA : Hid (doAns S ⟨7, a, b, c, d, s⟩ = 0) := ans0 _ _ (by simp)
    go_enter Tryz.func50, Tryz.ntmps50
    go_wp2_with fail
    refine (P.ack a b c d s HPA.out HG.out).mono ?_
    rintro e w1 ⟨rfl, h1⟩
    have H1 : Hid (Outcome P.PR w H F R (doS S ⟨7, a, b, c, d, s⟩) w1) := h1.from HBA.out
    clear h1
    go_wp2_with fail
    go_ret2
    exact ⟨two_int HA.out.symm rfl, H1.out⟩
end Go.Proofs.YtmjdndhfmfjbiaaGreat

namespace Go.Proofs.YtmjdndhfmfjbiaaGreat
open Go.RowKit
attribute [local go_sem ↓] Go.wp_at_zero Go.wp_at_succ appSem_eq

theorem infoInt : (Tryz.prog.info? 3).map (fun i => (i.zero, i.size, i.bytes)) = some (some (.int .i64 0), 1, 8) := by kernel_rfl

/-- The broker and the reference have done the same; the ends are longer by one, or as they were. -/
theorem Whole.operated {P : Prog} {w w1 w2 wF : World} {G : Nat} {c : Nat → Nat} {b : Nat} {v : GameV} {S S1 : RefS} {x x2 : RefV} {F F1 : Nat → Prop} {R R1 : List ByteArray} {ends ends1 : List Int} {ev : Value} (h : Whole P w G c b v S x F R ends)
    (hp : P.PR w1 v.hB F1 S1 (R ++ R1)) (u1 : Upd F w w1) (f1 : ∀ k, F1 k → F k ∨ w.heap.size ≤ k) (hr : Rep w2 v.wB x2 S1) (u2 : Upd (RefFP v.wB x) w1 w2) (f2 : ∀ k, RefFP v.wB x2 k → RefFP v.wB x k ∨ w1.heap.size ≤ k) (hgood : Good S1)
    (uF : Upd (fun k => k = G ∨ v.endsV.ownBlock = some k) w2 wF) (hl : GameAt wF G { v with endsV := ev }) (hrow : Row wF 3 1 ev ends1.length (ends1.map (Value.int .i64))) (fe : ∀ k, ev.ownBlock = some k → v.endsV.ownBlock = some k ∨ w2.heap.size ≤ k)
    (hL : ends1.length = (R ++ R1).length + 1) (h0 : ends1[0]? = some 0) (hE : ∀ n e, ends1[n]? = some e → e = -1 ∨ e = ((cat ((R ++ R1).take n)).size : Int)) : Next P w G c b S1 wF := by
  have cG := h.core.cG
  have hGl := h.core.lies.lt
  have s1 := u1.size
  have s2 := u2.size
  have u1c : Upd (fun k => c k = 1) w w1 := u1.mono (fun k e => h.core.cF k e)
  have eB : ∀ k, v.endsV.ownBlock = some k → c k = 4 ∧ k < w.heap.size := fun k e => ⟨h.core.cE k e, h.core.endsR.lt e⟩
  have rB : ∀ k, RefFP v.wB x k → c k = 2 ∧ k < w.heap.size := fun k e => ⟨h.core.cR k e, h.core.rep.lt e⟩
  have uc : Upd (fun k => c k = 1 ∨ c k = 2 ∨ c k = 3 ∨ c k = 4) w wF :=
    ((u1c.mono (T := fun k => c k = 1 ∨ c k = 2 ∨ c k = 3 ∨ c k = 4) (fun k e => .inl e)).trans u2 (fun k _ e => .inr (.inl (rB k e).1))).trans uF (fun k _ e => by
      rcases e with e | e
      · subst e; exact .inr (.inr (.inl cG))
      · exact .inr (.inr (.inr (eB k e).1)))
  let c1 : Nat → Nat := fun k => if k < w.heap.size then c k else if k < w1.heap.size then 1 else if k < w2.heap.size then 2 else 4
  have hext : Ext w c c1 := fun k hk => if_pos hk
  have cF1 : ∀ k, F1 k → c1 k = 1 := fun k e => by
    show (if k < w.heap.size then c k else _) = 1
    have hk := P.lt hp e
    rcases f1 k e with h1 | h1
    · rw [if_pos (P.lt h.core.pr h1)]; exact h.core.cF k h1
    · rw [if_neg (by omega), if_pos hk]
  have cR2 : ∀ k, RefFP v.wB x2 k → c1 k = 2 := fun k e => by
    show (if k < w.heap.size then c k else _) = 2
    have hk := hr.lt e
    rcases f2 k e with h1 | h1
    · rw [if_pos (rB k h1).2]; exact (rB k h1).1
    · rw [if_neg (by omega), if_neg (by omega), if_pos hk]
  obtain ⟨T, TT, hT⟩ := h.texts
  obtain ⟨M, MM, hM⟩ := h.mails
  obtain ⟨U, UU, hU⟩ := h.waits
  obtain ⟨m, hm⟩ := h.core.disk
  refine ⟨c1, { v with endsV := ev }, x2, F1, R ++ R1, ends1, ⟨⟨hl, ?_, ?_, hgood, hrow, hL, h0, hE, ?_, cF1, cR2, ?_, fun k e => ?_⟩,
    ⟨T, TT, hT.upd uc (fun k e => by omega) hext⟩, ⟨M, MM, hM.upd uc (fun k e => by omega) hext⟩, ⟨U, UU, hU.upd uc (fun k e => by omega) hext⟩⟩, hext, uc.mono (fun k e => by omega)⟩
  · refine P.upd (P.upd hp u2 (fun k e q => ?_)) uF (fun k e q => ?_)
    · have h1 := cF1 k e
      rw [hext k (rB k q).2, (rB k q).1] at h1
      omega
    · have h1 := cF1 k e
      rcases q with q | q
      · subst q
        rw [hext k hGl, cG] at h1; omega
      · rw [hext k (eB k q).2, (eB k q).1] at h1; omega
  · refine hr.upd uF (fun k e q => ?_)
    have h1 := cR2 k e
    rcases q with q | q
    · subst q
      rw [hext k hGl, cG] at h1; omega
    · rw [hext k (eB k q).2, (eB k q).1] at h1; omega
  · refine ⟨min m R.length, ?_⟩
    show v.disk = _
    rw [hm, List.take_append_of_le_length (by omega)]
    rcases Nat.le_total m R.length with h1 | h1
    · rw [Nat.min_eq_left h1]
    · rw [Nat.min_eq_right h1, List.take_of_length_le h1, List.take_length]
  · rw [hext G hGl]; exact cG
  · show (if k < w.heap.size then c k else _) = 4
    rcases fe k e with h1 | h1
    · rw [if_pos (eB k h1).2]; exact (eB k h1).1
    · rw [if_neg (by omega), if_neg (by omega), if_neg (by omega)]

theorem operated_same {P : Prog} {w w1 w2 wF : World} {G : Nat} {c : Nat → Nat} {b : Nat} {v : GameV} {S S1 : RefS} {x x2 : RefV} {F F1 : Nat → Prop} {R R1 : List ByteArray} {ends : List Int} (h : Whole P w G c b v S x F R ends)
    (hp : P.PR w1 v.hB F1 S1 (R ++ R1)) (u1 : Upd F w w1) (f1 : ∀ k, F1 k → F k ∨ w.heap.size ≤ k) (hr : Rep w2 v.wB x2 S1) (u2 : Upd (RefFP v.wB x) w1 w2) (f2 : ∀ k, RefFP v.wB x2 k → RefFP v.wB x k ∨ w1.heap.size ≤ k) (hgood : Good S1)
    (hlen : S1.done.length = R.length) (hb : Below w2.heap.size w2 wF) : Next P w G c b S1 wF := by
  have hFG : ¬ F G := fun e => by have h1 := h.core.cF G e; have h2 := h.core.cG; omega
  have hRG : ¬ RefFP v.wB x G := fun e => by have h1 := h.core.cR G e; have h2 := h.core.cG; omega
  have hR1 : R1 = [] := by
    have := (P.recs hp).1
    rw [List.length_append, hlen] at this
    exact List.eq_nil_of_length_eq_zero (by omega)
  have r1 := (h.core.endsR.upd u1 (fun k e f => by have h1 := h.core.cF k f; have h2 := h.core.cE k e; omega)).upd u2 (fun k e f => by have h1 := h.core.cR k f; have h2 := h.core.cE k e; omega)
  have l1 := ((h.core.lies.upd u1 hFG).upd u2 hRG).upd (P := fun _ => False) (Upd.of_below hb) (fun f => f)
  refine h.operated hp u1 f1 hr u2 f2 hgood (ev := v.endsV) (ends1 := ends) (Upd.of_below hb) l1 (r1.below hb) (fun k e => .inl e) ?_ h.core.ends0 ?_
  · rw [hR1, List.append_nil]; exact h.core.endsL
  · rw [hR1, List.append_nil]; exact h.core.endsE

theorem operated_more {P : Prog} {w w1 w2 w3 : World} {G : Nat} {c : Nat → Nat} {b : Nat} {v : GameV} {S S1 : RefS} {x x2 : RefV} {F F1 : Nat → Prop} {R R1 : List ByteArray} {ends : List Int} (h : Whole P w G c b v S x F R ends)
    (hp : P.PR w1 v.hB F1 S1 (R ++ R1)) (u1 : Upd F w w1) (f1 : ∀ k, F1 k → F k ∨ w.heap.size ≤ k) (hr : Rep w2 v.wB x2 S1) (u2 : Upd (RefFP v.wB x) w1 w2) (f2 : ∀ k, RefFP v.wB x2 k → RefFP v.wB x k ∨ w1.heap.size ≤ k) (hgood : Good S1)
    (hlen : S1.done.length = R.length + 1) (hb : Below w2.heap.size w2 w3) {ae : Option Addr} {ec : Nat} (hv : v.endsV = .slice ae ends.length ec) :
    ∃ a4 c4 w4, (appSem #[42, 42] 42 #[.slice ae (R.length + 1) ec, .slice (some ⟨w3.heap.size, 0, none⟩) 1 1]).run Tryz.prog (w3.alloc (.cells #[.int .i64 (-1)] 3)) = .ok (.slice a4 (R.length + 1 + 1) c4) w4 ∧
      w4.cell? ⟨G, 2, none⟩ = some (.slice ae (R.length + 1) ec) ∧ w4.frozen? ⟨G, 2, none⟩ = false ∧ Next P w G c b S1 (w4.setCell ⟨G, 2, none⟩ (.slice a4 (R.length + 1 + 1) c4)) := by
  have hel := h.core.endsL
  have hFG : ¬ F G := fun e => by have h1 := h.core.cF G e; have h2 := h.core.cG; omega
  have hRG : ¬ RefFP v.wB x G := fun e => by have h1 := h.core.cR G e; have h2 := h.core.cG; omega
  have hEG : ¬ v.endsV.ownBlock = some G := fun e => by have h1 := h.core.cE G e; have h2 := h.core.cG; omega
  have hR1 : R1.length = 1 := by
    have := (P.recs hp).1
    rw [List.length_append, hlen] at this
    omega
  have hd5 := hgood.inv.done
  have r3 := (((h.core.endsR.upd u1 (fun k e f => by have h1 := h.core.cF k f; have h2 := h.core.cE k e; omega)).upd u2 (fun k e f => by have h1 := h.core.cR k f; have h2 := h.core.cE k e; omega))).below hb
  have l3 := ((h.core.lies.upd u1 hFG).upd u2 hRG).upd (P := fun _ => False) (Upd.of_below hb) (fun f => f)
  have hc3 := l3.ends
  rw [hv] at r3
  obtain ⟨a4, c4, w4, x4, r4, k4⟩ := app_more 42 3 (.int .i64 0) 1 8 Tryz.underlying42 infoInt rfl (by omega) (w3.alloc (.cells #[.int .i64 (-1)] 3)) ae ends.length ec _ [.int .i64 (-1)] (r3.alloc _) ⟨w3.heap.size, 0, none⟩ 1 1 (by omega) rfl (cells_new w3 [.int .i64 (-1)] 3) (by simp [Value.oneCell']) (by omega) (by omega)
  have u34 : Upd (fun k => v.endsV.ownBlock = some k) w3 w4 := by
    rw [hv]
    rcases k4 with ⟨-, -, h⟩ | ⟨-, h⟩
    · exact ((Upd.refl _ w3).alloc _).trans h (fun _ _ e => e)
    · exact ((Upd.refl _ w3).alloc _).below h
  have f4 : ∀ g, (Value.slice a4 (ends.length + 1) c4).ownBlock = some g → v.endsV.ownBlock = some g ∨ w2.heap.size ≤ g := fun g hg => by
    rw [hv]
    rcases k4 with ⟨rfl, -, -⟩ | ⟨rfl, -⟩
    · exact .inl (by cases a4 with | none => simp [Value.ownBlock] at hg | some a0 => simpa [Value.ownBlock] using hg)
    · simp [Value.ownBlock] at hg
      have := hb.size
      exact .inr (by omega)
  have l4 := l3.upd u34 hEG
  have l5 := l4.store (v1 := { v with endsV := .slice a4 (ends.length + 1) c4 }) 2 (.slice a4 (ends.length + 1) c4) l4.ends rfl rfl rfl rfl rfl rfl rfl rfl rfl rfl
  have u45 := upd_set w4 G 2 (.slice a4 (ends.length + 1) c4)
  have hvG : ∀ g, (Value.slice a4 (ends.length + 1) c4).ownBlock = some g → ¬ g = G := fun g e e2 => by
    subst e2
    rcases f4 g e with h1 | h1
    · exact hEG h1
    · have h2 := h.core.lies.lt
      have := u1.size
      have := u2.size
      omega
  have r5 : Row (w4.setCell ⟨G, 2, none⟩ (.slice a4 (ends.length + 1) c4)) 3 1 (.slice a4 (ends.length + 1) c4) (ends ++ [-1]).length ((ends ++ [-1]).map (Value.int .i64)) := by
    have := r4.upd u45 hvG
    simpa using this
  have e2 : w4.cell? ⟨G, 2, none⟩ = some (.slice ae (R.length + 1) ec) := by
    have := l4.ends
    rwa [hv, hel] at this
  refine ⟨a4, c4, w4, by rw [← hel]; exact x4, e2, l4.free 2, ?_⟩
  rw [← hel]
  refine h.operated hp u1 f1 hr u2 f2 hgood (ends1 := ends ++ [-1]) (ev := .slice a4 (ends.length + 1) c4) ?_ l5 r5 f4 ?_ ?_ ?_
  · exact ((Upd.of_below hb).trans (u34.mono (T := fun k => k = G ∨ v.endsV.ownBlock = some k) (fun _ e => .inr e)) (fun _ _ e => e)).trans u45 (fun _ _ e => .inl e)
  · rw [List.length_append, List.length_append, hR1, hel]
    rfl
  · rw [List.getElem?_append_left (by omega)]; exact h.core.ends0
  · intro n e he
    by_cases hn : n < ends.length
    · rw [List.getElem?_append_left hn] at he
      rw [List.take_append_of_le_length (by omega)]
      exact h.core.endsE n e he
    · rw [List.getElem?_append_right (by omega)] at he
      obtain ⟨hl, rfl⟩ := List.getElem?_eq_some_iff.1 he
      simp at hl
      exact .inl (by simp)
end Go.Proofs.YtmjdndhfmfjbiaaGreat
