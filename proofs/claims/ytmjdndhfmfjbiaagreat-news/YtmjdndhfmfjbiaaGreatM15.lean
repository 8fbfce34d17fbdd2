import Derived.Test.YtmjdndhfmfjbiaaGreatM14
namespace Go.Proofs.YtmjdndhfmfjbiaaGreat
open Go.RowKit

theorem Core.wrote {P : Prog} {w : World} {G : Nat} {c : Nat → Nat} {v : GameV} {S : RefS} {x : RefV} {F : Nat → Prop} {R : List ByteArray} {ends : List Int} (h : Core P w G c v S x F R ends) {g ec : Nat} (hv : v.endsV = .slice (some ⟨g, 0, none⟩) ends.length ec) :
    Core P ((w.setCell ⟨g, R.length, none⟩ (.int .i64 ((cat R).size : Int))).setCell ⟨G, 3, none⟩ (.string (cat R))) G c { v with disk := cat R } S x F R (ends.set R.length ((cat R).size : Int)) ∧
      Upd (fun k => c k = 3 ∨ c k = 4) w ((w.setCell ⟨g, R.length, none⟩ (.int .i64 ((cat R).size : Int))).setCell ⟨G, 3, none⟩ (.string (cat R))) := by
  have cg : c g = 4 := h.cE g (by rw [hv]; rfl)
  have u1 : Upd (fun k => k = g) w (w.setCell ⟨g, R.length, none⟩ (.int .i64 ((cat R).size : Int))) := upd_set _ _ _ _
  have u2 := upd_set (w.setCell ⟨g, R.length, none⟩ (.int .i64 ((cat R).size : Int))) G 3 (.string (cat R))
  have hgG : G ≠ g := fun e => by have := h.cG; rw [e, cg] at this; omega
  have u : Upd (fun k => c k = 3 ∨ c k = 4) w ((w.setCell ⟨g, R.length, none⟩ (.int .i64 ((cat R).size : Int))).setCell ⟨G, 3, none⟩ (.string (cat R))) :=
    (u1.mono (T := fun k => c k = 3 ∨ c k = 4) (fun k e => by subst e; exact .inr cg)).trans u2 (fun k _ e => by subst e; exact .inl h.cG)
  have l1 := h.lies.upd u1 (fun e => hgG e)
  have r1 : Row (w.setCell ⟨g, R.length, none⟩ (.int .i64 ((cat R).size : Int))) 3 1 v.endsV ends.length ((ends.set R.length ((cat R).size : Int)).map (Value.int .i64)) := by
    have hr := h.endsR
    rw [hv] at hr ⊢
    rw [List.map_set]
    exact (World.ownsRow.stored hr R.length (.int .i64 ((cat R).size : Int))).1
  refine ⟨⟨l1.store (v1 := { v with disk := cat R }) 3 (.string (cat R)) l1.disk rfl rfl rfl rfl rfl rfl rfl rfl rfl rfl, P.upd h.pr u (fun k e => by have := h.cF k e; omega), h.rep.upd u (fun k e => by have := h.cR k e; omega), h.good, ?_, ?_, ?_, ?_, ⟨R.length, by rw [List.take_length]⟩, h.cF, h.cR, h.cG, h.cE⟩, u⟩
  · rw [List.length_set]
    exact r1.upd u2 (fun k e e2 => by
      subst e2
      have := h.cE k e
      have := h.cG
      omega)
  · rw [List.length_set]; exact h.endsL
  · rw [List.getElem?_set]
    split
    · rename_i h0
      rw [if_pos (by rw [h.endsL]; omega)]
      have : R = [] := List.eq_nil_of_length_eq_zero h0
      subst this
      rfl
    · exact h.ends0
  · intro n e he
    rw [List.getElem?_set] at he
    split at he
    · rename_i h0
      subst h0
      rw [if_pos (by rw [h.endsL]; omega)] at he
      simp only [Option.some.injEq] at he
      exact .inr (by rw [← he, List.take_length])
    · exact h.endsE n e he

set_option maxRecDepth 100000 in
set_option maxHeartbeats 1000000 in
theorem lawWrites (P : Prog) (w : World) (G : Nat) (c : Nat → Nat) (b : Nat) (v : GameV) (S : RefS) (x : RefV) (F : Nat → Prop) (R : List ByteArray) (ends : List Int) (hg : Whole P w G c b v S x F R ends) :
    Calls Tryz.prog 19 #[.pointer (some ⟨G, 0, none⟩)] w fun e w' => e = .returned (.bool true) ∧ ∃ v1 ends1, Whole P w' G c b v1 S x F R ends1 ∧ v1.disk = cat R ∧ Upd (fun k => c k ≠ 0) w w' := by
  obtain ⟨hrl, hpos, hsz⟩ := P.recs hg.core.pr
  have hd500 := hg.core.good.inv.done
  have k0 := hg.core.lies.h
  have k1 := hg.core.lies.w'
  have k2 := hg.core.lies.ends
  have k3 := hg.core.lies.disk
  obtain ⟨ae, ec, hev, e1, e2, hec⟩ := hg.core.endsR.form
  obtain ⟨ad, dc, hdv, d1, d2, -⟩ := hg.core.rep.done.form
  have kd := hg.core.rep.cells.done
  rw [hdv, ← hrl] at kd
  rw [hev, hg.core.endsL] at k2
  obtain ⟨m, hm⟩ := hg.core.disk
  have hwas : v.disk.size ≤ (cat R).size := by rw [hm]; exact cat_take_le R m
  have HW : Hid ((cat R).extract 0 v.disk.size = v.disk) := by show _ = _; rw [hm]; exact cat_head R m
  have HG : Hid (Whole P w G c b v S x F R ends) := hg
  have HEV : Hid (v.endsV = .slice ae ends.length ec) := hev
  have HEC : Hid (CellsAt w ae (ends.map (Value.int .i64))) := hec
  have hN : R.length ≤ 500 := by omega
  have hGl := hg.core.lies.lt
  have hHl := hg.core.rep.cells.lt
  clear hg hrl hdv hev hec hm hd500
  generalize hdd : cat R = d at *
  have HD : Hid (cat R = d) := hdd
  clear hdd
  go_enter Tryz.func19, Tryz.ntmps19
  go_wp2_with fail
  refine (P.disk HG.out.core.pr HG.out.core.good).mono ?_
  rintro e w1 ⟨rfl, b1⟩
  rw [HD.out]
  have k01 := cell_later b1 k0
  have HG1 : Hid (Whole P w1 G c b v S x F R ends) := HG.out.below b1
  go_wp2_with fail
  refine (P.records HG1.out.core.pr HG.out.core.good).mono ?_
  rintro e w2 ⟨rfl, b2'⟩
  have b2 : Below w.heap.size w w2 := b1.trans (b2'.mono b1.size)
  have HG2 : Hid (Whole P w2 G c b v S x F R ends) := HG.out.below b2
  have k12 := cell_later b2 k1
  have k22 := cell_later b2 k2
  have k32 := cell_later b2 k3
  have kd2 := cell_later b2 kd
  clear b1 b2' HG1 k01
  go_wp2_with fail
  have q1 : IntKind.i64.wrap (R.length : Int) = (R.length : Int) := wrap_ok _ (by omega) (by omega)
  have q2 : decide (d.size < v.disk.size) = false := by simp; omega
  have q5 := HW.out
  have q3 : (0 : Int) ≤ (v.disk.size : Int) := by omega
  have q4 : (v.disk.size : Int) ≤ (d.size : Int) := by omega
  go_quiet (fail)
  clear q5 q2
  generalize hw3 : w2.drewN nq = w3
  have b3 : Below w.heap.size w w3 := by rw [← hw3]; exact below_drewN b2
  have HG3 : Hid (Whole P w3 G c b v S x F R ends) := HG.out.below b3
  have k23 := cell_later b3 k2
  obtain ⟨hkn, ek, hek, hek0⟩ := known_spec HG.out.core.ends0 R.length (by rw [HG.out.core.endsL]; omega)
  have hgap : ((R.length - knownTo ends R.length : Nat) : Int) ≤ (d.size : Int) - ek ∧ (knownTo ends R.length = R.length → (d.size : Int) - ek = 0) ∧ ek ≤ (d.size : Int) := by
    rcases HG.out.core.endsE _ _ hek with h | h
    · omega
    · have h1 := cat_mono hpos hkn (Nat.le_refl _)
      rw [List.take_length, HD.out] at h1
      refine ⟨by omega, fun e => ?_, by omega⟩
      rw [e, List.take_length, HD.out] at h
      omega
  have HKN : Hid (ends[knownTo ends R.length]? = some ek) := hek
  have hec3 : CellsAt w3 ae (ends.map (Value.int .i64)) := HEC.out.below b3
  obtain ⟨g, rfl, ckn⟩ := hec3 _ _ (int_get hek)
  have HCO := HG3.out.core.wrote HEV.out
  rw [HD.out] at HCO
  have HFI : Hid (_ ∧ Upd (fun k => c k = 3 ∨ c k = 4) w3 _) := HCO
  have hfz : w3.frozen? ⟨g, R.length, none⟩ = false := by
    have hr := HG3.out.core.endsR
    rw [HEV.out] at hr
    exact World.ownsRow.frozenAt hr R.length
  obtain ⟨eN, heN⟩ : ∃ e, ends[R.length]? = some e := ⟨_, List.getElem?_eq_getElem (by rw [HG.out.core.endsL]; omega)⟩
  obtain ⟨g', hg', cN⟩ := hec3 _ _ (int_get heN)
  simp only [Option.some.injEq, Addr.mk.injEq, and_true] at hg'
  subst hg'
  have cg : c g = 4 := HG.out.core.cE g (by rw [HEV.out]; rfl)
  have hgG : G ≠ g := fun e => by have := HG.out.core.cG; rw [e, cg] at this; omega
  have k33 : (w3.setCell ⟨g, R.length, none⟩ (.int .i64 (d.size : Int))).cell? ⟨G, 3, none⟩ = some (.string v.disk) := (upd_set w3 g R.length (.int .i64 (d.size : Int))).cell HG3.out.core.lies.disk hgG
  have f33 : (w3.setCell ⟨g, R.length, none⟩ (.int .i64 (d.size : Int))).frozen? ⟨G, 3, none⟩ = false := ((upd_set w3 g R.length (.int .i64 (d.size : Int))).frozen (p := ⟨G, 3, none⟩) HG3.out.core.lies.lt hgG).trans (HG3.out.core.lies.free _)
  clear hw3 b2 HG2 k12 k22 k32 kd2 q1 q3 q4 HCO hek heN
  go_wp2_with fail
  refine (lawKnown ends (some ⟨g, 0, none⟩) ec G v R.length _ HG3.out.core.lies HEV.out hec3 (by rw [HG.out.core.endsL]; omega) (by rw [HG.out.core.endsL]; omega)).mono ?_
  rintro e w4 ⟨rfl, rfl⟩
  clear hec3
  generalize knownTo ends R.length = kk at *
  have HWN : Hid (∃ v1 ends1, Whole P ((w4.setCell ⟨g, R.length, none⟩ (.int .i64 (d.size : Int))).setCell ⟨G, 3, none⟩ (.string d)) G c b v1 S x F R ends1 ∧ v1.disk = d ∧ Upd (fun k => c k ≠ 0) w ((w4.setCell ⟨g, R.length, none⟩ (.int .i64 (d.size : Int))).setCell ⟨G, 3, none⟩ (.string d))) := by
    obtain ⟨T, TT, hT⟩ := HG3.out.texts
    obtain ⟨M, MM, hM⟩ := HG3.out.mails
    obtain ⟨U, UU, hU⟩ := HG3.out.waits
    obtain ⟨hco, hup⟩ := HFI.out
    exact ⟨_, _, ⟨hco, ⟨T, TT, hT.upd hup (fun k e => by omega) (Ext.refl _ _)⟩, ⟨M, MM, hM.upd hup (fun k e => by omega) (Ext.refl _ _)⟩, ⟨U, UU, hU.upd hup (fun k e => by omega) (Ext.refl _ _)⟩⟩, rfl, (Upd.of_below b3).trans hup (fun k _ e => by omega)⟩
  obtain ⟨hg1, hg2, hg3⟩ := hgap
  have t1 : (R.length : Int) - (kk : Int) ≤ (d.size : Int) - ek := by omega
  by_cases hlt : kk < R.length
  · clear hg1 hg2
    go_wp2_with fail
    go_ret
    exact ⟨rfl, HWN.out⟩
  · obtain rfl : kk = R.length := by omega
    have t2 : (d.size : Int) - ek = 0 := hg2 rfl
    obtain rfl : ek = (d.size : Int) := by omega
    rw [ckn] at cN
    clear hg1 hg2 t2 t1 cN
    go_wp2_with fail
    go_ret
    exact ⟨rfl, HWN.out⟩
end Go.Proofs.YtmjdndhfmfjbiaaGreat

namespace Go.Proofs.YtmjdndhfmfjbiaaGreat
open Go.RowKit

/-- The world behind a return: the game has another broker, another reference and fewer ends. -/
abbrev backWorld (wA : World) (G g H1 B2 N ec : Nat) (d : ByteArray) : World :=
  ((((wA.setCell ⟨G, 0, none⟩ (.pointer (some ⟨H1, 0, none⟩))).setCell ⟨G, 1, none⟩ (.pointer (some ⟨B2, 0, none⟩))).setCell ⟨G, 2, none⟩ (.slice (some ⟨g, 0, none⟩) (N + 1) ec)).setCell ⟨g, N, none⟩ (.int .i64 (d.size : Int))).setCell ⟨G, 3, none⟩ (.string d)

set_option maxHeartbeats 400000 in
theorem Whole.returns {P : Prog} {w wA : World} {G : Nat} {c : Nat → Nat} {b : Nat} {v : GameV} {S S1 : RefS} {x x2 : RefV} {F F1 : Nat → Prop} {R : List ByteArray} {ends : List Int} (h : Whole P w G c b v S x F R ends) {g ec : Nat} (hv : v.endsV = .slice (some ⟨g, 0, none⟩) ends.length ec)
    (hA : Below w.heap.size w wA) {H1 B2 m N : Nat} (hN : N ≤ R.length) (hp : P.PR wA H1 F1 S1 (R.take N)) (hr : Rep wA B2 x2 S1) (hgood : Good S1) (f1 : ∀ k, F1 k → w.heap.size ≤ k ∧ k < m) (f2 : ∀ k, RefFP B2 x2 k → m ≤ k) (hm : w.heap.size ≤ m) :
    Next P w G c b S1 (backWorld wA G g H1 B2 N ec (cat (R.take N))) := by
  unfold backWorld
  have cg : c g = 4 := h.core.cE g (by rw [hv]; rfl)
  have hgG : G ≠ g := fun e => by have := h.core.cG; rw [e, cg] at this; omega
  have hGl := h.core.lies.lt
  have hgl : g < w.heap.size := h.core.endsR.lt (by rw [hv]; rfl)
  have hel := h.core.endsL
  have l0 := h.core.lies.upd (P := fun _ => False) (Upd.of_below hA) (fun f => f)
  have l1 := l0.store (v1 := { v with hB := H1 }) 0 (.pointer (some ⟨H1, 0, none⟩)) l0.h rfl rfl rfl rfl rfl rfl rfl rfl rfl rfl
  have l2 := l1.store (v1 := { v with hB := H1, wB := B2 }) 1 (.pointer (some ⟨B2, 0, none⟩)) l1.w' rfl rfl rfl rfl rfl rfl rfl rfl rfl rfl
  have l3 := l2.store (v1 := { v with hB := H1, wB := B2, endsV := .slice (some ⟨g, 0, none⟩) (N + 1) ec }) 2 (.slice (some ⟨g, 0, none⟩) (N + 1) ec) l2.ends rfl rfl rfl rfl rfl rfl rfl rfl rfl rfl
  generalize hd : cat (R.take N) = d at *
  have u1 := upd_set wA G 0 (.pointer (some ⟨H1, 0, none⟩))
  have u2 := upd_set (wA.setCell ⟨G, 0, none⟩ (.pointer (some ⟨H1, 0, none⟩))) G 1 (.pointer (some ⟨B2, 0, none⟩))
  have u3 := upd_set ((wA.setCell ⟨G, 0, none⟩ (.pointer (some ⟨H1, 0, none⟩))).setCell ⟨G, 1, none⟩ (.pointer (some ⟨B2, 0, none⟩))) G 2 (.slice (some ⟨g, 0, none⟩) (N + 1) ec)
  have u13 := (u1.trans u2 (fun _ _ e => e)).trans u3 (fun _ _ e => e)
  have r0 : Row wA 3 1 (.slice (some ⟨g, 0, none⟩) (N + 1) ec) (N + 1) ((ends.take (N + 1)).map (Value.int .i64)) := by
    have hr := h.core.endsR.below hA
    rw [hv] at hr
    have := hr.head (n := N + 1) (by omega)
    rw [Nat.mul_one] at this
    rw [List.map_take]; exact this
  have r3 := r0.upd u13 (fun k e e2 => hgG (by simp [Value.ownBlock] at e; omega))
  generalize hW3 : ((wA.setCell ⟨G, 0, none⟩ (.pointer (some ⟨H1, 0, none⟩))).setCell ⟨G, 1, none⟩ (.pointer (some ⟨B2, 0, none⟩))).setCell ⟨G, 2, none⟩ (.slice (some ⟨g, 0, none⟩) (N + 1) ec) = W3 at *
  have u4 : Upd (fun k => k = g) W3 (W3.setCell ⟨g, N, none⟩ (.int .i64 (d.size : Int))) := upd_set _ _ _ _
  have u5 := upd_set (W3.setCell ⟨g, N, none⟩ (.int .i64 (d.size : Int))) G 3 (.string d)
  have l4 := l3.upd u4 (fun e => hgG e)
  have l5 := l4.store (v1 := { v with hB := H1, wB := B2, endsV := .slice (some ⟨g, 0, none⟩) (N + 1) ec, disk := d }) 3 (.string d) l4.disk rfl rfl rfl rfl rfl rfl rfl rfl rfl rfl
  have r4 := (World.ownsRow.stored r3 N (.int .i64 (d.size : Int))).1
  rw [← List.map_set] at r4
  have r5 : Row ((W3.setCell ⟨g, N, none⟩ (.int .i64 (d.size : Int))).setCell ⟨G, 3, none⟩ (.string d)) 3 1 (.slice (some ⟨g, 0, none⟩) (N + 1) ec) (N + 1) (((ends.take (N + 1)).set N (d.size : Int)).map (Value.int .i64)) :=
    Row.upd r4 u5 (fun k e e2 => hgG (by simp [Value.ownBlock] at e; omega))
  have uF : Upd (fun k => k = G ∨ k = g) wA ((W3.setCell ⟨g, N, none⟩ (.int .i64 (d.size : Int))).setCell ⟨G, 3, none⟩ (.string d)) :=
    ((u13.mono (T := fun k => k = G ∨ k = g) (fun _ e => .inl e)).trans u4 (fun _ _ e => .inr e)).trans u5 (fun _ _ e => .inl e)
  have uc : Upd (fun k => c k = 3 ∨ c k = 4) w ((W3.setCell ⟨g, N, none⟩ (.int .i64 (d.size : Int))).setCell ⟨G, 3, none⟩ (.string d)) :=
    (Upd.of_below hA).trans uF (fun k _ e => by
      rcases e with e | e
      · subst e; exact .inl h.core.cG
      · subst e; exact .inr cg)
  let c1 : Nat → Nat := fun k => if k < w.heap.size then c k else if k < m then 1 else 2
  have hext : Ext w c c1 := fun k hk => if_pos hk
  obtain ⟨T, TT, hT⟩ := h.texts
  obtain ⟨M, MM, hM⟩ := h.mails
  obtain ⟨U, UU, hU⟩ := h.waits
  have hlen : ((ends.take (N + 1)).set N (d.size : Int)).length = N + 1 := by rw [List.length_set, List.length_take]; omega
  have htl : (R.take N).length = N := by rw [List.length_take]; omega
  refine ⟨c1, { v with hB := H1, wB := B2, endsV := .slice (some ⟨g, 0, none⟩) (N + 1) ec, disk := d }, x2, F1, R.take N, (ends.take (N + 1)).set N (d.size : Int), ⟨⟨l5, P.upd hp uF (fun k e q => by have := f1 k e; omega), hr.upd uF (fun k e q => by have := f2 k e; omega), hgood, by rw [hlen]; exact r5, by rw [hlen, htl], ?_, ?_, ⟨N, by rw [← hd, List.take_take, Nat.min_self]⟩, fun k e => ?_, fun k e => ?_, ?_, fun k e => ?_⟩,
    ⟨T, TT, hT.upd uc (fun k e => by omega) hext⟩, ⟨M, MM, hM.upd uc (fun k e => by omega) hext⟩, ⟨U, UU, hU.upd uc (fun k e => by omega) hext⟩⟩, hext, uc.mono (fun k e => by omega)⟩
  · rw [List.getElem?_set]
    split
    · rename_i h0
      subst h0
      rw [if_pos (by rw [List.length_take]; omega), ← hd]
      rfl
    · rw [List.getElem?_take_of_lt (by omega)]
      exact h.core.ends0
  · intro n e he
    rw [List.getElem?_set] at he
    split at he
    · rename_i h0
      subst h0
      rw [if_pos (by rw [List.length_take]; omega)] at he
      simp only [Option.some.injEq] at he
      exact .inr (by rw [← he, List.take_take, Nat.min_self, hd])
    · have hn : n < N + 1 := by
        obtain ⟨hl, -⟩ := List.getElem?_eq_some_iff.1 he
        rw [List.length_take] at hl
        omega
      rw [List.getElem?_take_of_lt hn] at he
      rcases h.core.endsE n e he with h1 | h1
      · exact .inl h1
      · exact .inr (by rw [List.take_take, Nat.min_eq_left (by omega)]; exact h1)
  · obtain ⟨h1, h2⟩ := f1 k e
    show (if k < w.heap.size then c k else _) = 1
    rw [if_neg (by omega), if_pos h2]
  · have h1 := f2 k e
    show (if k < w.heap.size then c k else _) = 2
    rw [if_neg (by omega), if_neg (by omega)]
  · rw [hext G hGl]; exact h.core.cG
  · simp [Value.ownBlock] at e
    subst e
    rw [hext g hgl]; exact cg
end Go.Proofs.YtmjdndhfmfjbiaaGreat

namespace Go.Proofs.YtmjdndhfmfjbiaaGreat
open Go.RowKit

set_option maxRecDepth 100000 in
set_option maxHeartbeats 1000000 in
theorem lawBack (P : Prog) (w : World) (G : Nat) (c : Nat → Nat) (b : Nat) (v : GameV) (S : RefS) (x : RefV) (F : Nat → Prop) (R : List ByteArray) (ends : List Int) (dd : ByteArray) (k : Nat) (room : Int) (hg : Whole P w G c b v S x F R ends) (hvd : v.disk = cat R) (hdam : Damaged (cat R) dd k) (h0 : 0 ≤ room) (h1 : room ≤ 500) :
    Calls Tryz.prog 49 #[.pointer (some ⟨G, 0, none⟩), .string dd, .int .i64 (k : Int), .int .i64 room] w fun e w' => e = .returned (.bool true) ∧ ∃ S1, Next P w G c b S1 w' := by
  obtain ⟨hrl, hpos, hsz⟩ := P.recs hg.core.pr
  have hd500 := hg.core.good.inv.done
  have hN5 : R.length ≤ 500 := by omega
  obtain ⟨ae, ec, hev, e1, e2, hec⟩ := hg.core.endsR.form
  have hel := hg.core.endsL
  have hkd : k ≤ (cat R).size := by
    rcases hdam with h | h
    · exact h.1
    · exact Nat.le_of_lt h.1
  have hwl := whole_le R k
  have hws := whole_size R k
  have HH : Hid (cat R = cat R ∧ (cat R).extract 0 (cat (R.take (wholeN R k))).size = cat (R.take (wholeN R k))) := ⟨rfl, cat_head R _⟩
  have HM : Hid (∀ lo, lo ≤ wholeN R k → (cat (R.take lo)).size + (wholeN R k - lo) ≤ (cat (R.take (wholeN R k))).size) := fun lo hlo => cat_mono hpos hlo hwl
  have k1 := hg.core.lies.w'
  have k2 := hg.core.lies.ends
  have k3 := hg.core.lies.disk
  rw [hev, hel] at k2
  rw [hvd] at k3
  have HG : Hid (Whole P w G c b v S x F R ends) := hg
  have HEV : Hid (v.endsV = .slice ae ends.length ec) := hev
  have HEC : Hid (CellsAt w ae (ends.map (Value.int .i64))) := hec
  have HDM : Hid (Damaged (cat R) dd k) := hdam
  have hGl := hg.core.lies.lt
  have htl : Hid ((R.take (wholeN R k)).length = wholeN R k) := by show _ = _; rw [List.length_take]; omega
  have hnS : wholeN R k ≤ S.done.length := by omega
  have HGN : Hid (Good { replay (S.done.take (wholeN R k)) with room := room }) := hg.core.good.back _ h0 h1
  have HEL : Hid (ends.length = R.length + 1) := hel
  clear hg hev hec hdam hrl hd500 hvd hel hpos
  go_enter Tryz.func49, Tryz.ntmps49
  go_wp2_with fail
  refine (lawWhole G v R ends ae ec k _ HG.out.core.lies HEV.out HEC.out HEL.out HG.out.core.ends0 HG.out.core.endsE (by omega)).mono ?_
  rintro e w0 ⟨lo, hi, rfl, rfl, hlo, hhi, hhiR, hlz⟩
  have hmono := HM.out lo hlo
  have HLZ : Hid (ends[lo]? = some ((cat (R.take lo)).size : Int)) := hlz
  clear hlz
  go_wp2_with fail
  refine (P.back dd k room HG.out.core.pr HG.out.core.good HDM.out h0 h1).mono ?_
  rintro e w1 ⟨H1, F1, rfl, hpr1, hf1, hb1⟩
  have HP1 : Hid (P.PR w1 H1 F1 { replay (S.done.take (wholeN R k)) with room := room } (R.take (wholeN R k))) := hpr1
  have HF1 : Hid (∀ k, F1 k → w0.heap.size ≤ k) := hf1
  clear hpr1 hf1
  generalize hS1 : ({ replay (S.done.take (wholeN R k)) with room := room } : RefS) = S1 at HP1 HGN
  have HS1 : Hid (({ replay (S.done.take (wholeN R k)) with room := room } : RefS) = S1) := hS1
  clear hS1
  have hb1' : w0.heap.size ≤ w1.heap.size := hb1.size
  go_wp2_with fail
  refine (lawNum _ _).mono ?_
  rintro e wx ⟨rfl, rfl⟩
  go_wp2_with fail
  refine (P.records HP1.out HGN.out).mono ?_
  rintro e w2 ⟨rfl, hb2⟩
  rw [htl.out]
  have HP2 : Hid (P.PR w2 H1 F1 S1 (R.take (wholeN R k))) := P.upd (Q := fun _ => False) HP1.out (Upd.of_below hb2) (fun _ _ f => f)
  have hb02 : Below w0.heap.size w0 w2 := hb1.trans (hb2.mono hb1.size)
  go_wp2_with fail
  refine (P.disk HP2.out HGN.out).mono ?_
  rintro e w3 ⟨rfl, hb3⟩
  have HP3 : Hid (P.PR w3 H1 F1 S1 (R.take (wholeN R k))) := P.upd (Q := fun _ => False) HP2.out (Upd.of_below hb3) (fun _ _ f => f)
  have hb03 : Below w0.heap.size w0 w3 := hb02.trans (hb3.mono hb02.size)
  have hs13 : wx.heap.size ≤ w3.heap.size := Nat.le_trans hb2.size hb3.size
  have k13 := cell_later hb03 k1
  have k23 := cell_later hb03 k2
  have k33 := cell_later hb03 k3
  obtain ⟨g, rfl, hz0⟩ := HEC.out _ _ (int_get HLZ.out)
  have hz3 := cell_later hb03 hz0
  have hgl : g < w0.heap.size := World.block_lt_of_cell? _ _ hz0
  clear hb2 hb3 hb02 hz0 HP2
  generalize hzl : (cat (R.take lo)).size = zlo at *
  have HZL : Hid ((cat (R.take lo)).size = zlo) := hzl
  clear hzl
  generalize hd1 : cat (R.take (wholeN R k)) = d1 at *
  have HD1 : Hid (cat (R.take (wholeN R k)) = d1) := hd1
  clear hd1
  generalize hD : cat R = D at *
  have HD : Hid (cat R = D) := hD
  clear hD
  generalize hNN : wholeN R k = N at *
  have HNN : Hid (wholeN R k = N) := hNN
  clear hNN
  have HEC3 : Hid (CellsAt w3 (some ⟨g, 0, none⟩) (ends.map (Value.int .i64))) := HEC.out.below hb03
  have HREP : Hid (Rep w3 v.wB x S) := HG.out.core.rep.below hb03
  have hgN : G ≠ g := fun e => by
    have h1 := HG.out.core.cG
    have h2 := HG.out.core.cE g (by rw [HEV.out]; rfl)
    rw [e, h2] at h1; omega
  have hec1 : N + 1 ≤ ec := by have := HEL.out; omega
  obtain ⟨eN, heN⟩ : ∃ e, ends[N]? = some e := ⟨_, List.getElem?_eq_getElem (by rw [HEL.out]; omega)⟩
  have HEN : Hid (ends[N]? = some eN) := heN
  clear heN
  have tail : ∀ w4 : World, Below w3.heap.size w3 w4 → (∃ x2, Rep w4 w3.heap.size x2 S1 ∧ ∀ k, RefFP w3.heap.size x2 k → w3.heap.size ≤ k) → Hid (Next P w0 G c b S1 (backWorld w4 G g H1 w3.heap.size N ec d1)) := fun w4 hb4 ⟨x2, hx2, hf2⟩ => by
    have := HG.out.returns HEV.out (hb03.trans (hb4.mono hb03.size)) hwl (P.upd (Q := fun _ => False) HP3.out (Upd.of_below hb4) (fun _ _ f => f)) hx2 HGN.out (fun k hk => ⟨HF1.out k hk, P.lt HP3.out hk⟩) hf2 hb03.size
    rw [HD1.out] at this
    exact this
  have hcells : ∀ w4 : World, Below w3.heap.size w3 w4 → Hid (w4.cell? ⟨G, 0, none⟩ = some (.pointer (some ⟨v.hB, 0, none⟩)) ∧ w4.cell? ⟨G, 1, none⟩ = some (.pointer (some ⟨v.wB, 0, none⟩)) ∧ w4.cell? ⟨G, 2, none⟩ = some (.slice (some ⟨g, 0, none⟩) (R.length + 1) ec) ∧ w4.cell? ⟨G, 3, none⟩ = some (.string D) ∧ (∀ o, w4.frozen? ⟨G, o, none⟩ = false) ∧ w4.cell? ⟨g, N, none⟩ = some (.int .i64 eN) ∧ w4.frozen? ⟨g, N, none⟩ = false) := fun w4 hb4 => by
    have hb04 : Below w0.heap.size w0 w4 := hb03.trans (hb4.mono hb03.size)
    have hl4 := HG.out.core.lies.upd (P := fun _ => False) (Upd.of_below hb04) (fun f => f)
    obtain ⟨g', hg', cN⟩ := HEC.out _ _ (int_get HEN.out)
    simp only [Option.some.injEq, Addr.mk.injEq, and_true] at hg'
    subst hg'
    have hr := HG.out.core.endsR.below hb04
    rw [HEV.out] at hr
    exact ⟨hl4.h, hl4.w', cell_later hb04 k2, cell_later hb04 k3, hl4.free, cell_later hb04 cN, World.ownsRow.frozenAt hr N⟩
  have q1 : decide (N < lo) = false := by simp; omega
  have q2 : decide (hi < N) = false := by simp; omega
  have q3 : decide (k < d1.size) = false := by simp; omega
  have q7 := HH.out.2
  have q8 : (0 : Int) ≤ (d1.size : Int) := by omega
  have q9 : (d1.size : Int) ≤ (D.size : Int) := by omega
  have qb : lo < R.length + 1 := by omega
  have TAIL : Hid (∀ w4 : World, Below w3.heap.size w3 w4 → (∃ x2, Rep w4 w3.heap.size x2 S1 ∧ ∀ k, RefFP w3.heap.size x2 k → w3.heap.size ≤ k) → Hid (Next P w0 G c b S1 (backWorld w4 G g H1 w3.heap.size N ec d1))) := tail
  have HCELLS : Hid _ := hcells
  clear tail hcells
  by_cases hnl : N = lo
  · subst hnl
    obtain rfl : zlo = d1.size := by rw [← HZL.out, HD1.out]
    have q4 : IntKind.i64.wrap ((d1.size : Int) + (N : Int)) = (d1.size : Int) + (N : Int) := wrap_ok _ (by omega) (by omega)
    have q5 : IntKind.i64.wrap ((d1.size : Int) + (N : Int) - (N : Int)) = (d1.size : Int) := by rw [wrap_ok _ (by omega) (by omega)]; omega
    go_wp2_with fail
    refine (refAgain v.wB x S N room _ HREP.out HG.out.core.good.inv HG.out.core.good.fine hnS).mono ?_
    rintro e w4 ⟨rfl, hx2, hb4⟩
    rw [HS1.out] at hx2
    have HT := TAIL.out w4 hb4 hx2
    obtain ⟨c0, c1, c2, c3, cf, cN, cNf⟩ := (HCELLS.out w4 hb4).out
    have f0 := cf 0
    have f1 := cf 1
    have f2 := cf 2
    have f3 := cf 3
    have hs4 := hb4.size
    have hs03 := hb03.size
    clear hx2 hb4 cf TAIL HCELLS
    go_wp2_with fail
    go_ret
    exact ⟨rfl, S1, HT.out⟩
  · have q4 : IntKind.i64.wrap ((zlo : Int) + (N : Int)) = (zlo : Int) + (N : Int) := wrap_ok _ (by omega) (by omega)
    have q5 : IntKind.i64.wrap ((zlo : Int) + (N : Int) - (lo : Int)) = (zlo : Int) + (N : Int) - (lo : Int) := wrap_ok _ (by omega) (by omega)
    have q6 : decide ((d1.size : Int) < (zlo : Int) + (N : Int) - (lo : Int)) = false := by simp; omega
    go_wp2_with fail
    refine (refAgain v.wB x S N room _ HREP.out HG.out.core.good.inv HG.out.core.good.fine hnS).mono ?_
    rintro e w4 ⟨rfl, hx2, hb4⟩
    rw [HS1.out] at hx2
    have HT := TAIL.out w4 hb4 hx2
    obtain ⟨c0, c1, c2, c3, cf, cN, cNf⟩ := (HCELLS.out w4 hb4).out
    have f0 := cf 0
    have f1 := cf 1
    have f2 := cf 2
    have f3 := cf 3
    have hs4 := hb4.size
    have hs03 := hb03.size
    clear hx2 hb4 cf TAIL HCELLS
    go_wp2_with fail
    go_ret
    exact ⟨rfl, S1, HT.out⟩
end Go.Proofs.YtmjdndhfmfjbiaaGreat
