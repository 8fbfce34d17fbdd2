import Derived.Test.YtmjdndhfmfjbiaaGreatM06
namespace Go.Proofs.YtmjdndhfmfjbiaaGreat
open Go.RowKit
attribute [local go_sem ↓] Go.wp_at_zero Go.wp_at_succ appSem_eq

theorem cell_second (W : World) (o : Obj) (cs : Array Value) (t : TypeId) (n j : Nat) (hn : n = W.heap.size + 1) : ((W.alloc o).alloc (.cells cs t)).drew.cell? ⟨n, j, none⟩ = cs[j]? := by
  show ((W.alloc o).alloc (.cells cs t)).cell? ⟨n, j, none⟩ = cs[j]?
  have h := heap_alloc_new (W.alloc o) (.cells cs t)
  rw [size_alloc] at h
  subst hn
  exact cell_of_row _ _ j cs t (0, 0) h
theorem two_new (w : World) (o p : Obj) : Below w.heap.size w ((w.alloc o).alloc p).drew := (((Below.refl _ _).alloc (Nat.le_refl _) _).alloc (by simp) _).drew

set_option maxRecDepth 100000 in
set_option maxHeartbeats 4000000 in
theorem refTurn3a (B : Nat) (x : RefV) (S : RefS) (a b d : Int) (s : ByteArray) (w : World) (hr : Rep w B x S) (hp0 : 0 ≤ S.pub) (hp1 : S.pub ≤ 1000) (hi : Inv1 { S with pub := S.pub + 1 }) (hs : s.size ≤ 15) :
    Calls Tryz.prog 70 #[.pointer (some ⟨B, 0, none⟩), .agg #[.int .i64 3, .int .i64 a, .int .i64 b, .int .i64 0, .int .i64 d, .string s]] w fun e w' =>
      e = .returned (.tuple #[]) ∧ RefStep w B x w' (sendTo { S with pub := S.pub + 1 } ⟨S.pub, s, b, 0, d⟩ 8) := by
  have cp := hr.cells.pub
  have hfr := hr.cells.free 3
  have hBl := hr.cells.lt
  have HR : Hid (Rep w B x S) := hr
  have HI : Hid (Inv1 { S with pub := S.pub + 1 }) := hi
  clear hr hi
  go_enter Tryz.func70, Tryz.ntmps70
  go_wp2_with fail
  go_region
  all_goals go_wp2_with fail
  obtain ⟨x1, r1, u1, f1⟩ := HR.out.setPub (S.pub + 1)
  obtain ⟨g1, g2, g3, g4⟩ := Inv.sends HI.out
  refine (refSend B x1 { S with pub := S.pub + 1 } ⟨S.pub, s, b, 0, d⟩ _ (r1.below (two_new _ _ _)) (by show s.size ≤ 1048576; omega) g1 g2 g3 g4).mono ?_
  rintro e w5 ⟨rfl, h5⟩
  have HS5 : Hid (RefStep w B x w5 (sendTo { S with pub := S.pub + 1 } ⟨S.pub, s, b, 0, d⟩ 8)) := RefStep.then u1 f1 (RefStep.then (Upd.of_below (two_new _ _ _)) (fun _ hk => .inl hk) h5)
  clear h5 u1 f1 r1 g1 g2 g3 g4
  go_wp2_with fail
  exact bodyPost_ret (results_none rfl _ _ _) rfl ⟨rfl, HS5.out⟩

set_option maxRecDepth 100000 in
set_option maxHeartbeats 4000000 in
theorem refTurn3b (B : Nat) (x : RefV) (S : RefS) (a b c d : Int) (s : ByteArray) (w : World) (hr : Rep w B x S) (hp0 : 0 ≤ S.pub) (hp1 : S.pub ≤ 1000) (ht0 : 0 ≤ S.time) (ht1 : S.time ≤ 1099511627776) (hc0 : 0 < c) (hc1 : c ≤ 1099511627776) (hwl : S.wait.length ≤ 1048576) :
    Calls Tryz.prog 70 #[.pointer (some ⟨B, 0, none⟩), .agg #[.int .i64 3, .int .i64 a, .int .i64 b, .int .i64 c, .int .i64 d, .string s]] w fun e w' =>
      e = .returned (.tuple #[]) ∧ RefStep w B x w' { S with pub := S.pub + 1, wait := S.wait ++ [⟨S.pub, s, b, laterM S.time c, d⟩] } := by
  have cp := hr.cells.pub
  have hfr := hr.cells.free 3
  have hBl := hr.cells.lt
  have HR : Hid (Rep w B x S) := hr
  have hcz : (c == 0) = false := by simp; omega
  clear hr
  go_enter Tryz.func70, Tryz.ntmps70
  go_wp2_with fail
  go_region
  all_goals go_wp2_with fail
  obtain ⟨x1, r1, u1, f1⟩ := HR.out.setPub (S.pub + 1)
  refine (refLater B x1 { S with pub := S.pub + 1 } c _ (r1.below (two_new _ _ _)).cells ht0 ht1 (by omega) hc1).mono ?_
  rintro e w5 ⟨rfl, rfl⟩
  go_wp2_with fail
  generalize hW0 : World.drew _ = W0
  have r0 : Rep W0 B x1 { S with pub := S.pub + 1 } := by rw [← hW0]; exact r1.below (two_new _ _ _)
  have hst : ∀ w2 S2, RefStep W0 B x1 w2 S2 → RefStep w B x w2 S2 := fun w2 S2 h => RefStep.then u1 f1 (RefStep.then (Upd.of_below (by rw [← hW0]; exact two_new _ _ _)) (fun _ hk => .inl hk) h)
  have k0 : W0.cell? ⟨w.heap.size + 1, 0, none⟩ = some (.int .i64 S.pub) := by rw [← hW0, cell_second _ _ _ _ _ _ (by simp [World.setCell])]; rfl
  have k1 : W0.cell? ⟨w.heap.size + 1, 1, none⟩ = some (.string s) := by rw [← hW0, cell_second _ _ _ _ _ _ (by simp [World.setCell])]; rfl
  have k2 : W0.cell? ⟨w.heap.size + 1, 2, none⟩ = some (.int .i64 b) := by rw [← hW0, cell_second _ _ _ _ _ _ (by simp [World.setCell])]; rfl
  have k3 : W0.cell? ⟨w.heap.size + 1, 3, none⟩ = some (.int .i64 (laterM S.time c)) := by rw [← hW0, cell_second _ _ _ _ _ _ (by simp [World.setCell])]; rfl
  have k4 : W0.cell? ⟨w.heap.size + 1, 4, none⟩ = some (.int .i64 d) := by rw [← hW0, cell_second _ _ _ _ _ _ (by simp [World.setCell])]; rfl
  obtain ⟨ao, cw, hv, q1, q2, -⟩ := r0.wait.form
  have hqB : x1.waitV.ownBlock ≠ some B := fun e => r0.apart.2.1 B e rfl
  obtain ⟨a1, c1, w1, hrun, hO1, hU1, hF1⟩ := app_one 56 80 _ 5 48 Tryz.underlying56 infoWait rfl (by omega) _ _ _ _ (waitCells ⟨S.pub, s, b, laterM S.time c, d⟩) r0.wait rfl (wait_one _) hwl (by show (S.wait.length + 1) * 48 ≤ _; omega)
  have cw0 := r0.cells.wait
  have hw1 : w1.cell? ⟨B, 28, none⟩ = some x1.waitV := hU1.cell r0.cells.wait hqB
  have hf1 : w1.frozen? ⟨B, 28, none⟩ = false := (hU1.frozen (p := ⟨B, 28, none⟩) r0.cells.lt hqB).trans (r0.cells.free _)
  have HST : Hid (RefStep w B x (w1.setCell ⟨B, 28, none⟩ (.slice a1 (S.wait.length + 1) c1)) { S with pub := S.pub + 1, wait := S.wait ++ [⟨S.pub, s, b, laterM S.time c, d⟩] }) :=
    hst _ _ (r0.setWait (l := S.wait ++ [⟨S.pub, s, b, laterM S.time c, d⟩]) hU1 (by simpa using hO1) hF1)
  rw [hv] at cw0 hw1 hrun
  have hB0 := r0.cells.lt
  simp only [waitCells] at hrun
  clear hO1 hU1 hF1 r0 hst u1 f1 r1 hW0 hqB hv cp hfr hBl
  go_region
  all_goals go_wp2_with fail
  go_end0
  exact ⟨rfl, HST.out⟩
end Go.Proofs.YtmjdndhfmfjbiaaGreat

namespace Go.Proofs.YtmjdndhfmfjbiaaGreat
open Go.RowKit
attribute [local go_sem ↓] Go.wp_at_zero Go.wp_at_succ appSem_eq

theorem refTurn4 (B : Nat) (x : RefV) (S : RefS) (a b c d : Int) (s : ByteArray) (w : World) (hr : Rep w B x S) (hlen : S.wait.length ≤ 1048576) :
    Calls Tryz.prog 70 #[.pointer (some ⟨B, 0, none⟩), .agg #[.int .i64 4, .int .i64 a, .int .i64 b, .int .i64 c, .int .i64 d, .string s]] w fun e w' =>
      e = .returned (.tuple #[]) ∧ RefStep w B x w' { S with wait := S.wait.filter (fun m => m.number != b) } := by
  go_enter Tryz.func70, Tryz.ntmps70
  go_wp2_with fail
  refine (refGone B x S b _ (hr.below (below_one _ _)) hlen).mono ?_
  rintro e w1 ⟨rfl, h1⟩
  have HS : Hid (RefStep w B x w1 { S with wait := S.wait.filter (fun m => m.number != b) }) := RefStep.then (Upd.of_below (below_one _ _)) (fun _ hk => .inl hk) h1
  clear h1
  go_wp2_with fail
  go_end0
  exact ⟨rfl, HS.out⟩

theorem refTurn6 (B : Nat) (x : RefV) (S : RefS) (a b c d : Int) (s : ByteArray) (w : World) (hr : Rep w B x S) (hin : Inv S) (h0 : 0 ≤ b) (h1 : b ≤ 1099511627776) :
    Calls Tryz.prog 70 #[.pointer (some ⟨B, 0, none⟩), .agg #[.int .i64 6, .int .i64 a, .int .i64 b, .int .i64 c, .int .i64 d, .string s]] w fun e w' =>
      e = .returned (.tuple #[]) ∧ RefStep w B x w' (tickM S b) := by
  go_enter Tryz.func70, Tryz.ntmps70
  go_wp2_with fail
  refine (refTick B x S b _ (hr.below (below_one _ _)) hin h0 h1).mono ?_
  rintro e w1 ⟨rfl, h1⟩
  have HS : Hid (RefStep w B x w1 (tickM S b)) := RefStep.then (Upd.of_below (below_one _ _)) (fun _ hk => .inl hk) h1
  clear h1
  go_wp2_with fail
  go_end0
  exact ⟨rfl, HS.out⟩

theorem refTurn7 (B : Nat) (x : RefV) (S : RefS) (a : Nat) (b c d : Int) (s : ByteArray) (w : World) (hr : Rep w B x S) (ha : a < 8) (hlen : (S.que a).length ≤ 1048576) :
    Calls Tryz.prog 70 #[.pointer (some ⟨B, 0, none⟩), .agg #[.int .i64 7, .int .i64 (a : Int), .int .i64 b, .int .i64 c, .int .i64 d, .string s]] w fun e w' =>
      e = .returned (.tuple #[]) ∧ RefStep w B x w' { S with que := setAt S.que a ((S.que a).filter (fun m => m.number != b)) } := by
  go_enter Tryz.func70, Tryz.ntmps70
  go_wp2_with fail
  refine (refAcked B x S a b _ (hr.below (below_one _ _)) ha hlen).mono ?_
  rintro e w1 ⟨rfl, h1⟩
  have HS : Hid (RefStep w B x w1 { S with que := setAt S.que a ((S.que a).filter (fun m => m.number != b)) }) := RefStep.then (Upd.of_below (below_one _ _)) (fun _ hk => .inl hk) h1
  clear h1
  go_wp2_with fail
  go_end0
  exact ⟨rfl, HS.out⟩

/-- One cell of a thing in a list of things. -/
theorem flat_set {α : Type} (f : α → List Value) (n : Nat) (hf : ∀ a, (f a).length = n) : ∀ (l : List α) (k j : Nat) (a a1 : α) (u : Value), l[k]? = some a → j < n → (f a).set j u = f a1 → (l.flatMap f).set (k * n + j) u = (l.set k a1).flatMap f := by
  intro l
  induction l with
  | nil => intro k j a a1 u h; simp at h
  | cons b l ih =>
    intro k j a a1 u h hj hs
    cases k with
    | zero =>
      simp only [List.getElem?_cons_zero, Option.some.injEq] at h
      subst h
      rw [List.flatMap_cons, Nat.zero_mul, Nat.zero_add, List.set_append_left _ _ (by rw [hf]; exact hj), hs, List.set_cons_zero, List.flatMap_cons]
    | succ k =>
      rw [List.getElem?_cons_succ] at h
      rw [List.flatMap_cons, List.set_append_right _ _ (by rw [hf, Nat.succ_mul]; omega), hf, show (k + 1) * n + j - n = k * n + j from by rw [Nat.succ_mul]; omega, ih k j a a1 u h hj hs, List.set_cons_succ, List.flatMap_cons]

/-- The messages that wait are turned in their place. -/
theorem Rep.inWait {w w1 : World} {B : Nat} {x : RefV} {S : RefS} (h : Rep w B x S) {l : List WaitD} (u : Upd (fun k => x.waitV.ownBlock = some k) w w1) (r : Row w1 80 5 x.waitV l.length (l.flatMap waitCells)) :
    RefStep w B x w1 { S with wait := l } := by
  obtain ⟨p1, p2, p3, p4, p5, p6, p7, p8, p9, p10⟩ := h.apart
  have hc := h.cells.upd u (fun e => p2 B e rfl)
  exact ⟨x, ⟨⟨hc.obj, hc.room, hc.done, hc.time, hc.pub, hc.fil, hc.que, hc.lost, hc.wait⟩, h.done.upd u fun g hg e => p5 g hg e, fun b hb => (h.fil b hb).upd u fun g hg e => p8 b hb g e hg, fun b hb => (h.que b hb).upd u fun g hg e => p9 b hb g e hg, r, h.filApart, h.queApart⟩,
    u.mono fun k hk => .inr (.inr (.inl hk)), fun _ hk => .inl hk⟩

theorem find_found {α : Type} (p : α → Bool) : ∀ (l : List α) (i : Int) (k : Nat) (a : α), l[k]? = some a → p a = true → (∀ j b, j < k → l[j]? = some b → p b = false) → findM p l i = i + k := by
  intro l
  induction l with
  | nil => intro i k a h; simp at h
  | cons b l ih =>
    intro i k a h hp hn
    cases k with
    | zero =>
      simp only [List.getElem?_cons_zero, Option.some.injEq] at h
      subst h
      rw [findM, if_pos hp]; omega
    | succ k =>
      have hb := hn 0 b (by omega) rfl
      rw [findM, hb]
      rw [List.getElem?_cons_succ] at h
      simp only [Bool.false_eq_true, if_false]
      rw [ih (i + 1) k a h hp (fun j c hj hc => hn (j + 1) c (by omega) (by simpa using hc))]
      omega

set_option maxRecDepth 100000 in
set_option maxHeartbeats 4000000 in
theorem refTurn5 (B : Nat) (x : RefV) (S : RefS) (a b c d : Int) (s : ByteArray) (w : World) (hr : Rep w B x S) (ht0 : 0 ≤ S.time) (ht1 : S.time ≤ 1099511627776) (hc0 : 1 ≤ c) (hc1 : c ≤ 1099511627776)
    (k : Nat) (y : WaitD) (hy : S.wait[k]? = some y) (hk : findM (fun m => m.number == b) S.wait 0 = (k : Int)) :
    Calls Tryz.prog 70 #[.pointer (some ⟨B, 0, none⟩), .agg #[.int .i64 5, .int .i64 a, .int .i64 b, .int .i64 c, .int .i64 d, .string s]] w fun e w' =>
      e = .returned (.tuple #[]) ∧ RefStep w B x w' { S with wait := S.wait.set k { y with deadline := laterM S.time c } } := by
  have r0 := hr.below (below_one w (opObj 5 a b c d s))
  obtain ⟨ao, cw, hv, q1, q2, hcs⟩ := r0.wait.form
  have Q2 : Hid (cw ≤ maxLen) := q2
  obtain ⟨hkl, -⟩ := List.getElem?_eq_some_iff.1 hy
  obtain ⟨g, rfl, hg, c0, c1, c2, c3, c4⟩ := wait_cells hcs hy
  have hrow := r0.wait
  rw [hv] at hrow
  have hst := World.ownsRow.stored hrow (k * 5 + 3) (.int .i64 (laterM S.time c))
  rw [flat_set waitCells 5 wait_len S.wait k 3 y { y with deadline := laterM S.time c } _ hy (by omega) rfl] at hst
  have hfg := World.ownsRow.frozenAt hrow (k * 5 + 3)
  have cw0 := r0.cells.wait
  rw [hv] at cw0
  have HST : Hid (RefStep w B x ((w.alloc (opObj 5 a b c d s)).setCell ⟨g, k * 5 + 3, none⟩ (.int .i64 (laterM S.time c))) { S with wait := S.wait.set k { y with deadline := laterM S.time c } }) :=
    RefStep.then (Upd.of_below (below_one w _)) (fun _ hk => .inl hk) (r0.inWait (l := S.wait.set k { y with deadline := laterM S.time c }) (by rw [hv]; exact (Upd.refl _ _).grown hst.2 (fun i e _ => e)) (by rw [hv]; have := hst.1; rw [List.length_set]; exact this))
  have HR0 : Hid (Rep (w.alloc (opObj 5 a b c d s)) B x S) := r0
  have HV : Hid (x.waitV = .slice (some ⟨g, 0, none⟩) S.wait.length cw) := hv
  have HCS : Hid (CellsAt (w.alloc (opObj 5 a b c d s)) (some ⟨g, 0, none⟩) (S.wait.flatMap waitCells)) := hcs
  have HK : Hid (findM (fun m => m.number == b) S.wait 0 = (k : Int)) := hk
  have hgx0 : g ≠ w.heap.size := fun e => Nat.lt_irrefl w.heap.size (hr.wait.lt (g := w.heap.size) (by rw [hv, e]; rfl))
  clear r0 hcs hrow hst hv hr hk hy q2
  have hgB : g ≠ B := fun e => HR0.out.apart.2.1 B (by rw [HV.out, e]; rfl) rfl
  have hgx : g ≠ w.heap.size := hgx0
  have hk0 : (0 : Int) ≤ (k : Int) := by omega
  have hk1 : (k : Int) < (S.wait.length : Int) := by omega
  go_enter Tryz.func70, Tryz.ntmps70
  go_wp2_with fail
  refine (refWaits S.wait _ cw B x S b _ q1 Q2.out HCS.out HR0.out.cells HV.out).mono ?_
  rintro e w1 ⟨rfl, rfl⟩
  rw [HK.out]
  go_wp2_with fail
  go_region_held3 (fun w' => w'.cell? ⟨B, 28, none⟩ = some (.slice (some ⟨g, 0, none⟩) S.wait.length cw) ∧ w'.cell? ⟨w.heap.size, 3, none⟩ = some (.int .i64 c))
    (first | (go_keep; done) | (refine ⟨?_, ?_⟩ <;> (rw [World.cell?_drew, World.cell?_setCell_other _ _ _ _ (by simp; omega)]; first | assumption | simp)))
    (first | (go_at_call 102; refine (refLater B x S c _ (HR0.out.below below_drew).cells ht0 ht1 (by omega) hc1).mono ?_; rintro e w2 ⟨rfl, rfl⟩))
  all_goals go_wp2_with fail
  go_end0
  exact ⟨rfl, HST.out.below below_drew⟩
end Go.Proofs.YtmjdndhfmfjbiaaGreat
