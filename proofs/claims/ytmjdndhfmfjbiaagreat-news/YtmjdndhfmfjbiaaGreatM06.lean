import Derived.Test.YtmjdndhfmfjbiaaGreatM05
import Derived.Test.YtmjdndhfmfjbiaaGreatM04
namespace Go.Proofs.YtmjdndhfmfjbiaaGreat
open Go.RowKit
attribute [local go_sem ↓] Go.wp_at_zero Go.wp_at_succ appSem_eq

/-- An operation as the cells of the block that it is laid in. -/
abbrev opObj (k a b c d : Int) (s : ByteArray) : Obj := Obj.cells #[.int .i64 k, .int .i64 a, .int .i64 b, .int .i64 c, .int .i64 d, .string s] 86

set_option maxRecDepth 100000 in
set_option maxHeartbeats 4000000 in
theorem refTurn1 (B : Nat) (x : RefV) (S : RefS) (a : Nat) (b c d : Int) (s : ByteArray) (w : World) (hr : Rep w B x S) (ha : a < 8) (hfl : (S.fil a).length ≤ 1048576) :
    Calls Tryz.prog 70 #[.pointer (some ⟨B, 0, none⟩), .agg #[.int .i64 1, .int .i64 (a : Int), .int .i64 b, .int .i64 c, .int .i64 d, .string s]] w fun e w' =>
      e = .returned (.tuple #[]) ∧ RefStep w B x w' { S with fil := setAt S.fil a (S.fil a ++ [s]) } := by
  have ha0 : (0 : Int) ≤ (a : Int) := by omega
  have ha1 : (a : Int) < 8 := by omega
  have hb0 : Below w.heap.size w (w.alloc (opObj 1 a b c d s)) := below_one _ _
  have r0 := hr.below hb0
  obtain ⟨af, cf, hvf, q1, q2, hcf⟩ := (r0.fil a ha).form
  have cfil := hr.cells.fil a ha
  have hfr := hr.cells.free (4 + a * 3)
  have hBl := hr.cells.lt
  have hqB : (x.filV a).ownBlock ≠ some B := fun e => (r0.apart.2.2.1 a B ha e rfl)
  have hrow := r0.fil a ha
  obtain ⟨a1, c1, w1, hrun, hO1, hU1, hF1⟩ := app_one 51 9 _ 1 16 Tryz.underlying51 infoStr rfl (by omega) _ _ _ _ [.string s] hrow rfl (str_one _) hfl (by omega)
  have hw1 : w1.cell? ⟨B, 4 + a * 3, none⟩ = some (x.filV a) := hU1.cell (r0.cells.fil a ha) hqB
  have hf1 : w1.frozen? ⟨B, 4 + a * 3, none⟩ = false := (hU1.frozen (p := ⟨B, 4 + a * 3, none⟩) r0.cells.lt hqB).trans (r0.cells.free _)
  have hbx : w1.cell? ⟨w.heap.size, 1, none⟩ = some (.int .i64 (a : Int)) := hU1.cell (by simp) (fun e => Nat.lt_irrefl _ ((hr.fil a ha).lt e))
  have HST : Hid (RefStep w B x (w1.setCell ⟨B, 4 + a * 3, none⟩ (.slice a1 ((S.fil a).length + 1) c1)) { S with fil := setAt S.fil a (S.fil a ++ [s]) }) :=
    RefStep.then (Upd.of_below hb0) (fun _ hk => .inl hk) (r0.setFil ha (l := S.fil a ++ [s]) hU1 (by simpa using hO1) hF1)
  rw [hvf] at cfil hw1 hrun
  simp only [size_alloc] at hrun
  clear hO1 hU1 hF1 r0 hcf hr hrow hb0 hqB hvf
  go_enter Tryz.func70, Tryz.ntmps70
  go_wp2_with fail
  go_region
  all_goals go_wp2_with fail
  go_end0
  exact ⟨rfl, HST.out⟩
end Go.Proofs.YtmjdndhfmfjbiaaGreat

namespace Go.Proofs.YtmjdndhfmfjbiaaGreat
open Go.RowKit
attribute [local go_sem ↓] Go.wp_at_zero Go.wp_at_succ appSem_eq

theorem map_flat {α : Type} (f : α → Value) (l : List α) : l.flatMap (fun a => [f a]) = l.map f := by
  induction l with
  | nil => rfl
  | cons a l ih => simp [ih]

theorem drewN_letter {w w3 : World} {n : Nat} (h : w.drewN n = w3) : Below w.heap.size w w3 := by rw [← h]; exact below_drewN (Below.refl _ _)

theorem own_letter {w w3 : World} {n base : Nat} {e : TypeId} {size : Nat} {v : Value} {m : Nat} {xs : List Value} (h : w.drewN n = w3) (ho : w.ownsRow base e size v m xs) : w3.ownsRow base e size v m xs := by rw [← h]; exact ho

set_option maxRecDepth 100000 in
set_option maxHeartbeats 4000000 in
theorem refTurn2 (B : Nat) (x : RefV) (S : RefS) (a : Nat) (b c d : Int) (s : ByteArray) (w : World) (hr : Rep w B x S) (ha : a < 8) (hfl : (S.fil a).length ≤ 1048576) :
    Calls Tryz.prog 70 #[.pointer (some ⟨B, 0, none⟩), .agg #[.int .i64 2, .int .i64 (a : Int), .int .i64 b, .int .i64 c, .int .i64 d, .string s]] w fun e w' =>
      e = .returned (.tuple #[]) ∧ RefStep w B x w' { S with fil := setAt S.fil a ((S.fil a).filter (fun f => !(f.toList == s.toList))) } := by
  obtain ⟨i0, hi, hz0, hz1, hz2⟩ := info_parts infoStr
  have ha0 : (0 : Int) ≤ (a : Int) := by omega
  have ha1 : (a : Int) < 8 := by omega
  obtain ⟨af, cf, hvf, q1, q2, hcf⟩ := (hr.fil a ha).form
  obtain ⟨aq, cq, hvq, -, -, -⟩ := (hr.que a ha).form
  have cfil := hr.cells.fil a ha
  have cque := hr.cells.que a ha
  have clost := hr.cells.lost a ha
  have hfr := hr.cells.free (4 + a * 3)
  have hBl := hr.cells.lt
  rw [hvf] at cfil
  rw [hvq] at cque
  have HR : Hid (Rep w B x S) := hr
  have HC : Hid (CellsAt w af ((S.fil a).map Value.string)) := hcf
  unfold maxLen at q2
  clear hr hcf hvf hvq
  go_enter Tryz.func70, Tryz.ntmps70
  go_wp2_with fail
  go_region
  all_goals go_wp2_with fail
  generalize hW0 : World.drew _ = W0
  have hb0 : Below w.heap.size w W0 := by rw [← hW0]; exact (((Below.refl _ _).alloc (Nat.le_refl _) _).alloc (by simp) _).drew
  have k1 : W0.cell? ⟨w.heap.size, 1, none⟩ = some (.int .i64 (a : Int)) := by rw [← hW0]; simp
  have k5 : W0.cell? ⟨w.heap.size, 5, none⟩ = some (.string s) := by rw [← hW0]; simp
  have kc : W0.cell? ⟨w.heap.size + 1, 0, none⟩ = some (.slice af (S.fil a).length cf) := by rw [← hW0]; simp
  clear hW0
  go_loopw [5, 6] (fun v i wr => ∃ k : Nat, k ≤ (S.fil a).length ∧ i = .int .i64 k ∧ wr.ownsRow W0.heap.size 9 1 v (kept (fun f : ByteArray => !(f.toList == s.toList)) (S.fil a) k).length ((kept (fun f : ByteArray => !(f.toList == s.toList)) (S.fil a) k).flatMap (fun f => [Value.string f])) ∧ Below W0.heap.size W0 wr) (fun _ i _ => (S.fil a).length - (intOf i).toNat)
  case atStart => exact ⟨0, Nat.zero_le _, rfl, World.ownsRow_nil _ _ _ _, Below.refl _ _⟩
  case round =>
    obtain ⟨k, hk, rfl, hown, hbr⟩ := hrel
    have k1r := cell_later hbr k1
    have k5r := cell_later hbr k5
    have kcr := cell_later hbr kc
    have hkl := kept_le (fun f : ByteArray => !(f.toList == s.toList)) (S.fil a) k
    by_cases hlt : k < (S.fil a).length
    · obtain ⟨y, hy⟩ : ∃ y, (S.fil a)[k]? = some y := ⟨_, List.getElem?_eq_getElem hlt⟩
      obtain ⟨g, rfl, hcg⟩ := HC.out k _ (strs_get hy)
      have hcr := cell_later hbr (cell_later hb0 hcg)
      have HY : Hid ((S.fil a)[k]? = some y) := hy
      clear hy
      cases heq : (y.toList == s.toList)
      · have HK : Hid (kept (fun f : ByteArray => !(f.toList == s.toList)) (S.fil a) (k + 1) = kept (fun f : ByteArray => !(f.toList == s.toList)) (S.fil a) k ++ [y]) := kept_hit HY.out (by simp only [heq]; rfl)
        go_wp2_with fail
        go_quiet (fail)
        generalize hw3 : wr.drewN nq = w3
        have hb3 := drewN_letter hw3
        have hown3 := own_letter hw3 hown
        have hbr3 : Below W0.heap.size W0 w3 := hbr.trans (hb3.mono hbr.size)
        have kc3 := cell_later hb3 kcr
        have hc3 := cell_later hb3 hcr
        have hs3 := hbr3.size
        clear hw3 hown hbr kcr hcr k1r k5r hb3
        go_wp2_with (first | (at_builtin; refine wpList_append_own _ rfl _ _ 51 rfl W0.heap.size 9 i0 (.string ⟨#[]⟩) 1 16 Tryz.underlying51 hi hz0 hz1 hz2 rfl (by decide) _ _ _ rfl (hown3.alloc _) ⟨w3.heap.size, 0, none⟩ 1 1 [.string y] rfl rfl (cell_one_new _ _ _) (str_one _) (by unfold maxLen; omega) (by omega) (by simp; omega) ?_))
        intro v' w1 hown' hgrow _
        have R := grow_row (f := fun f => [Value.string f]) hown3 hbr3 hown' hgrow
        clear hown' hgrow hown3
        go_wp2
        go_roundw
        case rel => exact ⟨k + 1, by omega, by go_num, by rw [HK.out]; exact R.1, R.2⟩
        case measure => simp [intOf]; omega
      · have HK : Hid (kept (fun f : ByteArray => !(f.toList == s.toList)) (S.fil a) (k + 1) = kept (fun f : ByteArray => !(f.toList == s.toList)) (S.fil a) k) := kept_miss HY.out (by simp only [heq]; rfl)
        go_wp2_with fail
        go_quiet (fail)
        go_wp2_with fail
        go_roundw
        case rel => exact ⟨k + 1, by omega, by go_num, by rw [HK.out]; exact hown, below_drewN hbr⟩
        case measure => simp [intOf]; omega
    · have HK : Hid (kept (fun f : ByteArray => !(f.toList == s.toList)) (S.fil a) k = (S.fil a).filter (fun f => !(f.toList == s.toList))) := kept_end _ _ _ (by omega)
      obtain ⟨av, cv, rfl, -, -, -⟩ := (row_of_own hown (x.filV a)).1.form
      have hbw : Below w.heap.size w wr := hb0.trans (hbr.mono hb0.size)
      have cfr := cell_later hbw cfil
      have hfrr := (hbw.frozen (p := ⟨B, 4 + a * 3, none⟩) hBl).trans hfr
      go_wp2_with fail
      go_region
      all_goals go_wp2_with fail
      go_end0
      refine ⟨rfl, ?_⟩
      rw [← HK.out]
      rw [map_flat] at hown
      have R := row_of_own (w := W0) hown (x.filV a)
      exact (HR.out.setFil ha (Upd.of_below hbw) R.1 (fun g hg => by
        rcases R.2 g hg with h | h
        · exact .inl h
        · exact .inr (Nat.le_trans hb0.size h))).below below_drew
end Go.Proofs.YtmjdndhfmfjbiaaGreat
