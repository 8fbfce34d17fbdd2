import Derived.Test.YtmjdndhfmfjbiabM03
import Derived.Laws.ResultCell
import Derived.Deep.RegionWith
import Derived.Test.YtmjdndhfmfjbiabM01
/-
  The program's own list of messages that wait.
-/
namespace Go.Proofs.Ytmjdndhfmfjbiab
open Go.RowKit

abbrev waitV (x : WaitD) : Value := .agg #[.int .i64 x.number, .string x.topic, .int .i64 x.value, .int .i64 x.deadline, .int .i64 x.life]

set_option maxRecDepth 100000 in
theorem hrDeadlineOf (t d : Int) (w : World) (h0 : 0 ≤ t) (h1 : t ≤ 1099511627776) (h2 : 0 ≤ d) (h3 : d ≤ 1099511627776) :
    Calls Try.prog 59 #[.int .i64 t, .int .i64 d] w fun e w' => e = .returned (.int .i64 (laterM t d)) ∧ w' = w := by
  by_cases hgt : 1099511627776 < t + d
  · have HE : Hid (laterM t d = 1099511627776) := if_pos hgt
    go_enter Try.func59, Try.ntmps59
    go_wp2_with fail
    go_ret
    exact ⟨ret_int HE.out.symm, rfl⟩
  · have HE : Hid (laterM t d = t + d) := if_neg hgt
    go_enter Try.func59, Try.ntmps59
    go_wp2_with fail
    go_ret
    exact ⟨ret_int HE.out.symm, rfl⟩

set_option maxRecDepth 100000 in
theorem hrIsAhead (x y : WaitD) (w : World) : Calls Try.prog 80 #[waitV x, waitV y] w fun e w' => e = .returned (.bool (aheadB x y)) ∧ Below w.heap.size w w' := by
  obtain ⟨xn, xt, xv, xd, xl⟩ := x
  obtain ⟨yn, yt, yv, yd, yl⟩ := y
  have two : ∀ o1 o2 : Obj, Below w.heap.size w ((w.alloc o1).alloc o2) := fun o1 o2 => ((Below.refl _ _).alloc (Nat.le_refl _) _).alloc (by simp) _
  have TW : Hid (∀ o1 o2 : Obj, Below w.heap.size w ((w.alloc o1).alloc o2)) := two
  clear two
  by_cases hd : xd = yd
  · subst hd
    have HE : Hid (aheadB ⟨xn, xt, xv, xd, xl⟩ ⟨yn, yt, yv, xd, yl⟩ = decide (xn < yn)) := by simp [Hid, aheadB]
    go_enter Try.func80, Try.ntmps80
    go_wp2_with fail
    go_ret
    exact ⟨ret_bool' HE.out.symm, TW.out _ _⟩
  · have HE : Hid (aheadB ⟨xn, xt, xv, xd, xl⟩ ⟨yn, yt, yv, yd, yl⟩ = decide (xd < yd)) := by simp [Hid, aheadB, hd]
    have hd' : (xd != yd) = true := by simp [hd]
    go_enter Try.func80, Try.ntmps80
    go_wp2_with fail
    go_ret
    exact ⟨ret_bool' HE.out.symm, TW.out _ _⟩

set_option maxRecDepth 100000 in
set_option maxHeartbeats 1000000 in
theorem hrWithoutWaiting (ws : List WaitD) (ao : Option Addr) (c : Nat) (n : Int) (w : World) (hl : ws.length ≤ 1048576) (h : CellsAt w ao (ws.flatMap waitCells)) :
    Calls Try.prog 65 #[.slice ao ws.length c, .int .i64 n] w fun e w' => ∃ v, e = .returned v ∧
      w'.ownsRow w.heap.size 50 5 v (ws.filter (fun m => m.number != n)).length ((ws.filter (fun m => m.number != n)).flatMap waitCells) ∧ Below w.heap.size w w' := by
  obtain ⟨i0, hi, hz0, hz1, hz2⟩ := info_parts infoWait
  have H : Hid (CellsAt w ao (ws.flatMap waitCells)) := h
  clear h
  go_enter Try.func65, Try.ntmps65
  go_wp2_with fail
  go_loopw [5, 6] (fun v i wr => ∃ k : Nat, k ≤ ws.length ∧ i = .int .i64 k ∧ wr.ownsRow w.heap.size 50 5 v (kept (fun m : WaitD => m.number != n) ws k).length ((kept (fun m : WaitD => m.number != n) ws k).flatMap waitCells) ∧ Below w.heap.size w wr) (fun _ i _ => ws.length - (intOf i).toNat)
  case atStart => exact ⟨0, Nat.zero_le _, rfl, World.ownsRow_nil _ _ _ _, Below.refl _ _⟩
  case round =>
    obtain ⟨k, hk, rfl, hown, hbr⟩ := hrel
    have hkl := kept_le (fun m : WaitD => m.number != n) ws k
    have hsz := hbr.size
    by_cases hlt : k < ws.length
    · obtain ⟨y, hy⟩ : ∃ y, ws[k]? = some y := ⟨_, List.getElem?_eq_getElem hlt⟩
      obtain ⟨g, rfl, hg, c0, c1, c2, c3, c4⟩ := wait_cells (H.out.below hbr) hy
      cases hne : (y.number != n)
      · have HK : Hid (kept (fun m : WaitD => m.number != n) ws (k + 1) = kept (fun m : WaitD => m.number != n) ws k) := kept_miss hy hne
        clear hy
        go_wp2_with fail
        go_roundw
        case rel => exact ⟨k + 1, by omega, by go_num, by rw [HK.out]; exact hown, hbr⟩
        case measure => simp [intOf]; omega
      · have HK : Hid (kept (fun m : WaitD => m.number != n) ws (k + 1) = kept (fun m : WaitD => m.number != n) ws k ++ [y]) := kept_hit hy hne
        clear hy
        go_wp2_with (first | (at_builtin; refine wpList_append_own _ rfl _ _ 44 rfl w.heap.size 50 i0 _ 5 48 Try.underlying44 hi hz0 hz1 hz2 rfl (by decide) _ _ _ rfl (hown.alloc _) ⟨wr.heap.size, 0, none⟩ 1 1 (waitCells y) rfl rfl (cells_new _ _ _) (wait_one _) (by unfold maxLen; omega) (by omega) (by simp; omega) ?_))
        intro v' w1 hown' hgrow _
        have R := grow_row hown hbr hown' hgrow
        clear hown' hgrow hown
        go_wp2_with fail
        go_roundw
        case rel => exact ⟨k + 1, by omega, by go_num, by rw [HK.out]; exact R.1, R.2⟩
        case measure => simp [intOf]; omega
    · have HK : Hid (kept (fun m : WaitD => m.number != n) ws k = ws.filter (fun m : WaitD => m.number != n)) := kept_end _ _ _ (by omega)
      go_wp2_with fail
      go_ret
      exact ⟨_, rfl, by rw [← HK.out]; exact hown, hbr⟩

set_option maxRecDepth 100000 in
set_option maxHeartbeats 1000000 in
theorem hrCopyWaiting (ws : List WaitD) (ao : Option Addr) (c : Nat) (w : World) (hl : ws.length ≤ 1048576) (h : CellsAt w ao (ws.flatMap waitCells)) :
    Calls Try.prog 67 #[.slice ao ws.length c] w fun e w' => ∃ v, e = .returned v ∧ w'.ownsRow w.heap.size 50 5 v ws.length (ws.flatMap waitCells) ∧ Below w.heap.size w w' := by
  obtain ⟨i0, hi, hz0, hz1, hz2⟩ := info_parts infoWait
  have H : Hid (CellsAt w ao (ws.flatMap waitCells)) := h
  clear h
  go_enter Try.func67, Try.ntmps67
  go_wp2_with fail
  go_loopw [3, 4] (fun v i wr => ∃ k : Nat, k ≤ ws.length ∧ i = .int .i64 k ∧ wr.ownsRow w.heap.size 50 5 v (ws.take k).length ((ws.take k).flatMap waitCells) ∧ Below w.heap.size w wr) (fun _ i _ => ws.length - (intOf i).toNat)
  case atStart => exact ⟨0, Nat.zero_le _, rfl, World.ownsRow_nil _ _ _ _, Below.refl _ _⟩
  case round =>
    obtain ⟨k, hk, rfl, hown, hbr⟩ := hrel
    have hsz := hbr.size
    have htl : (ws.take k).length ≤ 1048576 := by rw [List.length_take]; omega
    by_cases hlt : k < ws.length
    · obtain ⟨y, hy⟩ : ∃ y, ws[k]? = some y := ⟨_, List.getElem?_eq_getElem hlt⟩
      obtain ⟨g, rfl, hg, c0, c1, c2, c3, c4⟩ := wait_cells (H.out.below hbr) hy
      have HK : Hid (ws.take (k + 1) = ws.take k ++ [y]) := by show _ = _; rw [List.take_add_one, hy]; rfl
      clear hy
      generalize hT : ws.take k = T at *
      clear hT
      go_wp2_with (first | (at_builtin; refine wpList_append_own _ rfl _ _ 44 rfl w.heap.size 50 i0 _ 5 48 Try.underlying44 hi hz0 hz1 hz2 rfl (by decide) _ _ _ rfl (hown.alloc _) ⟨wr.heap.size, 0, none⟩ 1 1 (waitCells y) rfl rfl (cells_new _ _ _) (wait_one _) (by unfold maxLen; omega) (by omega) (by simp; omega) ?_))
      intro v' w1 hown' hgrow _
      have R := grow_row hown hbr hown' hgrow
      clear hown' hgrow hown
      go_wp2_with fail
      go_roundw
      case rel => exact ⟨k + 1, by omega, by go_num, by rw [HK.out]; exact R.1, R.2⟩
      case measure => simp [intOf]; omega
    · have HK : Hid (ws.take k = ws) := List.take_of_length_le (by omega)
      go_wp2_with fail
      go_ret
      exact ⟨_, rfl, by rw [HK.out] at hown; exact hown, hbr⟩

def nobody : WaitD := ⟨0, ⟨#[]⟩, 0, 0, 0⟩
/-- The first of this Number. -/
def theOne (ws : List WaitD) (n : Int) : WaitD × Bool := match ws.find? (fun m => m.number == n) with
  | some m => (m, true)
  | none => (nobody, false)

set_option maxRecDepth 100000 in
set_option maxHeartbeats 1000000 in
theorem hrFindWaiting (ws : List WaitD) (ao : Option Addr) (c : Nat) (n : Int) (w : World) (hl : ws.length ≤ 1048576) (h : CellsAt w ao (ws.flatMap waitCells)) :
    Calls Try.prog 64 #[.slice ao ws.length c, .int .i64 n] w fun e w' => e = .returned (.tuple #[waitV (theOne ws n).1, .bool (theOne ws n).2]) ∧ Below w.heap.size w w' := by
  have H : Hid (CellsAt w ao (ws.flatMap waitCells)) := h
  clear h
  go_enter Try.func64, Try.ntmps64
  go_wp2_with fail
  have hb0 : Below w.heap.size w (w.alloc (.cells #[.int .i64 0, .string ⟨#[]⟩, .int .i64 0, .int .i64 0, .int .i64 0] 50)) := below_one _ _
  have HB0 : Hid (Below w.heap.size w (w.alloc (.cells #[.int .i64 0, .string ⟨#[]⟩, .int .i64 0, .int .i64 0, .int .i64 0] 50))) := hb0
  go_loop [6] (fun i => ∃ k : Nat, k ≤ ws.length ∧ i = .int .i64 k ∧ ∀ m ∈ ws.take k, (m.number == n) = false) (fun i => ws.length - (intOf i).toNat)
  case atStart => exact ⟨0, Nat.zero_le _, rfl, fun m hm => by simp at hm⟩
  case round =>
    obtain ⟨k, hk, rfl, hno⟩ := hrel
    have HNO : Hid (∀ m ∈ ws.take k, (m.number == n) = false) := hno
    clear hno
    by_cases hlt : k < ws.length
    · obtain ⟨y, hy⟩ : ∃ y, ws[k]? = some y := ⟨_, List.getElem?_eq_getElem hlt⟩
      obtain ⟨g, rfl, hg, c0, c1, c2, c3, c4⟩ := wait_cells (H.out.below hb0) hy
      have hgw : g < w.heap.size := by
        obtain ⟨g', e, hg', -⟩ := wait_cells H.out hy
        cases e
        exact hg'
      cases he : (y.number == n)
      · have HS : Hid (∀ m ∈ ws.take (k + 1), (m.number == n) = false) := by
          intro m hm
          rw [List.take_add_one, hy] at hm
          rcases List.mem_append.1 hm with hm | hm
          · exact HNO.out m hm
          · simp at hm; subst hm; exact he
        clear hy
        go_wp2_with fail
        go_round
        case rel => exact ⟨k + 1, by omega, by go_num, HS.out⟩
        case measure => simp [intOf]; omega
      · have HS : Hid (theOne ws n = (y, true)) := by
          have hfd : ws.find? (fun m => m.number == n) = some y := by
            rw [List.find?_eq_some_iff_getElem]
            obtain ⟨hl', rfl⟩ := List.getElem?_eq_some_iff.1 hy
            refine ⟨he, k, hl', rfl, fun j hj => ?_⟩
            have := HNO.out ws[j] (List.mem_take_iff_getElem.2 ⟨j, by omega, rfl⟩)
            simp [this]
          simp [Hid, theOne, hfd]
        clear hy
        go_wp2_with fail
        exact bodyPost_ret (v := .tuple #[waitV y, .bool true]) (by rw [results_cell_tmp rfl]; go_simp) rfl ⟨by rw [HS.out], below_one _ _⟩
    · have HS : Hid (theOne ws n = (nobody, false)) := by
        have hfd : ws.find? (fun m => m.number == n) = none := by
          rw [List.find?_eq_none]
          intro m hm
          have := HNO.out m (by rw [List.take_of_length_le (by omega)]; exact hm)
          simp [this]
        simp [Hid, theOne, hfd]
      go_wp2_with fail
      exact bodyPost_ret (v := .tuple #[waitV nobody, .bool false]) (by rw [results_cell_tmp rfl]; go_simp; exact ⟨rfl, rfl, rfl, rfl, rfl⟩) rfl ⟨by rw [HS.out], below_one _ _⟩
end Go.Proofs.Ytmjdndhfmfjbiab

namespace Go.Proofs.Ytmjdndhfmfjbiab
open Go.RowKit

set_option maxRecDepth 100000 in
set_option maxHeartbeats 1000000 in
theorem hrWithWaiting (ws : List WaitD) (ao : Option Addr) (c : Nat) (x : WaitD) (w : World) (hl : ws.length ≤ 1048576) (h : CellsAt w ao (ws.flatMap waitCells)) :
    Calls Try.prog 60 #[.slice ao ws.length c, waitV x] w fun e w' => ∃ v, e = .returned v ∧
      w'.ownsRow w.heap.size 50 5 v (insM aheadB x ws).length ((insM aheadB x ws).flatMap waitCells) ∧ Below w.heap.size w w' := by
  obtain ⟨i0, hi, hz0, hz1, hz2⟩ := info_parts infoWait
  have H : Hid (CellsAt w ao (ws.flatMap waitCells)) := h
  clear h
  go_enter Try.func60, Try.ntmps60
  go_wp2_with fail
  generalize hWA : w.alloc _ = wa
  have hbA : Below w.heap.size w wa := by rw [← hWA]; exact below_one _ _
  have hsA : w.heap.size < wa.heap.size := by rw [← hWA]; simp
  have h0 : wa.cell? ⟨w.heap.size, 0, none⟩ = some (.int .i64 x.number) := by rw [← hWA]; simp
  have h1 : wa.cell? ⟨w.heap.size, 1, none⟩ = some (.string x.topic) := by rw [← hWA]; simp
  have h2 : wa.cell? ⟨w.heap.size, 2, none⟩ = some (.int .i64 x.value) := by rw [← hWA]; simp
  have h3 : wa.cell? ⟨w.heap.size, 3, none⟩ = some (.int .i64 x.deadline) := by rw [← hWA]; simp
  have h4 : wa.cell? ⟨w.heap.size, 4, none⟩ = some (.int .i64 x.life) := by rw [← hWA]; simp
  have HA : Hid (CellsAt wa ao (ws.flatMap waitCells)) := H.out.below hbA
  clear hWA H
  go_loopw [5, 6, 7] (fun v p i wr => ∃ k : Nat, k ≤ ws.length ∧ i = .int .i64 k ∧ p = .bool (insTo aheadB x ws k).2 ∧ wr.ownsRow wa.heap.size 50 5 v (insTo aheadB x ws k).1.length ((insTo aheadB x ws k).1.flatMap waitCells) ∧ Below wa.heap.size wa wr) (fun _ _ i _ => ws.length - (intOf i).toNat)
  case atStart => exact ⟨0, Nat.zero_le _, rfl, rfl, World.ownsRow_nil _ _ _ _, Below.refl _ _⟩
  case round =>
    obtain ⟨k, hk, rfl, rfl, hown, hbr⟩ := hrel
    have hkl := (insTo_len aheadB x ws k).1
    have hsz := hbr.size
    have r0 := cell_later hbr h0
    have r1 := cell_later hbr h1
    have r2 := cell_later hbr h2
    have r3 := cell_later hbr h3
    have r4 := cell_later hbr h4
    by_cases hlt : k < ws.length
    · obtain ⟨y, hy⟩ : ∃ y, ws[k]? = some y := ⟨_, List.getElem?_eq_getElem hlt⟩
      obtain ⟨g, rfl, hg, c0, c1, c2, c3, c4⟩ := wait_cells (HA.out.below hbr) hy
      have HST : Hid (insTo aheadB x ws (k + 1) = if !(insTo aheadB x ws k).2 && aheadB x y then ((insTo aheadB x ws k).1 ++ [x] ++ [y], true) else ((insTo aheadB x ws k).1 ++ [y], (insTo aheadB x ws k).2)) := insTo_step hy
      have YY : Hid (ws[k]? = some y) := hy
      clear hy
      generalize hT : insTo aheadB x ws k = T at *
      obtain ⟨T1, T2⟩ := T
      clear hT
      simp only at hown hkl
      cases T2
      · cases hah : aheadB x y
        · have HK : Hid (insTo aheadB x ws (k + 1) = (T1 ++ [y], false)) := by show _ = _; rw [HST.out, hah]; rfl
          have HAH : Hid (aheadB x y = false) := hah
          clear hah
          go_wp2_with fail
          go_region_with (go_at_call 80; refine (hrIsAhead x y _).mono ?_; rintro e w2 ⟨rfl, hb2⟩; rw [HAH.out])
          all_goals have b2 : Below wr.heap.size wr w2 := below_drew.trans (hb2.mono (Nat.le_refl _))
          all_goals have hown2 := own_below hown b2
          all_goals have hbr2 : Below wa.heap.size wa w2 := hbr.trans (b2.mono hbr.size)
          all_goals have d0 := cell_later b2 c0
          all_goals have d1 := cell_later b2 c1
          all_goals have d2 := cell_later b2 c2
          all_goals have d3 := cell_later b2 c3
          all_goals have d4 := cell_later b2 c4
          all_goals have s0 := cell_later b2 r0
          all_goals have s1 := cell_later b2 r1
          all_goals have s2 := cell_later b2 r2
          all_goals have s3 := cell_later b2 r3
          all_goals have s4 := cell_later b2 r4
          all_goals have hs2 := b2.size
          all_goals have hg2 : g < w2.heap.size := by omega
          all_goals clear hb2 b2 hown
          all_goals go_wp2_with (first | (at_builtin; refine wpList_append_own _ rfl _ _ 44 rfl wa.heap.size 50 i0 _ 5 48 Try.underlying44 hi hz0 hz1 hz2 rfl (by decide) _ _ _ rfl (hown2.alloc _) ⟨w2.heap.size, 0, none⟩ 1 1 (waitCells y) rfl rfl (cells_new _ _ _) (wait_one _) (by unfold maxLen; omega) (by omega) (by simp; omega) ?_))
          all_goals intro v' w3 hown' hgrow _
          all_goals have R := grow_row hown2 hbr2 hown' hgrow
          all_goals clear hown' hgrow hown2
          all_goals go_wp2_with fail
          all_goals go_roundw
          all_goals first
            | (case rel => exact ⟨k + 1, by omega, by go_num, by rw [HK.out], by rw [HK.out]; exact R.1, R.2⟩)
            | (case measure => simp [intOf]; omega)
            | skip
        · have HK : Hid (insTo aheadB x ws (k + 1) = (T1 ++ [x] ++ [y], true)) := by show _ = _; rw [HST.out, hah]; rfl
          have HAH : Hid (aheadB x y = true) := hah
          clear hah
          go_wp2_with fail
          go_region_with (go_at_call 80; refine (hrIsAhead x y _).mono ?_; rintro e w2 ⟨rfl, hb2⟩; rw [HAH.out])
          all_goals have b2 : Below wr.heap.size wr w2 := below_drew.trans (hb2.mono (Nat.le_refl _))
          all_goals have hown2 := own_below hown b2
          all_goals have hbr2 : Below wa.heap.size wa w2 := hbr.trans (b2.mono hbr.size)
          all_goals have d0 := cell_later b2 c0
          all_goals have d1 := cell_later b2 c1
          all_goals have d2 := cell_later b2 c2
          all_goals have d3 := cell_later b2 c3
          all_goals have d4 := cell_later b2 c4
          all_goals have s0 := cell_later b2 r0
          all_goals have s1 := cell_later b2 r1
          all_goals have s2 := cell_later b2 r2
          all_goals have s3 := cell_later b2 r3
          all_goals have s4 := cell_later b2 r4
          all_goals have hs2 := b2.size
          all_goals have hg2 : g < w2.heap.size := by omega
          all_goals clear hb2 b2 hown
          all_goals go_wp2_with (first | (at_builtin; refine wpList_append_own _ rfl _ _ 44 rfl wa.heap.size 50 i0 _ 5 48 Try.underlying44 hi hz0 hz1 hz2 rfl (by decide) _ _ _ rfl (hown2.alloc _) ⟨w2.heap.size, 0, none⟩ 1 1 (waitCells x) rfl rfl (cells_new _ _ _) (wait_one _) (by unfold maxLen; omega) (by omega) (by simp; omega) ?_))
          all_goals intro v' w3 hown' hgrow _
          all_goals have R := grow_row hown2 hbr2 hown' hgrow
          all_goals obtain ⟨T3, hT3⟩ : ∃ T3, T1 ++ [x] = T3 := ⟨_, rfl⟩
          all_goals have HK2 : Hid (insTo aheadB x ws (k + 1) = (T3 ++ [y], true)) := (by show _ = _; rw [HK.out, hT3])
          all_goals have hl3 : T3.length ≤ k + 2 := (by rw [← hT3]; simp; omega)
          all_goals have hown3 := R.1
          all_goals have hbr3 := R.2
          all_goals rw [hT3] at hown3
          all_goals have hwy : CellsAt w3 (some ⟨g, 0, none⟩) (ws.flatMap waitCells) := HA.out.below hbr3
          all_goals obtain ⟨g', eg, hg3, f0, f1, f2, f3, f4⟩ := wait_cells hwy YY.out
          all_goals simp only [Option.some.injEq, Addr.mk.injEq, and_true] at eg
          all_goals subst eg
          all_goals have hs3 := hbr3.size
          all_goals clear hown' hgrow hown2 R hT3 hwy
          all_goals go_wp2_with (first | (at_builtin; refine wpList_append_own _ rfl _ _ 44 rfl wa.heap.size 50 i0 _ 5 48 Try.underlying44 hi hz0 hz1 hz2 rfl (by decide) _ _ _ rfl (hown3.alloc _) ⟨w3.heap.size, 0, none⟩ 1 1 (waitCells y) rfl rfl (cells_new _ _ _) (wait_one _) (by unfold maxLen; omega) (by omega) (by simp; omega) ?_))
          all_goals intro v4 w4 hown4 hgrow4 _
          all_goals have R4 := grow_row hown3 hbr3 hown4 hgrow4
          all_goals clear hown4 hgrow4 hown3
          all_goals go_wp2_with fail
          all_goals go_roundw
          all_goals first
            | (case rel => exact ⟨k + 1, by omega, by go_num, by rw [HK2.out], by rw [HK2.out]; exact R4.1, R4.2⟩)
            | (case measure => simp [intOf]; omega)
            | skip
      · have HK : Hid (insTo aheadB x ws (k + 1) = (T1 ++ [y], true)) := by show _ = _; rw [HST.out]; rfl
        go_wp2_with fail
        go_quiet (fail)
        generalize hw2 : wr.drewN nq = w2
        have b2 : Below wr.heap.size wr w2 := by rw [← hw2]; exact below_drewN (Below.refl _ _)
        have hown2 := own_below hown b2
        have hbr2 : Below wa.heap.size wa w2 := hbr.trans (b2.mono hbr.size)
        have d0 := cell_later b2 c0
        have d1 := cell_later b2 c1
        have d2 := cell_later b2 c2
        have d3 := cell_later b2 c3
        have d4 := cell_later b2 c4
        have hs2 := b2.size
        have hg2 : g < w2.heap.size := by omega
        clear hw2 b2 hown
        go_wp2_with (first | (at_builtin; refine wpList_append_own _ rfl _ _ 44 rfl wa.heap.size 50 i0 _ 5 48 Try.underlying44 hi hz0 hz1 hz2 rfl (by decide) _ _ _ rfl (hown2.alloc _) ⟨w2.heap.size, 0, none⟩ 1 1 (waitCells y) rfl rfl (cells_new _ _ _) (wait_one _) (by unfold maxLen; omega) (by omega) (by simp; omega) ?_))
        intro v' w3 hown' hgrow _
        have R := grow_row hown2 hbr2 hown' hgrow
        clear hown' hgrow hown2
        go_wp2_with fail
        go_roundw
        case rel => exact ⟨k + 1, by omega, by go_num, by rw [HK.out], by rw [HK.out]; exact R.1, R.2⟩
        case measure => simp [intOf]; omega
    · obtain rfl : k = ws.length := by omega
      have HEND : Hid (insM aheadB x ws = if (insTo aheadB x ws ws.length).2 then (insTo aheadB x ws ws.length).1 else (insTo aheadB x ws ws.length).1 ++ [x]) := insTo_end aheadB x ws
      generalize hT : insTo aheadB x ws ws.length = T at *
      obtain ⟨T1, T2⟩ := T
      clear hT
      simp only at hown hkl
      cases T2
      · have HE : Hid (insM aheadB x ws = T1 ++ [x]) := HEND.out
        clear HEND
        go_wp2_with (first | (at_builtin; refine wpList_append_own _ rfl _ _ 44 rfl wa.heap.size 50 i0 _ 5 48 Try.underlying44 hi hz0 hz1 hz2 rfl (by decide) _ _ _ rfl (hown.alloc _) ⟨wr.heap.size, 0, none⟩ 1 1 (waitCells x) rfl rfl (cells_new _ _ _) (wait_one _) (by unfold maxLen; omega) (by omega) (by simp; omega) ?_))
        intro v' w1 hown' hgrow _
        have R := grow_row hown hbr hown' hgrow
        clear hown' hgrow hown
        go_wp2_with fail
        go_ret
        exact ⟨_, rfl, by rw [HE.out]; exact own_mono R.1 (by omega), hbA.trans (R.2.mono hbA.size)⟩
      · have HE : Hid (insM aheadB x ws = T1) := HEND.out
        clear HEND
        go_wp2_with fail
        go_ret
        exact ⟨_, rfl, by rw [HE.out]; exact own_mono hown (by omega), hbA.trans (hbr.mono hbA.size)⟩
end Go.Proofs.Ytmjdndhfmfjbiab

namespace Go.Proofs.Ytmjdndhfmfjbiab
open Go.RowKit

set_option maxHeartbeats 400000 in
theorem topIsWild (x : ByteArray) (last : Bool) (w : World) :
    Calls Try.prog 88 #[.string x, .bool last] w fun e w' => e = .returned (.bool ((x.toList == [43]) || ((x.toList == [35]) && last))) ∧ w' = w := by
  cases h43 : (x.toList == [43])
  · cases h35 : (x.toList == [35])
    all_goals
      go_enter Try.func88, Try.ntmps88
      go_wp2
      go_ret
      exact ⟨by simp, rfl⟩
  · go_enter Try.func88, Try.ntmps88
    go_wp2
    go_ret
    exact ⟨by simp, rfl⟩

set_option maxRecDepth 100000 in
set_option maxHeartbeats 1000000 in
theorem topIsPath (s : ByteArray) (wild : Bool) (w : World) (hs : s.size ≤ maxLen) :
    Calls Try.prog 76 #[.string s, .bool wild] w fun e w' => e = .returned (.bool (M.isPathM wild s)) ∧ Below w.heap.size w w' := by
  unfold maxLen at hs
  by_cases h15 : s.size ≤ 15
  · go_enter Try.func76, Try.ntmps76
    go_wp2_with fail
    refine (topWordsE s _ (by omega)).mono ?_
    rintro e w1 ⟨g, c, rfl, a1, a2, a3, a4⟩
    have hmem := M.words_mem s
    have hlen := M.wordsM_len s
    have HG : Hid (M.partsM wild (M.wordsM s) = true → M.isPathM wild s = (decide (s.size ≤ 15) && decide ((M.wordsM s).length ≤ 4))) := M.isPathM_good
    have HB : Hid (M.partsM wild (M.wordsM s) = false → M.isPathM wild s = false) := M.isPathM_bad
    have HL4 : Hid (¬ (M.wordsM s).length ≤ 4 → M.isPathM wild s = false) := fun h => by simp [M.isPathM, h]
    generalize hws : M.wordsM s = ws at *
    clear hws
    have A3 : Hid _ := a3
    have HM : Hid _ := hmem
    clear a3 hmem
    by_cases h4 : ws.length ≤ 4
    · go_wp2_with fail
      go_loop [6] (fun i => ∃ k : Nat, k ≤ ws.length ∧ i = .int .i64 k ∧ M.partsM wild ws = M.partsM wild (ws.drop k)) (fun i => ws.length - (intOf i).toNat)
      case atStart => exact ⟨0, Nat.zero_le _, rfl, rfl⟩
      case round =>
        obtain ⟨k, hk, rfl, hl⟩ := hrel
        have HL : Hid _ := hl
        clear hl
        by_cases hlt : k < ws.length
        · obtain ⟨x, hx⟩ : ∃ x, ws[k]? = some x := ⟨_, List.getElem?_eq_getElem hlt⟩
          have HP : Hid _ := M.parts_drop wild ws k x hx
          have HX : x.size ≤ maxLen := by
            have := HM.out x (List.mem_of_getElem? hx)
            unfold maxLen; omega
          obtain ⟨b, o, e, hc⟩ := A3.out k x hx
          simp only [Option.some.injEq, Addr.mk.injEq] at e
          obtain ⟨rfl, rfl, -⟩ := e
          simp only [Nat.zero_add] at hc
          clear hx
          cases hlast : ((k : Int) == (ws.length : Int) - 1)
          all_goals
            rw [hlast] at HP
            cases hw : M.isWordM x
            all_goals
              cases wild
              · go_wp2_with (first | (go_at_call 87; refine (topIsWord x _ HX).mono ?_; rintro e w2 ⟨rfl, rfl⟩) | (go_at_call 88; refine (topIsWild x _ _).mono ?_; rintro e w2 ⟨rfl, rfl⟩))
                first
                  | (go_ret; exact ⟨ret_bool (HB.out (by rw [HL.out, HP.out]; simp [M.partM, hw])).symm, a4⟩)
                  | (go_round
                     case rel => exact ⟨k + 1, by omega, by go_num, by rw [HL.out, HP.out]; simp [M.partM, hw]⟩
                     case measure => simp [intOf]; omega)
              · cases h43 : (x.toList == [43])
                all_goals
                  cases h35 : (x.toList == [35])
                  all_goals
                    go_wp2_with (first | (go_at_call 87; refine (topIsWord x _ HX).mono ?_; rintro e w2 ⟨rfl, rfl⟩) | (go_at_call 88; refine (topIsWild x _ _).mono ?_; rintro e w2 ⟨rfl, rfl⟩))
                    first
                      | (go_ret; exact ⟨ret_bool (HB.out (by rw [HL.out, HP.out]; simp [M.partM, hw, h43, h35])).symm, a4⟩)
                      | (go_round
                         case rel => exact ⟨k + 1, by omega, by go_num, by rw [HL.out, HP.out]; simp [M.partM, hw, h43, h35]⟩
                         case measure => simp [intOf]; omega)
        · have HE : Hid (M.isPathM wild s = (decide (s.size ≤ 15) && decide (ws.length ≤ 4))) := HG.out (by rw [HL.out]; exact M.parts_end _ _ _ (by omega))
          go_wp2_with fail
          go_ret
          exact ⟨ret_bool (by rw [HE.out]; simp [h15, h4]), a4⟩
    · go_wp2_with fail
      go_ret
      exact ⟨ret_bool (HL4.out h4).symm, a4⟩
  · have HE : Hid (M.isPathM wild s = false) := by simp [M.isPathM, Hid, h15]
    go_enter Try.func76, Try.ntmps76
    go_wp2_with fail
    go_ret
    exact ⟨ret_bool HE.out.symm, Below.refl _ _⟩
end Go.Proofs.Ytmjdndhfmfjbiab

namespace Go.Proofs.Ytmjdndhfmfjbiab
open Go.RowKit

theorem along_nil (f t : List ByteArray) (k : Nat) (hf : f.length ≤ k) (hk : k ≤ t.length) (hk2 : k ≤ f.length) : M.alongM (f.drop k) (t.drop k) = ((f.length : Int) == (t.length : Int)) := by
  rw [List.drop_of_length_le hf, M.alongM, Bool.eq_iff_iff]
  simp
  omega
theorem along_short (f t : List ByteArray) (k : Nat) (x : ByteArray) (h : f[k]? = some x) (ht : t.length ≤ k) : M.alongM (f.drop k) (t.drop k) = (x.toList == [35]) := by
  obtain ⟨hk, rfl⟩ := List.getElem?_eq_some_iff.1 h
  rw [List.drop_of_length_le ht, List.drop_eq_getElem_cons hk, M.alongM]
theorem along_step (f t : List ByteArray) (k : Nat) (x y : ByteArray) (h : f[k]? = some x) (ht : t[k]? = some y) :
    M.alongM (f.drop k) (t.drop k) = ((x.toList == [35]) || (((x.toList == [43]) || (x.toList == y.toList)) && M.alongM (f.drop (k + 1)) (t.drop (k + 1)))) := by
  obtain ⟨hk, rfl⟩ := List.getElem?_eq_some_iff.1 h
  obtain ⟨hk', rfl⟩ := List.getElem?_eq_some_iff.1 ht
  rw [List.drop_eq_getElem_cons hk, List.drop_eq_getElem_cons hk', M.alongM]

theorem strs_cell {w : World} {g : Nat} {xs : List ByteArray} (h : StrsAt w (some ⟨g, 0, none⟩) xs) {k : Nat} {x : ByteArray} (hx : xs[k]? = some x) : w.cell? ⟨g, k, none⟩ = some (.string x) := by
  obtain ⟨b, o, e, hc⟩ := h k x hx
  simp only [Option.some.injEq, Addr.mk.injEq] at e
  obtain ⟨rfl, rfl, -⟩ := e
  simpa using hc

set_option maxRecDepth 100000 in
set_option maxHeartbeats 1000000 in
theorem topFits (f t : ByteArray) (w : World) (hf : f.size ≤ 1048576) (ht : t.size ≤ 1048576) :
    Calls Try.prog 74 #[.string f, .string t] w fun e w' => e = .returned (.bool (M.alongM (M.wordsM f) (M.wordsM t))) ∧ Below w.heap.size w w' := by
  go_enter Try.func74, Try.ntmps74
  go_wp2_with fail
  refine (topWordsE f _ hf).mono ?_
  rintro e w1 ⟨g1, c1, rfl, a1, a2, a3, a4⟩
  go_wp2_with fail
  refine (topWordsE t _ ht).mono ?_
  rintro e w2 ⟨g2, c2, rfl, b1, b2, b3, b4⟩
  have hl1 := M.wordsM_len f
  have hl2 := M.wordsM_len t
  have HBel : Hid (Below w.heap.size w w2) := a4.trans (b4.mono a4.size)
  have A3 : Hid _ := a3.below b4
  have B3 : Hid _ := b3
  clear a3 b3 a4 b4
  generalize hfs : M.wordsM f = fs at *
  generalize hts : M.wordsM t = ts at *
  have HV : Hid (M.alongM (M.wordsM f) (M.wordsM t) = M.alongM fs ts) := by subst hfs hts; exact rfl
  clear hfs hts
  go_wp2_with fail
  go_loopw [7] (fun i wr => ∃ k : Nat, k ≤ fs.length ∧ k ≤ ts.length ∧ i = .int .i64 k ∧ M.alongM fs ts = M.alongM (fs.drop k) (ts.drop k) ∧ ∃ n, wr = w2.drewN n) (fun i _ => fs.length - (intOf i).toNat)
  case atStart => exact ⟨0, Nat.zero_le _, Nat.zero_le _, rfl, rfl, 0, rfl⟩
  case round =>
    obtain ⟨k, hk, hk2, rfl, hl, n, rfl⟩ := hrel
    have HL : Hid _ := hl
    clear hl
    by_cases hlt : k < fs.length
    · obtain ⟨x, hx⟩ : ∃ x, fs[k]? = some x := ⟨_, List.getElem?_eq_getElem hlt⟩
      have hc : w2.cell? ⟨g1, k, none⟩ = some (.string x) := strs_cell A3.out hx
      by_cases hlt2 : k < ts.length
      · obtain ⟨y, hy⟩ : ∃ y, ts[k]? = some y := ⟨_, List.getElem?_eq_getElem hlt2⟩
        have hd : w2.cell? ⟨g2, k, none⟩ = some (.string y) := strs_cell B3.out hy
        have HS : Hid _ := along_step fs ts k x y hx hy
        clear hx hy
        cases h35 : (x.toList == [35])
        · cases h43 : (x.toList == [43])
          · cases heq : (x.toList == y.toList)
            · go_wp2_with fail
              go_quiet (fail)
              go_wp2_with fail
              go_ret
              exact ⟨ret_bool (by rw [HV.out, HL.out, HS.out]; simp [h35, h43, heq]), HBel.out.trans ⟨rfl, rfl, rfl, Nat.le_refl _, fun _ _ => rfl⟩⟩
            · go_wp2_with fail
              go_quiet (fail)
              go_wp2_with fail
              go_roundw
              case rel => exact ⟨k + 1, by omega, by omega, by go_num, by rw [HL.out, HS.out]; simp [h35, h43, heq], _, rfl⟩
              case measure => simp [intOf]; omega
          · go_wp2_with fail
            go_quiet (fail)
            go_wp2_with fail
            go_roundw
            case rel => exact ⟨k + 1, by omega, by omega, by go_num, by rw [HL.out, HS.out]; simp [h35, h43], _, rfl⟩
            case measure => simp [intOf]; omega
        · go_wp2_with fail
          go_ret
          exact ⟨ret_bool (by rw [HV.out, HL.out, HS.out]; simp [h35]), HBel.out.trans ⟨rfl, rfl, rfl, Nat.le_refl _, fun _ _ => rfl⟩⟩
      · have HS : Hid _ := along_short fs ts k x hx (by omega)
        clear hx
        cases h35 : (x.toList == [35])
        all_goals
          go_wp2_with fail
          go_ret
          exact ⟨ret_bool (by rw [HV.out, HL.out, HS.out]; simp [h35]), HBel.out.trans ⟨rfl, rfl, rfl, Nat.le_refl _, fun _ _ => rfl⟩⟩
    · have HS : Hid _ := along_nil fs ts k (by omega) hk2 hk
      go_wp2_with fail
      go_ret
      exact ⟨ret_bool (by rw [HV.out, HL.out, HS.out]), HBel.out.trans ⟨rfl, rfl, rfl, Nat.le_refl _, fun _ _ => rfl⟩⟩
end Go.Proofs.Ytmjdndhfmfjbiab

/-
  The program's own queues.
-/
namespace Go.Proofs.Ytmjdndhfmfjbiab
open Go.RowKit

/-- A message as the program keeps it. -/
def msgCells (x : SentD) : List Value := [.int .i64 x.number, .string x.topic, .int .i64 x.value, .int .i64 x.life, .int .i64 x.sentAt]
abbrev msgV (x : SentD) : Value := .agg #[.int .i64 x.number, .string x.topic, .int .i64 x.value, .int .i64 x.life, .int .i64 x.sentAt]
theorem msg_len (x : SentD) : (msgCells x).length = 5 := rfl
theorem msg_one (x : SentD) : ∀ u ∈ msgCells x, u.oneCell' = true := by
  intro u hu
  simp only [msgCells, List.mem_cons, List.not_mem_nil, or_false] at hu
  rcases hu with rfl | rfl | rfl | rfl | rfl <;> rfl
theorem infoMsg : (Try.prog.info? 107).map (fun i => (i.zero, i.size, i.bytes)) = some (some (.agg #[.int .i64 0, .string ⟨#[]⟩, .int .i64 0, .int .i64 0, .int .i64 0]), 5, 48) := by kernel_rfl
theorem msg_cells {w : World} {ao : Option Addr} {l : List SentD} (h : CellsAt w ao (l.flatMap msgCells)) {k : Nat} {x : SentD} (hx : l[k]? = some x) :
    ∃ g, ao = some ⟨g, 0, none⟩ ∧ g < w.heap.size ∧ w.cell? ⟨g, k * 5, none⟩ = some (.int .i64 x.number) ∧ w.cell? ⟨g, k * 5 + 1, none⟩ = some (.string x.topic) ∧ w.cell? ⟨g, k * 5 + 2, none⟩ = some (.int .i64 x.value) ∧
      w.cell? ⟨g, k * 5 + 3, none⟩ = some (.int .i64 x.life) ∧ w.cell? ⟨g, k * 5 + 4, none⟩ = some (.int .i64 x.sentAt) := by
  have key : ∀ j u, j < 5 → (msgCells x)[j]? = some u → ∃ g, ao = some ⟨g, 0, none⟩ ∧ w.cell? ⟨g, k * 5 + j, none⟩ = some u := fun j u hj hu => h _ u ((flat_get msgCells 5 msg_len l k j x hx hj).trans hu)
  obtain ⟨g, rfl, c0⟩ := key 0 _ (by omega) rfl
  obtain ⟨g1, e1, c1⟩ := key 1 _ (by omega) rfl
  obtain ⟨g2, e2, c2⟩ := key 2 _ (by omega) rfl
  obtain ⟨g3, e3, c3⟩ := key 3 _ (by omega) rfl
  obtain ⟨g4, e4, c4⟩ := key 4 _ (by omega) rfl
  cases e1
  cases e2
  cases e3
  cases e4
  exact ⟨g, rfl, World.block_lt_of_cell? _ _ c0, c0, c1, c2, c3, c4⟩

set_option maxRecDepth 100000 in
set_option maxHeartbeats 1000000 in
theorem hrHasMessage (qs : List SentD) (ao : Option Addr) (c : Nat) (n : Int) (w : World) (hl : qs.length ≤ 1048576) (h : CellsAt w ao (qs.flatMap msgCells)) :
    Calls Try.prog 53 #[.slice ao qs.length c, .int .i64 n] w fun e w' => e = .returned (.bool (qs.any (fun m => m.number == n))) ∧ w' = w := by
  have H : Hid (CellsAt w ao (qs.flatMap msgCells)) := h
  clear h
  go_enter Try.func53, Try.ntmps53
  go_wp2_with fail
  go_loop [5] (fun i => ∃ k : Nat, k ≤ qs.length ∧ i = .int .i64 k ∧ (qs.take k).any (fun m => m.number == n) = false) (fun i => qs.length - (intOf i).toNat)
  case atStart => exact ⟨0, Nat.zero_le _, rfl, by simp⟩
  case round =>
    obtain ⟨k, hk, rfl, ha⟩ := hrel
    have HA : Hid ((qs.take k).any (fun m => m.number == n) = false) := ha
    clear ha
    by_cases hlt : k < qs.length
    · obtain ⟨y, hy⟩ : ∃ y, qs[k]? = some y := ⟨_, List.getElem?_eq_getElem hlt⟩
      obtain ⟨g, rfl, hg, c0, c1, c2, c3, c4⟩ := msg_cells H.out hy
      cases he : (y.number == n)
      · have HS : Hid ((qs.take (k + 1)).any (fun m => m.number == n) = false) := by show _ = _; rw [any_take hy, HA.out, he]; rfl
        clear hy
        go_wp2_with fail
        go_round
        case rel => exact ⟨k + 1, by omega, by go_num, HS.out⟩
        case measure => simp [intOf]; omega
      · have HS : Hid (qs.any (fun m => m.number == n) = true) := List.any_eq_true.2 ⟨y, List.mem_of_getElem? hy, he⟩
        clear hy
        go_wp2_with fail
        go_ret
        exact ⟨ret_bool' HS.out.symm, rfl⟩
    · have HS : Hid (qs.any (fun m => m.number == n) = false) := by
        have := HA.out
        rw [List.take_of_length_le (by omega)] at this
        exact this
      go_wp2_with fail
      go_ret
      exact ⟨ret_bool' HS.out.symm, rfl⟩

set_option maxRecDepth 100000 in
set_option maxHeartbeats 1000000 in
theorem hrWithoutMessage (qs : List SentD) (ao : Option Addr) (c : Nat) (n : Int) (w : World) (hl : qs.length ≤ 1048576) (h : CellsAt w ao (qs.flatMap msgCells)) :
    Calls Try.prog 54 #[.slice ao qs.length c, .int .i64 n] w fun e w' => ∃ v, e = .returned v ∧
      w'.ownsRow w.heap.size 107 5 v (qs.filter (fun m => m.number != n)).length ((qs.filter (fun m => m.number != n)).flatMap msgCells) ∧ Below w.heap.size w w' := by
  obtain ⟨i0, hi, hz0, hz1, hz2⟩ := info_parts infoMsg
  have H : Hid (CellsAt w ao (qs.flatMap msgCells)) := h
  clear h
  go_enter Try.func54, Try.ntmps54
  go_wp2_with fail
  go_loopw [5, 6] (fun v i wr => ∃ k : Nat, k ≤ qs.length ∧ i = .int .i64 k ∧ wr.ownsRow w.heap.size 107 5 v (kept (fun m : SentD => m.number != n) qs k).length ((kept (fun m : SentD => m.number != n) qs k).flatMap msgCells) ∧ Below w.heap.size w wr) (fun _ i _ => qs.length - (intOf i).toNat)
  case atStart => exact ⟨0, Nat.zero_le _, rfl, World.ownsRow_nil _ _ _ _, Below.refl _ _⟩
  case round =>
    obtain ⟨k, hk, rfl, hown, hbr⟩ := hrel
    have hkl := kept_le (fun m : SentD => m.number != n) qs k
    have hsz := hbr.size
    by_cases hlt : k < qs.length
    · obtain ⟨y, hy⟩ : ∃ y, qs[k]? = some y := ⟨_, List.getElem?_eq_getElem hlt⟩
      obtain ⟨g, rfl, hg, c0, c1, c2, c3, c4⟩ := msg_cells (H.out.below hbr) hy
      cases hne : (y.number != n)
      · have HK : Hid (kept (fun m : SentD => m.number != n) qs (k + 1) = kept (fun m : SentD => m.number != n) qs k) := kept_miss hy hne
        clear hy
        go_wp2_with fail
        go_roundw
        case rel => exact ⟨k + 1, by omega, by go_num, by rw [HK.out]; exact hown, hbr⟩
        case measure => simp [intOf]; omega
      · have HK : Hid (kept (fun m : SentD => m.number != n) qs (k + 1) = kept (fun m : SentD => m.number != n) qs k ++ [y]) := kept_hit hy hne
        clear hy
        go_wp2_with (first | (at_builtin; refine wpList_append_own _ rfl _ _ 91 rfl w.heap.size 107 i0 _ 5 48 Try.underlying91 hi hz0 hz1 hz2 rfl (by decide) _ _ _ rfl (hown.alloc _) ⟨wr.heap.size, 0, none⟩ 1 1 (msgCells y) rfl rfl (cells_new _ _ _) (msg_one _) (by unfold maxLen; omega) (by omega) (by simp; omega) ?_))
        intro v' w1 hown' hgrow _
        have R := grow_row hown hbr hown' hgrow
        clear hown' hgrow hown
        go_wp2_with fail
        go_roundw
        case rel => exact ⟨k + 1, by omega, by go_num, by rw [HK.out]; exact R.1, R.2⟩
        case measure => simp [intOf]; omega
    · have HK : Hid (kept (fun m : SentD => m.number != n) qs k = qs.filter (fun m : SentD => m.number != n)) := kept_end _ _ _ (by omega)
      go_wp2_with fail
      go_ret
      exact ⟨_, rfl, by rw [← HK.out]; exact hown, hbr⟩

/-- Is it over? -/
def overB (t : Int) (m : SentD) : Bool := decide (0 < m.life) && decide (m.life ≤ t - m.sentAt)

set_option maxRecDepth 100000 in
theorem hrIsOver (m : SentD) (t : Int) (w : World) (h0 : 0 ≤ t) (h1 : t ≤ 1099511627776) (h2 : 0 ≤ m.sentAt) (h3 : m.sentAt ≤ 1099511627776) :
    Calls Try.prog 92 #[msgV m, .int .i64 t] w fun e w' => e = .returned (.bool (overB t m)) ∧ Below w.heap.size w w' := by
  obtain ⟨mn, mt, mv, ms, ml⟩ := m
  simp only at h2 h3
  have one : ∀ o1 : Obj, Below w.heap.size w (w.alloc o1) := fun o1 => below_one _ _
  have TW : Hid (∀ o1 : Obj, Below w.heap.size w (w.alloc o1)) := one
  clear one
  by_cases hp : 0 < ml
  · have HE : Hid (overB t ⟨mn, mt, mv, ms, ml⟩ = decide (ml ≤ t - ms)) := by simp [Hid, overB, hp]
    go_enter Try.func92, Try.ntmps92
    go_wp2_with fail
    go_ret
    exact ⟨ret_bool' HE.out.symm, TW.out _⟩
  · have HE : Hid (overB t ⟨mn, mt, mv, ms, ml⟩ = false) := by simp [Hid, overB, hp]
    go_enter Try.func92, Try.ntmps92
    go_wp2_with fail
    go_ret
    exact ⟨ret_bool' HE.out.symm, TW.out _⟩

set_option maxRecDepth 100000 in
theorem hrLeft (m : SentD) (t : Int) (w : World) (h0 : 0 ≤ t) (h1 : t ≤ 1099511627776) (h2 : 0 ≤ m.sentAt) (h3 : m.sentAt ≤ 1099511627776) (h4 : 0 ≤ m.life) (h5 : m.life ≤ 1099511627776) :
    Calls Try.prog 81 #[msgV m, .int .i64 t] w fun e w' => e = .returned (.int .i64 (leftM t m)) ∧ Below w.heap.size w w' := by
  obtain ⟨mn, mt, mv, ms, ml⟩ := m
  simp only at h2 h3 h4 h5
  have one : ∀ o1 : Obj, Below w.heap.size w (w.alloc o1) := fun o1 => below_one _ _
  have TW : Hid (∀ o1 : Obj, Below w.heap.size w (w.alloc o1)) := one
  clear one
  by_cases hp : ml = 0
  · subst hp
    have HE : Hid (leftM t ⟨mn, mt, mv, ms, 0⟩ = 0) := by simp [Hid, leftM]
    go_enter Try.func81, Try.ntmps81
    go_wp2_with fail
    go_ret
    exact ⟨ret_int HE.out.symm, TW.out _⟩
  · have HE : Hid (leftM t ⟨mn, mt, mv, ms, ml⟩ = ml - t + ms) := by
      have : 0 < ml := by omega
      simp only [Hid, leftM, this, if_true]
      omega
    have hne : (ml == 0) = false := by simp [hp]
    go_enter Try.func81, Try.ntmps81
    go_wp2_with fail
    go_ret
    exact ⟨ret_int HE.out.symm, TW.out _⟩
end Go.Proofs.Ytmjdndhfmfjbiab
