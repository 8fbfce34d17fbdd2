import Derived.Test.YtmjdndhfmfjbiaaGreatM24
import Derived.Laws.ResultCell
namespace Go.Proofs.YtmjdndhfmfjbiaaGreat
open Go.RowKit

theorem sing_flat (l : List ByteArray) (x : ByteArray) : (l ++ [x]).flatMap (fun f => [Value.string f]) = l.flatMap (fun f => [Value.string f]) ++ [Value.string x] := by simp

set_option maxRecDepth 100000 in
set_option maxHeartbeats 1000000 in
theorem hrWithFilter (fs : List ByteArray) (ao : Option Addr) (c : Nat) (s : ByteArray) (w : World) (hl : fs.length ≤ 1048576) (h : CellsAt w ao (fs.map Value.string)) :
    Calls Tryz.prog 80 #[.slice ao fs.length c, .string s] w fun e w' => ∃ v, e = .returned v ∧
      w'.ownsRow w.heap.size 9 1 v (insM ltB s fs).length ((insM ltB s fs).flatMap (fun f => [Value.string f])) ∧ Below w.heap.size w w' := by
  obtain ⟨i0, hi, hz0, hz1, hz2⟩ := info_parts infoStr
  have H : Hid (CellsAt w ao (fs.map Value.string)) := h
  clear h
  go_enter Tryz.func80, Tryz.ntmps80
  go_wp2_with fail
  go_loopw [5, 6, 7] (fun v p i wr => ∃ k : Nat, k ≤ fs.length ∧ i = .int .i64 k ∧ p = .bool (insTo ltB s fs k).2 ∧ wr.ownsRow w.heap.size 9 1 v (insTo ltB s fs k).1.length ((insTo ltB s fs k).1.flatMap (fun f => [Value.string f])) ∧ Below w.heap.size w wr) (fun _ _ i _ => fs.length - (intOf i).toNat)
  case atStart => exact ⟨0, Nat.zero_le _, rfl, rfl, World.ownsRow_nil _ _ _ _, Below.refl _ _⟩
  case round =>
    obtain ⟨k, hk, rfl, rfl, hown, hbr⟩ := hrel
    have hkl := (insTo_len ltB s fs k).1
    have hsz := hbr.size
    by_cases hlt : k < fs.length
    · obtain ⟨y, hy⟩ : ∃ y, fs[k]? = some y := ⟨_, List.getElem?_eq_getElem hlt⟩
      obtain ⟨g, rfl, hc0⟩ := H.out k _ (strs_get hy)
      have hc := cell_later hbr hc0
      have C0 : Hid (w.cell? ⟨g, k, none⟩ = some (.string y)) := hc0
      clear hc0
      have HST : Hid (insTo ltB s fs (k + 1) = if !(insTo ltB s fs k).2 && ltB s y then ((insTo ltB s fs k).1 ++ [s] ++ [y], true) else ((insTo ltB s fs k).1 ++ [y], (insTo ltB s fs k).2)) := insTo_step hy
      clear hy
      generalize hT : insTo ltB s fs k = T at *
      obtain ⟨T1, T2⟩ := T
      clear hT
      simp only at hown hkl
      cases T2
      · cases hlt' : ltB s y
        · have HK : Hid (insTo ltB s fs (k + 1) = (T1 ++ [y], false)) := by show _ = _; rw [HST.out, hlt']; rfl
          have hbl : Op.bytesLess s.toList y.toList = false := hlt'
          clear hlt'
          go_wp2_with (first | (at_builtin; refine wpList_append_own _ rfl _ _ 51 rfl w.heap.size 9 i0 _ 1 16 Tryz.underlying51 hi hz0 hz1 hz2 rfl (by decide) _ _ _ rfl (hown.alloc _) ⟨wr.heap.size, 0, none⟩ 1 1 [.string y] rfl rfl (cells_new _ _ _) (by simp [Value.oneCell']) (by unfold maxLen; omega) (by omega) (by simp; omega) ?_))
          intro v' w1 hown' hgrow _
          have R := grow_row (f := fun f => [Value.string f]) hown hbr hown' hgrow
          clear hown' hgrow hown
          go_wp2_with fail
          go_roundw
          case rel => exact ⟨k + 1, by omega, by go_num, by rw [HK.out], by rw [HK.out]; exact R.1, R.2⟩
          case measure => simp [intOf]; omega
        · have HK : Hid (insTo ltB s fs (k + 1) = (T1 ++ [s] ++ [y], true)) := by show _ = _; rw [HST.out, hlt']; rfl
          have hbl : Op.bytesLess s.toList y.toList = true := hlt'
          clear hlt'
          go_wp2_with (first | (at_builtin; refine wpList_append_own _ rfl _ _ 51 rfl w.heap.size 9 i0 _ 1 16 Tryz.underlying51 hi hz0 hz1 hz2 rfl (by decide) _ _ _ rfl (hown.alloc _) ⟨wr.heap.size, 0, none⟩ 1 1 [.string s] rfl rfl (cells_new _ _ _) (by simp [Value.oneCell']) (by unfold maxLen; omega) (by omega) (by simp; omega) ?_))
          intro v' w1 hown' hgrow _
          have R := grow_row (f := fun f => [Value.string f]) hown hbr hown' hgrow
          have hown1 := R.1
          have hbr1 := R.2
          have hsz1 := hbr1.size
          have hc1 := cell_later hbr1 C0.out
          obtain ⟨T3, hT3⟩ : ∃ T3, T1 ++ [s] = T3 := ⟨_, rfl⟩
          have HK2 : Hid (insTo ltB s fs (k + 1) = (T3 ++ [y], true)) := by show _ = _; rw [HK.out, hT3]
          have hl3 : T3.length ≤ k + 2 := by rw [← hT3]; simp; omega
          rw [hT3] at hown1
          clear hown' hgrow hown R hc hT3
          go_wp2_with (first | (at_builtin; refine wpList_append_own _ rfl _ _ 51 rfl w.heap.size 9 i0 _ 1 16 Tryz.underlying51 hi hz0 hz1 hz2 rfl (by decide) _ _ _ rfl (hown1.alloc _) ⟨w1.heap.size, 0, none⟩ 1 1 [.string y] rfl rfl (cells_new _ _ _) (by simp [Value.oneCell']) (by unfold maxLen; omega) (by omega) (by simp; omega) ?_))
          intro v2 w2 hown2 hgrow2 _
          have R2 := grow_row (f := fun f => [Value.string f]) hown1 hbr1 hown2 hgrow2
          clear hown2 hgrow2 hown1
          go_wp2_with fail
          go_roundw
          case rel => exact ⟨k + 1, by omega, by go_num, by rw [HK2.out], by rw [HK2.out]; exact R2.1, R2.2⟩
          case measure => simp [intOf]; omega
      · have HK : Hid (insTo ltB s fs (k + 1) = (T1 ++ [y], true)) := by show _ = _; rw [HST.out]; rfl
        go_wp2_with (first | (at_builtin; refine wpList_append_own _ rfl _ _ 51 rfl w.heap.size 9 i0 _ 1 16 Tryz.underlying51 hi hz0 hz1 hz2 rfl (by decide) _ _ _ rfl (hown.alloc _) ⟨wr.heap.size, 0, none⟩ 1 1 [.string y] rfl rfl (cells_new _ _ _) (by simp [Value.oneCell']) (by unfold maxLen; omega) (by omega) (by simp; omega) ?_))
        intro v' w1 hown' hgrow _
        have R := grow_row (f := fun f => [Value.string f]) hown hbr hown' hgrow
        clear hown' hgrow hown
        go_wp2_with fail
        go_roundw
        case rel => exact ⟨k + 1, by omega, by go_num, by rw [HK.out], by rw [HK.out]; exact R.1, R.2⟩
        case measure => simp [intOf]; omega
    · obtain rfl : k = fs.length := by omega
      have HEND : Hid (insM ltB s fs = if (insTo ltB s fs fs.length).2 then (insTo ltB s fs fs.length).1 else (insTo ltB s fs fs.length).1 ++ [s]) := insTo_end ltB s fs
      generalize hT : insTo ltB s fs fs.length = T at *
      obtain ⟨T1, T2⟩ := T
      clear hT
      simp only at hown hkl
      cases T2
      · have HE : Hid (insM ltB s fs = T1 ++ [s]) := HEND.out
        clear HEND
        go_wp2_with (first | (at_builtin; refine wpList_append_own _ rfl _ _ 51 rfl w.heap.size 9 i0 _ 1 16 Tryz.underlying51 hi hz0 hz1 hz2 rfl (by decide) _ _ _ rfl (hown.alloc _) ⟨wr.heap.size, 0, none⟩ 1 1 [.string s] rfl rfl (cells_new _ _ _) (by simp [Value.oneCell']) (by unfold maxLen; omega) (by omega) (by simp; omega) ?_))
        intro v' w1 hown' hgrow _
        have R := grow_row (f := fun f => [Value.string f]) hown hbr hown' hgrow
        clear hown' hgrow hown
        go_wp2_with fail
        go_ret
        exact ⟨_, rfl, by rw [HE.out]; exact R.1, R.2⟩
      · have HE : Hid (insM ltB s fs = T1) := HEND.out
        clear HEND
        go_wp2_with fail
        go_ret
        exact ⟨_, rfl, by rw [HE.out]; exact hown, hbr⟩
end Go.Proofs.YtmjdndhfmfjbiaaGreat

/-
  The program's own list of messages that wait.
-/
namespace Go.Proofs.YtmjdndhfmfjbiaaGreat
open Go.RowKit

abbrev waitV (x : WaitD) : Value := .agg #[.int .i64 x.number, .string x.topic, .int .i64 x.value, .int .i64 x.deadline, .int .i64 x.life]

set_option maxRecDepth 100000 in
theorem hrDeadlineOf (t d : Int) (w : World) (h0 : 0 ≤ t) (h1 : t ≤ 1099511627776) (h2 : 0 ≤ d) (h3 : d ≤ 1099511627776) :
    Calls Tryz.prog 87 #[.int .i64 t, .int .i64 d] w fun e w' => e = .returned (.int .i64 (laterM t d)) ∧ w' = w := by
  by_cases hgt : 1099511627776 < t + d
  · have HE : Hid (laterM t d = 1099511627776) := if_pos hgt
    go_enter Tryz.func87, Tryz.ntmps87
    go_wp2_with fail
    go_ret
    exact ⟨ret_int HE.out.symm, rfl⟩
  · have HE : Hid (laterM t d = t + d) := if_neg hgt
    go_enter Tryz.func87, Tryz.ntmps87
    go_wp2_with fail
    go_ret
    exact ⟨ret_int HE.out.symm, rfl⟩

set_option maxRecDepth 100000 in
theorem hrIsAhead (x y : WaitD) (w : World) : Calls Tryz.prog 112 #[waitV x, waitV y] w fun e w' => e = .returned (.bool (aheadB x y)) ∧ Below w.heap.size w w' := by
  obtain ⟨xn, xt, xv, xd, xl⟩ := x
  obtain ⟨yn, yt, yv, yd, yl⟩ := y
  have two : ∀ o1 o2 : Obj, Below w.heap.size w ((w.alloc o1).alloc o2) := fun o1 o2 => ((Below.refl _ _).alloc (Nat.le_refl _) _).alloc (by simp) _
  have TW : Hid (∀ o1 o2 : Obj, Below w.heap.size w ((w.alloc o1).alloc o2)) := two
  clear two
  by_cases hd : xd = yd
  · subst hd
    have HE : Hid (aheadB ⟨xn, xt, xv, xd, xl⟩ ⟨yn, yt, yv, xd, yl⟩ = decide (xn < yn)) := by simp [Hid, aheadB]
    go_enter Tryz.func112, Tryz.ntmps112
    go_wp2_with fail
    go_ret
    exact ⟨ret_bool' HE.out.symm, TW.out _ _⟩
  · have HE : Hid (aheadB ⟨xn, xt, xv, xd, xl⟩ ⟨yn, yt, yv, yd, yl⟩ = decide (xd < yd)) := by simp [Hid, aheadB, hd]
    have hd' : (xd != yd) = true := by simp [hd]
    go_enter Tryz.func112, Tryz.ntmps112
    go_wp2_with fail
    go_ret
    exact ⟨ret_bool' HE.out.symm, TW.out _ _⟩

set_option maxRecDepth 100000 in
set_option maxHeartbeats 1000000 in
theorem hrWithoutWaiting (ws : List WaitD) (ao : Option Addr) (c : Nat) (n : Int) (w : World) (hl : ws.length ≤ 1048576) (h : CellsAt w ao (ws.flatMap waitCells)) :
    Calls Tryz.prog 90 #[.slice ao ws.length c, .int .i64 n] w fun e w' => ∃ v, e = .returned v ∧
      w'.ownsRow w.heap.size 80 5 v (ws.filter (fun m => m.number != n)).length ((ws.filter (fun m => m.number != n)).flatMap waitCells) ∧ Below w.heap.size w w' := by
  obtain ⟨i0, hi, hz0, hz1, hz2⟩ := info_parts infoWait
  have H : Hid (CellsAt w ao (ws.flatMap waitCells)) := h
  clear h
  go_enter Tryz.func90, Tryz.ntmps90
  go_wp2_with fail
  go_loopw [5, 6] (fun v i wr => ∃ k : Nat, k ≤ ws.length ∧ i = .int .i64 k ∧ wr.ownsRow w.heap.size 80 5 v (kept (fun m : WaitD => m.number != n) ws k).length ((kept (fun m : WaitD => m.number != n) ws k).flatMap waitCells) ∧ Below w.heap.size w wr) (fun _ i _ => ws.length - (intOf i).toNat)
  case atStart => exact ⟨0, Nat.zero_le _, rfl, World.ownsRow_nil _ _ _ _, Below.refl _ _⟩
  case round =>
    obtain ⟨k, hk, rfl, hown, hbr⟩ := hrel
    have hkl := kept_le (fun m : WaitD => m.number != n) ws k
    have hsz := hbr.size
    by_cases hlt : k < ws.length
    · obtain ⟨y, hy⟩ : ∃ y, ws[k]? = some y := ⟨_, List.getElem?_eq_getElem hlt⟩
      obtain ⟨g, rfl, hg, c0, c1, c2, c3, c4⟩ := wait_cells (H.out.below hbr) hy
      cases hne : (y.number != n)
      · have HK : Hid (kept (fun m : WaitD => m.number != n) ws (k + 1) = kept (fun m : WaitD => m.number != n) ws k) := kept_miss hy hne
        clear hy
        go_wp2_with fail
        go_roundw
        case rel => exact ⟨k + 1, by omega, by go_num, by rw [HK.out]; exact hown, hbr⟩
        case measure => simp [intOf]; omega
      · have HK : Hid (kept (fun m : WaitD => m.number != n) ws (k + 1) = kept (fun m : WaitD => m.number != n) ws k ++ [y]) := kept_hit hy hne
        clear hy
        go_wp2_with (first | (at_builtin; refine wpList_append_own _ rfl _ _ 56 rfl w.heap.size 80 i0 _ 5 48 Tryz.underlying56 hi hz0 hz1 hz2 rfl (by decide) _ _ _ rfl (hown.alloc _) ⟨wr.heap.size, 0, none⟩ 1 1 (waitCells y) rfl rfl (cells_new _ _ _) (wait_one _) (by unfold maxLen; omega) (by omega) (by simp; omega) ?_))
        intro v' w1 hown' hgrow _
        have R := grow_row hown hbr hown' hgrow
        clear hown' hgrow hown
        go_wp2_with fail
        go_roundw
        case rel => exact ⟨k + 1, by omega, by go_num, by rw [HK.out]; exact R.1, R.2⟩
        case measure => simp [intOf]; omega
    · have HK : Hid (kept (fun m : WaitD => m.number != n) ws k = ws.filter (fun m : WaitD => m.number != n)) := kept_end _ _ _ (by omega)
      go_wp2_with fail
      go_ret
      exact ⟨_, rfl, by rw [← HK.out]; exact hown, hbr⟩

set_option maxRecDepth 100000 in
set_option maxHeartbeats 1000000 in
theorem hrCopyWaiting (ws : List WaitD) (ao : Option Addr) (c : Nat) (w : World) (hl : ws.length ≤ 1048576) (h : CellsAt w ao (ws.flatMap waitCells)) :
    Calls Tryz.prog 57 #[.slice ao ws.length c] w fun e w' => ∃ v, e = .returned v ∧ w'.ownsRow w.heap.size 80 5 v ws.length (ws.flatMap waitCells) ∧ Below w.heap.size w w' := by
  obtain ⟨i0, hi, hz0, hz1, hz2⟩ := info_parts infoWait
  have H : Hid (CellsAt w ao (ws.flatMap waitCells)) := h
  clear h
  go_enter Tryz.func57, Tryz.ntmps57
  go_wp2_with fail
  go_loopw [3, 4] (fun v i wr => ∃ k : Nat, k ≤ ws.length ∧ i = .int .i64 k ∧ wr.ownsRow w.heap.size 80 5 v (ws.take k).length ((ws.take k).flatMap waitCells) ∧ Below w.heap.size w wr) (fun _ i _ => ws.length - (intOf i).toNat)
  case atStart => exact ⟨0, Nat.zero_le _, rfl, World.ownsRow_nil _ _ _ _, Below.refl _ _⟩
  case round =>
    obtain ⟨k, hk, rfl, hown, hbr⟩ := hrel
    have hsz := hbr.size
    have htl : (ws.take k).length ≤ 1048576 := by rw [List.length_take]; omega
    by_cases hlt : k < ws.length
    · obtain ⟨y, hy⟩ : ∃ y, ws[k]? = some y := ⟨_, List.getElem?_eq_getElem hlt⟩
      obtain ⟨g, rfl, hg, c0, c1, c2, c3, c4⟩ := wait_cells (H.out.below hbr) hy
      have HK : Hid (ws.take (k + 1) = ws.take k ++ [y]) := by show _ = _; rw [List.take_add_one, hy]; rfl
      clear hy
      generalize hT : ws.take k = T at *
      clear hT
      go_wp2_with (first | (at_builtin; refine wpList_append_own _ rfl _ _ 56 rfl w.heap.size 80 i0 _ 5 48 Tryz.underlying56 hi hz0 hz1 hz2 rfl (by decide) _ _ _ rfl (hown.alloc _) ⟨wr.heap.size, 0, none⟩ 1 1 (waitCells y) rfl rfl (cells_new _ _ _) (wait_one _) (by unfold maxLen; omega) (by omega) (by simp; omega) ?_))
      intro v' w1 hown' hgrow _
      have R := grow_row hown hbr hown' hgrow
      clear hown' hgrow hown
      go_wp2_with fail
      go_roundw
      case rel => exact ⟨k + 1, by omega, by go_num, by rw [HK.out]; exact R.1, R.2⟩
      case measure => simp [intOf]; omega
    · have HK : Hid (ws.take k = ws) := List.take_of_length_le (by omega)
      go_wp2_with fail
      go_ret
      exact ⟨_, rfl, by rw [HK.out] at hown; exact hown, hbr⟩

def nobody : WaitD := ⟨0, ⟨#[]⟩, 0, 0, 0⟩
/-- The first of this Number. -/
def theOne (ws : List WaitD) (n : Int) : WaitD × Bool := match ws.find? (fun m => m.number == n) with
  | some m => (m, true)
  | none => (nobody, false)

set_option maxRecDepth 100000 in
set_option maxHeartbeats 1000000 in
theorem hrFindWaiting (ws : List WaitD) (ao : Option Addr) (c : Nat) (n : Int) (w : World) (hl : ws.length ≤ 1048576) (h : CellsAt w ao (ws.flatMap waitCells)) :
    Calls Tryz.prog 89 #[.slice ao ws.length c, .int .i64 n] w fun e w' => e = .returned (.tuple #[waitV (theOne ws n).1, .bool (theOne ws n).2]) ∧ Below w.heap.size w w' := by
  have H : Hid (CellsAt w ao (ws.flatMap waitCells)) := h
  clear h
  go_enter Tryz.func89, Tryz.ntmps89
  go_wp2_with fail
  have hb0 : Below w.heap.size w (w.alloc (.cells #[.int .i64 0, .string ⟨#[]⟩, .int .i64 0, .int .i64 0, .int .i64 0] 80)) := below_one _ _
  have HB0 : Hid (Below w.heap.size w (w.alloc (.cells #[.int .i64 0, .string ⟨#[]⟩, .int .i64 0, .int .i64 0, .int .i64 0] 80))) := hb0
  go_loop [6] (fun i => ∃ k : Nat, k ≤ ws.length ∧ i = .int .i64 k ∧ ∀ m ∈ ws.take k, (m.number == n) = false) (fun i => ws.length - (intOf i).toNat)
  case atStart => exact ⟨0, Nat.zero_le _, rfl, fun m hm => by simp at hm⟩
  case round =>
    obtain ⟨k, hk, rfl, hno⟩ := hrel
    have HNO : Hid (∀ m ∈ ws.take k, (m.number == n) = false) := hno
    clear hno
    by_cases hlt : k < ws.length
    · obtain ⟨y, hy⟩ : ∃ y, ws[k]? = some y := ⟨_, List.getElem?_eq_getElem hlt⟩
      obtain ⟨g, rfl, hg, c0, c1, c2, c3, c4⟩ := wait_cells (H.out.below hb0) hy
      have hgw : g < w.heap.size := by
        obtain ⟨g', e, hg', -⟩ := wait_cells H.out hy
        cases e
        exact hg'
      cases he : (y.number == n)
      · have HS : Hid (∀ m ∈ ws.take (k + 1), (m.number == n) = false) := by
          intro m hm
          rw [List.take_add_one, hy] at hm
          rcases List.mem_append.1 hm with hm | hm
          · exact HNO.out m hm
          · simp at hm; subst hm; exact he
        clear hy
        go_wp2_with fail
        go_round
        case rel => exact ⟨k + 1, by omega, by go_num, HS.out⟩
        case measure => simp [intOf]; omega
      · have HS : Hid (theOne ws n = (y, true)) := by
          have hfd : ws.find? (fun m => m.number == n) = some y := by
            rw [List.find?_eq_some_iff_getElem]
            obtain ⟨hl', rfl⟩ := List.getElem?_eq_some_iff.1 hy
            refine ⟨he, k, hl', rfl, fun j hj => ?_⟩
            have := HNO.out ws[j] (List.mem_take_iff_getElem.2 ⟨j, by omega, rfl⟩)
            simp [this]
          simp [Hid, theOne, hfd]
        clear hy
        go_wp2_with fail
        exact bodyPost_ret (v := .tuple #[waitV y, .bool true]) (by rw [results_cell_tmp rfl]; go_simp) rfl ⟨by rw [HS.out], below_one _ _⟩
    · have HS : Hid (theOne ws n = (nobody, false)) := by
        have hfd : ws.find? (fun m => m.number == n) = none := by
          rw [List.find?_eq_none]
          intro m hm
          have := HNO.out m (by rw [List.take_of_length_le (by omega)]; exact hm)
          simp [this]
        simp [Hid, theOne, hfd]
      go_wp2_with fail
      exact bodyPost_ret (v := .tuple #[waitV nobody, .bool false]) (by rw [results_cell_tmp rfl]; go_simp; exact ⟨rfl, rfl, rfl, rfl, rfl⟩) rfl ⟨by rw [HS.out], below_one _ _⟩
end Go.Proofs.YtmjdndhfmfjbiaaGreat
