import Derived.Test.YtmjdndhfmfjbiaaM07
import Derived.Deep.RegionWith
import Derived.ProofKit
import Derived.OpenShut
import Derived.JoinedCond
import Derived.ChangeSlices
import Derived.Deep.Slices
namespace Go.Proofs.Ytmjdndhfmfjbiaa
open Go.RowKit

set_option maxRecDepth 100000 in
set_option maxHeartbeats 1000000 in
theorem keepPlaced (ws : List WaitD) (ao : Option Addr) (c : Nat) (x : WaitD) (w : World) (hl : ws.length ≤ 1048576) (h : CellsAt w ao (ws.flatMap waitCells)) :
    Calls Try.prog 43 #[.slice ao ws.length c, waitV x] w fun e w' => ∃ v, e = .returned v ∧
      w'.ownsRow w.heap.size 44 5 v (insM aheadB x ws).length ((insM aheadB x ws).flatMap waitCells) ∧ Below w.heap.size w w' := by
  obtain ⟨i0, hi, hz0, hz1, hz2⟩ := info_parts infoWait
  have H : Hid (CellsAt w ao (ws.flatMap waitCells)) := h
  clear h
  go_enter Try.func43, Try.ntmps43
  go_wp2_with fail
  generalize hWA : w.alloc _ = wa
  have hbA : Below w.heap.size w wa := by rw [← hWA]; exact below_one _ _
  have hsA : w.heap.size < wa.heap.size := by rw [← hWA]; simp
  have h0 : wa.cell? ⟨w.heap.size, 0, none⟩ = some (.int .i64 x.number) := by rw [← hWA]; simp
  have h1 : wa.cell? ⟨w.heap.size, 1, none⟩ = some (.string x.topic) := by rw [← hWA]; simp
  have h2 : wa.cell? ⟨w.heap.size, 2, none⟩ = some (.int .i64 x.value) := by rw [← hWA]; simp
  have h3 : wa.cell? ⟨w.heap.size, 3, none⟩ = some (.int .i64 x.deadline) := by rw [← hWA]; simp
  have h4 : wa.cell? ⟨w.heap.size, 4, none⟩ = some (.int .i64 x.life) := by rw [← hWA]; simp
  have HA : Hid (CellsAt wa ao (ws.flatMap waitCells)) := H.out.below hbA
  clear hWA H
  go_loopw [5, 6, 7] (fun v p i wr => ∃ k : Nat, k ≤ ws.length ∧ i = .int .i64 k ∧ p = .bool (insTo aheadB x ws k).2 ∧ wr.ownsRow wa.heap.size 44 5 v (insTo aheadB x ws k).1.length ((insTo aheadB x ws k).1.flatMap waitCells) ∧ Below wa.heap.size wa wr) (fun _ _ i _ => ws.length - (intOf i).toNat)
  case atStart => exact ⟨0, Nat.zero_le _, rfl, rfl, World.ownsRow_nil _ _ _ _, Below.refl _ _⟩
  case round =>
    obtain ⟨k, hk, rfl, rfl, hown, hbr⟩ := hrel
    have hkl := (insTo_len aheadB x ws k).1
    have hsz := hbr.size
    have r0 := cell_later hbr h0
    have r1 := cell_later hbr h1
    have r2 := cell_later hbr h2
    have r3 := cell_later hbr h3
    have r4 := cell_later hbr h4
    by_cases hlt : k < ws.length
    · obtain ⟨y, hy⟩ : ∃ y, ws[k]? = some y := ⟨_, List.getElem?_eq_getElem hlt⟩
      obtain ⟨g, rfl, hg, c0, c1, c2, c3, c4⟩ := wait_cells (HA.out.below hbr) hy
      have HST : Hid (insTo aheadB x ws (k + 1) = if !(insTo aheadB x ws k).2 && aheadB x y then ((insTo aheadB x ws k).1 ++ [x] ++ [y], true) else ((insTo aheadB x ws k).1 ++ [y], (insTo aheadB x ws k).2)) := insTo_step hy
      have YY : Hid (ws[k]? = some y) := hy
      clear hy
      generalize hT : insTo aheadB x ws k = T at *
      obtain ⟨T1, T2⟩ := T
      clear hT
      simp only at hown hkl
      cases T2
      · cases hah : aheadB x y
        · have HK : Hid (insTo aheadB x ws (k + 1) = (T1 ++ [y], false)) := by show _ = _; rw [HST.out, hah]; rfl
          have HAH : Hid (aheadB x y = false) := hah
          clear hah
          go_wp2_with fail
          go_region_with (go_at_call 60; refine (keepAhead x y _).mono ?_; rintro e w2 ⟨rfl, hb2⟩; rw [HAH.out])
          all_goals have b2 : Below wr.heap.size wr w2 := below_drew.trans (hb2.mono (Nat.le_refl _))
          all_goals have hown2 := own_below hown b2
          all_goals have hbr2 : Below wa.heap.size wa w2 := hbr.trans (b2.mono hbr.size)
          all_goals have d0 := cell_later b2 c0
          all_goals have d1 := cell_later b2 c1
          all_goals have d2 := cell_later b2 c2
          all_goals have d3 := cell_later b2 c3
          all_goals have d4 := cell_later b2 c4
          all_goals have s0 := cell_later b2 r0
          all_goals have s1 := cell_later b2 r1
          all_goals have s2 := cell_later b2 r2
          all_goals have s3 := cell_later b2 r3
          all_goals have s4 := cell_later b2 r4
          all_goals have hs2 := b2.size
          all_goals have hg2 : g < w2.heap.size := by omega
          all_goals clear hb2 b2 hown
          all_goals go_wp2_with (first | (at_builtin; refine wpList_append_own _ rfl _ _ 40 rfl wa.heap.size 44 i0 _ 5 48 Try.underlying40 hi hz0 hz1 hz2 rfl (by decide) _ _ _ rfl (hown2.alloc _) ⟨w2.heap.size, 0, none⟩ 1 1 (waitCells y) rfl rfl (cells_new _ _ _) (wait_one _) (by unfold maxLen; omega) (by omega) (by simp; omega) ?_))
          all_goals intro v' w3 hown' hgrow _
          all_goals have R := grow_row hown2 hbr2 hown' hgrow
          all_goals clear hown' hgrow hown2
          all_goals go_wp2_with fail
          all_goals go_roundw
          all_goals first
            | (case rel => exact ⟨k + 1, by omega, by go_num, by rw [HK.out], by rw [HK.out]; exact R.1, R.2⟩)
            | (case measure => simp [intOf]; omega)
            | skip
        · have HK : Hid (insTo aheadB x ws (k + 1) = (T1 ++ [x] ++ [y], true)) := by show _ = _; rw [HST.out, hah]; rfl
          have HAH : Hid (aheadB x y = true) := hah
          clear hah
          go_wp2_with fail
          go_region_with (go_at_call 60; refine (keepAhead x y _).mono ?_; rintro e w2 ⟨rfl, hb2⟩; rw [HAH.out])
          all_goals have b2 : Below wr.heap.size wr w2 := below_drew.trans (hb2.mono (Nat.le_refl _))
          all_goals have hown2 := own_below hown b2
          all_goals have hbr2 : Below wa.heap.size wa w2 := hbr.trans (b2.mono hbr.size)
          all_goals have d0 := cell_later b2 c0
          all_goals have d1 := cell_later b2 c1
          all_goals have d2 := cell_later b2 c2
          all_goals have d3 := cell_later b2 c3
          all_goals have d4 := cell_later b2 c4
          all_goals have s0 := cell_later b2 r0
          all_goals have s1 := cell_later b2 r1
          all_goals have s2 := cell_later b2 r2
          all_goals have s3 := cell_later b2 r3
          all_goals have s4 := cell_later b2 r4
          all_goals have hs2 := b2.size
          all_goals have hg2 : g < w2.heap.size := by omega
          all_goals clear hb2 b2 hown
          all_goals go_wp2_with (first | (at_builtin; refine wpList_append_own _ rfl _ _ 40 rfl wa.heap.size 44 i0 _ 5 48 Try.underlying40 hi hz0 hz1 hz2 rfl (by decide) _ _ _ rfl (hown2.alloc _) ⟨w2.heap.size, 0, none⟩ 1 1 (waitCells x) rfl rfl (cells_new _ _ _) (wait_one _) (by unfold maxLen; omega) (by omega) (by simp; omega) ?_))
          all_goals intro v' w3 hown' hgrow _
          all_goals have R := grow_row hown2 hbr2 hown' hgrow
          all_goals obtain ⟨T3, hT3⟩ : ∃ T3, T1 ++ [x] = T3 := ⟨_, rfl⟩
          all_goals have HK2 : Hid (insTo aheadB x ws (k + 1) = (T3 ++ [y], true)) := (by show _ = _; rw [HK.out, hT3])
          all_goals have hl3 : T3.length ≤ k + 2 := (by rw [← hT3]; simp; omega)
          all_goals have hown3 := R.1
          all_goals have hbr3 := R.2
          all_goals rw [hT3] at hown3
          all_goals have hwy : CellsAt w3 (some ⟨g, 0, none⟩) (ws.flatMap waitCells) := HA.out.below hbr3
          all_goals obtain ⟨g', eg, hg3, f0, f1, f2, f3, f4⟩ := wait_cells hwy YY.out
          all_goals simp only [Option.some.injEq, Addr.mk.injEq, and_true] at eg
          all_goals subst eg
          all_goals have hs3 := hbr3.size
          all_goals clear hown' hgrow hown2 R hT3 hwy
          all_goals go_wp2_with (first | (at_builtin; refine wpList_append_own _ rfl _ _ 40 rfl wa.heap.size 44 i0 _ 5 48 Try.underlying40 hi hz0 hz1 hz2 rfl (by decide) _ _ _ rfl (hown3.alloc _) ⟨w3.heap.size, 0, none⟩ 1 1 (waitCells y) rfl rfl (cells_new _ _ _) (wait_one _) (by unfold maxLen; omega) (by omega) (by simp; omega) ?_))
          all_goals intro v4 w4 hown4 hgrow4 _
          all_goals have R4 := grow_row hown3 hbr3 hown4 hgrow4
          all_goals clear hown4 hgrow4 hown3
          all_goals go_wp2_with fail
          all_goals go_roundw
          all_goals first
            | (case rel => exact ⟨k + 1, by omega, by go_num, by rw [HK2.out], by rw [HK2.out]; exact R4.1, R4.2⟩)
            | (case measure => simp [intOf]; omega)
            | skip
      · cases hah : aheadB x y
        · have HK : Hid (insTo aheadB x ws (k + 1) = (T1 ++ [y], true)) := by show _ = _; rw [HST.out, hah]; rfl
          have HAH : Hid (aheadB x y = false) := hah
          clear hah
          go_wp2_with fail
          go_region_with (go_at_call 60; refine (keepAhead x y _).mono ?_; rintro e w2 ⟨rfl, hb2⟩; rw [HAH.out])
          all_goals have b2 : Below wr.heap.size wr w2 := below_drew.trans (hb2.mono (Nat.le_refl _))
          all_goals have hown2 := own_below hown b2
          all_goals have hbr2 : Below wa.heap.size wa w2 := hbr.trans (b2.mono hbr.size)
          all_goals have d0 := cell_later b2 c0
          all_goals have d1 := cell_later b2 c1
          all_goals have d2 := cell_later b2 c2
          all_goals have d3 := cell_later b2 c3
          all_goals have d4 := cell_later b2 c4
          all_goals have s0 := cell_later b2 r0
          all_goals have s1 := cell_later b2 r1
          all_goals have s2 := cell_later b2 r2
          all_goals have s3 := cell_later b2 r3
          all_goals have s4 := cell_later b2 r4
          all_goals have hs2 := b2.size
          all_goals have hg2 : g < w2.heap.size := by omega
          all_goals clear hb2 b2 hown
          all_goals go_wp2_with (first | (at_builtin; refine wpList_append_own _ rfl _ _ 40 rfl wa.heap.size 44 i0 _ 5 48 Try.underlying40 hi hz0 hz1 hz2 rfl (by decide) _ _ _ rfl (hown2.alloc _) ⟨w2.heap.size, 0, none⟩ 1 1 (waitCells y) rfl rfl (cells_new _ _ _) (wait_one _) (by unfold maxLen; omega) (by omega) (by simp; omega) ?_))
          all_goals intro v' w3 hown' hgrow _
          all_goals have R := grow_row hown2 hbr2 hown' hgrow
          all_goals clear hown' hgrow hown2
          all_goals go_wp2_with fail
          all_goals go_roundw
          all_goals first
            | (case rel => exact ⟨k + 1, by omega, by go_num, by rw [HK.out], by rw [HK.out]; exact R.1, R.2⟩)
            | (case measure => simp [intOf]; omega)
            | skip
        · have HK : Hid (insTo aheadB x ws (k + 1) = (T1 ++ [y], true)) := by show _ = _; rw [HST.out, hah]; rfl
          have HAH : Hid (aheadB x y = true) := hah
          clear hah
          go_wp2_with fail
          go_region_with (go_at_call 60; refine (keepAhead x y _).mono ?_; rintro e w2 ⟨rfl, hb2⟩; rw [HAH.out])
          all_goals have b2 : Below wr.heap.size wr w2 := below_drew.trans (hb2.mono (Nat.le_refl _))
          all_goals have hown2 := own_below hown b2
          all_goals have hbr2 : Below wa.heap.size wa w2 := hbr.trans (b2.mono hbr.size)
          all_goals have d0 := cell_later b2 c0
          all_goals have d1 := cell_later b2 c1
          all_goals have d2 := cell_later b2 c2
          all_goals have d3 := cell_later b2 c3
          all_goals have d4 := cell_later b2 c4
          all_goals have s0 := cell_later b2 r0
          all_goals have s1 := cell_later b2 r1
          all_goals have s2 := cell_later b2 r2
          all_goals have s3 := cell_later b2 r3
          all_goals have s4 := cell_later b2 r4
          all_goals have hs2 := b2.size
          all_goals have hg2 : g < w2.heap.size := by omega
          all_goals clear hb2 b2 hown
          all_goals go_wp2_with (first | (at_builtin; refine wpList_append_own _ rfl _ _ 40 rfl wa.heap.size 44 i0 _ 5 48 Try.underlying40 hi hz0 hz1 hz2 rfl (by decide) _ _ _ rfl (hown2.alloc _) ⟨w2.heap.size, 0, none⟩ 1 1 (waitCells y) rfl rfl (cells_new _ _ _) (wait_one _) (by unfold maxLen; omega) (by omega) (by simp; omega) ?_))
          all_goals intro v' w3 hown' hgrow _
          all_goals have R := grow_row hown2 hbr2 hown' hgrow
          all_goals clear hown' hgrow hown2
          all_goals go_wp2_with fail
          all_goals go_roundw
          all_goals first
            | (case rel => exact ⟨k + 1, by omega, by go_num, by rw [HK.out], by rw [HK.out]; exact R.1, R.2⟩)
            | (case measure => simp [intOf]; omega)
            | skip
    · obtain rfl : k = ws.length := by omega
      have HEND : Hid (insM aheadB x ws = if (insTo aheadB x ws ws.length).2 then (insTo aheadB x ws ws.length).1 else (insTo aheadB x ws ws.length).1 ++ [x]) := insTo_end aheadB x ws
      generalize hT : insTo aheadB x ws ws.length = T at *
      obtain ⟨T1, T2⟩ := T
      clear hT
      simp only at hown hkl
      cases T2
      · have HE : Hid (insM aheadB x ws = T1 ++ [x]) := HEND.out
        clear HEND
        go_wp2_with (first | (at_builtin; refine wpList_append_own _ rfl _ _ 40 rfl wa.heap.size 44 i0 _ 5 48 Try.underlying40 hi hz0 hz1 hz2 rfl (by decide) _ _ _ rfl (hown.alloc _) ⟨wr.heap.size, 0, none⟩ 1 1 (waitCells x) rfl rfl (cells_new _ _ _) (wait_one _) (by unfold maxLen; omega) (by omega) (by simp; omega) ?_))
        intro v' w1 hown' hgrow _
        have R := grow_row hown hbr hown' hgrow
        clear hown' hgrow hown
        go_wp2_with fail
        go_ret
        exact ⟨_, rfl, by rw [HE.out]; exact own_mono R.1 (by omega), hbA.trans (R.2.mono hbA.size)⟩
      · have HE : Hid (insM aheadB x ws = T1) := HEND.out
        clear HEND
        go_wp2_with fail
        go_ret
        exact ⟨_, rfl, by rw [HE.out]; exact own_mono hown (by omega), hbA.trans (hbr.mono hbA.size)⟩
end Go.Proofs.Ytmjdndhfmfjbiaa

namespace Go.Proofs.Ytmjdndhfmfjbiaa
open Go.RowKit

theorem fit_self (x : ByteArray) : fitAny [x] x = true := by
  unfold fitAny
  rw [List.any_cons, M.along_L, M.along_self]; rfl
theorem topic_filter {x : ByteArray} (h : M.isPathM false x = true) : M.isPathM true x = true := by
  rw [M.isPath_L] at h ⊢
  exact M.path_wild h

/-- A client subscribes, with nothing done before. -/
theorem sub_first {x : ByteArray} (hx : M.isPathM true x = true) (n : Nat) (hn : n < 8) (room : Int) (hr : 0 < room) (b c d : Int) :
    doErr (refNew room) ⟨1, n, b, c, d, x⟩ = 0 ∧ doS (refNew room) ⟨1, n, b, c, d, x⟩ = { refNew room with done := [⟨1, n, b, c, d, x⟩], fil := setAt (fun _ => []) n [x] } := by
  have hk : knownB (n : Int) = true := by simp [knownB]; omega
  have hz : wrongM (refNew room) ⟨1, n, b, c, d, x⟩ = 0 := by simp [wrongM, hk, hx, refNew, findM, subErr]
  obtain ⟨-, q2, q3⟩ := is_done hz (writes_not (by show (1 : Int) ≠ 6; decide)) (by show ((0 : Nat) : Int) < room; omega)
  exact ⟨q2, by rw [q3]; simp [turnM, refNew]⟩

/-- A message is sent at once. -/
theorem pub_now {S : RefS} {x : ByteArray} {v life : Int} (a : Int) (hx : M.isPathM false x = true) (hv0 : 0 ≤ v) (hv1 : v ≤ 1073741824) (hl0 : 0 ≤ life) (hl1 : life ≤ 1099511627776) (hr : (S.done.length : Int) < S.room) :
    doErr S ⟨3, a, v, 0, life, x⟩ = 0 ∧ doAns S ⟨3, a, v, 0, life, x⟩ = S.pub ∧ doS S ⟨3, a, v, 0, life, x⟩ = sendTo { S with done := S.done ++ [⟨3, a, v, 0, life, x⟩], pub := S.pub + 1 } ⟨S.pub, x, v, 0, life⟩ 8 := by
  have hz : wrongM S ⟨3, a, v, 0, life, x⟩ = 0 := by
    have h1 : isTimeM 0 = true := by decide
    have h2 : isTimeM life = true := by simp [isTimeM]; omega
    simp [wrongM, pubErr, hx, h1, h2]
    omega
  obtain ⟨q1, q2, q3⟩ := is_done hz (writes_not (by show (3 : Int) ≠ 6; decide)) hr
  exact ⟨q2, by unfold doAns; rw [q1]; rfl, by rw [q3]; simp [turnM]⟩

/-- What one client has of a message that is sent. -/
theorem send_at (S : RefS) (m : WaitD) (n : Nat) (hn : n < 8) : (sendTo S m 8).que n = if fitAny (S.fil n) m.topic then (if 10 ≤ (S.que n).length then S.que n else S.que n ++ [sentOf S m]) else S.que n := by
  have keep : ∀ k, n < k → (sendTo S m k).que n = (sendTo S m (n + 1)).que n := by
    intro k
    induction k with
    | zero => intro h; omega
    | succ k ih =>
      intro h
      by_cases e : k = n
      · subst e; rfl
      · rw [sendTo, ((sendOne_keeps (sendTo S m k) m k).2.2.2.2.2.2 n (by omega)).2, ih (by omega)]
  rw [keep 8 hn, sendTo]
  obtain ⟨k1, k2, -, -, -, -, k7⟩ := sendTo_keeps S m n
  have hq := (k7 n (Nat.le_refl _)).2
  unfold sendOne
  rw [k1]
  split
  · rw [hq]
    split
    · exact hq
    · show setAt (sendTo S m n).que n _ n = _
      rw [setAt_same]
      unfold sentOf
      rw [k2]
  · exact hq

theorem send_lost (S : RefS) (m : WaitD) (n : Nat) (hn : n < 8) : (sendTo S m 8).lost n = if fitAny (S.fil n) m.topic then (if 10 ≤ (S.que n).length then S.lost n + 1 else S.lost n) else S.lost n := by
  have keep : ∀ k, n < k → (sendTo S m k).lost n = (sendTo S m (n + 1)).lost n := by
    intro k
    induction k with
    | zero => intro h; omega
    | succ k ih =>
      intro h
      by_cases e : k = n
      · subst e; rfl
      · rw [sendTo, ((sendOne_keeps (sendTo S m k) m k).2.2.2.2.2.2 n (by omega)).1, ih (by omega)]
  rw [keep 8 hn, sendTo]
  obtain ⟨k1, k2, -, -, -, -, k7⟩ := sendTo_keeps S m n
  obtain ⟨hl, hq⟩ := k7 n (Nat.le_refl _)
  unfold sendOne
  rw [k1]
  split
  · rw [hq]
    split
    · show setAt (sendTo S m n).lost n _ n = _
      rw [setAt_same, hl]
    · exact hl
  · exact hl
end Go.Proofs.Ytmjdndhfmfjbiaa

/-
  heraldkeep: a broker of one's own, and its blocks.
-/
namespace Go.Proofs.Ytmjdndhfmfjbiaa
open Go.RowKit

/-- A broker that was made since, and the blocks that it takes up. -/
def MineF (w0 w : World) (H : Nat) (F : Nat → Prop) (S : RefS) : Prop := ∃ R, PRc w H F S R ∧ (∀ k, F k → w0.heap.size ≤ k) ∧ Below w0.heap.size w0 w ∧ Good S
theorem MineF.mine {w0 w : World} {H : Nat} {F : Nat → Prop} {S : RefS} (h : MineF w0 w H F S) : Mine w0 w H S := by
  obtain ⟨R, hp, hF, hb, hg⟩ := h
  exact ⟨F, R, hp, hF, hb, hg⟩
theorem Mine.mineF {w0 w : World} {H : Nat} {S : RefS} (h : Mine w0 w H S) : ∃ F, MineF w0 w H F S := by
  obtain ⟨F, R, hp, hF, hb, hg⟩ := h
  exact ⟨F, R, hp, hF, hb, hg⟩
theorem MineF.below {w0 w w1 : World} {H : Nat} {F : Nat → Prop} {S : RefS} (h : MineF w0 w H F S) (hb : Below w.heap.size w w1) : MineF w0 w1 H F S := by
  obtain ⟨R, hp, hF, hbw, hg⟩ := h
  exact ⟨R, hp.below hb, hF, hbw.trans (hb.mono hbw.size), hg⟩
theorem MineF.upd {P : Nat → Prop} {w0 w w1 : World} {H : Nat} {F : Nat → Prop} {S : RefS} (h : MineF w0 w H F S) (hu : Upd P w w1) (h0 : ∀ k, P k → w0.heap.size ≤ k) (hs : ∀ k, F k → ¬ P k) : MineF w0 w1 H F S := by
  obtain ⟨R, ⟨x, fil, wait, hb, hF1⟩, hF, hbw, hg⟩ := h
  exact ⟨R, ⟨x, fil, wait, hb.upd hu (fun i hi => hs i ((hF1 i).2 hi)), hF1⟩, hF, hbw.trans (below_of_upd hu hbw.size h0), hg⟩
theorem MineF.lt {w0 w : World} {H : Nat} {F : Nat → Prop} {S : RefS} {k : Nat} (h : MineF w0 w H F S) (hk : F k) : k < w.heap.size := by
  obtain ⟨R, hp, -, -, -⟩ := h
  exact hp.lt hk
/-- What an operation on it leaves. -/
def MineStep (w0 w : World) (H : Nat) (F : Nat → Prop) (S1 : RefS) (w1 : World) : Prop := ∃ F1, MineF w0 w1 H F1 S1 ∧ Upd F w w1 ∧ (∀ k, F k → w0.heap.size ≤ k) ∧ ∀ k, F1 k → F k ∨ w.heap.size ≤ k
theorem MineF.step {w0 w w1 : World} {H : Nat} {F : Nat → Prop} {S1 : RefS} {R : List ByteArray} (hF : ∀ k, F k → w0.heap.size ≤ k) (hbw : Below w0.heap.size w0 w) (hg : Good S1) (ho : Outcome PRc w H F R S1 w1) : MineStep w0 w H F S1 w1 := by
  obtain ⟨F1, R1, hp, hu, hk⟩ := ho
  refine ⟨F1, ⟨R ++ R1, hp, fun k h => ?_, hbw.trans (below_of_upd hu hbw.size hF), hg⟩, hu, hF, hk⟩
  rcases hk k h with h1 | h1
  · exact hF k h1
  · exact Nat.le_trans hbw.size h1

theorem mineFSub {w0 w : World} {H : Nat} {F : Nat → Prop} {S : RefS} (a b c d : Int) (s : ByteArray) (h : MineF w0 w H F S) (hs : s.size ≤ 1048576) :
    Calls Try.prog 16 #[.pointer (some ⟨H, 0, none⟩), .int .i64 a, .string s] w fun e w' => e = .returned (.int .i64 (doErr S ⟨1, a, b, c, d, s⟩)) ∧ MineStep w0 w H F (doS S ⟨1, a, b, c, d, s⟩) w' := by
  obtain ⟨R, hp, hF, hbw, hg⟩ := h
  refine (hrSubscribe a b c d s hp hg hs).mono ?_
  rintro e w1 ⟨rfl, ho⟩
  exact ⟨rfl, MineF.step hF hbw (hg.does ⟨⟨by show (1 : Int) ≤ 1; omega, by show (1 : Int) ≤ 7; omega⟩, hs⟩) ho⟩

theorem mineFUnsub {w0 w : World} {H : Nat} {F : Nat → Prop} {S : RefS} (a b c d : Int) (s : ByteArray) (h : MineF w0 w H F S) (hs : s.size ≤ 1048576) :
    Calls Try.prog 76 #[.pointer (some ⟨H, 0, none⟩), .int .i64 a, .string s] w fun e w' => e = .returned (.int .i64 (doErr S ⟨2, a, b, c, d, s⟩)) ∧ MineStep w0 w H F (doS S ⟨2, a, b, c, d, s⟩) w' := by
  obtain ⟨R, hp, hF, hbw, hg⟩ := h
  refine (hrUnsubscribe a b c d s hp hg hs).mono ?_
  rintro e w1 ⟨rfl, ho⟩
  exact ⟨rfl, MineF.step hF hbw (hg.does ⟨⟨by show (1 : Int) ≤ 2; omega, by show (2 : Int) ≤ 7; omega⟩, hs⟩) ho⟩

theorem mineFCancel {w0 w : World} {H : Nat} {F : Nat → Prop} {S : RefS} (a b c d : Int) (s : ByteArray) (h : MineF w0 w H F S) (hs : s.size ≤ 1048576) :
    Calls Try.prog 77 #[.pointer (some ⟨H, 0, none⟩), .int .i64 b] w fun e w' => e = .returned (.int .i64 (doErr S ⟨4, a, b, c, d, s⟩)) ∧ MineStep w0 w H F (doS S ⟨4, a, b, c, d, s⟩) w' := by
  obtain ⟨R, hp, hF, hbw, hg⟩ := h
  refine (hrCancel a b c d s hp hg).mono ?_
  rintro e w1 ⟨rfl, ho⟩
  exact ⟨rfl, MineF.step hF hbw (hg.does ⟨⟨by show (1 : Int) ≤ 4; omega, by show (4 : Int) ≤ 7; omega⟩, hs⟩) ho⟩

theorem mineFMove {w0 w : World} {H : Nat} {F : Nat → Prop} {S : RefS} (a b c d : Int) (s : ByteArray) (h : MineF w0 w H F S) (hs : s.size ≤ 1048576) :
    Calls Try.prog 78 #[.pointer (some ⟨H, 0, none⟩), .int .i64 b, .int .i64 c] w fun e w' => e = .returned (.int .i64 (doErr S ⟨5, a, b, c, d, s⟩)) ∧ MineStep w0 w H F (doS S ⟨5, a, b, c, d, s⟩) w' := by
  obtain ⟨R, hp, hF, hbw, hg⟩ := h
  refine (hrMove a b c d s hp hg).mono ?_
  rintro e w1 ⟨rfl, ho⟩
  exact ⟨rfl, MineF.step hF hbw (hg.does ⟨⟨by show (1 : Int) ≤ 5; omega, by show (5 : Int) ≤ 7; omega⟩, hs⟩) ho⟩

theorem mineFTick {w0 w : World} {H : Nat} {F : Nat → Prop} {S : RefS} (a b c d : Int) (s : ByteArray) (h : MineF w0 w H F S) (hs : s.size ≤ 1048576) :
    Calls Try.prog 17 #[.pointer (some ⟨H, 0, none⟩), .int .i64 b] w fun e w' => e = .returned (.int .i64 (doErr S ⟨6, a, b, c, d, s⟩)) ∧ MineStep w0 w H F (doS S ⟨6, a, b, c, d, s⟩) w' := by
  obtain ⟨R, hp, hF, hbw, hg⟩ := h
  refine (hrTick a b c d s hp hg).mono ?_
  rintro e w1 ⟨rfl, ho⟩
  exact ⟨rfl, MineF.step hF hbw (hg.does ⟨⟨by show (1 : Int) ≤ 6; omega, by show (6 : Int) ≤ 7; omega⟩, hs⟩) ho⟩

theorem mineFAck {w0 w : World} {H : Nat} {F : Nat → Prop} {S : RefS} (a b c d : Int) (s : ByteArray) (h : MineF w0 w H F S) (hs : s.size ≤ 1048576) :
    Calls Try.prog 79 #[.pointer (some ⟨H, 0, none⟩), .int .i64 a, .int .i64 b] w fun e w' => e = .returned (.int .i64 (doErr S ⟨7, a, b, c, d, s⟩)) ∧ MineStep w0 w H F (doS S ⟨7, a, b, c, d, s⟩) w' := by
  obtain ⟨R, hp, hF, hbw, hg⟩ := h
  refine (hrAck a b c d s hp hg).mono ?_
  rintro e w1 ⟨rfl, ho⟩
  exact ⟨rfl, MineF.step hF hbw (hg.does ⟨⟨by show (1 : Int) ≤ 7; omega, by show (7 : Int) ≤ 7; omega⟩, hs⟩) ho⟩

theorem mineFPub {w0 w : World} {H : Nat} {F : Nat → Prop} {S : RefS} (a b c d : Int) (s : ByteArray) (h : MineF w0 w H F S) (hs : s.size ≤ 1048576) :
    Calls Try.prog 25 #[.pointer (some ⟨H, 0, none⟩), .string s, .int .i64 b, .int .i64 c, .int .i64 d] w fun e w' => e = .returned (.tuple #[.int .i64 (doAns S ⟨3, a, b, c, d, s⟩), .int .i64 (doErr S ⟨3, a, b, c, d, s⟩)]) ∧ MineStep w0 w H F (doS S ⟨3, a, b, c, d, s⟩) w' := by
  obtain ⟨R, hp, hF, hbw, hg⟩ := h
  refine (hrPublish a b c d s hp hg hs).mono ?_
  rintro e w1 ⟨rfl, ho⟩
  exact ⟨rfl, MineF.step hF hbw (hg.does ⟨⟨by show (1 : Int) ≤ 3; omega, by show (3 : Int) ≤ 7; omega⟩, hs⟩) ho⟩
end Go.Proofs.Ytmjdndhfmfjbiaa

/-
  heraldkeep: messages that are published one by one, some at once, some later.
-/
namespace Go.Proofs.Ytmjdndhfmfjbiaa
open Go.RowKit

/-- A message that is to be published, raw. -/
structure LetD where
  delay : Int
  value : Int
  s : ByteArray
def LetsAt (w : World) (ao : Option Addr) (l : List LetD) : Prop := ∀ j y, l[j]? = some y → ∃ g off, ao = some ⟨g, off, none⟩ ∧ w.cell? ⟨g, off + j * 3, none⟩ = some (.int .i64 y.delay) ∧ w.cell? ⟨g, off + j * 3 + 1, none⟩ = some (.int .i64 y.value) ∧ w.cell? ⟨g, off + j * 3 + 2, none⟩ = some (.string y.s)

theorem MineF.lk {w0 w : World} {H : Nat} {F : Nat → Prop} {S : RefS} (h : MineF w0 w H F S) : ∃ fil, Lk S fil (waitingM S) := by
  obtain ⟨R, ⟨x, fil, wait, hb, -⟩, -, -, -⟩ := h
  have := hb.lk
  rw [← hb.lk.waiting] at this
  exact ⟨fil, this⟩

/-- A message that waits. -/
theorem pub_later {S : RefS} {x : ByteArray} {v c : Int} (a : Int) (hx : M.isPathM false x = true) (hv0 : 0 ≤ v) (hv1 : v ≤ 1073741824) (hc0 : 0 < c) (hc1 : c ≤ 1099511627776) (hw : S.wait.length < 64) (hr : (S.done.length : Int) < S.room) :
    doErr S ⟨3, a, v, c, 0, x⟩ = 0 ∧ doAns S ⟨3, a, v, c, 0, x⟩ = S.pub ∧ doS S ⟨3, a, v, c, 0, x⟩ = { S with done := S.done ++ [⟨3, a, v, c, 0, x⟩], pub := S.pub + 1, wait := S.wait ++ [⟨S.pub, x, v, laterM S.time c, 0⟩] } := by
  have hz : wrongM S ⟨3, a, v, c, 0, x⟩ = 0 := by
    have h1 : isTimeM 0 = true := by decide
    have h2 : isTimeM c = true := by simp [isTimeM]; omega
    have e : wrongM S ⟨3, a, v, c, 0, x⟩ = pubErr (M.isPathM false x) v c 0 S.wait.length := by simp [wrongM]
    rw [e, pubErr, hx, if_neg (by simp), if_neg (by omega), if_neg (by omega), h2, if_neg (by simp), h1, if_neg (by simp), if_pos hc0, if_neg (by omega)]
  obtain ⟨q1, q2, q3⟩ := is_done hz (writes_not (by show (3 : Int) ≠ 6; decide)) hr
  have hcne : c ≠ 0 := by omega
  exact ⟨q2, by unfold doAns; rw [q1]; rfl, by rw [q3]; simp [turnM, hcne]⟩

theorem waiting_later {S S1 : RefS} {fil : Nat → List ByteArray} {x : WaitD} (h : Lk S fil (waitingM S)) (hx : x.number = S.pub) (e1 : S1.fil = S.fil) (e2 : S1.wait = S.wait ++ [x]) (e3 : S1.pub = S.pub + 1) : waitingM S1 = insM aheadB x (waitingM S) := by
  have h1 := h.later hx
  have h2 : Lk S1 fil (insM aheadB x (waitingM S)) := h1.other e1 e2 (by rw [e3]; exact Int.le_refl _)
  exact h2.waiting
theorem waiting_same {S S1 : RefS} {fil : Nat → List ByteArray} (h : Lk S fil (waitingM S)) (e1 : S1.fil = S.fil) (e2 : S1.wait = S.wait) (e3 : S.pub ≤ S1.pub) : waitingM S1 = waitingM S := (h.other e1 e2 e3).waiting
theorem waiting_len {S : RefS} {fil : Nat → List ByteArray} (h : Lk S fil (waitingM S)) : (waitingM S).length = S.wait.length := h.waitP.length_eq

/-- Where the publishing stands: the client c takes all. -/
structure PubI (c : Nat) (now : Int) (S : RefS) (k : Nat) (MS : List MailD) (WS : List WaitD) (t : Nat) : Prop where
  time : S.time = now
  pub : S.pub = (k : Int)
  room : S.room = 500
  fit : ∀ x, fitAny (S.fil c) x = true
  wait : waitingM S = WS
  count : MS.length + WS.length = k
  que : (S.que c).map (mailOf now) = MS.take 10
  life : ∀ m ∈ S.que c, m.life = 0
  lost : S.lost c = ((MS.length - 10 : Nat) : Int)
  done : S.done.length ≤ t + k
  lifeW : ∀ m ∈ S.wait, m.life = 0

theorem PubI.start {c : Nat} {now : Int} {S : RefS} {t : Nat} (h1 : S.time = now) (h2 : S.pub = 0) (h3 : S.room = 500) (h4 : ∀ x, fitAny (S.fil c) x = true) (h5 : S.wait = []) (h6 : S.que c = []) (h7 : S.lost c = 0) (h8 : S.done.length ≤ t) : PubI c now S 0 [] [] t :=
  ⟨h1, h2, h3, h4, by unfold waitingM; rw [h5]; rfl, rfl, by rw [h6]; rfl, by rw [h6]; exact fun m hm => by simp at hm, h7, h8, by rw [h5]; exact fun m hm => by simp at hm⟩

theorem pubI_now {c : Nat} {now : Int} {S : RefS} {k : Nat} {MS : List MailD} {WS : List WaitD} {t : Nat} {fil : Nat → List ByteArray} (h : PubI c now S k MS WS t) (hlk : Lk S fil (waitingM S)) (hc : c < 8) (ht : t + k < 500) {x : ByteArray} {v : Int} (hx : M.isPathM false x = true) (hv0 : 0 ≤ v) (hv1 : v ≤ 1073741824) (a : Int) :
    doErr S ⟨3, a, v, 0, 0, x⟩ = 0 ∧ doAns S ⟨3, a, v, 0, 0, x⟩ = (k : Int) ∧ PubI c now (doS S ⟨3, a, v, 0, 0, x⟩) (k + 1) (MS ++ [⟨(k : Int), x, v, now, 0⟩]) WS t := by
  obtain ⟨p1, p2, p3⟩ := pub_now (S := S) (x := x) (v := v) (life := 0) a hx hv0 hv1 (by omega) (by omega) (by rw [h.room]; have := h.done; omega)
  refine ⟨p1, p2.trans h.pub, ?_⟩
  rw [p3]
  obtain ⟨k1, k2, k3, k4, k5, k6, -⟩ := sendTo_keeps { S with done := S.done ++ [⟨3, a, v, 0, 0, x⟩], pub := S.pub + 1 } ⟨S.pub, x, v, 0, 0⟩ 8
  have q := send_at { S with done := S.done ++ [⟨3, a, v, 0, 0, x⟩], pub := S.pub + 1 } ⟨S.pub, x, v, 0, 0⟩ c hc
  have l := send_lost { S with done := S.done ++ [⟨3, a, v, 0, 0, x⟩], pub := S.pub + 1 } ⟨S.pub, x, v, 0, 0⟩ c hc
  have q' : (sendTo { S with done := S.done ++ [⟨3, a, v, 0, 0, x⟩], pub := S.pub + 1 } ⟨S.pub, x, v, 0, 0⟩ 8).que c = if 10 ≤ (S.que c).length then S.que c else S.que c ++ [⟨S.pub, x, v, S.time, 0⟩] := by
    rw [q]
    show (if fitAny (S.fil c) x = true then (if 10 ≤ (S.que c).length then S.que c else S.que c ++ [sentOf _ _]) else S.que c) = _
    rw [h.fit x, if_pos rfl]; rfl
  have l' : (sendTo { S with done := S.done ++ [⟨3, a, v, 0, 0, x⟩], pub := S.pub + 1 } ⟨S.pub, x, v, 0, 0⟩ 8).lost c = if 10 ≤ (S.que c).length then S.lost c + 1 else S.lost c := by
    rw [l]
    show (if fitAny (S.fil c) x = true then (if 10 ≤ (S.que c).length then S.lost c + 1 else S.lost c) else S.lost c) = _
    rw [h.fit x, if_pos rfl]
  have hql : (S.que c).length = min 10 MS.length := by
    have := congrArg List.length h.que
    rw [List.length_map, List.length_take] at this
    exact this
  generalize sendTo { S with done := S.done ++ [⟨3, a, v, 0, 0, x⟩], pub := S.pub + 1 } ⟨S.pub, x, v, 0, 0⟩ 8 = T at *
  have hm : mailOf now ⟨S.pub, x, v, S.time, 0⟩ = ⟨(k : Int), x, v, now, 0⟩ := by rw [h.pub, h.time]; rfl
  have hcount := h.count
  refine ⟨k2.trans h.time, by rw [k6]; show S.pub + 1 = _; rw [h.pub]; push_cast; rfl, k5.trans h.room, by rw [k1]; exact h.fit, ?_, by rw [List.length_append]; simp; omega, ?_, ?_, ?_, by rw [k3]; have := h.done; simp; omega, by rw [k4]; exact h.lifeW⟩
  · rw [waiting_same hlk k1 k4 (by rw [k6]; show S.pub ≤ S.pub + 1; omega)]; exact h.wait
  · rw [q']
    by_cases hten : 10 ≤ (S.que c).length
    · rw [if_pos hten, h.que, List.take_append_of_le_length (by omega)]
    · rw [if_neg hten, List.map_append, h.que, List.map_cons, hm, List.map_nil, List.take_of_length_le (by omega), List.take_of_length_le (by simp; omega)]
  · rw [q']
    by_cases hten : 10 ≤ (S.que c).length
    · rw [if_pos hten]; exact h.life
    · rw [if_neg hten]
      intro m hm2
      rcases List.mem_append.1 hm2 with hm2 | hm2
      · exact h.life m hm2
      · rw [List.mem_singleton] at hm2; subst hm2; rfl
  · rw [l', h.lost]
    by_cases hten : 10 ≤ (S.que c).length
    · rw [if_pos hten, List.length_append, List.length_singleton]; omega
    · rw [if_neg hten, List.length_append, List.length_singleton]; omega

theorem pubI_later {c : Nat} {now : Int} {S : RefS} {k : Nat} {MS : List MailD} {WS : List WaitD} {t : Nat} {fil : Nat → List ByteArray} (h : PubI c now S k MS WS t) (hlk : Lk S fil (waitingM S)) (ht : t + k < 500) (hw : WS.length < 64) {x : ByteArray} {v d : Int} (hx : M.isPathM false x = true) (hv0 : 0 ≤ v) (hv1 : v ≤ 1073741824) (hd0 : 0 < d) (hd1 : d ≤ 1099511627776) (a : Int) :
    doErr S ⟨3, a, v, d, 0, x⟩ = 0 ∧ doAns S ⟨3, a, v, d, 0, x⟩ = (k : Int) ∧ PubI c now (doS S ⟨3, a, v, d, 0, x⟩) (k + 1) MS (insM aheadB ⟨(k : Int), x, v, laterM now d, 0⟩ WS) t := by
  have hwl : S.wait.length = WS.length := by rw [← waiting_len hlk, h.wait]
  obtain ⟨p1, p2, p3⟩ := pub_later (S := S) (x := x) (v := v) (c := d) a hx hv0 hv1 hd0 hd1 (by omega) (by rw [h.room]; have := h.done; omega)
  refine ⟨p1, p2.trans h.pub, ?_⟩
  rw [p3]
  have hcount := h.count
  have hlen : (insM aheadB (⟨(k : Int), x, v, laterM now d, 0⟩ : WaitD) WS).length = WS.length + 1 := by rw [(ins_perm aheadB _ WS).length_eq]; rfl
  refine ⟨h.time, by show S.pub + 1 = _; rw [h.pub]; push_cast; rfl, h.room, h.fit, ?_, by omega, h.que, h.life, h.lost, by have := h.done; simp; omega, fun m hm => ?_⟩
  rotate_left
  · rcases List.mem_append.1 hm with hm | hm
    · exact h.lifeW m hm
    · rw [List.mem_singleton] at hm; subst hm; rfl
  rw [waiting_later (S1 := { S with done := S.done ++ [⟨3, a, v, d, 0, x⟩], pub := S.pub + 1, wait := S.wait ++ [⟨S.pub, x, v, laterM S.time d, 0⟩] }) (x := ⟨S.pub, x, v, laterM S.time d, 0⟩) hlk rfl rfl rfl rfl, h.wait, h.pub, h.time]
end Go.Proofs.Ytmjdndhfmfjbiaa

namespace Go.Proofs.Ytmjdndhfmfjbiaa
open Go.RowKit

theorem typed_apart {w : World} {b1 b2 : Nat} {e1 e2 : TypeId} {s1 s2 n1 n2 : Nat} {v1 v2 : Value} {x1 x2 : List Value} (h1 : w.ownsRow b1 e1 s1 v1 n1 x1) (h2 : w.ownsRow b2 e2 s2 v2 n2 x2) (hne : e1 ≠ e2) : ∀ g, v1.ownBlock = some g → v2.ownBlock ≠ some g := fun _ hg1 hg2 =>
  typed_ne (Row.typed (own_mono h1 (Nat.zero_le _)) hg1) (Row.typed (own_mono h2 (Nat.zero_le _)) hg2) hne rfl

set_option maxRecDepth 100000 in
set_option maxHeartbeats 8000000 in
theorem keepPublished (c : Nat) (hc : c < 8) (n : Nat) (hn : n ≤ 64) (now : Int) (hn0 : 0 ≤ now) (hn1 : now ≤ 1099511627776) (t : Nat) (ht : t ≤ 100) (l : List LetD) (ao : Option Addr) (m cap : Nat) (hl : l.length = m) (w0 w : World) (hsc : LetsAt w0 ao l)
    (hbd : ∀ y ∈ l, (-9223372036854775808 ≤ y.delay ∧ y.delay ≤ 9223372036854775807) ∧ (-9223372036854775808 ≤ y.value ∧ y.value ≤ 9223372036854775807) ∧ y.s.size ≤ maxLen) (H : Nat) (F : Nat → Prop) (S : RefS) (hM : MineF w0 w H F S) (hI : PubI c now S 0 [] [] t) :
    Calls Try.prog 18 #[.pointer (some ⟨H, 0, none⟩), .slice ao m cap, .int .i64 (n : Int), .int .i64 now] w fun e w' => ∃ S1 F1 mv wv MS WS, e = .returned (.tuple #[mv, wv, .bool true]) ∧ (∃ k, k ≤ n ∧ PubI c now S1 k MS WS t) ∧ MineF w0 w' H F1 S1 ∧
      w'.ownsRow w.heap.size 46 5 mv MS.length (MS.flatMap mailCells) ∧ w'.ownsRow w.heap.size 44 5 wv WS.length (WS.flatMap waitCells) ∧ (∀ g, mv.ownBlock = some g → ¬ F1 g) ∧ (∀ g, wv.ownBlock = some g → ¬ F1 g) := by
  obtain ⟨i0, hi, hz0, hz1, hz2⟩ := info_parts infoMail
  have HL : Hid (l.length = m) := hl
  have HSC : Hid (LetsAt w0 ao l) := hsc
  have HBD : Hid (∀ y ∈ l, (-9223372036854775808 ≤ y.delay ∧ y.delay ≤ 9223372036854775807) ∧ (-9223372036854775808 ≤ y.value ∧ y.value ≤ 9223372036854775807) ∧ y.s.size ≤ maxLen) := hbd
  have HM0 : Hid (MineF w0 w H F S) := hM
  have HI0 : Hid (PubI c now S 0 [] [] t) := hI
  clear hl hsc hbd hM hI
  go_enter Try.func18, Try.ntmps18
  go_wp2_with fail
  go_loopw [11, 12, 13] (fun mv wv i wr => ∃ (k : Nat) (S1 : RefS) (F1 : Nat → Prop) (MS : List MailD) (WS : List WaitD), k ≤ m ∧ k ≤ n ∧ i = .int .i64 (k : Int) ∧ PubI c now S1 k MS WS t ∧ MineF w0 wr H F1 S1 ∧ w.heap.size ≤ wr.heap.size ∧
    wr.ownsRow w.heap.size 46 5 mv MS.length (MS.flatMap mailCells) ∧ wr.ownsRow w.heap.size 44 5 wv WS.length (WS.flatMap waitCells) ∧ (∀ g, mv.ownBlock = some g → ¬ F1 g) ∧ (∀ g, wv.ownBlock = some g → ¬ F1 g)) (fun _ _ i _ => n - (intOf i).toNat)
  case atStart => exact ⟨0, S, F, [], [], Nat.zero_le _, Nat.zero_le _, rfl, HI0.out, HM0.out, Nat.le_refl _, World.ownsRow_nil _ _ _ _, World.ownsRow_nil _ _ _ _, fun g hg => by simp [Value.ownBlock] at hg, fun g hg => by simp [Value.ownBlock] at hg⟩
  case round =>
    obtain ⟨k, S1, F1, MS, WS, hkm, hkn, rfl, hI, hM, hsz, hom, how, hapm, hapw⟩ := hrel
    have hcnt := hI.count
    have II : Hid (PubI c now S1 k MS WS t) := hI
    have MM : Hid (MineF w0 wr H F1 S1) := hM
    have APM : Hid _ := hapm
    have APW : Hid _ := hapw
    obtain ⟨fl, hlk⟩ := hM.lk
    have LK : Hid (Lk S1 fl (waitingM S1)) := hlk
    have hbw := hM.mine.out.size
    have hMSl : MS.length ≤ 64 := by omega
    have hWSl : WS.length ≤ 64 := by omega
    have HCNT : Hid (MS.length + WS.length = k) := hcnt
    clear hI hM hapm hapw hlk hcnt
    by_cases hlt : k < m ∧ k < n
    · obtain ⟨hlt1, hlt2⟩ := hlt
      obtain ⟨y, hy⟩ : ∃ y, l[k]? = some y := ⟨_, List.getElem?_eq_getElem (by rw [HL.out]; exact hlt1)⟩
      obtain ⟨⟨yd0, yd1⟩, ⟨yv0, yv1⟩, ys⟩ := HBD.out y (List.mem_of_getElem? hy)
      obtain ⟨gs, off, rfl, e0, e1, e2⟩ := HSC.out k y hy
      have f0 := cell_later MM.out.mine.out e0
      have f1 := cell_later MM.out.mine.out e1
      have f2 := cell_later MM.out.mine.out e2
      obtain ⟨am, cm, rfl, -, -, -⟩ := Row.form (row_of_own (w := w) hom nilV).1
      obtain ⟨aw, cw, rfl, -, -, hcw⟩ := Row.form (row_of_own (w := w) how nilV).1
      have HOM : Hid _ := hom
      have HOW : Hid _ := how
      have HCW : Hid (CellsAt wr aw (WS.flatMap waitCells)) := hcw
      clear hy hom how hcw e0 e1 e2
      go_wp2_with fail
      refine (keepTopic y.s _ ys).mono ?_
      rintro e w2 ⟨⟨x, rfl, hx⟩, hb2⟩
      have HX : Hid (M.isPathM false x = true) := hx
      have hxs : x.size ≤ 1048576 := Nat.le_trans (path15 hx) (by omega)
      have g0 := cell_later hb2 f0
      have g1 := cell_later hb2 f1
      have M2 : Hid (MineF w0 w2 H F1 S1) := MM.out.below hb2
      have HOM2 : Hid _ := own_below HOM.out hb2
      have HOW2 : Hid _ := own_below HOW.out hb2
      have HCW2 : Hid (CellsAt w2 aw (WS.flatMap waitCells)) := HCW.out.below hb2
      have hs2 : wr.heap.size ≤ w2.heap.size := hb2.size
      clear hx hb2 f0 f1 f2
      go_wp2_with fail
      refine (keepPick y.value 1073741825 _ yv0 yv1 (by omega) (by omega)).mono ?_
      rintro e w2 ⟨rfl, rfl⟩
      have hv := pick_bd y.value 1073741825 (by omega)
      generalize pickM y.value 1073741825 = V at *
      go_wp2_with fail
      refine (keepPick y.delay 1099511627777 _ yd0 yd1 (by omega) (by omega)).mono ?_
      rintro e w2 ⟨rfl, rfl⟩
      have hd := pick_bd y.delay 1099511627777 (by omega)
      generalize pickM y.delay 1099511627777 = D at *
      clear g0 g1
      by_cases hD : D = 0
      · subst hD
        obtain ⟨q1, q2, q3⟩ := pubI_now (v := V) II.out LK.out hc (by omega) HX.out (by omega) (by omega) 0
        have Q1 : Hid (doErr S1 ⟨3, 0, V, 0, 0, x⟩ = 0) := q1
        have Q2 : Hid (doAns S1 ⟨3, 0, V, 0, 0, x⟩ = (k : Int)) := q2
        have Q3 : Hid (PubI c now (doS S1 ⟨3, 0, V, 0, 0, x⟩) (k + 1) (MS ++ [⟨(k : Int), x, V, now, 0⟩]) WS t) := q3
        clear q1 q2 q3
        go_wp2_with fail
        refine (mineFPub 0 V 0 0 x M2.out hxs).mono ?_
        rintro e w5 ⟨rfl, F5, hm5, hu5, hF5, hk5⟩
        rw [Q1.out, Q2.out]
        have M5 : Hid (MineF w0 w5 H F5 (doS S1 ⟨3, 0, V, 0, 0, x⟩)) := hm5
        have HOM5 : Hid (w5.ownsRow w.heap.size 46 5 (.slice am MS.length cm) MS.length (MS.flatMap mailCells)) := own_upd HOM2.out hu5 (fun g hg hf => APM.out g hg hf)
        have HOW5 : Hid (w5.ownsRow w.heap.size 44 5 (.slice aw WS.length cw) WS.length (WS.flatMap waitCells)) := own_upd HOW2.out hu5 (fun g hg hf => APW.out g hg hf)
        have APM5 : Hid (∀ g, (Value.slice am MS.length cm).ownBlock = some g → ¬ F5 g) := fun g hg hf => (hk5 g hf).elim (APM.out g hg) (fun h2 => absurd (World.ownsRow.lt HOM2.out g hg).2 (by omega))
        have APW5 : Hid (∀ g, (Value.slice aw WS.length cw).ownBlock = some g → ¬ F5 g) := fun g hg hf => (hk5 g hf).elim (APW.out g hg) (fun h2 => absurd (World.ownsRow.lt HOW2.out g hg).2 (by omega))
        have hs5 : w2.heap.size ≤ w5.heap.size := hu5.size
        clear hm5 hu5 hF5 hk5
        obtain ⟨v6, w6, hrun, hown6, hgrow, -, hat⟩ := run_append_own_at (P := Try.prog) (w5.alloc (.cells (mailCells ⟨(k : Int), x, V, now, 0⟩).toArray 46)) w.heap.size 39 39 46 i0 _ 5 48 Try.underlying39 hi hz0 hz1 hz2 rfl (by omega) _ _ _ (World.ownsRow.alloc HOM5.out _) ⟨w5.heap.size, 0, none⟩ 1 1 (mailCells ⟨(k : Int), x, V, now, 0⟩) rfl (cells_new _ _ _) (mail_one _) (by unfold maxLen; omega) (by omega) (by simp; omega)
        have hu6 : Upd (fun i => (Value.slice am MS.length cm).ownBlock = some i) (w5.alloc (.cells (mailCells ⟨(k : Int), x, V, now, 0⟩).toArray 46)) w6 := (Upd.refl _ _).grown hgrow (fun i e _ => e)
        have hb0 : w0.heap.size ≤ w.heap.size := HM0.out.mine.out.size
        have M6 : Hid (MineF w0 w6 H F5 (doS S1 ⟨3, 0, V, 0, 0, x⟩)) :=
          (M5.out.below (below_one _ _)).upd hu6 (fun g hg => Nat.le_trans hb0 (World.ownsRow.lt HOM5.out g hg).1) (fun g hf hg => APM5.out g hg hf)
        have HOM6 : Hid (w6.ownsRow w.heap.size 46 5 v6 (MS ++ [(⟨(k : Int), x, V, now, 0⟩ : MailD)]).length ((MS ++ [(⟨(k : Int), x, V, now, 0⟩ : MailD)]).flatMap mailCells)) := by
          show World.ownsRow _ _ _ _ _ _ _
          simpa using hown6
        have HOW6 : Hid (w6.ownsRow w.heap.size 44 5 (.slice aw WS.length cw) WS.length (WS.flatMap waitCells)) := own_upd (World.ownsRow.alloc HOW5.out _) hu6 (fun g hg e => typed_apart HOW5.out HOM5.out (by decide) g hg e)
        have APM6 : Hid (∀ g, v6.ownBlock = some g → ¬ F5 g) := fun g hg hf => by
          rcases hat with h | h
          · exact APM5.out g (h.symm.trans hg) hf
          · rw [h] at hg
            simp at hg
            have := M5.out.lt hf
            omega
        have hs6 : w5.heap.size ≤ w6.heap.size := Nat.le_trans (by simp) hu6.size
        clear hown6 hgrow hat hu6
        go_wp2_with (first | (at_builtin; refine wpList_append_run rfl _ _ 39 rfl _ _ _ _ rfl rfl hrun ?_))
        go_wp2_with fail
        go_roundw
        case rel => exact ⟨k + 1, _, F5, _, WS, by omega, by omega, by go_num, Q3.out, M6.out, by omega, HOM6.out, HOW6.out, APM6.out, APW5.out⟩
        case measure => simp [intOf]; omega
      · have hD0 : 0 < D := by omega
        have hDb : (D == 0) = false := by simp; omega
        have hWS : WS.length < 64 := by have := HCNT.out; omega
        obtain ⟨q1, q2, q3⟩ := pubI_later II.out LK.out (by omega) hWS HX.out (by omega) (by omega) hD0 (by omega) 0 (v := V)
        have Q1 : Hid (doErr S1 ⟨3, 0, V, D, 0, x⟩ = 0) := q1
        have Q2 : Hid (doAns S1 ⟨3, 0, V, D, 0, x⟩ = (k : Int)) := q2
        have Q3 : Hid (PubI c now (doS S1 ⟨3, 0, V, D, 0, x⟩) (k + 1) MS (insM aheadB ⟨(k : Int), x, V, laterM now D, 0⟩ WS) t) := q3
        clear q1 q2 q3
        go_wp2_with fail
        refine (mineFPub 0 V D 0 x M2.out hxs).mono ?_
        rintro e w5 ⟨rfl, F5, hm5, hu5, hF5, hk5⟩
        rw [Q1.out, Q2.out]
        have M5 : Hid (MineF w0 w5 H F5 (doS S1 ⟨3, 0, V, D, 0, x⟩)) := hm5
        have HOM5 : Hid (w5.ownsRow w.heap.size 46 5 (.slice am MS.length cm) MS.length (MS.flatMap mailCells)) := own_upd HOM2.out hu5 (fun g hg hf => APM.out g hg hf)
        have HOW5 : Hid (w5.ownsRow w.heap.size 44 5 (.slice aw WS.length cw) WS.length (WS.flatMap waitCells)) := own_upd HOW2.out hu5 (fun g hg hf => APW.out g hg hf)
        have APM5 : Hid (∀ g, (Value.slice am MS.length cm).ownBlock = some g → ¬ F5 g) := fun g hg hf => (hk5 g hf).elim (APM.out g hg) (fun h2 => absurd (World.ownsRow.lt HOM2.out g hg).2 (by omega))
        have hs5 : w2.heap.size ≤ w5.heap.size := hu5.size
        obtain ⟨aw5, cw5, hvw5, -, -, hcw5⟩ := Row.form (row_of_own (w := w) HOW5.out nilV).1
        simp only [Value.slice.injEq, true_and] at hvw5
        obtain ⟨rfl, rfl⟩ := hvw5
        have HCW5 : Hid (CellsAt w5 aw (WS.flatMap waitCells)) := hcw5
        clear hm5 hu5 hF5 hk5 hcw5
        have HPL : Hid (∀ w', CellsAt w' aw (WS.flatMap waitCells) → Calls Try.prog 43 #[.slice aw WS.length cw, .agg #[.int .i64 (k : Int), .string x, .int .i64 V, .int .i64 (laterM now D), .int .i64 0]] w' fun e w6 => ∃ v, e = .returned v ∧
            w6.ownsRow w'.heap.size 44 5 v (insM aheadB ⟨(k : Int), x, V, laterM now D, 0⟩ WS).length ((insM aheadB ⟨(k : Int), x, V, laterM now D, 0⟩ WS).flatMap waitCells) ∧ Below w'.heap.size w' w6) :=
          fun w' h => keepPlaced WS aw cw ⟨(k : Int), x, V, laterM now D, 0⟩ w' (by omega) h
        go_wp2_with fail
        refine (keepLater now D _ hn0 hn1 (by omega) (by omega)).mono ?_
        rintro e w5 ⟨rfl, rfl⟩
        go_wp2_with fail
        refine (HPL.out _ HCW5.out).mono ?_
        rintro e w6 ⟨v6, rfl, ho6, hb6⟩
        have M6 : Hid (MineF w0 w6 H F5 (doS S1 ⟨3, 0, V, D, 0, x⟩)) := M5.out.below hb6
        have HOM6 : Hid (w6.ownsRow w.heap.size 46 5 (.slice am MS.length cm) MS.length (MS.flatMap mailCells)) := own_below HOM5.out hb6
        have HOW6 : Hid (w6.ownsRow w.heap.size 44 5 v6 (insM aheadB ⟨(k : Int), x, V, laterM now D, 0⟩ WS).length ((insM aheadB ⟨(k : Int), x, V, laterM now D, 0⟩ WS).flatMap waitCells)) := own_mono ho6 (by omega)
        have APW6 : Hid (∀ g, v6.ownBlock = some g → ¬ F5 g) := fun g hg hf => by
          have h1 := (World.ownsRow.lt ho6 g hg).1
          have h2 := M5.out.lt hf
          omega
        have hs6 := hb6.size
        clear ho6 hb6
        go_wp2_with fail
        go_roundw
        case rel => exact ⟨k + 1, _, F5, MS, _, by omega, by omega, by go_num, Q3.out, M6.out, by omega, HOM6.out, HOW6.out, APM5.out, APW6.out⟩
        case measure => simp [intOf]; omega
    · by_cases hk2 : k < m
      · have hk3 : ¬ k < n := fun h => hlt ⟨hk2, h⟩
        clear hlt
        have HOM : Hid _ := hom
        have HOW : Hid _ := how
        clear hom how
        go_wp2_with fail
        go_ret3
        exact ⟨S1, F1, _, _, MS, WS, rfl, ⟨k, hkn, II.out⟩, MM.out, HOM.out, HOW.out, APM.out, APW.out⟩
      · clear hlt
        have HOM : Hid _ := hom
        have HOW : Hid _ := how
        clear hom how
        go_wp2_with fail
        go_ret3
        exact ⟨S1, F1, _, _, MS, WS, rfl, ⟨k, hkn, II.out⟩, MM.out, HOM.out, HOW.out, APM.out, APW.out⟩
end Go.Proofs.Ytmjdndhfmfjbiaa

/-
  heraldkeep.Once: each message once, in its order; the math.
-/
namespace Go.Proofs.Ytmjdndhfmfjbiaa
open Go.RowKit

def mailAt (b : Int) (x : WaitD) : MailD := ⟨x.number, x.topic, x.value, b, 0⟩

/-- A client that takes all, and has room. -/
theorem sendAll_que (D : List WaitD) : ∀ (T : RefS) (c : Nat), c < 8 → (∀ x, fitAny (T.fil c) x = true) → (T.que c).length + D.length ≤ 10 → (sendAll T D).que c = T.que c ++ D.map (sentOf T) ∧ (sendAll T D).lost c = T.lost c := by
  induction D with
  | nil => intro T c _ _ _; exact ⟨by simp [sendAll], rfl⟩
  | cons m D ih =>
    intro T c hc hfit hlen
    rw [List.length_cons] at hlen
    have hq : (sendTo T m 8).que c = T.que c ++ [sentOf T m] := by rw [send_at T m c hc, hfit m.topic]; simp only [if_true]; rw [if_neg (by omega)]
    have hl : (sendTo T m 8).lost c = T.lost c := by rw [send_lost T m c hc, hfit m.topic]; simp only [if_true]; rw [if_neg (by omega)]
    obtain ⟨i1, i2⟩ := ih (sendTo T m 8) c hc (by rw [(sendTo_keeps T m 8).1]; exact hfit) (by rw [hq]; simp; omega)
    rw [sendAll_cons]
    refine ⟨?_, i2.trans hl⟩
    rw [i1, hq, List.map_cons, List.append_assoc]
    have hs : sentOf (sendTo T m 8) = sentOf T := by funext y; unfold sentOf; rw [(sendTo_keeps T m 8).2.1]
    rw [hs]; rfl

theorem sendAll_done (D : List WaitD) : ∀ (T : RefS), (sendAll T D).done = T.done := by
  induction D with
  | nil => exact fun T => rfl
  | cons m D ih => intro T; rw [sendAll_cons, ih, (sendTo_keeps T m 8).2.2.1]

structure OnceI (now : Int) (S : RefS) (MS : List MailD) (WS : List WaitD) (t : Nat) : Prop where
  time : S.time = now
  room : S.room = 500
  wait : waitingM S = WS
  fit : ∀ x, fitAny (S.fil 0) x = true
  life : ∀ m ∈ S.que 0, m.life = 0
  lifeW : ∀ m ∈ S.wait, m.life = 0
  que : (S.que 0).map (mailOf 0) = MS
  few : MS.length + WS.length ≤ 10
  lost : S.lost 0 = 0
  done : S.done.length ≤ t

theorem mail_zero {m : SentD} (h : m.life = 0) (t : Int) : mailOf t m = mailOf 0 m := by
  unfold mailOf leftM
  rw [h]; rfl
theorem alive_once {t : Int} {l : List SentD} (h : ∀ m ∈ l, m.life = 0) : l.filter (aliveB t) = l := List.filter_eq_self.2 (fun m hm => by
  unfold aliveB
  rw [h m hm]; rfl)

theorem once_tick {now b : Int} {S : RefS} {MS : List MailD} {WS : List WaitD} {t : Nat} {fil : Nat → List ByteArray} (h : OnceI now S MS WS t) (hlk : Lk S fil (waitingM S)) (ht : t < 500) (h0 : now < b) (hb0 : 0 ≤ b) (h1 : b ≤ 1099511627776) (a c d : Int) (s : ByteArray) :
    doErr S ⟨6, a, b, c, d, s⟩ = 0 ∧ OnceI b (doS S ⟨6, a, b, c, d, s⟩) (MS ++ (WS.filter (dueB b)).map (mailAt b)) (WS.filter (fun x => !dueB b x)) (t + 1) := by
  have hz : wrongM S ⟨6, a, b, c, d, s⟩ = 0 := by
    have htm : isTimeM b = true := by simp [isTimeM]; omega
    simp [wrongM, tickErr, htm]
  have hwb : writesB S ⟨6, a, b, c, d, s⟩ = true := by simp [writesB, h.time]; omega
  obtain ⟨-, q2, q3⟩ := is_done hz hwb (by rw [h.room]; have := h.done; omega)
  have e : turnM { S with done := S.done ++ [⟨6, a, b, c, d, s⟩] } ⟨6, a, b, c, d, s⟩ = tickM { S with done := S.done ++ [⟨6, a, b, c, d, s⟩] } b := by simp [turnM]
  obtain ⟨g1, g2, g3, g4, g5, g6, g7, g8⟩ := aged_keeps { S with done := S.done ++ [⟨6, a, b, c, d, s⟩] } b 8
  obtain ⟨W, hW1, hW2⟩ := hlk.ticked (T := agedTo { S with done := S.done ++ [⟨6, a, b, c, d, s⟩] } b 8) b g4
  rw [h.wait] at hW1 hW2
  have hS : doS S ⟨6, a, b, c, d, s⟩ = waited (sendAll (agedTo { S with done := S.done ++ [⟨6, a, b, c, d, s⟩] } b 8) (WS.filter (dueB b))) W := by rw [q3, e, tickM]; exact hW1
  have hq : (agedTo { S with done := S.done ++ [⟨6, a, b, c, d, s⟩] } b 8).que 0 = S.que 0 := by rw [g8, if_pos (by omega)]; exact alive_once h.life
  have hql : (S.que 0).length = MS.length := by rw [← h.que, List.length_map]
  have hfl : (WS.filter (dueB b)).length + (WS.filter (fun x => !dueB b x)).length = WS.length := by
    rw [← List.length_append]
    exact (List.filter_append_perm (dueB b) WS).length_eq
  have hfew := h.few
  obtain ⟨s1, s2⟩ := sendAll_que (WS.filter (dueB b)) (agedTo { S with done := S.done ++ [⟨6, a, b, c, d, s⟩] } b 8) 0 (by omega) (by rw [g1]; exact h.fit) (by rw [hq, hql]; omega)
  obtain ⟨k1, k2, k3, k4⟩ := sendAll_keeps (WS.filter (dueB b)) (agedTo { S with done := S.done ++ [⟨6, a, b, c, d, s⟩] } b 8)
  have hmem : ∀ m ∈ WS, m.life = 0 := fun m hm => by
    rw [← h.wait] at hm
    exact h.lifeW m (hlk.waitP.mem_iff.1 hm)
  have hso : ∀ x, sentOf (agedTo { S with done := S.done ++ [⟨6, a, b, c, d, s⟩] } b 8) x = ⟨x.number, x.topic, x.value, b, x.life⟩ := fun x => by unfold sentOf; rw [g2]
  have hlk2 : Lk (doS S ⟨6, a, b, c, d, s⟩) fil (WS.filter (fun x => !dueB b x)) := by
    have := hlk.tick (S1 := doS S ⟨6, a, b, c, d, s⟩) (W := W) b (by rw [hS]; exact k1.trans g1) (by rw [hS]; rfl) (by rw [hS]; exact (sendAll_pub _ _).trans g6) (by rw [h.wait]; exact hW2)
    rw [h.wait] at this
    exact this
  refine ⟨q2, ⟨?_, ?_, hlk2.waiting, ?_, ?_, ?_, ?_, ?_, ?_, ?_⟩⟩
  · rw [hS]; exact k2.trans g2
  · exact (do_room S _).trans h.room
  · rw [hS]; show ∀ x, fitAny ((sendAll _ _).fil 0) x = true; rw [k1, g1]; exact h.fit
  · rw [hS]
    show ∀ m ∈ (sendAll _ _).que 0, m.life = 0
    rw [s1, hq]
    intro m hm
    rcases List.mem_append.1 hm with hm | hm
    · exact h.life m hm
    · obtain ⟨x, hx, rfl⟩ := List.mem_map.1 hm
      rw [hso x]
      exact hmem x (List.mem_filter.1 hx).1
  · intro m hm
    have := hlk2.waitP.mem_iff.2 hm
    exact hmem m (List.mem_filter.1 this).1
  · rw [hS]
    show ((sendAll _ _).que 0).map (mailOf 0) = _
    rw [s1, hq, List.map_append, h.que, List.map_map]
    congr 1
    apply List.map_congr_left
    intro x hx
    show mailOf 0 (sentOf _ x) = mailAt b x
    rw [hso x, hmem x (List.mem_filter.1 hx).1]; rfl
  · rw [List.length_append, List.length_map]; omega
  · rw [hS]; show (sendAll _ _).lost 0 = 0; rw [s2, g7]; exact h.lost
  · rw [hS]
    show (sendAll _ _).done.length ≤ t + 1
    rw [sendAll_done, g3]
    have := h.done
    simp
    omega

/-- Of a sorted row what is due stands ahead. -/
theorem due_head {b : Int} {x : WaitD} {WS : List WaitD} (hs : SortedW (x :: WS)) (hx : dueB b x = false) : (x :: WS).filter (dueB b) = [] ∧ (x :: WS).filter (fun y => !dueB b y) = x :: WS := by
  obtain ⟨h1, -⟩ := List.pairwise_cons.1 hs
  have hall : ∀ y ∈ x :: WS, dueB b y = false := fun y hy => by
    rcases List.mem_cons.1 hy with rfl | hy
    · exact hx
    · have := h1 y hy
      simp only [aheadB, Bool.or_eq_true, Bool.and_eq_true, decide_eq_true_eq, beq_iff_eq] at this
      simp only [dueB, decide_eq_false_iff_not] at hx ⊢
      omega
  exact ⟨List.filter_eq_nil_iff.2 (fun y hy => by rw [hall y hy]; decide), List.filter_eq_self.2 (fun y hy => by rw [hall y hy]; rfl)⟩
end Go.Proofs.Ytmjdndhfmfjbiaa

namespace Go.Proofs.Ytmjdndhfmfjbiaa
open Go.RowKit

/-- Numbers of an argument. -/
def NumsAt (w : World) (ao : Option Addr) (l : List Int) : Prop := ∀ j z, l[j]? = some z → ∃ g off, ao = some ⟨g, off, none⟩ ∧ w.cell? ⟨g, off + j, none⟩ = some (.int .i64 z)
/-- What is left of a row whose head was cut off. -/
def TailAt (w : World) (g off : Nat) (ws : List WaitD) : Prop := ∀ j y, ws[j]? = some y → w.cell? ⟨g, off + j * 5, none⟩ = some (.int .i64 y.number) ∧ w.cell? ⟨g, off + j * 5 + 1, none⟩ = some (.string y.topic) ∧ w.cell? ⟨g, off + j * 5 + 2, none⟩ = some (.int .i64 y.value) ∧ w.cell? ⟨g, off + j * 5 + 3, none⟩ = some (.int .i64 y.deadline) ∧ w.cell? ⟨g, off + j * 5 + 4, none⟩ = some (.int .i64 y.life)
theorem TailAt.tail {w : World} {g off : Nat} {x : WaitD} {ws : List WaitD} (h : TailAt w g off (x :: ws)) : TailAt w g (off + 5) ws := fun j y hy => by
  obtain ⟨h0, h1, h2, h3, h4⟩ := h (j + 1) y (by simpa using hy)
  have e : off + (j + 1) * 5 = off + 5 + j * 5 := by omega
  rw [e] at h0 h1 h2 h3 h4
  exact ⟨h0, h1, h2, h3, h4⟩
theorem TailAt.upd {P : Nat → Prop} {w w1 : World} {g off : Nat} {ws : List WaitD} (h : TailAt w g off ws) (hu : Upd P w w1) (hg : ¬ P g) : TailAt w1 g off ws := fun j y hy => by
  obtain ⟨h0, h1, h2, h3, h4⟩ := h j y hy
  exact ⟨hu.cell h0 hg, hu.cell h1 hg, hu.cell h2 hg, hu.cell h3 hg, hu.cell h4 hg⟩
theorem tail_of_row {w : World} {base : Nat} {v : Value} {ws : List WaitD} (h : w.ownsRow base 44 5 v ws.length (ws.flatMap waitCells)) : ∃ ao n c, v = .slice ao n c ∧ n = ws.length ∧ n ≤ c ∧ ∀ g, ao = some ⟨g, 0, none⟩ → TailAt w g 0 ws := by
  obtain ⟨ao, c, hv, h1, h2, hc⟩ := Row.form (own_mono h (Nat.zero_le _))
  refine ⟨ao, ws.length, c, hv, rfl, h1, fun g hg j y hy => ?_⟩
  obtain ⟨g', e, -, c0, c1, c2, c3, c4⟩ := wait_cells hc hy
  rw [hg] at e
  cases e
  rw [Nat.zero_add]
  exact ⟨c0, c1, c2, c3, c4⟩
theorem PubI.once {now : Int} {S : RefS} {k : Nat} {MS : List MailD} {WS : List WaitD} {t : Nat} (h : PubI 0 now S k MS WS t) (hk : k ≤ 10) : OnceI now S MS WS (t + 10) := by
  have hc := h.count
  refine ⟨h.time, h.room, h.wait, h.fit, h.life, h.lifeW, ?_, by omega, ?_, by have := h.done; omega⟩
  · have hq := h.que
    rw [List.take_of_length_le (by omega)] at hq
    rw [← hq]
    apply List.map_congr_left
    intro m hm
    exact (mail_zero (h.life m hm) now).symm
  · rw [h.lost]
    have : MS.length - 10 = 0 := by omega
    rw [this]; rfl
end Go.Proofs.Ytmjdndhfmfjbiaa

namespace Go.Proofs.Ytmjdndhfmfjbiaa
open Go.RowKit

theorem fit_hash0 (x : ByteArray) : fitAny [⟨#[35]⟩] x = true := by
  unfold fitAny
  rw [List.any_cons, M.along_L, M.words_L]
  have e : M.splitL (M.L ⟨#[35]⟩) = [[35]] := by decide
  rw [e]
  cases (M.wordsM x).map M.L with
  | nil => rfl
  | cons b t => rfl

/-- A Tick that does not go on. -/
theorem tick_idle {S : RefS} {b : Int} (a c d : Int) (s : ByteArray) (h0 : 0 ≤ b) (h1 : b ≤ 1099511627776) (hb : b ≤ S.time) : doErr S ⟨6, a, b, c, d, s⟩ = 0 ∧ doS S ⟨6, a, b, c, d, s⟩ = S := by
  have hz : wrongM S ⟨6, a, b, c, d, s⟩ = 0 := by
    have ht : isTimeM b = true := by simp [isTimeM]; omega
    simp [wrongM, tickErr, ht]
  have hwb : writesB S ⟨6, a, b, c, d, s⟩ = false := by simp [writesB]; omega
  have hd : doneB S ⟨6, a, b, c, d, s⟩ = false := by unfold doneB; rw [hwb, Bool.and_false]; rfl
  exact ⟨by unfold doErr; rw [if_pos hz, hwb]; rfl, by unfold doS; rw [hd]; rfl⟩

theorem once_start {now : Int} (h0 : 0 ≤ now) (h1 : now ≤ 1099511627776) : doErr (refNew 500) ⟨1, 0, 0, 0, 0, ⟨#[35]⟩⟩ = 0 ∧ doErr (doS (refNew 500) ⟨1, 0, 0, 0, 0, ⟨#[35]⟩⟩) ⟨6, 0, now, 0, 0, ⟨#[]⟩⟩ = 0 ∧
    PubI 0 now (doS (doS (refNew 500) ⟨1, 0, 0, 0, 0, ⟨#[35]⟩⟩) ⟨6, 0, now, 0, 0, ⟨#[]⟩⟩) 0 [] [] 2 := by
  obtain ⟨p1, p2⟩ := sub_first (x := ⟨#[35]⟩) hash_path 0 (by omega) 500 (by omega) 0 0 0
  have p1' : doErr (refNew 500) ⟨1, 0, 0, 0, 0, ⟨#[35]⟩⟩ = 0 := p1
  have p2' : doS (refNew 500) ⟨1, 0, 0, 0, 0, ⟨#[35]⟩⟩ = { refNew 500 with done := [⟨1, 0, 0, 0, 0, ⟨#[35]⟩⟩], fil := setAt (fun _ => []) 0 [⟨#[35]⟩] } := p2
  refine ⟨p1', ?_⟩
  rw [p2']
  obtain ⟨S1, e1, e2, C1, g1, g2, g3, g4, g5, g6⟩ := tick_calm (S := { refNew 500 with done := [⟨1, 0, 0, 0, 0, ⟨#[35]⟩⟩], fil := setAt (fun _ => []) 0 [⟨#[35]⟩] }) (n := 1) (b := now) 0 0 0 ⟨#[]⟩ ⟨rfl, Nat.le_refl _⟩ h0 h1 (by show ((1 : Nat) : Int) < 500; omega)
  rw [e1]
  refine ⟨e2, PubI.start ?_ g3 g4 (fun x => ?_) C1.wait ?_ (by rw [g5]; rfl) C1.done⟩
  · rw [g1]
    show (if (0 : Int) < now then now else 0) = now
    split <;> omega
  · rw [g2]
    show fitAny (setAt (fun _ => []) 0 [⟨#[35]⟩] 0) x = true
    rw [setAt_same]; exact fit_hash0 x
  · rw [g6 0 (by omega)]
    show (if (0 : Int) < now then List.filter _ [] else []) = []
    split <;> rfl

/-- The row of those that wait, as far as it was not cut. -/
def RestAt (w : World) (ao : Option Addr) (ws : List WaitD) : Prop := ws = [] ∨ ∃ g off, ao = some ⟨g, off, none⟩ ∧ TailAt w g off ws

set_option maxRecDepth 100000 in
set_option maxHeartbeats 1000000 in
theorem keepSameRest (xs : List WaitD) (a b : Option Addr) (c d : Nat) (w : World) (hl : xs.length ≤ 1048576) (ha : CellsAt w a (xs.flatMap waitCells)) (hb : RestAt w b xs) :
    Calls Try.prog 24 #[.slice a xs.length c, .slice b xs.length d] w fun e w' => e = .returned (.bool true) ∧ Below w.heap.size w w' := by
  have HA : Hid (CellsAt w a (xs.flatMap waitCells)) := ha
  have HB : Hid (RestAt w b xs) := hb
  clear ha hb
  go_enter Try.func24, Try.ntmps24
  go_wp2_with fail
  go_loopw [5] (fun i wr => ∃ k : Nat, k ≤ xs.length ∧ i = .int .i64 k ∧ ∃ n, wr = w.drewN n) (fun i _ => xs.length - (intOf i).toNat)
  case atStart => exact ⟨0, Nat.zero_le _, rfl, 0, rfl⟩
  case round =>
    obtain ⟨k, hk, rfl, n, rfl⟩ := hrel
    by_cases hlt : k < xs.length
    · obtain ⟨y, hy⟩ : ∃ y, xs[k]? = some y := ⟨_, List.getElem?_eq_getElem hlt⟩
      obtain ⟨g, rfl, hg, c0, c1, c2, c3, c4⟩ := wait_cells HA.out hy
      rcases HB.out with rfl | ⟨g', off, rfl, ht⟩
      · simp at hlt
      obtain ⟨d0, d1, d2, d3, d4⟩ := ht k y hy
      clear hy ht
      go_wp2_with fail
      go_quiet (fail)
      go_wp2_with fail
      go_roundw
      case rel => exact ⟨k + 1, by omega, by go_num, _, rfl⟩
      case measure => simp [intOf]; omega
    · go_wp2_with fail
      go_ret
      exact ⟨rfl, below_drewN (Below.refl _ _)⟩
end Go.Proofs.Ytmjdndhfmfjbiaa

namespace Go.Proofs.Ytmjdndhfmfjbiaa
open Go.RowKit

/-- A Tick's messages, on their way from the one list to the other. -/
def Moving (t : Int) (A : List MailD) (B : List WaitD) (MS : List MailD) (WS : List WaitD) : Prop := MS ++ (WS.filter (dueB t)).map (mailAt t) = A ∧ WS.filter (fun x => !dueB t x) = B ∧ SortedW WS ∧ MS.length + WS.length ≤ 10
theorem Moving.step {t : Int} {A : List MailD} {B : List WaitD} {MS : List MailD} {x : WaitD} {WS : List WaitD} (h : Moving t A B MS (x :: WS)) (hx : dueB t x = true) : Moving t A B (MS ++ [mailAt t x]) WS := by
  obtain ⟨h1, h2, h3, h4⟩ := h
  rw [List.filter_cons_of_pos hx] at h1
  rw [List.filter_cons_of_neg (by rw [hx]; decide)] at h2
  refine ⟨?_, h2, (List.pairwise_cons.1 h3).2, ?_⟩
  · rw [← h1, List.map_cons, List.append_assoc]; rfl
  · rw [List.length_append, List.length_singleton]; rw [List.length_cons] at h4; omega
theorem Moving.stop {t : Int} {A : List MailD} {B : List WaitD} {MS : List MailD} {x : WaitD} {WS : List WaitD} (h : Moving t A B MS (x :: WS)) (hx : dueB t x = false) : MS = A ∧ x :: WS = B := by
  obtain ⟨h1, h2, h3, -⟩ := h
  obtain ⟨e1, e2⟩ := due_head h3 hx
  rw [e1] at h1
  rw [e2] at h2
  exact ⟨by simpa using h1, h2⟩
theorem Moving.none {t : Int} {A : List MailD} {B : List WaitD} {MS : List MailD} (h : Moving t A B MS []) : MS = A ∧ [] = B := ⟨by simpa using h.1, h.2.1⟩

/-- The row of those that wait, as far as it was not cut, beside the broker and the other row. -/
def RestIn (w : World) (F : Nat → Prop) (mv wv : Value) (ws : List WaitD) : Prop := ∃ ao c, wv = .slice ao ws.length c ∧ ws.length ≤ c ∧ (ws = [] ∨ ∃ g off, ao = some ⟨g, off, none⟩ ∧ TailAt w g off ws ∧ ¬ F g ∧ mv.ownBlock ≠ some g ∧ g < w.heap.size)
theorem RestIn.rest {w : World} {F : Nat → Prop} {mv : Value} {ao : Option Addr} {n c : Nat} {ws : List WaitD} (h : RestIn w F mv (.slice ao n c) ws) : n = ws.length ∧ RestAt w ao ws := by
  obtain ⟨ao', c', hv, hc, hr⟩ := h
  cases hv
  refine ⟨rfl, ?_⟩
  rcases hr with h | ⟨g, off, h1, h2, -⟩
  · exact .inl h
  · exact .inr ⟨g, off, h1, h2⟩
theorem RestIn.upd {P : Nat → Prop} {w w1 : World} {F F1 : Nat → Prop} {mv mv1 wv : Value} {ws : List WaitD} (h : RestIn w F mv wv ws) (hu : Upd P w w1) (hP : ∀ g, P g → F g ∨ mv.ownBlock = some g) (hF : ∀ g, F1 g → F g ∨ w.heap.size ≤ g) (hm : ∀ g, mv1.ownBlock = some g → mv.ownBlock = some g ∨ w.heap.size ≤ g) : RestIn w1 F1 mv1 wv ws := by
  obtain ⟨ao, c, hv, hc, hr⟩ := h
  refine ⟨ao, c, hv, hc, ?_⟩
  rcases hr with h | ⟨g, off, h1, h2, h3, h4, h5⟩
  · exact .inl h
  · refine .inr ⟨g, off, h1, h2.upd hu (fun hp => (hP g hp).elim h3 h4), fun hf => (hF g hf).elim h3 (fun h => by omega), fun hg => (hm g hg).elim h4 (fun h => by omega), Nat.lt_of_lt_of_le h5 hu.size⟩
theorem TailAt.head {w : World} {g off : Nat} {x : WaitD} {ws : List WaitD} (h : TailAt w g off (x :: ws)) : w.cell? ⟨g, off, none⟩ = some (.int .i64 x.number) ∧ w.cell? ⟨g, off + 1, none⟩ = some (.string x.topic) ∧ w.cell? ⟨g, off + 2, none⟩ = some (.int .i64 x.value) ∧ w.cell? ⟨g, off + 3, none⟩ = some (.int .i64 x.deadline) ∧ w.cell? ⟨g, off + 4, none⟩ = some (.int .i64 x.life) := by
  have := h 0 x rfl
  simpa using this
def sliceLen : Value → Nat
  | .slice _ n _ => n
  | _ => 0

theorem rest_start {w : World} {base b2 : Nat} {F : Nat → Prop} {mv wv : Value} {ms : List MailD} {ws : List WaitD} (hm : w.ownsRow b2 46 5 mv ms.length (ms.flatMap mailCells)) (h : w.ownsRow base 44 5 wv ws.length (ws.flatMap waitCells)) (hF : ∀ g, wv.ownBlock = some g → ¬ F g) : RestIn w F mv wv ws := by
  obtain ⟨ao, n, c, rfl, rfl, hc, ht⟩ := tail_of_row h
  refine ⟨ao, c, rfl, hc, ?_⟩
  cases ws with
  | nil => exact .inl rfl
  | cons x t =>
    refine .inr ?_
    rcases h.2 with ⟨h0, -⟩ | ⟨g, cap, cur, hv, -⟩
    · simp at h0
    · have hb : (Value.slice ao (x :: t).length c).ownBlock = some g := by rw [hv]; rfl
      have ha : ao = some ⟨g, 0, none⟩ := by
        simp only [Value.slice.injEq] at hv
        exact hv.1
      subst ha
      exact ⟨g, 0, rfl, ht g rfl, hF g hb, fun e => typed_apart hm h (by decide) g e hb, (World.ownsRow.lt h g hb).2⟩
end Go.Proofs.Ytmjdndhfmfjbiaa

namespace Go.Proofs.Ytmjdndhfmfjbiaa
open Go.RowKit

theorem RestAt.below {w w1 : World} {ao : Option Addr} {ws : List WaitD} (h : RestAt w ao ws) (hb : Below w.heap.size w w1) : RestAt w1 ao ws := by
  rcases h with h | ⟨g, off, h1, h2⟩
  · exact .inl h
  · exact .inr ⟨g, off, h1, h2.upd (P := fun _ => False) (Upd.of_below hb) (fun f => f)⟩
theorem OnceI.queue {now : Int} {S : RefS} {MS : List MailD} {WS : List WaitD} {t : Nat} (h : OnceI now S MS WS t) : queueM S 0 = MS := by
  have e : queueM S 0 = (S.que 0).map (mailOf S.time) := by unfold queueM; rfl
  rw [e, ← h.que]
  exact List.map_congr_left (fun m hm => mail_zero (h.life m hm) S.time)
theorem OnceI.lostq {now : Int} {S : RefS} {MS : List MailD} {WS : List WaitD} {t : Nat} (h : OnceI now S MS WS t) : lostM S 0 = 0 := by
  have e : lostM S 0 = S.lost 0 := by unfold lostM; rfl
  rw [e]; exact h.lost

set_option maxRecDepth 100000 in
set_option maxHeartbeats 8000000 in
theorem onceWalk (start : Int) (l : List LetD) (ao : Option Addr) (m cap : Nat) (ch : List Int) (bo : Option Addr) (p cap2 : Nat) (w : World) (h0 : -9223372036854775808 ≤ start) (h1 : start ≤ 9223372036854775807) (hl : l.length = m) (hsc : LetsAt w ao l)
    (hbd : ∀ y ∈ l, (-9223372036854775808 ≤ y.delay ∧ y.delay ≤ 9223372036854775807) ∧ (-9223372036854775808 ≤ y.value ∧ y.value ≤ 9223372036854775807) ∧ y.s.size ≤ maxLen)
    (hl2 : ch.length = p) (hsc2 : NumsAt w bo ch) (hbd2 : ∀ z ∈ ch, -9223372036854775808 ≤ z ∧ z ≤ 9223372036854775807) :
    Calls Try.prog 5 #[.int .i64 start, .slice ao m cap, .slice bo p cap2] w fun e w' => e = .returned (.bool true) ∧ Below w.heap.size w w' := by
  obtain ⟨i0, hi, hz0, hz1, hz2⟩ := info_parts infoMail
  have HL2 : Hid (ch.length = p) := hl2
  have HSC2 : Hid (NumsAt w bo ch) := hsc2
  have HBD2 : Hid (∀ z ∈ ch, -9223372036854775808 ≤ z ∧ z ≤ 9223372036854775807) := hbd2
  have HARG : Hid (l.length = m ∧ LetsAt w ao l ∧ ∀ y ∈ l, (-9223372036854775808 ≤ y.delay ∧ y.delay ≤ 9223372036854775807) ∧ (-9223372036854775808 ≤ y.value ∧ y.value ≤ 9223372036854775807) ∧ y.s.size ≤ maxLen) := ⟨hl, hsc, hbd⟩
  clear hl2 hsc2 hbd2 hl hsc hbd
  go_enter Try.func5, Try.ntmps5
  go_wp2_with fail
  refine (mineOpened 500 w (by omega) (by omega)).mono ?_
  rintro e w1 ⟨H, rfl, hm1⟩
  have M1 : Hid (Mine w w1 H (refNew 500)) := hm1
  clear hm1
  go_wp2_with fail
  refine (keepPick start 1099511627777 _ h0 h1 (by omega) (by omega)).mono ?_
  rintro e w1 ⟨rfl, rfl⟩
  have hnow := pick_bd start 1099511627777 (by omega)
  generalize pickM start 1099511627777 = now0 at *
  obtain ⟨s1, s2, s3⟩ := once_start (now := now0) (by omega) (by omega)
  have P1 : Hid (doErr (refNew 500) ⟨1, 0, 0, 0, 0, ⟨#[35]⟩⟩ = 0) := s1
  have P2 : Hid (doErr (doS (refNew 500) ⟨1, 0, 0, 0, 0, ⟨#[35]⟩⟩) ⟨6, 0, now0, 0, 0, ⟨#[]⟩⟩ = 0) := s2
  have P3 : Hid (PubI 0 now0 (doS (doS (refNew 500) ⟨1, 0, 0, 0, 0, ⟨#[35]⟩⟩) ⟨6, 0, now0, 0, 0, ⟨#[]⟩⟩) 0 [] [] 2) := s3
  clear s1 s2 s3
  go_wp2_with fail
  refine (mineSub 0 0 0 0 ⟨#[35]⟩ M1.out (by show 1 ≤ _; omega)).mono ?_
  rintro e w2 ⟨rfl, hm2⟩
  rw [P1.out]
  have M2 : Hid (Mine w w2 H (doS (refNew 500) ⟨1, 0, 0, 0, 0, ⟨#[35]⟩⟩)) := hm2
  clear hm2
  go_wp2_with fail
  refine (mineTick 0 now0 0 0 ⟨#[]⟩ M2.out (Nat.zero_le _)).mono ?_
  rintro e w3 ⟨rfl, hm3⟩
  rw [P2.out]
  obtain ⟨F3, hm3⟩ := hm3.mineF
  have M3 : Hid (MineF w w3 H F3 (doS (doS (refNew 500) ⟨1, 0, 0, 0, 0, ⟨#[35]⟩⟩) ⟨6, 0, now0, 0, 0, ⟨#[]⟩⟩)) := hm3
  clear hm3
  go_wp2_with fail
  refine (keepPublished 0 (by omega) 10 (by omega) now0 (by omega) (by omega) 2 (by omega) l ao m cap HARG.out.1 w w3 HARG.out.2.1 HARG.out.2.2 H F3 _ M3.out P3.out).mono ?_
  rintro e w4 ⟨S4, F4, mv, wv, MS4, WS4, rfl, ⟨k4, hk4, hI4⟩, hm4, hom4, how4, hapm4, hapw4⟩
  have I4 : Hid (OnceI now0 S4 MS4 WS4 12) := hI4.once hk4
  have M4 : Hid (MineF w w4 H F4 S4) := hm4
  have O4 : Hid (w4.ownsRow w.heap.size 46 5 mv MS4.length (MS4.flatMap mailCells)) := own_mono hom4 M3.out.mine.out.size
  have A4 : Hid (∀ g, mv.ownBlock = some g → ¬ F4 g) := hapm4
  have R4 : Hid (RestIn w4 F4 mv wv WS4) := rest_start hom4 how4 hapw4
  clear hI4 hm4 hom4 how4 hapm4 hapw4
  go_wp2_with fail
  go_loopw [8, 11, 12, 14] (fun nv v u i wr => ∃ (k : Nat) (now : Int) (S : RefS) (F : Nat → Prop) (MS : List MailD) (WS : List WaitD), k ≤ p ∧ k ≤ 400 ∧ i = .int .i64 (k : Int) ∧ nv = .int .i64 now ∧ 0 ≤ now ∧ now ≤ 1099511627776 ∧ OnceI now S MS WS (12 + k) ∧ MineF w wr H F S ∧
    wr.ownsRow w.heap.size 46 5 v MS.length (MS.flatMap mailCells) ∧ (∀ g, v.ownBlock = some g → ¬ F g) ∧ RestIn wr F v u WS) (fun _ _ _ i _ => 400 - (intOf i).toNat)
  case atStart => exact ⟨0, now0, S4, F4, MS4, WS4, Nat.zero_le _, by omega, rfl, rfl, by omega, by omega, I4.out, M4.out, O4.out, A4.out, R4.out⟩
  case round =>
    obtain ⟨k, now, S, F, MS, WS, hkp, hk4', rfl, rfl, hn0, hn1, hI, hM, hown, hap, hrest⟩ := hrel
    have II : Hid (OnceI now S MS WS (12 + k)) := hI
    have MM : Hid (MineF w wr H F S) := hM
    have HAP : Hid _ := hap
    obtain ⟨fl, hlk⟩ := hM.lk
    have LK : Hid (Lk S fl (waitingM S)) := hlk
    have SRT : Hid (SortedW WS) := by
      have h := hlk.waitS
      rw [hI.wait] at h
      exact h
    have hfew := hI.few
    have hMl : MS.length ≤ 10 := by omega
    have hWl : WS.length ≤ 10 := by omega
    have hbw := hM.mine.out.size
    obtain ⟨av, cv, rfl, -, -, hcv⟩ := Row.form (row_of_own (w := w) hown nilV).1
    have HCV : Hid (CellsAt wr av (MS.flatMap mailCells)) := hcv
    have HOW : Hid (wr.ownsRow w.heap.size 46 5 (.slice av MS.length cv) MS.length (MS.flatMap mailCells)) := hown
    have RR : Hid (RestIn wr F (.slice av MS.length cv) _ WS) := hrest
    obtain ⟨aw, cw, rfl, -, -⟩ := hrest
    clear hI hM hap hlk hcv hown hfew
    by_cases hlt : k < p ∧ k < 400
    · obtain ⟨hlt1, hlt2⟩ := hlt
      obtain ⟨z, hz⟩ : ∃ z, ch[k]? = some z := ⟨_, List.getElem?_eq_getElem (by rw [HL2.out]; exact hlt1)⟩
      obtain ⟨zb0, zb1⟩ := HBD2.out z (List.mem_of_getElem? hz)
      obtain ⟨gs, off, rfl, hcs⟩ := HSC2.out k z hz
      have hcz := cell_later MM.out.mine.out hcs
      clear hz hcs
      go_wp2_with fail
      refine (keepPick z 1099511627777 _ zb0 zb1 (by omega) (by omega)).mono ?_
      rintro e wr ⟨rfl, rfl⟩
      have hT := pick_bd z 1099511627777 (by omega)
      generalize pickM z 1099511627777 = T at *
      clear hcz
      by_cases hTn : T ≤ now
      · obtain ⟨q1, q2⟩ := tick_idle (S := S) (b := T) 0 0 0 ⟨#[]⟩ (by omega) (by omega) (by rw [II.out.time]; exact hTn)
        have Q1 : Hid (doErr S ⟨6, 0, T, 0, 0, ⟨#[]⟩⟩ = 0) := q1
        have Q2 : Hid (doS S ⟨6, 0, T, 0, 0, ⟨#[]⟩⟩ = S) := q2
        clear q1 q2
        go_wp2_with fail
        refine (mineFTick 0 T 0 0 ⟨#[]⟩ MM.out (Nat.zero_le _)).mono ?_
        rintro e w5 ⟨rfl, F5, hm5, hu5, hF5, hk5⟩
        rw [Q1.out]
        rw [Q2.out] at hm5
        have M5 : Hid (MineF w w5 H F5 S) := hm5
        have HO5 : Hid (w5.ownsRow w.heap.size 46 5 (.slice av MS.length cv) MS.length (MS.flatMap mailCells)) := own_upd HOW.out hu5 (fun g hg hf => HAP.out g hg hf)
        have AP5 : Hid (∀ g, (Value.slice av MS.length cv).ownBlock = some g → ¬ F5 g) := fun g hg hf => (hk5 g hf).elim (HAP.out g hg) (fun h2 => absurd (World.ownsRow.lt HOW.out g hg).2 (by omega))
        have R5 : Hid (RestIn w5 F5 (.slice av MS.length cv) (.slice aw WS.length cw) WS) := RR.out.upd hu5 (fun g h => .inl h) hk5 (fun g h => .inl h)
        have I5 : Hid (OnceI now S MS WS (12 + (k + 1))) := { II.out with done := by have := II.out.done; omega }
        clear hm5 hu5 hF5 hk5
        go_wp2_with fail
        go_roundw
        case rel => exact ⟨k + 1, now, S, F5, MS, WS, by omega, by omega, by go_num, rfl, hn0, hn1, I5.out, M5.out, HO5.out, AP5.out, R5.out⟩
        case measure => simp [intOf]; omega
      · have hTn' : now < T := by omega
        obtain ⟨q1, q2⟩ := once_tick (b := T) II.out LK.out (by omega) hTn' (by omega) (by omega) 0 0 0 ⟨#[]⟩
        have Q1 : Hid (doErr S ⟨6, 0, T, 0, 0, ⟨#[]⟩⟩ = 0) := q1
        have Q2 : Hid (OnceI T (doS S ⟨6, 0, T, 0, 0, ⟨#[]⟩⟩) (MS ++ (WS.filter (dueB T)).map (mailAt T)) (WS.filter (fun x => !dueB T x)) (12 + k + 1)) := q2
        have MV : Hid (Moving T (MS ++ (WS.filter (dueB T)).map (mailAt T)) (WS.filter (fun x => !dueB T x)) MS WS) := ⟨rfl, rfl, SRT.out, II.out.few⟩
        clear q1 q2
        go_wp2_with fail
        refine (mineFTick 0 T 0 0 ⟨#[]⟩ MM.out (Nat.zero_le _)).mono ?_
        rintro e w5 ⟨rfl, F5, hm5, hu5, hF5, hk5⟩
        rw [Q1.out]
        generalize doS S ⟨6, 0, T, 0, 0, ⟨#[]⟩⟩ = S1 at *
        generalize MS ++ (WS.filter (dueB T)).map (mailAt T) = A at *
        generalize WS.filter (fun x => !dueB T x) = B at *
        have M5 : Hid (MineF w w5 H F5 S1) := hm5
        have HO5 : Hid (w5.ownsRow w.heap.size 46 5 (.slice av MS.length cv) MS.length (MS.flatMap mailCells)) := own_upd HOW.out hu5 (fun g hg hf => HAP.out g hg hf)
        have AP5 : Hid (∀ g, (Value.slice av MS.length cv).ownBlock = some g → ¬ F5 g) := fun g hg hf => (hk5 g hf).elim (HAP.out g hg) (fun h2 => absurd (World.ownsRow.lt HOW.out g hg).2 (by omega))
        have R5 : Hid (RestIn w5 F5 (.slice av MS.length cv) (.slice aw WS.length cw) WS) := RR.out.upd hu5 (fun g h => .inl h) hk5 (fun g h => .inl h)
        clear hm5 hu5 hF5 hk5
        go_wp2_with fail
        go_loopw [11, 12] (fun v u wq => ∃ (MS' : List MailD) (WS' : List WaitD), Moving T A B MS' WS' ∧ MineF w wq H F5 S1 ∧ wq.ownsRow w.heap.size 46 5 v MS'.length (MS'.flatMap mailCells) ∧ (∀ g, v.ownBlock = some g → ¬ F5 g) ∧ RestIn wq F5 v u WS') (fun _ u _ => sliceLen u)
        case atStart => exact ⟨MS, WS, MV.out, M5.out, HO5.out, AP5.out, R5.out⟩
        case round =>
          obtain ⟨MS', WS', hmv, hM', hown', hap', hrest'⟩ := hrel
          have MV' : Hid (Moving T A B MS' WS') := hmv
          have M6 : Hid (MineF w wr H F5 S1) := hM'
          have AP6 : Hid _ := hap'
          have hfw := hmv.2.2.2
          obtain ⟨av', cv', rfl, -, -, -⟩ := Row.form (row_of_own (w := w) hown' nilV).1
          have HO6 : Hid (wr.ownsRow w.heap.size 46 5 (.slice av' MS'.length cv') MS'.length (MS'.flatMap mailCells)) := hown'
          have R6 : Hid (RestIn wr F5 (.slice av' MS'.length cv') _ WS') := hrest'
          clear hmv hM' hown' hap'
          cases WS' with
          | nil =>
            obtain ⟨aw', cw', rfl, -, -⟩ := hrest'
            obtain ⟨e1, e2⟩ := MV'.out.none
            have Q3 : Hid (OnceI T S1 MS' [] (12 + (k + 1))) := by rw [e1, e2]; exact Q2.out
            clear e1 e2 hfw
            go_wp2_with fail
            go_roundw
            case rel => exact ⟨k + 1, T, S1, F5, MS', [], by omega, by omega, by go_num, rfl, by omega, by omega, Q3.out, M6.out, HO6.out, AP6.out, R6.out⟩
            case measure => simp [intOf]; omega
          | cons x t =>
            obtain ⟨aw', cw', rfl, hcw, hr⟩ := hrest'
            rcases hr with hr | ⟨g, goff, rfl, htail, hnF, hnm, hglt⟩
            · cases hr
            obtain ⟨c0, c1, c2, c3, c4⟩ := htail.head
            rw [List.length_cons] at hcw hfw
            cases hdue : dueB T x
            · obtain ⟨e1, e2⟩ := MV'.out.stop hdue
              have Q3 : Hid (OnceI T S1 MS' (x :: t) (12 + (k + 1))) := by rw [e1, e2]; exact Q2.out
              have hdl : ¬ x.deadline ≤ T := by simpa [dueB] using hdue
              clear e1 e2 hfw hdue htail
              go_wp2_with fail
              go_roundw
              case rel => exact ⟨k + 1, T, S1, F5, MS', x :: t, by omega, by omega, by go_num, rfl, by omega, by omega, Q3.out, M6.out, HO6.out, AP6.out, R6.out⟩
              case measure => simp [intOf]; omega
            · have hdl : x.deadline ≤ T := by simpa [dueB] using hdue
              have MV2 : Hid (Moving T A B (MS' ++ [mailAt T x]) t) := MV'.out.step hdue
              have HTL : Hid (TailAt wr g (goff + 5) t) := htail.tail
              clear hdue htail
              have hbw6 := M6.out.mine.out.size
              obtain ⟨v7, w7, hrun, hown7, hgrow, -, hat⟩ := run_append_own_at (P := Try.prog) ((wr.alloc (.cells (waitCells x).toArray 44)).alloc (.cells (mailCells (mailAt T x)).toArray 46)) w.heap.size 39 39 46 i0 _ 5 48 Try.underlying39 hi hz0 hz1 hz2 rfl (by omega) _ _ _ (World.ownsRow.alloc (World.ownsRow.alloc HO6.out _) _) ⟨wr.heap.size + 1, 0, none⟩ 1 1 (mailCells (mailAt T x)) rfl (cells_new2 _ _ _ _) (mail_one _) (by unfold maxLen; omega) (by omega) (by simp; omega)
              have hu7 : Upd (fun i => (Value.slice av' MS'.length cv').ownBlock = some i) wr w7 := (((Upd.refl _ wr).alloc _).alloc _).grown hgrow (fun i e _ => e)
              have M7 : Hid (MineF w w7 H F5 S1) := M6.out.upd hu7 (fun g hg => (World.ownsRow.lt HO6.out g hg).1) (fun g hf hg => AP6.out g hg hf)
              have HO7 : Hid (w7.ownsRow w.heap.size 46 5 v7 (MS' ++ [mailAt T x]).length ((MS' ++ [mailAt T x]).flatMap mailCells)) := by
                show World.ownsRow _ _ _ _ _ _ _
                simpa using hown7
              have HAT : Hid (∀ g, v7.ownBlock = some g → (Value.slice av' MS'.length cv').ownBlock = some g ∨ wr.heap.size ≤ g) := fun g hg => by
                rcases hat with h | h
                · exact .inl (h.symm.trans hg)
                · rw [h] at hg
                  simp at hg
                  exact .inr (by omega)
              have AP7 : Hid (∀ g, v7.ownBlock = some g → ¬ F5 g) := fun g hg hf => by
                rcases HAT.out g hg with h | h
                · exact AP6.out g h hf
                · have := M6.out.lt hf
                  omega
              by_cases hc1 : cw' = 1
              · subst hc1
                obtain rfl : t = [] := List.eq_nil_of_length_eq_zero (by omega)
                have R7 : Hid (∀ ao c, RestIn w7 F5 v7 (.slice ao 0 c) []) := fun ao c => ⟨ao, c, rfl, Nat.zero_le _, .inl rfl⟩
                clear hown7 hgrow hat hu7 hnF hnm HTL
                go_wp2_with (first | (at_builtin; refine wpList_append_run rfl _ _ 39 rfl _ _ _ _ rfl rfl hrun ?_))
                go_wp2_with fail
                go_roundw
                case rel => exact ⟨_, [], MV2.out, M7.out, HO7.out, AP7.out, R7.out _ _⟩
                case measure => simp [sliceLen]
              · have R7 : Hid (RestIn w7 F5 v7 (.slice (some ⟨g, goff + 5, none⟩) t.length (cw' - 1)) t) :=
                  RestIn.upd (F := F5) (mv := .slice av' MS'.length cv') ⟨_, _, rfl, by omega, .inr ⟨g, goff + 5, rfl, HTL.out, hnF, hnm, hglt⟩⟩ hu7 (fun g h => .inr h) (fun g h => .inl h) HAT.out
                have hcw2 : ¬ cw' - 1 = 0 := by omega
                clear hown7 hgrow hat hu7 hnF hnm HTL
                go_wp2_with (first | (at_builtin; refine wpList_append_run rfl _ _ 39 rfl _ _ _ _ rfl rfl hrun ?_))
                go_wp2_with fail
                go_roundw
                case rel => exact ⟨_, t, MV2.out, M7.out, HO7.out, AP7.out, R7.out⟩
                case measure => simp [sliceLen]
    · have HQ : Hid (queueM S 0 = MS) := II.out.queue
      have HWA : Hid (waitingM S = WS) := II.out.wait
      have HLO : Hid (lostM S 0 = 0) := II.out.lostq
      have HTI : Hid (S.time = now) := II.out.time
      have HRS : Hid (RestAt wr aw WS) := RR.out.rest.2
      have M0 : Hid (Mine w wr H S) := MM.out.mine
      by_cases hkp2 : k < p
      · have hk400 : ¬ k < 400 := fun h => hlt ⟨hkp2, h⟩
        clear hlt
        go_wp2_with fail
        refine (mineQueue 0 M0.out).mono ?_
        rintro e w5 ⟨q, rfl, ho5, hb5⟩
        rw [HQ.out] at ho5
        obtain ⟨a5, c5, rfl, -, -, hc5⟩ := Row.form (row_of_own (w := wr) ho5 nilV).1
        have HC5 : Hid (CellsAt w5 a5 (MS.flatMap mailCells)) := hc5
        have M5 : Hid (Mine w w5 H S) := M0.out.below hb5
        have HCV5 : Hid (CellsAt w5 av (MS.flatMap mailCells)) := HCV.out.below hb5
        have HRS5 : Hid (RestAt w5 aw WS) := HRS.out.below hb5
        clear ho5 hc5 hb5
        go_wp2_with fail
        refine (mineWaiting M5.out).mono ?_
        rintro e w6 ⟨q, rfl, ho6, hb6⟩
        rw [HWA.out] at ho6
        obtain ⟨a6, c6, rfl, -, -, hc6⟩ := Row.form (row_of_own (w := w5) ho6 nilV).1
        have M6 : Hid (Mine w w6 H S) := M5.out.below hb6
        have HCW6 : Hid (CellsAt w6 a6 (WS.flatMap waitCells)) := hc6
        have HC6 : Hid (CellsAt w6 a5 (MS.flatMap mailCells)) := HC5.out.below hb6
        have HCV6 : Hid (CellsAt w6 av (MS.flatMap mailCells)) := HCV5.out.below hb6
        have HRS6 : Hid (RestAt w6 aw WS) := HRS5.out.below hb6
        clear ho6 hb6 hc6
        go_wp2_with fail
        refine (mineLost 0 M6.out).mono ?_
        rintro e w6 ⟨rfl, rfl⟩
        rw [HLO.out]
        go_wp2_with fail
        refine (mineTime M6.out).mono ?_
        rintro e w6 ⟨rfl, rfl⟩
        rw [HTI.out]
        go_wp2_with fail
        refine (keepSameMails MS a5 av c5 cv _ (by omega) HC6.out HCV6.out).mono ?_
        rintro e w7 ⟨rfl, hb7⟩
        have M7 : Hid (Mine w w7 H S) := M6.out.below hb7
        have HCW7 : Hid (CellsAt w7 a6 (WS.flatMap waitCells)) := HCW6.out.below hb7
        have HRS7 : Hid (RestAt w7 aw WS) := HRS6.out.below hb7
        clear hb7
        go_wp2_with fail
        refine (keepSameRest WS a6 aw c6 cw _ (by omega) HCW7.out HRS7.out).mono ?_
        rintro e w8 ⟨rfl, hb8⟩
        have HB8 : Hid (Below w.heap.size w w8) := (M7.out.below hb8).out
        clear hb8
        go_wp2_with fail
        go_ret
        exact ⟨rfl, HB8.out⟩
      · clear hlt
        go_wp2_with fail
        refine (mineQueue 0 M0.out).mono ?_
        rintro e w5 ⟨q, rfl, ho5, hb5⟩
        rw [HQ.out] at ho5
        obtain ⟨a5, c5, rfl, -, -, hc5⟩ := Row.form (row_of_own (w := wr) ho5 nilV).1
        have HC5 : Hid (CellsAt w5 a5 (MS.flatMap mailCells)) := hc5
        have M5 : Hid (Mine w w5 H S) := M0.out.below hb5
        have HCV5 : Hid (CellsAt w5 av (MS.flatMap mailCells)) := HCV.out.below hb5
        have HRS5 : Hid (RestAt w5 aw WS) := HRS.out.below hb5
        clear ho5 hc5 hb5
        go_wp2_with fail
        refine (mineWaiting M5.out).mono ?_
        rintro e w6 ⟨q, rfl, ho6, hb6⟩
        rw [HWA.out] at ho6
        obtain ⟨a6, c6, rfl, -, -, hc6⟩ := Row.form (row_of_own (w := w5) ho6 nilV).1
        have M6 : Hid (Mine w w6 H S) := M5.out.below hb6
        have HCW6 : Hid (CellsAt w6 a6 (WS.flatMap waitCells)) := hc6
        have HC6 : Hid (CellsAt w6 a5 (MS.flatMap mailCells)) := HC5.out.below hb6
        have HCV6 : Hid (CellsAt w6 av (MS.flatMap mailCells)) := HCV5.out.below hb6
        have HRS6 : Hid (RestAt w6 aw WS) := HRS5.out.below hb6
        clear ho6 hb6 hc6
        go_wp2_with fail
        refine (mineLost 0 M6.out).mono ?_
        rintro e w6 ⟨rfl, rfl⟩
        rw [HLO.out]
        go_wp2_with fail
        refine (mineTime M6.out).mono ?_
        rintro e w6 ⟨rfl, rfl⟩
        rw [HTI.out]
        go_wp2_with fail
        refine (keepSameMails MS a5 av c5 cv _ (by omega) HC6.out HCV6.out).mono ?_
        rintro e w7 ⟨rfl, hb7⟩
        have M7 : Hid (Mine w w7 H S) := M6.out.below hb7
        have HCW7 : Hid (CellsAt w7 a6 (WS.flatMap waitCells)) := HCW6.out.below hb7
        have HRS7 : Hid (RestAt w7 aw WS) := HRS6.out.below hb7
        clear hb7
        go_wp2_with fail
        refine (keepSameRest WS a6 aw c6 cw _ (by omega) HCW7.out HRS7.out).mono ?_
        rintro e w8 ⟨rfl, hb8⟩
        have HB8 : Hid (Below w.heap.size w w8) := (M7.out.below hb8).out
        clear hb8
        go_wp2_with fail
        go_ret
        exact ⟨rfl, HB8.out⟩
end Go.Proofs.Ytmjdndhfmfjbiaa

namespace Go.Proofs.Ytmjdndhfmfjbiaa
open Go.RowKit
open Go.Deep Go.ChangeShapes Go.WideShapes Go.ChangeAt
open Go.ChangeMaps (open_string shut_string)

theorem laidOutK : laidOutB Try.prog = true := by kernel_rfl
theorem ownO : ownKnob Try.prog.godebug = none := by kernel_rfl
theorem cellsIntK : Try.prog.cellsOf 3 = 1 := by kernel_rfl
theorem cellsStrK : Try.prog.cellsOf 9 = 1 := by kernel_rfl
theorem cellsLetK : Try.prog.cellsOf 77 = 3 := by kernel_rfl
def LetOk (y : LetD) : Prop := (-9223372036854775808 ≤ y.delay ∧ y.delay ≤ 9223372036854775807) ∧ (-9223372036854775808 ≤ y.value ∧ y.value ≤ 9223372036854775807) ∧ y.s.size ≤ maxLen

set_option maxRecDepth 100000 in
theorem open_let {H : Type} {enc : TypeId × Value → H} {W : World} {base : Nat} {spare : Nat → Bool} {held : Bool} {fuel : Nat} {cs : List Value} {x : DataW H × List MemPlace} (h : DataW.trod enc Try.prog W base spare held fuel 77 cs = some x) :
    ∃ y : LetD, cs = [.int .i64 y.delay, .int .i64 y.value, .string y.s] ∧ LetOk y := by
  obtain ⟨xs, n, -, hx, hl, hlen, hf⟩ := DataW.trod_struct Try.underlying77 h
  rw [cellsLetK] at hl
  match cs, hl with
  | [v0, v1, v2], _ =>
    match xs, hlen with
    | [y0, y1, y2], _ =>
      have f0 : DataW.trod enc Try.prog W base spare held n 3 (([v0, v1, v2].drop 0).take (Try.prog.cellsOf 3)) = some y0 := hf 0 _ rfl
      have f1 : DataW.trod enc Try.prog W base spare held n 3 (([v0, v1, v2].drop 1).take (Try.prog.cellsOf 3)) = some y1 := hf 1 _ rfl
      have f2 : DataW.trod enc Try.prog W base spare held n 9 (([v0, v1, v2].drop 2).take (Try.prog.cellsOf 9)) = some y2 := hf 2 _ rfl
      rw [cellsIntK] at f0 f1
      rw [cellsStrK] at f2
      simp only [List.drop_zero, List.drop_succ_cons, List.take_succ_cons, List.take_zero] at f0 f1 f2
      obtain ⟨n0, e0, -, w0⟩ := DataW.trod_int Try.underlying3 f0
      obtain ⟨n1, e1, -, w1⟩ := DataW.trod_int Try.underlying3 f1
      obtain ⟨s2, e2, -, w2⟩ := DataW.trod_string Try.underlying9 f2
      simp only [List.cons.injEq, and_true] at e0 e1 e2
      subst e0 e1 e2
      exact ⟨⟨n0, n1, s2⟩, rfl, bounds_i64 w0, bounds_i64 w1, w2⟩

set_option maxRecDepth 100000 in
theorem open_lets {H : Type} {enc : TypeId × Value → H} {W : World} {base : Nat} {v : Value} {d : DataW H} {p : List MemPlace} (hval : Value.okWide Try.prog W .any base 32 v) (h : DataW.Trod enc Try.prog W 0 (fun _ => true) true 32 v d p) :
    ∃ ao n cap, ∃ l : List LetD, v = .slice ao n cap ∧ l.length = n ∧ LetsAt W ao l ∧ ∀ o ∈ l, LetOk o := by
  obtain ⟨a0, len, cap, rfl⟩ := okWide_slice Try.underlying32 hval
  obtain ⟨fuel, hf⟩ := h
  rcases open_slice Try.underlying32 hf with ⟨hcs, hx⟩ | ⟨a, len', cap', m, n, D, Pl, hcs, -, hl, hm, hmm, hx, hel⟩
  · simp [Value.cells] at hcs
    obtain ⟨rfl, rfl, rfl⟩ := hcs
    exact ⟨none, 0, 0, [], rfl, rfl, fun j o ho => by simp at ho, fun o ho => by simp at ho⟩
  · simp [Value.cells] at hcs
    obtain ⟨rfl, rfl, rfl⟩ := hcs
    simp only [if_true] at hmm
    subst hmm
    obtain ⟨b, off, spot⟩ := a
    haveI : Inhabited LetD := ⟨⟨0, 0, ⟨#[]⟩⟩⟩
    obtain ⟨f, hfo⟩ := choose_lt (α := LetD) (n := len) (p := fun i o => W.cells? 0 ((⟨b, off, spot⟩ : Addr).add (i * 3)) 3 = some ([.int .i64 o.delay, .int .i64 o.value, .string o.s]) ∧ LetOk o) (fun i hi => by
      obtain ⟨cs', h1, h2⟩ := hel i (by omega)
      rw [cellsLetK] at h1
      obtain ⟨o, rfl, ho⟩ := open_let h2
      exact ⟨o, h1, ho⟩)
    refine ⟨some ⟨b, off, spot⟩, len, m, (List.range len).map f, rfl, by simp, fun j o ho => ?_, fun o ho => ?_⟩
    · obtain ⟨hj, rfl⟩ := List.getElem?_eq_some_iff.1 ho
      simp only [List.length_map, List.length_range] at hj
      simp only [List.getElem_map, List.getElem_range]
      obtain ⟨h1, -⟩ := hfo j hj
      obtain ⟨-, -, hcell⟩ := World.cells?_some h1
      obtain ⟨h01, -⟩ := hfo 0 (by omega)
      obtain ⟨-, -, hcell0⟩ := World.cells?_some h01
      have hspot : spot = none := by
        have := World.cell?_spot (hcell0 0 (by omega))
        simpa [Addr.add] using this
      subst hspot
      refine ⟨b, off, rfl, ?_⟩
      rw [Addr.add_lit] at hcell
      have c0 := hcell 0 (by omega)
      have c1 := hcell 1 (by omega)
      have c2 := hcell 2 (by omega)
      rw [Addr.add_lit] at c0 c1 c2
      exact ⟨c0, c1, c2⟩
    · obtain ⟨i, hi, rfl⟩ := List.mem_map.1 ho
      exact (hfo i (List.mem_range.1 hi)).2

set_option maxRecDepth 100000 in
/-- A row of numbers, opened. -/
theorem open_nums {H : Type} {enc : TypeId × Value → H} {W : World} {base : Nat} {v : Value} {d : DataW H} {p : List MemPlace} (hval : Value.okWide Try.prog W .any base 33 v) (h : DataW.Trod enc Try.prog W 0 (fun _ => true) true 33 v d p) :
    ∃ ao n cap, ∃ l : List Int, v = .slice ao n cap ∧ l.length = n ∧ NumsAt W ao l ∧ ∀ z ∈ l, -9223372036854775808 ≤ z ∧ z ≤ 9223372036854775807 := by
  obtain ⟨a0, len, cap, rfl⟩ := okWide_slice Try.underlying33 hval
  obtain ⟨fuel, hf⟩ := h
  rcases open_ints Try.underlying33 Try.underlying3 cellsIntK hf with ⟨hcs, -⟩ | ⟨a, len', cap', zs, hcs, -, hl, hm, hzl, -, hcell, hwf⟩
  · simp [Value.cells] at hcs
    obtain ⟨rfl, rfl, rfl⟩ := hcs
    exact ⟨none, 0, 0, [], rfl, rfl, fun j z hz => by simp at hz, fun z hz => by simp at hz⟩
  · simp [Value.cells] at hcs
    obtain ⟨rfl, rfl, rfl⟩ := hcs
    simp only [if_true] at hzl
    obtain ⟨b, off, spot⟩ := a
    refine ⟨some ⟨b, off, spot⟩, len, cap, zs.take len, rfl, by rw [List.length_take]; omega, fun j z hz => ?_, fun z hz => bounds_i64 (hwf z (List.mem_of_mem_take hz))⟩
    have hj : j < len := by
      have := (List.getElem?_eq_some_iff.1 hz).1
      rw [List.length_take] at this; omega
    rw [List.getElem?_take, if_pos hj] at hz
    have hc0 := hcell 0 (by omega)
    have hspot : spot = none := by
      have := World.cell?_spot hc0
      simpa [Addr.add] using this
    subst hspot
    have hc := hcell j (by omega)
    rw [Addr.add_lit, List.getD, hz, Option.getD_some] at hc
    exact ⟨b, off, rfl, hc⟩

theorem arr3o {args : Array Value} {a b c : Value} (h : args.toList = [a, b, c]) : args = #[a, b, c] := by cases args; simp only at h; rw [h]

set_option maxRecDepth 100000 in
theorem onceLifted (os : Os) (started : os.Started) (H : Type) (enc : TypeId × Value → H) :
    ReturnsInHanded {} Try.checked os 5 .any (Rows.onceSpec.pre6 enc Try.prog Try.f5 Rows.onceRow.domain false) (Rows.onceSpec.post enc Try.prog Try.f5 false true false false) := by
  refine returnsInHanded_of_change (C := Try.checked) ownO started (by kernel_rfl) Try.func5
    (ChangeSpec.witness6 (enc := enc) (C := Try.checked) false ⟨#[], #[.int .i64 0, .slice none 0 0, .slice none 0 0], []⟩ 8 (by kernel_rfl) (by kernel_rfl) (by kernel_rfl) (by kernel_rfl)) ?_
  intro W base args ds gs before hval0 hW hcnd _
  have hval : ∀ (j : Nat) t v, Try.f5.params[j]? = some t → args[j]? = some v → Value.okWide Try.prog W .any base t v := hval0
  have hW' := hW
  obtain ⟨p, q, hA0, hV, rfl, hfz, hnd⟩ := hW
  have hA : DataW.TrodAll enc Try.prog W 0 (fun _ => true) true Try.f5.params.toList args.toList ds p := hA0
  rw [Try.params5] at hA hval
  obtain ⟨v0, vs0, d0, ds0, p0, q0, hargs, rfl, rfl, h0, r0⟩ := trodAll_cons hA
  obtain ⟨v1, vs1, d1, ds1, p1, q1, rfl, rfl, rfl, h1, r1⟩ := trodAll_cons r0
  obtain ⟨v2, vs2, d2, ds2, p2, q2, rfl, rfl, rfl, h2, r2⟩ := trodAll_cons r1
  obtain ⟨rfl, rfl, rfl⟩ := trodAll_nil r2
  obtain rfl := arr3o hargs
  obtain ⟨rfl, rfl⟩ := trodVars_none hV
  obtain ⟨n0, rfl, rfl, rfl, w0⟩ := open_int Try.underlying3 (hval 0 3 v0 rfl rfl) h0
  obtain ⟨ao, n, cap, l, rfl, hl, hsc, hbd⟩ := open_lets (hval 1 32 v1 rfl rfl) h1
  obtain ⟨bo, m, cap2, ch, rfl, hl2, hsc2, hbd2⟩ := open_nums (hval 2 33 v2 rfl rfl) h2
  clear hA0 hval0 hcnd
  simp only [List.append_nil] at hW'
  have hlt1 : ∀ x ∈ p1, x.block < W.heap.size := fun x hx => hW'.lt x (by simp [hx])
  have hlt2 : ∀ x ∈ p2, x.block < W.heap.size := fun x hx => hW'.lt x (by simp [hx])
  refine (onceWalk n0 l ao n cap ch bo m cap2 W (bounds_i64 w0).1 (bounds_i64 w0).2 hl hsc hbd hl2 hsc2 hbd2).mono fun e W' ⟨he, hg⟩ => ?_
  subst he
  exact ⟨_, rfl, _, _, _, [], _, [], hW', trodAll_mk1 (shut_bool Try.underlying4 _), trodAll_cons_mk (shut_int Try.underlying3 w0) (trodAll_cons_mk (Below.trod laidOutK (by kernel_rfl) (of_decide_eq_true (by kernel_rfl)) h1 hg hlt1) (trodAll_cons_mk (Below.trod laidOutK (by kernel_rfl) (of_decide_eq_true (by kernel_rfl)) h2 hg hlt2) trodAll_mk0)), rfl, hg.frame _, fun h => by cases h⟩

theorem once_holds : Rows.OnceSaid :=
  OpenClaim.holds_of_wide 5 Try.f5 rfl rfl rfl rfl rfl rfl rfl ⟨rfl, rfl, rfl, rfl, rfl⟩ rfl rfl rfl rfl rfl (by kernel_rfl) Try.func5 (by kernel_rfl)
    (of_decide_eq_true (by kernel_rfl)) (by unfold Func.isWrapper; first | (rw [if_pos (by decide +kernel)]; kernel_rfl) | (rw [if_neg (by decide +kernel)]; exact ⟨rfl, rfl⟩))
    (fun os started H enc _ => onceLifted os started H enc)
end Go.Proofs.Ytmjdndhfmfjbiaa
