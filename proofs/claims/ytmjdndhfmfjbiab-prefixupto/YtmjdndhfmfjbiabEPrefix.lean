import Derived.Test.YtmjdndhfmfjbiabM07
import Derived.Deep.RegionWith
import Derived.ProofKit
import Derived.OpenShut
import Derived.JoinedCond
import Derived.Deep.RegionHeld3
import Derived.Test.YtmjdndhfmfjbiabM02
import Derived.ChangeSlices
import Derived.Deep.Slices
import Derived.Laws.OwnMore
namespace Go.Proofs.Ytmjdndhfmfjbiab
open Go.RowKit

set_option maxRecDepth 100000 in
set_option maxHeartbeats 1000000 in
theorem keepPlaced (ws : List WaitD) (ao : Option Addr) (c : Nat) (x : WaitD) (w : World) (hl : ws.length ≤ 1048576) (h : CellsAt w ao (ws.flatMap waitCells)) :
    Calls Try.prog 25 #[.slice ao ws.length c, waitV x] w fun e w' => ∃ v, e = .returned v ∧
      w'.ownsRow w.heap.size 50 5 v (insM aheadB x ws).length ((insM aheadB x ws).flatMap waitCells) ∧ Below w.heap.size w w' := by
  obtain ⟨i0, hi, hz0, hz1, hz2⟩ := info_parts infoWait
  have H : Hid (CellsAt w ao (ws.flatMap waitCells)) := h
  clear h
  go_enter Try.func25, Try.ntmps25
  go_wp2_with fail
  generalize hWA : w.alloc _ = wa
  have hbA : Below w.heap.size w wa := by rw [← hWA]; exact below_one _ _
  have hsA : w.heap.size < wa.heap.size := by rw [← hWA]; simp
  have h0 : wa.cell? ⟨w.heap.size, 0, none⟩ = some (.int .i64 x.number) := by rw [← hWA]; simp
  have h1 : wa.cell? ⟨w.heap.size, 1, none⟩ = some (.string x.topic) := by rw [← hWA]; simp
  have h2 : wa.cell? ⟨w.heap.size, 2, none⟩ = some (.int .i64 x.value) := by rw [← hWA]; simp
  have h3 : wa.cell? ⟨w.heap.size, 3, none⟩ = some (.int .i64 x.deadline) := by rw [← hWA]; simp
  have h4 : wa.cell? ⟨w.heap.size, 4, none⟩ = some (.int .i64 x.life) := by rw [← hWA]; simp
  have HA : Hid (CellsAt wa ao (ws.flatMap waitCells)) := H.out.below hbA
  clear hWA H
  go_loopw [5, 6, 7] (fun v p i wr => ∃ k : Nat, k ≤ ws.length ∧ i = .int .i64 k ∧ p = .bool (insTo aheadB x ws k).2 ∧ wr.ownsRow wa.heap.size 50 5 v (insTo aheadB x ws k).1.length ((insTo aheadB x ws k).1.flatMap waitCells) ∧ Below wa.heap.size wa wr) (fun _ _ i _ => ws.length - (intOf i).toNat)
  case atStart => exact ⟨0, Nat.zero_le _, rfl, rfl, World.ownsRow_nil _ _ _ _, Below.refl _ _⟩
  case round =>
    obtain ⟨k, hk, rfl, rfl, hown, hbr⟩ := hrel
    have hkl := (insTo_len aheadB x ws k).1
    have hsz := hbr.size
    have r0 := cell_later hbr h0
    have r1 := cell_later hbr h1
    have r2 := cell_later hbr h2
    have r3 := cell_later hbr h3
    have r4 := cell_later hbr h4
    by_cases hlt : k < ws.length
    · obtain ⟨y, hy⟩ : ∃ y, ws[k]? = some y := ⟨_, List.getElem?_eq_getElem hlt⟩
      obtain ⟨g, rfl, hg, c0, c1, c2, c3, c4⟩ := wait_cells (HA.out.below hbr) hy
      have HST : Hid (insTo aheadB x ws (k + 1) = if !(insTo aheadB x ws k).2 && aheadB x y then ((insTo aheadB x ws k).1 ++ [x] ++ [y], true) else ((insTo aheadB x ws k).1 ++ [y], (insTo aheadB x ws k).2)) := insTo_step hy
      have YY : Hid (ws[k]? = some y) := hy
      clear hy
      generalize hT : insTo aheadB x ws k = T at *
      obtain ⟨T1, T2⟩ := T
      clear hT
      simp only at hown hkl
      cases T2
      · cases hah : aheadB x y
        · have HK : Hid (insTo aheadB x ws (k + 1) = (T1 ++ [y], false)) := by show _ = _; rw [HST.out, hah]; rfl
          have HAH : Hid (aheadB x y = false) := hah
          clear hah
          go_wp2_with fail
          go_region_with (go_at_call 66; refine (keepAhead x y _).mono ?_; rintro e w2 ⟨rfl, hb2⟩; rw [HAH.out])
          all_goals have b2 : Below wr.heap.size wr w2 := below_drew.trans (hb2.mono (Nat.le_refl _))
          all_goals have hown2 := own_below hown b2
          all_goals have hbr2 : Below wa.heap.size wa w2 := hbr.trans (b2.mono hbr.size)
          all_goals have d0 := cell_later b2 c0
          all_goals have d1 := cell_later b2 c1
          all_goals have d2 := cell_later b2 c2
          all_goals have d3 := cell_later b2 c3
          all_goals have d4 := cell_later b2 c4
          all_goals have s0 := cell_later b2 r0
          all_goals have s1 := cell_later b2 r1
          all_goals have s2 := cell_later b2 r2
          all_goals have s3 := cell_later b2 r3
          all_goals have s4 := cell_later b2 r4
          all_goals have hs2 := b2.size
          all_goals have hg2 : g < w2.heap.size := by omega
          all_goals clear hb2 b2 hown
          all_goals go_wp2_with (first | (at_builtin; refine wpList_append_own _ rfl _ _ 44 rfl wa.heap.size 50 i0 _ 5 48 Try.underlying44 hi hz0 hz1 hz2 rfl (by decide) _ _ _ rfl (hown2.alloc _) ⟨w2.heap.size, 0, none⟩ 1 1 (waitCells y) rfl rfl (cells_new _ _ _) (wait_one _) (by unfold maxLen; omega) (by omega) (by simp; omega) ?_))
          all_goals intro v' w3 hown' hgrow _
          all_goals have R := grow_row hown2 hbr2 hown' hgrow
          all_goals clear hown' hgrow hown2
          all_goals go_wp2_with fail
          all_goals go_roundw
          all_goals first
            | (case rel => exact ⟨k + 1, by omega, by go_num, by rw [HK.out], by rw [HK.out]; exact R.1, R.2⟩)
            | (case measure => simp [intOf]; omega)
            | skip
        · have HK : Hid (insTo aheadB x ws (k + 1) = (T1 ++ [x] ++ [y], true)) := by show _ = _; rw [HST.out, hah]; rfl
          have HAH : Hid (aheadB x y = true) := hah
          clear hah
          go_wp2_with fail
          go_region_with (go_at_call 66; refine (keepAhead x y _).mono ?_; rintro e w2 ⟨rfl, hb2⟩; rw [HAH.out])
          all_goals have b2 : Below wr.heap.size wr w2 := below_drew.trans (hb2.mono (Nat.le_refl _))
          all_goals have hown2 := own_below hown b2
          all_goals have hbr2 : Below wa.heap.size wa w2 := hbr.trans (b2.mono hbr.size)
          all_goals have d0 := cell_later b2 c0
          all_goals have d1 := cell_later b2 c1
          all_goals have d2 := cell_later b2 c2
          all_goals have d3 := cell_later b2 c3
          all_goals have d4 := cell_later b2 c4
          all_goals have s0 := cell_later b2 r0
          all_goals have s1 := cell_later b2 r1
          all_goals have s2 := cell_later b2 r2
          all_goals have s3 := cell_later b2 r3
          all_goals have s4 := cell_later b2 r4
          all_goals have hs2 := b2.size
          all_goals have hg2 : g < w2.heap.size := by omega
          all_goals clear hb2 b2 hown
          all_goals go_wp2_with (first | (at_builtin; refine wpList_append_own _ rfl _ _ 44 rfl wa.heap.size 50 i0 _ 5 48 Try.underlying44 hi hz0 hz1 hz2 rfl (by decide) _ _ _ rfl (hown2.alloc _) ⟨w2.heap.size, 0, none⟩ 1 1 (waitCells x) rfl rfl (cells_new _ _ _) (wait_one _) (by unfold maxLen; omega) (by omega) (by simp; omega) ?_))
          all_goals intro v' w3 hown' hgrow _
          all_goals have R := grow_row hown2 hbr2 hown' hgrow
          all_goals obtain ⟨T3, hT3⟩ : ∃ T3, T1 ++ [x] = T3 := ⟨_, rfl⟩
          all_goals have HK2 : Hid (insTo aheadB x ws (k + 1) = (T3 ++ [y], true)) := (by show _ = _; rw [HK.out, hT3])
          all_goals have hl3 : T3.length ≤ k + 2 := (by rw [← hT3]; simp; omega)
          all_goals have hown3 := R.1
          all_goals have hbr3 := R.2
          all_goals rw [hT3] at hown3
          all_goals have hwy : CellsAt w3 (some ⟨g, 0, none⟩) (ws.flatMap waitCells) := HA.out.below hbr3
          all_goals obtain ⟨g', eg, hg3, f0, f1, f2, f3, f4⟩ := wait_cells hwy YY.out
          all_goals simp only [Option.some.injEq, Addr.mk.injEq, and_true] at eg
          all_goals subst eg
          all_goals have hs3 := hbr3.size
          all_goals clear hown' hgrow hown2 R hT3 hwy
          all_goals go_wp2_with (first | (at_builtin; refine wpList_append_own _ rfl _ _ 44 rfl wa.heap.size 50 i0 _ 5 48 Try.underlying44 hi hz0 hz1 hz2 rfl (by decide) _ _ _ rfl (hown3.alloc _) ⟨w3.heap.size, 0, none⟩ 1 1 (waitCells y) rfl rfl (cells_new _ _ _) (wait_one _) (by unfold maxLen; omega) (by omega) (by simp; omega) ?_))
          all_goals intro v4 w4 hown4 hgrow4 _
          all_goals have R4 := grow_row hown3 hbr3 hown4 hgrow4
          all_goals clear hown4 hgrow4 hown3
          all_goals go_wp2_with fail
          all_goals go_roundw
          all_goals first
            | (case rel => exact ⟨k + 1, by omega, by go_num, by rw [HK2.out], by rw [HK2.out]; exact R4.1, R4.2⟩)
            | (case measure => simp [intOf]; omega)
            | skip
      · cases hah : aheadB x y
        · have HK : Hid (insTo aheadB x ws (k + 1) = (T1 ++ [y], true)) := by show _ = _; rw [HST.out, hah]; rfl
          have HAH : Hid (aheadB x y = false) := hah
          clear hah
          go_wp2_with fail
          go_region_with (go_at_call 66; refine (keepAhead x y _).mono ?_; rintro e w2 ⟨rfl, hb2⟩; rw [HAH.out])
          all_goals have b2 : Below wr.heap.size wr w2 := below_drew.trans (hb2.mono (Nat.le_refl _))
          all_goals have hown2 := own_below hown b2
          all_goals have hbr2 : Below wa.heap.size wa w2 := hbr.trans (b2.mono hbr.size)
          all_goals have d0 := cell_later b2 c0
          all_goals have d1 := cell_later b2 c1
          all_goals have d2 := cell_later b2 c2
          all_goals have d3 := cell_later b2 c3
          all_goals have d4 := cell_later b2 c4
          all_goals have s0 := cell_later b2 r0
          all_goals have s1 := cell_later b2 r1
          all_goals have s2 := cell_later b2 r2
          all_goals have s3 := cell_later b2 r3
          all_goals have s4 := cell_later b2 r4
          all_goals have hs2 := b2.size
          all_goals have hg2 : g < w2.heap.size := by omega
          all_goals clear hb2 b2 hown
          all_goals go_wp2_with (first | (at_builtin; refine wpList_append_own _ rfl _ _ 44 rfl wa.heap.size 50 i0 _ 5 48 Try.underlying44 hi hz0 hz1 hz2 rfl (by decide) _ _ _ rfl (hown2.alloc _) ⟨w2.heap.size, 0, none⟩ 1 1 (waitCells y) rfl rfl (cells_new _ _ _) (wait_one _) (by unfold maxLen; omega) (by omega) (by simp; omega) ?_))
          all_goals intro v' w3 hown' hgrow _
          all_goals have R := grow_row hown2 hbr2 hown' hgrow
          all_goals clear hown' hgrow hown2
          all_goals go_wp2_with fail
          all_goals go_roundw
          all_goals first
            | (case rel => exact ⟨k + 1, by omega, by go_num, by rw [HK.out], by rw [HK.out]; exact R.1, R.2⟩)
            | (case measure => simp [intOf]; omega)
            | skip
        · have HK : Hid (insTo aheadB x ws (k + 1) = (T1 ++ [y], true)) := by show _ = _; rw [HST.out, hah]; rfl
          have HAH : Hid (aheadB x y = true) := hah
          clear hah
          go_wp2_with fail
          go_region_with (go_at_call 66; refine (keepAhead x y _).mono ?_; rintro e w2 ⟨rfl, hb2⟩; rw [HAH.out])
          all_goals have b2 : Below wr.heap.size wr w2 := below_drew.trans (hb2.mono (Nat.le_refl _))
          all_goals have hown2 := own_below hown b2
          all_goals have hbr2 : Below wa.heap.size wa w2 := hbr.trans (b2.mono hbr.size)
          all_goals have d0 := cell_later b2 c0
          all_goals have d1 := cell_later b2 c1
          all_goals have d2 := cell_later b2 c2
          all_goals have d3 := cell_later b2 c3
          all_goals have d4 := cell_later b2 c4
          all_goals have s0 := cell_later b2 r0
          all_goals have s1 := cell_later b2 r1
          all_goals have s2 := cell_later b2 r2
          all_goals have s3 := cell_later b2 r3
          all_goals have s4 := cell_later b2 r4
          all_goals have hs2 := b2.size
          all_goals have hg2 : g < w2.heap.size := by omega
          all_goals clear hb2 b2 hown
          all_goals go_wp2_with (first | (at_builtin; refine wpList_append_own _ rfl _ _ 44 rfl wa.heap.size 50 i0 _ 5 48 Try.underlying44 hi hz0 hz1 hz2 rfl (by decide) _ _ _ rfl (hown2.alloc _) ⟨w2.heap.size, 0, none⟩ 1 1 (waitCells y) rfl rfl (cells_new _ _ _) (wait_one _) (by unfold maxLen; omega) (by omega) (by simp; omega) ?_))
          all_goals intro v' w3 hown' hgrow _
          all_goals have R := grow_row hown2 hbr2 hown' hgrow
          all_goals clear hown' hgrow hown2
          all_goals go_wp2_with fail
          all_goals go_roundw
          all_goals first
            | (case rel => exact ⟨k + 1, by omega, by go_num, by rw [HK.out], by rw [HK.out]; exact R.1, R.2⟩)
            | (case measure => simp [intOf]; omega)
            | skip
    · obtain rfl : k = ws.length := by omega
      have HEND : Hid (insM aheadB x ws = if (insTo aheadB x ws ws.length).2 then (insTo aheadB x ws ws.length).1 else (insTo aheadB x ws ws.length).1 ++ [x]) := insTo_end aheadB x ws
      generalize hT : insTo aheadB x ws ws.length = T at *
      obtain ⟨T1, T2⟩ := T
      clear hT
      simp only at hown hkl
      cases T2
      · have HE : Hid (insM aheadB x ws = T1 ++ [x]) := HEND.out
        clear HEND
        go_wp2_with (first | (at_builtin; refine wpList_append_own _ rfl _ _ 44 rfl wa.heap.size 50 i0 _ 5 48 Try.underlying44 hi hz0 hz1 hz2 rfl (by decide) _ _ _ rfl (hown.alloc _) ⟨wr.heap.size, 0, none⟩ 1 1 (waitCells x) rfl rfl (cells_new _ _ _) (wait_one _) (by unfold maxLen; omega) (by omega) (by simp; omega) ?_))
        intro v' w1 hown' hgrow _
        have R := grow_row hown hbr hown' hgrow
        clear hown' hgrow hown
        go_wp2_with fail
        go_ret
        exact ⟨_, rfl, by rw [HE.out]; exact own_mono R.1 (by omega), hbA.trans (R.2.mono hbA.size)⟩
      · have HE : Hid (insM aheadB x ws = T1) := HEND.out
        clear HEND
        go_wp2_with fail
        go_ret
        exact ⟨_, rfl, by rw [HE.out]; exact own_mono hown (by omega), hbA.trans (hbr.mono hbA.size)⟩
end Go.Proofs.Ytmjdndhfmfjbiab

namespace Go.Proofs.Ytmjdndhfmfjbiab
open Go.RowKit

theorem fit_self (x : ByteArray) : fitAny [x] x = true := by
  unfold fitAny
  rw [List.any_cons, M.along_L, M.along_self]; rfl
theorem topic_filter {x : ByteArray} (h : M.isPathM false x = true) : M.isPathM true x = true := by
  rw [M.isPath_L] at h ⊢
  exact M.path_wild h

/-- A client subscribes, with nothing done before. -/
theorem sub_first {x : ByteArray} (hx : M.isPathM true x = true) (n : Nat) (hn : n < 8) (room : Int) (hr : 0 < room) (b c d : Int) :
    doErr (refNew room) ⟨1, n, b, c, d, x⟩ = 0 ∧ doS (refNew room) ⟨1, n, b, c, d, x⟩ = { refNew room with done := [⟨1, n, b, c, d, x⟩], fil := setAt (fun _ => []) n [x] } := by
  have hk : knownB (n : Int) = true := by simp [knownB]; omega
  have hz : wrongM (refNew room) ⟨1, n, b, c, d, x⟩ = 0 := by simp [wrongM, hk, hx, refNew, findM, subErr]
  obtain ⟨-, q2, q3⟩ := is_done hz (writes_not (by show (1 : Int) ≠ 6; decide)) (by show ((0 : Nat) : Int) < room; omega)
  exact ⟨q2, by rw [q3]; simp [turnM, refNew]⟩

/-- A message is sent at once. -/
theorem pub_now {S : RefS} {x : ByteArray} {v life : Int} (a : Int) (hx : M.isPathM false x = true) (hv0 : 0 ≤ v) (hv1 : v ≤ 1073741824) (hl0 : 0 ≤ life) (hl1 : life ≤ 1099511627776) (hr : (S.done.length : Int) < S.room) :
    doErr S ⟨3, a, v, 0, life, x⟩ = 0 ∧ doAns S ⟨3, a, v, 0, life, x⟩ = S.pub ∧ doS S ⟨3, a, v, 0, life, x⟩ = sendTo { S with done := S.done ++ [⟨3, a, v, 0, life, x⟩], pub := S.pub + 1 } ⟨S.pub, x, v, 0, life⟩ 8 := by
  have hz : wrongM S ⟨3, a, v, 0, life, x⟩ = 0 := by
    have h1 : isTimeM 0 = true := by decide
    have h2 : isTimeM life = true := by simp [isTimeM]; omega
    simp [wrongM, pubErr, hx, h1, h2]
    omega
  obtain ⟨q1, q2, q3⟩ := is_done hz (writes_not (by show (3 : Int) ≠ 6; decide)) hr
  exact ⟨q2, by unfold doAns; rw [q1]; rfl, by rw [q3]; simp [turnM]⟩

/-- What one client has of a message that is sent. -/
theorem send_at (S : RefS) (m : WaitD) (n : Nat) (hn : n < 8) : (sendTo S m 8).que n = if fitAny (S.fil n) m.topic then (if 10 ≤ (S.que n).length then S.que n else S.que n ++ [sentOf S m]) else S.que n := by
  have keep : ∀ k, n < k → (sendTo S m k).que n = (sendTo S m (n + 1)).que n := by
    intro k
    induction k with
    | zero => intro h; omega
    | succ k ih =>
      intro h
      by_cases e : k = n
      · subst e; rfl
      · rw [sendTo, ((sendOne_keeps (sendTo S m k) m k).2.2.2.2.2.2 n (by omega)).2, ih (by omega)]
  rw [keep 8 hn, sendTo]
  obtain ⟨k1, k2, -, -, -, -, k7⟩ := sendTo_keeps S m n
  have hq := (k7 n (Nat.le_refl _)).2
  unfold sendOne
  rw [k1]
  split
  · rw [hq]
    split
    · exact hq
    · show setAt (sendTo S m n).que n _ n = _
      rw [setAt_same]
      unfold sentOf
      rw [k2]
  · exact hq

theorem send_lost (S : RefS) (m : WaitD) (n : Nat) (hn : n < 8) : (sendTo S m 8).lost n = if fitAny (S.fil n) m.topic then (if 10 ≤ (S.que n).length then S.lost n + 1 else S.lost n) else S.lost n := by
  have keep : ∀ k, n < k → (sendTo S m k).lost n = (sendTo S m (n + 1)).lost n := by
    intro k
    induction k with
    | zero => intro h; omega
    | succ k ih =>
      intro h
      by_cases e : k = n
      · subst e; rfl
      · rw [sendTo, ((sendOne_keeps (sendTo S m k) m k).2.2.2.2.2.2 n (by omega)).1, ih (by omega)]
  rw [keep 8 hn, sendTo]
  obtain ⟨k1, k2, -, -, -, -, k7⟩ := sendTo_keeps S m n
  obtain ⟨hl, hq⟩ := k7 n (Nat.le_refl _)
  unfold sendOne
  rw [k1]
  split
  · rw [hq]
    split
    · show setAt (sendTo S m n).lost n _ n = _
      rw [setAt_same, hl]
    · exact hl
  · exact hl
end Go.Proofs.Ytmjdndhfmfjbiab

/-
  heraldkeep: a broker of one's own, and its blocks.
-/
namespace Go.Proofs.Ytmjdndhfmfjbiab
open Go.RowKit

/-- A broker that was made since, and the blocks that it takes up. -/
def MineF (w0 w : World) (H : Nat) (F : Nat → Prop) (S : RefS) : Prop := ∃ R, PRc w H F S R ∧ (∀ k, F k → w0.heap.size ≤ k) ∧ Below w0.heap.size w0 w ∧ Good S
theorem MineF.mine {w0 w : World} {H : Nat} {F : Nat → Prop} {S : RefS} (h : MineF w0 w H F S) : Mine w0 w H S := by
  obtain ⟨R, hp, hF, hb, hg⟩ := h
  exact ⟨F, R, hp, hF, hb, hg⟩
theorem Mine.mineF {w0 w : World} {H : Nat} {S : RefS} (h : Mine w0 w H S) : ∃ F, MineF w0 w H F S := by
  obtain ⟨F, R, hp, hF, hb, hg⟩ := h
  exact ⟨F, R, hp, hF, hb, hg⟩
theorem MineF.below {w0 w w1 : World} {H : Nat} {F : Nat → Prop} {S : RefS} (h : MineF w0 w H F S) (hb : Below w.heap.size w w1) : MineF w0 w1 H F S := by
  obtain ⟨R, hp, hF, hbw, hg⟩ := h
  exact ⟨R, hp.below hb, hF, hbw.trans (hb.mono hbw.size), hg⟩
theorem MineF.upd {P : Nat → Prop} {w0 w w1 : World} {H : Nat} {F : Nat → Prop} {S : RefS} (h : MineF w0 w H F S) (hu : Upd P w w1) (h0 : ∀ k, P k → w0.heap.size ≤ k) (hs : ∀ k, F k → ¬ P k) : MineF w0 w1 H F S := by
  obtain ⟨R, ⟨x, fil, wait, hb, hF1⟩, hF, hbw, hg⟩ := h
  exact ⟨R, ⟨x, fil, wait, hb.upd hu (fun i hi => hs i ((hF1 i).2 hi)), hF1⟩, hF, hbw.trans (below_of_upd hu hbw.size h0), hg⟩
theorem MineF.lt {w0 w : World} {H : Nat} {F : Nat → Prop} {S : RefS} {k : Nat} (h : MineF w0 w H F S) (hk : F k) : k < w.heap.size := by
  obtain ⟨R, hp, -, -, -⟩ := h
  exact hp.lt hk
/-- What an operation on it leaves. -/
def MineStep (w0 w : World) (H : Nat) (F : Nat → Prop) (S1 : RefS) (w1 : World) : Prop := ∃ F1, MineF w0 w1 H F1 S1 ∧ Upd F w w1 ∧ (∀ k, F k → w0.heap.size ≤ k) ∧ ∀ k, F1 k → F k ∨ w.heap.size ≤ k
theorem MineF.step {w0 w w1 : World} {H : Nat} {F : Nat → Prop} {S1 : RefS} {R : List ByteArray} (hF : ∀ k, F k → w0.heap.size ≤ k) (hbw : Below w0.heap.size w0 w) (hg : Good S1) (ho : Outcome PRc w H F R S1 w1) : MineStep w0 w H F S1 w1 := by
  obtain ⟨F1, R1, hp, hu, hk⟩ := ho
  refine ⟨F1, ⟨R ++ R1, hp, fun k h => ?_, hbw.trans (below_of_upd hu hbw.size hF), hg⟩, hu, hF, hk⟩
  rcases hk k h with h1 | h1
  · exact hF k h1
  · exact Nat.le_trans hbw.size h1

theorem mineFSub {w0 w : World} {H : Nat} {F : Nat → Prop} {S : RefS} (a b c d : Int) (s : ByteArray) (h : MineF w0 w H F S) (hs : s.size ≤ 1048576) :
    Calls Try.prog 11 #[.pointer (some ⟨H, 0, none⟩), .int .i64 a, .string s] w fun e w' => e = .returned (.int .i64 (doErr S ⟨1, a, b, c, d, s⟩)) ∧ MineStep w0 w H F (doS S ⟨1, a, b, c, d, s⟩) w' := by
  obtain ⟨R, hp, hF, hbw, hg⟩ := h
  refine (hrSubscribe a b c d s hp hg hs).mono ?_
  rintro e w1 ⟨rfl, ho⟩
  exact ⟨rfl, MineF.step hF hbw (hg.does ⟨⟨by show (1 : Int) ≤ 1; omega, by show (1 : Int) ≤ 7; omega⟩, hs⟩) ho⟩

theorem mineFUnsub {w0 w : World} {H : Nat} {F : Nat → Prop} {S : RefS} (a b c d : Int) (s : ByteArray) (h : MineF w0 w H F S) (hs : s.size ≤ 1048576) :
    Calls Try.prog 73 #[.pointer (some ⟨H, 0, none⟩), .int .i64 a, .string s] w fun e w' => e = .returned (.int .i64 (doErr S ⟨2, a, b, c, d, s⟩)) ∧ MineStep w0 w H F (doS S ⟨2, a, b, c, d, s⟩) w' := by
  obtain ⟨R, hp, hF, hbw, hg⟩ := h
  refine (hrUnsubscribe a b c d s hp hg hs).mono ?_
  rintro e w1 ⟨rfl, ho⟩
  exact ⟨rfl, MineF.step hF hbw (hg.does ⟨⟨by show (1 : Int) ≤ 2; omega, by show (2 : Int) ≤ 7; omega⟩, hs⟩) ho⟩

theorem mineFCancel {w0 w : World} {H : Nat} {F : Nat → Prop} {S : RefS} (a b c d : Int) (s : ByteArray) (h : MineF w0 w H F S) (hs : s.size ≤ 1048576) :
    Calls Try.prog 22 #[.pointer (some ⟨H, 0, none⟩), .int .i64 b] w fun e w' => e = .returned (.int .i64 (doErr S ⟨4, a, b, c, d, s⟩)) ∧ MineStep w0 w H F (doS S ⟨4, a, b, c, d, s⟩) w' := by
  obtain ⟨R, hp, hF, hbw, hg⟩ := h
  refine (hrCancel a b c d s hp hg).mono ?_
  rintro e w1 ⟨rfl, ho⟩
  exact ⟨rfl, MineF.step hF hbw (hg.does ⟨⟨by show (1 : Int) ≤ 4; omega, by show (4 : Int) ≤ 7; omega⟩, hs⟩) ho⟩

theorem mineFMove {w0 w : World} {H : Nat} {F : Nat → Prop} {S : RefS} (a b c d : Int) (s : ByteArray) (h : MineF w0 w H F S) (hs : s.size ≤ 1048576) :
    Calls Try.prog 23 #[.pointer (some ⟨H, 0, none⟩), .int .i64 b, .int .i64 c] w fun e w' => e = .returned (.int .i64 (doErr S ⟨5, a, b, c, d, s⟩)) ∧ MineStep w0 w H F (doS S ⟨5, a, b, c, d, s⟩) w' := by
  obtain ⟨R, hp, hF, hbw, hg⟩ := h
  refine (hrMove a b c d s hp hg).mono ?_
  rintro e w1 ⟨rfl, ho⟩
  exact ⟨rfl, MineF.step hF hbw (hg.does ⟨⟨by show (1 : Int) ≤ 5; omega, by show (5 : Int) ≤ 7; omega⟩, hs⟩) ho⟩

theorem mineFTick {w0 w : World} {H : Nat} {F : Nat → Prop} {S : RefS} (a b c d : Int) (s : ByteArray) (h : MineF w0 w H F S) (hs : s.size ≤ 1048576) :
    Calls Try.prog 19 #[.pointer (some ⟨H, 0, none⟩), .int .i64 b] w fun e w' => e = .returned (.int .i64 (doErr S ⟨6, a, b, c, d, s⟩)) ∧ MineStep w0 w H F (doS S ⟨6, a, b, c, d, s⟩) w' := by
  obtain ⟨R, hp, hF, hbw, hg⟩ := h
  refine (hrTick a b c d s hp hg).mono ?_
  rintro e w1 ⟨rfl, ho⟩
  exact ⟨rfl, MineF.step hF hbw (hg.does ⟨⟨by show (1 : Int) ≤ 6; omega, by show (6 : Int) ≤ 7; omega⟩, hs⟩) ho⟩

theorem mineFAck {w0 w : World} {H : Nat} {F : Nat → Prop} {S : RefS} (a b c d : Int) (s : ByteArray) (h : MineF w0 w H F S) (hs : s.size ≤ 1048576) :
    Calls Try.prog 13 #[.pointer (some ⟨H, 0, none⟩), .int .i64 a, .int .i64 b] w fun e w' => e = .returned (.int .i64 (doErr S ⟨7, a, b, c, d, s⟩)) ∧ MineStep w0 w H F (doS S ⟨7, a, b, c, d, s⟩) w' := by
  obtain ⟨R, hp, hF, hbw, hg⟩ := h
  refine (hrAck a b c d s hp hg).mono ?_
  rintro e w1 ⟨rfl, ho⟩
  exact ⟨rfl, MineF.step hF hbw (hg.does ⟨⟨by show (1 : Int) ≤ 7; omega, by show (7 : Int) ≤ 7; omega⟩, hs⟩) ho⟩

theorem mineFPub {w0 w : World} {H : Nat} {F : Nat → Prop} {S : RefS} (a b c d : Int) (s : ByteArray) (h : MineF w0 w H F S) (hs : s.size ≤ 1048576) :
    Calls Try.prog 14 #[.pointer (some ⟨H, 0, none⟩), .string s, .int .i64 b, .int .i64 c, .int .i64 d] w fun e w' => e = .returned (.tuple #[.int .i64 (doAns S ⟨3, a, b, c, d, s⟩), .int .i64 (doErr S ⟨3, a, b, c, d, s⟩)]) ∧ MineStep w0 w H F (doS S ⟨3, a, b, c, d, s⟩) w' := by
  obtain ⟨R, hp, hF, hbw, hg⟩ := h
  refine (hrPublish a b c d s hp hg hs).mono ?_
  rintro e w1 ⟨rfl, ho⟩
  exact ⟨rfl, MineF.step hF hbw (hg.does ⟨⟨by show (1 : Int) ≤ 3; omega, by show (3 : Int) ≤ 7; omega⟩, hs⟩) ho⟩
end Go.Proofs.Ytmjdndhfmfjbiab

namespace Go.Proofs.Ytmjdndhfmfjbiab
open Go.RowKit

/-- A Tick that does not go on. -/
theorem tick_still {S : RefS} {b : Int} (a c d : Int) (s : ByteArray) (h0 : 0 ≤ b) (h1 : b ≤ 1099511627776) (hn : ¬ S.time < b) : doErr S ⟨6, a, b, c, d, s⟩ = 0 ∧ doS S ⟨6, a, b, c, d, s⟩ = S := by
  have hz : wrongM S ⟨6, a, b, c, d, s⟩ = 0 := by
    have ht : isTimeM b = true := by simp [isTimeM]; omega
    simp [wrongM, tickErr, ht]
  have hwb : writesB S ⟨6, a, b, c, d, s⟩ = false := by simp [writesB]; omega
  have hd : doneB S ⟨6, a, b, c, d, s⟩ = false := by unfold doneB; rw [hwb, Bool.and_false]; rfl
  exact ⟨by unfold doErr; rw [if_pos hz, hwb]; rfl, by unfold doS; rw [hd]; rfl⟩

/-- The state behind so many Ticks. -/
structure Ticked (S : RefS) (r : Int) (k : Nat) : Prop where
  time : S.time = (k : Int)
  done : S.done.length = k
  room : S.room = r
  fil : S.fil = fun _ => []
  wait : S.wait = []

theorem ticked_step {S : RefS} {r : Int} {k : Nat} (h : Ticked S r k) (hk : (k : Int) < r) (hr : r ≤ 500) (a c d : Int) (s : ByteArray) : doErr S ⟨6, a, (k : Int) + 1, c, d, s⟩ = 0 ∧ Ticked (doS S ⟨6, a, (k : Int) + 1, c, d, s⟩) r (k + 1) := by
  obtain ⟨h2, h3, -⟩ := tick_plain (S := S) (b := (k : Int) + 1) a c d s h.wait (by omega) (by omega) (by rw [h.done, h.room]; exact hk)
  refine ⟨h2, ?_⟩
  rw [h3 (by rw [h.time]; omega)]
  obtain ⟨g1, g2, g3, g4, g5, g6, g7, g8⟩ := aged_keeps { S with done := S.done ++ [⟨6, a, (k : Int) + 1, c, d, s⟩] } ((k : Int) + 1) 8
  exact ⟨by rw [g2]; push_cast; rfl, by rw [g3]; simp [h.done], g5.trans h.room, g1.trans h.fil, g4.trans h.wait⟩

theorem hash_ok : M.isPathM true ⟨#[35]⟩ = true := by rw [M.isPath_L]; decide

/-- What a full broker says. -/
theorem ticked_full {S : RefS} {r : Int} {k : Nat} (h : Ticked S r k) (hk : (k : Int) = r) (o : OpD) (hw : wrongM S o = 0) (hb : writesB S o = true) : doErr S o = 9 ∧ doS S o = S := by
  have e := is_full hw hb (by rw [h.done, h.room]; omega)
  exact ⟨e, (not_done (by rw [e]; omega)).2.1⟩

set_option maxRecDepth 100000 in
set_option maxHeartbeats 4000000 in
theorem keepNone (k : Int) (w : World) (h0 : -9223372036854775808 ≤ k) (h1 : k ≤ 9223372036854775807) : Calls Try.prog 41 #[.int .i64 k] w fun e w' => (∃ y, e = .returned (.string y) ∧ M.isPathM true y = false ∧ M.isPathM false y = false ∧ y.size ≤ 15) ∧ Below w.heap.size w w' := by
  have hb := pick_bd k 8 (by omega)
  have HB : Hid (∀ o, Below w.heap.size w (w.alloc o)) := fun o => below_one _ _
  rcases (show pickM k 8 = 0 ∨ pickM k 8 = 1 ∨ pickM k 8 = 2 ∨ pickM k 8 = 3 ∨ pickM k 8 = 4 ∨ pickM k 8 = 5 ∨ pickM k 8 = 6 ∨ pickM k 8 = 7 from by omega) with e | e | e | e | e | e | e | e
  all_goals
    have HE : Hid (pickM k 8 = _) := e
    clear e hb
    go_enter Try.func41, Try.ntmps41
    go_wp2_with fail
    refine (keepPick k 8 _ h0 h1 (by omega) (by omega)).mono ?_
    rintro e w2 ⟨rfl, hw2⟩
    rw [HE.out, hw2]
    go_wp2_with fail
    go_ret
    refine ⟨⟨_, rfl, by rw [M.isPath_L]; decide, by rw [M.isPath_L]; decide, by decide⟩, HB.out _⟩

set_option maxRecDepth 100000 in
set_option maxHeartbeats 4000000 in
theorem fullWalk (room : Int) (s : ByteArray) (w : World) (h0 : -9223372036854775808 ≤ room) (h1 : room ≤ 9223372036854775807) (hs : s.size ≤ maxLen) :
    Calls Try.prog 8 #[.int .i64 room, .string s] w fun e w' => e = .returned (.bool true) ∧ Below w.heap.size w w' := by
  go_enter Try.func8, Try.ntmps8
  go_wp2_with fail
  refine (keepPick room 501 _ h0 h1 (by omega) (by omega)).mono ?_
  rintro e w ⟨rfl, rfl⟩
  have hr := pick_bd room 501 (by omega)
  generalize pickM room 501 = r at *
  obtain ⟨R, rfl⟩ : ∃ R : Nat, r = (R : Int) := ⟨r.toNat, by omega⟩
  have hR : R ≤ 500 := by omega
  clear hr
  go_wp2_with fail
  refine (mineOpened (R : Int) w (by omega) (by omega)).mono ?_
  rintro e w1 ⟨H, rfl, hm1⟩
  have M1 : Hid (Mine w w1 H (refNew (R : Int))) := hm1
  clear hm1
  go_wp2_with fail
  go_loopw [7] (fun i wr => ∃ (k : Nat) (S : RefS), k ≤ R ∧ i = .int .i64 (k : Int) ∧ Mine w wr H S ∧ Ticked S (R : Int) k) (fun i _ => R - (intOf i).toNat)
  case atStart => exact ⟨0, _, Nat.zero_le _, rfl, M1.out, ⟨rfl, rfl, rfl, rfl, rfl⟩⟩
  case round =>
    obtain ⟨k, S, hk, rfl, hm, ht⟩ := hrel
    have MM : Hid (Mine w wr H S) := hm
    have TT : Hid (Ticked S (R : Int) k) := ht
    clear hm ht
    by_cases hlt : k < R
    · obtain ⟨p1, p2⟩ := ticked_step TT.out (by omega) (by omega) 0 0 0 ⟨#[]⟩
      have P1 : Hid (doErr S ⟨6, 0, (k : Int) + 1, 0, 0, ⟨#[]⟩⟩ = 0) := p1
      have P2 : Hid (Ticked (doS S ⟨6, 0, (k : Int) + 1, 0, 0, ⟨#[]⟩⟩) (R : Int) (k + 1)) := p2
      clear p1 p2
      go_wp2_with fail
      refine (mineTick 0 ((k : Int) + 1) 0 0 ⟨#[]⟩ MM.out (Nat.zero_le _)).mono ?_
      rintro e w2 ⟨rfl, hm2⟩
      rw [P1.out]
      have M2 : Hid (Mine w w2 H (doS S ⟨6, 0, (k : Int) + 1, 0, 0, ⟨#[]⟩⟩)) := hm2
      clear hm2
      go_wp2_with fail
      go_roundw
      case rel => exact ⟨k + 1, _, by omega, by go_num, M2.out, P2.out⟩
      case measure => simp [intOf]; omega
    · obtain rfl : k = R := by omega
      have hg := MM.out.good
      have HTI : Hid (S.time = (k : Int)) := TT.out.time
      have HDO : Hid (S.done.length = k) := TT.out.done
      have HDK : Hid ((cat (S.done.map recOf)).size = 42 * k) := by
        obtain ⟨F, R, ⟨x, fil, wait, hb, -⟩, -, -, -⟩ := MM.out
        have := hb.size
        rw [hb.recs, TT.out.done] at this
        exact this
      have HFL : Hid (filtersM S 0 = []) := by
        show filtersM S 0 = []
        unfold filtersM
        rw [TT.out.fil]; rfl
      have HWA : Hid (waitingM S = []) := by
        show waitingM S = []
        unfold waitingM
        rw [TT.out.wait]; rfl
      have hfil0 : S.fil 0 = [] := by rw [TT.out.fil]
      -- the answers
      have hA : Hid (doErr S ⟨6, 0, (k : Int) + 1, 0, 0, ⟨#[]⟩⟩ = 9 ∧ doS S ⟨6, 0, (k : Int) + 1, 0, 0, ⟨#[]⟩⟩ = S) := by
        refine ticked_full TT.out rfl _ ?_ ?_
        · have ht : isTimeM ((k : Int) + 1) = true := by simp [isTimeM]; omega
          simp [wrongM, tickErr, ht]
        · simp [writesB, HTI.out]; omega
      have hC : Hid (doErr S ⟨1, 0, 0, 0, 0, ⟨#[35]⟩⟩ = 9 ∧ doS S ⟨1, 0, 0, 0, 0, ⟨#[35]⟩⟩ = S) := by
        refine ticked_full TT.out rfl _ ?_ (writes_not (by show (1 : Int) ≠ 6; decide))
        have hk : knownB 0 = true := by decide
        simp [wrongM, hk, hash_ok, hfil0, findM, subErr]
      have hP : Hid (∀ x c, M.isPathM false x = true → (c = 0 ∨ c = 1) → doErr S ⟨3, 0, 0, c, 0, x⟩ = 9 ∧ doAns S ⟨3, 0, 0, c, 0, x⟩ = 0 ∧ doS S ⟨3, 0, 0, c, 0, x⟩ = S) := fun x c hx hc => by
        have h1 : isTimeM 0 = true := by decide
        have h2 : isTimeM 1 = true := by decide
        have e := ticked_full TT.out rfl ⟨3, 0, 0, c, 0, x⟩ (by rcases hc with rfl | rfl <;> simp [wrongM, pubErr, hx, h1, h2, TT.out.wait]) (writes_not (by show (3 : Int) ≠ 6; decide))
        exact ⟨e.1, (not_done (by rw [e.1]; omega)).2.2, e.2⟩
      have hD : Hid (∀ y, M.isPathM true y = false → doErr S ⟨1, 0, 0, 0, 0, y⟩ = 4 ∧ doS S ⟨1, 0, 0, 0, 0, y⟩ = S) := fun y hy => by
        have hk : knownB 0 = true := by decide
        have e := is_wrong (S := S) (o := ⟨1, 0, 0, 0, 0, y⟩) (e := 4) (by simp [wrongM, hk, hy]) (by omega)
        exact ⟨e, (not_done (by rw [e]; omega)).2.1⟩
      clear hfil0 hg
      go_wp2_with fail
      refine (mineDisk MM.out).mono ?_
      rintro e wr ⟨rfl, rfl⟩
      have hdk1 := HDK.out
      generalize hdk : cat (S.done.map recOf) = dk at *
      have HDK2 : Hid (cat (S.done.map recOf) = dk) := hdk
      clear hdk
      go_wp2_with fail
      refine (keepTopic s _ hs).mono ?_
      rintro e w3 ⟨⟨x, rfl, hx⟩, hb3⟩
      have HX : Hid (M.isPathM false x = true) := hx
      have hxs : x.size ≤ 1048576 := Nat.le_trans (path15 hx) (by omega)
      have M3 : Hid (Mine w w3 H S) := MM.out.below hb3
      clear hx hb3
      go_wp2_with fail
      refine (mineTick 0 ((k : Int) + 1) 0 0 ⟨#[]⟩ M3.out (Nat.zero_le _)).mono ?_
      rintro e w4 ⟨rfl, hm4⟩
      rw [hA.out.1]
      rw [hA.out.2] at hm4
      have M4 : Hid (Mine w w4 H S) := hm4
      clear hm4
      go_wp2_with fail
      refine (keepPick room ((k : Int) + 1) _ h0 h1 (by omega) (by omega)).mono ?_
      rintro e w4 ⟨rfl, rfl⟩
      have hpk := pick_bd room ((k : Int) + 1) (by omega)
      generalize pickM room ((k : Int) + 1) = p at *
      obtain ⟨t1, t2⟩ := tick_still (S := S) (b := p) 0 0 0 ⟨#[]⟩ (by omega) (by omega) (by rw [HTI.out]; omega)
      have T1 : Hid (doErr S ⟨6, 0, p, 0, 0, ⟨#[]⟩⟩ = 0) := t1
      have T2 : Hid (doS S ⟨6, 0, p, 0, 0, ⟨#[]⟩⟩ = S) := t2
      clear t1 t2
      go_wp2_with fail
      refine (mineTick 0 p 0 0 ⟨#[]⟩ M4.out (Nat.zero_le _)).mono ?_
      rintro e w5 ⟨rfl, hm5⟩
      rw [T1.out]
      rw [T2.out] at hm5
      have M5 : Hid (Mine w w5 H S) := hm5
      clear hm5
      go_wp2_with fail
      refine (mineSub 0 0 0 0 ⟨#[35]⟩ M5.out (by show 1 ≤ _; omega)).mono ?_
      rintro e w6 ⟨rfl, hm6⟩
      rw [hC.out.1]
      rw [hC.out.2] at hm6
      have M6 : Hid (Mine w w6 H S) := hm6
      clear hm6
      go_wp2_with fail
      refine (keepNone room _ h0 h1).mono ?_
      rintro e w7 ⟨⟨y, rfl, hy1, hy2, hy3⟩, hb7⟩
      have M7 : Hid (Mine w w7 H S) := M6.out.below hb7
      have Y1 : Hid (doErr S ⟨1, 0, 0, 0, 0, y⟩ = 4 ∧ doS S ⟨1, 0, 0, 0, 0, y⟩ = S) := hD.out y hy1
      clear hy1 hy2 hb7
      go_wp2_with fail
      refine (mineSub 0 0 0 0 y M7.out (by omega)).mono ?_
      rintro e w8 ⟨rfl, hm8⟩
      rw [Y1.out.1]
      rw [Y1.out.2] at hm8
      have M8 : Hid (Mine w w8 H S) := hm8
      clear hm8
      go_wp2_with fail
      refine (minePub 0 0 0 0 x M8.out hxs).mono ?_
      rintro e w9 ⟨rfl, hm9⟩
      obtain ⟨e1, e2, e3⟩ := hP.out x 0 HX.out (.inl rfl)
      rw [e1, e2]
      rw [e3] at hm9
      have M9 : Hid (Mine w w9 H S) := hm9
      clear hm9 e1 e2 e3
      go_wp2_with fail
      refine (minePub 0 0 1 0 x M9.out hxs).mono ?_
      rintro e w10 ⟨rfl, hm10⟩
      obtain ⟨e1, e2, e3⟩ := hP.out x 1 HX.out (.inr rfl)
      rw [e1, e2]
      rw [e3] at hm10
      have M10 : Hid (Mine w w10 H S) := hm10
      clear hm10 e1 e2 e3
      go_wp2_with fail
      refine (mineTime M10.out).mono ?_
      rintro e w10 ⟨rfl, rfl⟩
      rw [HTI.out]
      go_wp2_with fail
      refine (mineRecords M10.out).mono ?_
      rintro e w10 ⟨rfl, rfl⟩
      rw [HDO.out]
      go_wp2_with fail
      refine (mineDisk M10.out).mono ?_
      rintro e w10 ⟨rfl, rfl⟩
      rw [HDK2.out]
      go_wp2_with fail
      refine (mineFilters 0 M10.out).mono ?_
      rintro e w11 ⟨v, rfl, ho11, hb11⟩
      rw [HFL.out] at ho11
      obtain ⟨af, cf, rfl, -, -, -⟩ := Row.form (row_of_own (w := w10) ho11 nilV).1
      have M11 : Hid (Mine w w11 H S) := M10.out.below hb11
      clear ho11 hb11
      go_wp2_with fail
      refine (mineWaiting M11.out).mono ?_
      rintro e w12 ⟨v, rfl, ho12, hb12⟩
      rw [HWA.out] at ho12
      obtain ⟨aw, cw, rfl, -, -, -⟩ := Row.form (row_of_own (w := w11) ho12 nilV).1
      have HBW : Hid (Below w.heap.size w w12) := (M11.out.below hb12).out
      clear ho12 hb12
      have hge : (k : Int) ≤ (dk.size : Int) := by omega
      go_wp2_with fail
      go_ret
      exact ⟨ret_bool' (show decide ((k : Int) ≤ 42 * (k : Int)) = true from decide_eq_true (by omega)), HBW.out⟩
open Go.ChangeShapes Go.WideShapes Go.ChangeAt
open Go.ChangeMaps (open_string shut_string)

theorem arr2k {args : Array Value} {a b : Value} (h : args.toList = [a, b]) : args = #[a, b] := by cases args; simp only at h; rw [h]
theorem ownK : ownKnob Try.prog.godebug = none := by kernel_rfl

set_option maxRecDepth 100000 in
theorem fullLifted (os : Os) (started : os.Started) (H : Type) (enc : TypeId × Value → H) :
    ReturnsInHanded {} Try.checked os 8 .any (Rows.fullSpec.pre6 enc Try.prog Try.f8 Rows.fullRow.domain false) (Rows.fullSpec.post enc Try.prog Try.f8 false true false false) := by
  refine returnsInHanded_of_change (C := Try.checked) ownK started (by kernel_rfl) Try.func8
    (ChangeSpec.witness6 (enc := enc) (C := Try.checked) false ⟨#[], #[.int .i64 0, .string .empty], []⟩ 8 (by kernel_rfl) (by kernel_rfl) (by kernel_rfl) (by kernel_rfl)) ?_
  intro W base args ds gs before hval0 hW hcnd _
  have hval : ∀ (j : Nat) t v, Try.f8.params[j]? = some t → args[j]? = some v → Value.okWide Try.prog W .any base t v := hval0
  have hW' := hW
  obtain ⟨p, q, hA0, hV, rfl, hfz, hnd⟩ := hW
  have hA : DataW.TrodAll enc Try.prog W 0 (fun _ => true) true Try.f8.params.toList args.toList ds p := hA0
  rw [Try.params8] at hA hval
  obtain ⟨v0, vs0, d0, ds0, p0, q0, hargs, rfl, rfl, h0, r0⟩ := trodAll_cons hA
  obtain ⟨v1, vs1, d1, ds1, p1, q1, rfl, rfl, rfl, h1, r1⟩ := trodAll_cons r0
  obtain ⟨rfl, rfl, rfl⟩ := trodAll_nil r1
  obtain rfl := arr2k hargs
  obtain ⟨rfl, rfl⟩ := trodVars_none hV
  obtain ⟨n1, rfl, rfl, rfl, w1⟩ := open_int Try.underlying3 (hval 0 3 v0 rfl rfl) h0
  obtain ⟨s, rfl, rfl, rfl, hmax⟩ := open_string Try.underlying9 (hval 1 9 v1 rfl rfl) h1
  clear hA0 hval0 hcnd
  simp only [List.append_nil] at hW'
  refine (fullWalk n1 s W (bounds_i64 w1).1 (bounds_i64 w1).2 hmax).mono fun e W' ⟨he, hg⟩ => ?_
  subst he
  exact ⟨_, rfl, _, _, _, [], [], [], hW', trodAll_mk1 (shut_bool Try.underlying4 _), trodAll_cons_mk (shut_int Try.underlying3 w1) (trodAll_cons_mk (shut_string Try.underlying9 hmax) trodAll_mk0), rfl, hg.frame _, fun h => by cases h⟩

theorem full_holds : Rows.FullSaid :=
  OpenClaim.holds_of_wide 8 Try.f8 rfl rfl rfl rfl rfl rfl rfl ⟨rfl, rfl, rfl, rfl, rfl⟩ rfl rfl rfl rfl rfl (by kernel_rfl) Try.func8 (by kernel_rfl)
    (of_decide_eq_true (by kernel_rfl)) (by unfold Func.isWrapper; first | (rw [if_pos (by decide +kernel)]; kernel_rfl) | (rw [if_neg (by decide +kernel)]; exact ⟨rfl, rfl⟩))
    (fun os started H enc _ => fullLifted os started H enc)
end Go.Proofs.Ytmjdndhfmfjbiab

/-
  heraldkeep: messages that are published one by one, some at once, some later.
-/
namespace Go.Proofs.Ytmjdndhfmfjbiab
open Go.RowKit

/-- A message that is to be published, raw. -/
structure LetD where
  delay : Int
  value : Int
  s : ByteArray
def LetsAt (w : World) (ao : Option Addr) (l : List LetD) : Prop := ∀ j y, l[j]? = some y → ∃ g off, ao = some ⟨g, off, none⟩ ∧ w.cell? ⟨g, off + j * 3, none⟩ = some (.int .i64 y.delay) ∧ w.cell? ⟨g, off + j * 3 + 1, none⟩ = some (.int .i64 y.value) ∧ w.cell? ⟨g, off + j * 3 + 2, none⟩ = some (.string y.s)

theorem MineF.lk {w0 w : World} {H : Nat} {F : Nat → Prop} {S : RefS} (h : MineF w0 w H F S) : ∃ fil, Lk S fil (waitingM S) := by
  obtain ⟨R, ⟨x, fil, wait, hb, -⟩, -, -, -⟩ := h
  have := hb.lk
  rw [← hb.lk.waiting] at this
  exact ⟨fil, this⟩

/-- A message that waits. -/
theorem pub_later {S : RefS} {x : ByteArray} {v c : Int} (a : Int) (hx : M.isPathM false x = true) (hv0 : 0 ≤ v) (hv1 : v ≤ 1073741824) (hc0 : 0 < c) (hc1 : c ≤ 1099511627776) (hw : S.wait.length < 64) (hr : (S.done.length : Int) < S.room) :
    doErr S ⟨3, a, v, c, 0, x⟩ = 0 ∧ doAns S ⟨3, a, v, c, 0, x⟩ = S.pub ∧ doS S ⟨3, a, v, c, 0, x⟩ = { S with done := S.done ++ [⟨3, a, v, c, 0, x⟩], pub := S.pub + 1, wait := S.wait ++ [⟨S.pub, x, v, laterM S.time c, 0⟩] } := by
  have hz : wrongM S ⟨3, a, v, c, 0, x⟩ = 0 := by
    have h1 : isTimeM 0 = true := by decide
    have h2 : isTimeM c = true := by simp [isTimeM]; omega
    have e : wrongM S ⟨3, a, v, c, 0, x⟩ = pubErr (M.isPathM false x) v c 0 S.wait.length := by simp [wrongM]
    rw [e, pubErr, hx, if_neg (by simp), if_neg (by omega), if_neg (by omega), h2, if_neg (by simp), h1, if_neg (by simp), if_pos hc0, if_neg (by omega)]
  obtain ⟨q1, q2, q3⟩ := is_done hz (writes_not (by show (3 : Int) ≠ 6; decide)) hr
  have hcne : c ≠ 0 := by omega
  exact ⟨q2, by unfold doAns; rw [q1]; rfl, by rw [q3]; simp [turnM, hcne]⟩

theorem waiting_later {S S1 : RefS} {fil : Nat → List ByteArray} {x : WaitD} (h : Lk S fil (waitingM S)) (hx : x.number = S.pub) (e1 : S1.fil = S.fil) (e2 : S1.wait = S.wait ++ [x]) (e3 : S1.pub = S.pub + 1) : waitingM S1 = insM aheadB x (waitingM S) := by
  have h1 := h.later hx
  have h2 : Lk S1 fil (insM aheadB x (waitingM S)) := h1.other e1 e2 (by rw [e3]; exact Int.le_refl _)
  exact h2.waiting
theorem waiting_same {S S1 : RefS} {fil : Nat → List ByteArray} (h : Lk S fil (waitingM S)) (e1 : S1.fil = S.fil) (e2 : S1.wait = S.wait) (e3 : S.pub ≤ S1.pub) : waitingM S1 = waitingM S := (h.other e1 e2 e3).waiting
theorem waiting_len {S : RefS} {fil : Nat → List ByteArray} (h : Lk S fil (waitingM S)) : (waitingM S).length = S.wait.length := h.waitP.length_eq

/-- Where the publishing stands: the client c takes all. -/
structure PubI (c : Nat) (now : Int) (S : RefS) (k : Nat) (MS : List MailD) (WS : List WaitD) (t : Nat) : Prop where
  time : S.time = now
  pub : S.pub = (k : Int)
  room : S.room = 500
  fit : ∀ x, fitAny (S.fil c) x = true
  wait : waitingM S = WS
  count : MS.length + WS.length = k
  que : (S.que c).map (mailOf now) = MS.take 10
  life : ∀ m ∈ S.que c, m.life = 0
  lost : S.lost c = ((MS.length - 10 : Nat) : Int)
  done : S.done.length ≤ t + k
  lifeW : ∀ m ∈ S.wait, m.life = 0

theorem PubI.start {c : Nat} {now : Int} {S : RefS} {t : Nat} (h1 : S.time = now) (h2 : S.pub = 0) (h3 : S.room = 500) (h4 : ∀ x, fitAny (S.fil c) x = true) (h5 : S.wait = []) (h6 : S.que c = []) (h7 : S.lost c = 0) (h8 : S.done.length ≤ t) : PubI c now S 0 [] [] t :=
  ⟨h1, h2, h3, h4, by unfold waitingM; rw [h5]; rfl, rfl, by rw [h6]; rfl, by rw [h6]; exact fun m hm => by simp at hm, h7, h8, by rw [h5]; exact fun m hm => by simp at hm⟩

theorem pubI_now {c : Nat} {now : Int} {S : RefS} {k : Nat} {MS : List MailD} {WS : List WaitD} {t : Nat} {fil : Nat → List ByteArray} (h : PubI c now S k MS WS t) (hlk : Lk S fil (waitingM S)) (hc : c < 8) (ht : t + k < 500) {x : ByteArray} {v : Int} (hx : M.isPathM false x = true) (hv0 : 0 ≤ v) (hv1 : v ≤ 1073741824) (a : Int) :
    doErr S ⟨3, a, v, 0, 0, x⟩ = 0 ∧ doAns S ⟨3, a, v, 0, 0, x⟩ = (k : Int) ∧ PubI c now (doS S ⟨3, a, v, 0, 0, x⟩) (k + 1) (MS ++ [⟨(k : Int), x, v, now, 0⟩]) WS t := by
  obtain ⟨p1, p2, p3⟩ := pub_now (S := S) (x := x) (v := v) (life := 0) a hx hv0 hv1 (by omega) (by omega) (by rw [h.room]; have := h.done; omega)
  refine ⟨p1, p2.trans h.pub, ?_⟩
  rw [p3]
  obtain ⟨k1, k2, k3, k4, k5, k6, -⟩ := sendTo_keeps { S with done := S.done ++ [⟨3, a, v, 0, 0, x⟩], pub := S.pub + 1 } ⟨S.pub, x, v, 0, 0⟩ 8
  have q := send_at { S with done := S.done ++ [⟨3, a, v, 0, 0, x⟩], pub := S.pub + 1 } ⟨S.pub, x, v, 0, 0⟩ c hc
  have l := send_lost { S with done := S.done ++ [⟨3, a, v, 0, 0, x⟩], pub := S.pub + 1 } ⟨S.pub, x, v, 0, 0⟩ c hc
  have q' : (sendTo { S with done := S.done ++ [⟨3, a, v, 0, 0, x⟩], pub := S.pub + 1 } ⟨S.pub, x, v, 0, 0⟩ 8).que c = if 10 ≤ (S.que c).length then S.que c else S.que c ++ [⟨S.pub, x, v, S.time, 0⟩] := by
    rw [q]
    show (if fitAny (S.fil c) x = true then (if 10 ≤ (S.que c).length then S.que c else S.que c ++ [sentOf _ _]) else S.que c) = _
    rw [h.fit x, if_pos rfl]; rfl
  have l' : (sendTo { S with done := S.done ++ [⟨3, a, v, 0, 0, x⟩], pub := S.pub + 1 } ⟨S.pub, x, v, 0, 0⟩ 8).lost c = if 10 ≤ (S.que c).length then S.lost c + 1 else S.lost c := by
    rw [l]
    show (if fitAny (S.fil c) x = true then (if 10 ≤ (S.que c).length then S.lost c + 1 else S.lost c) else S.lost c) = _
    rw [h.fit x, if_pos rfl]
  have hql : (S.que c).length = min 10 MS.length := by
    have := congrArg List.length h.que
    rw [List.length_map, List.length_take] at this
    exact this
  generalize sendTo { S with done := S.done ++ [⟨3, a, v, 0, 0, x⟩], pub := S.pub + 1 } ⟨S.pub, x, v, 0, 0⟩ 8 = T at *
  have hm : mailOf now ⟨S.pub, x, v, S.time, 0⟩ = ⟨(k : Int), x, v, now, 0⟩ := by rw [h.pub, h.time]; rfl
  have hcount := h.count
  refine ⟨k2.trans h.time, by rw [k6]; show S.pub + 1 = _; rw [h.pub]; push_cast; rfl, k5.trans h.room, by rw [k1]; exact h.fit, ?_, by rw [List.length_append]; simp; omega, ?_, ?_, ?_, by rw [k3]; have := h.done; simp; omega, by rw [k4]; exact h.lifeW⟩
  · rw [waiting_same hlk k1 k4 (by rw [k6]; show S.pub ≤ S.pub + 1; omega)]; exact h.wait
  · rw [q']
    by_cases hten : 10 ≤ (S.que c).length
    · rw [if_pos hten, h.que, List.take_append_of_le_length (by omega)]
    · rw [if_neg hten, List.map_append, h.que, List.map_cons, hm, List.map_nil, List.take_of_length_le (by omega), List.take_of_length_le (by simp; omega)]
  · rw [q']
    by_cases hten : 10 ≤ (S.que c).length
    · rw [if_pos hten]; exact h.life
    · rw [if_neg hten]
      intro m hm2
      rcases List.mem_append.1 hm2 with hm2 | hm2
      · exact h.life m hm2
      · rw [List.mem_singleton] at hm2; subst hm2; rfl
  · rw [l', h.lost]
    by_cases hten : 10 ≤ (S.que c).length
    · rw [if_pos hten, List.length_append, List.length_singleton]; omega
    · rw [if_neg hten, List.length_append, List.length_singleton]; omega

theorem pubI_later {c : Nat} {now : Int} {S : RefS} {k : Nat} {MS : List MailD} {WS : List WaitD} {t : Nat} {fil : Nat → List ByteArray} (h : PubI c now S k MS WS t) (hlk : Lk S fil (waitingM S)) (ht : t + k < 500) (hw : WS.length < 64) {x : ByteArray} {v d : Int} (hx : M.isPathM false x = true) (hv0 : 0 ≤ v) (hv1 : v ≤ 1073741824) (hd0 : 0 < d) (hd1 : d ≤ 1099511627776) (a : Int) :
    doErr S ⟨3, a, v, d, 0, x⟩ = 0 ∧ doAns S ⟨3, a, v, d, 0, x⟩ = (k : Int) ∧ PubI c now (doS S ⟨3, a, v, d, 0, x⟩) (k + 1) MS (insM aheadB ⟨(k : Int), x, v, laterM now d, 0⟩ WS) t := by
  have hwl : S.wait.length = WS.length := by rw [← waiting_len hlk, h.wait]
  obtain ⟨p1, p2, p3⟩ := pub_later (S := S) (x := x) (v := v) (c := d) a hx hv0 hv1 hd0 hd1 (by omega) (by rw [h.room]; have := h.done; omega)
  refine ⟨p1, p2.trans h.pub, ?_⟩
  rw [p3]
  have hcount := h.count
  have hlen : (insM aheadB (⟨(k : Int), x, v, laterM now d, 0⟩ : WaitD) WS).length = WS.length + 1 := by rw [(ins_perm aheadB _ WS).length_eq]; rfl
  refine ⟨h.time, by show S.pub + 1 = _; rw [h.pub]; push_cast; rfl, h.room, h.fit, ?_, by omega, h.que, h.life, h.lost, by have := h.done; simp; omega, fun m hm => ?_⟩
  rotate_left
  · rcases List.mem_append.1 hm with hm | hm
    · exact h.lifeW m hm
    · rw [List.mem_singleton] at hm; subst hm; rfl
  rw [waiting_later (S1 := { S with done := S.done ++ [⟨3, a, v, d, 0, x⟩], pub := S.pub + 1, wait := S.wait ++ [⟨S.pub, x, v, laterM S.time d, 0⟩] }) (x := ⟨S.pub, x, v, laterM S.time d, 0⟩) hlk rfl rfl rfl rfl, h.wait, h.pub, h.time]
end Go.Proofs.Ytmjdndhfmfjbiab

namespace Go.Proofs.Ytmjdndhfmfjbiab
open Go.RowKit

theorem typed_apart {w : World} {b1 b2 : Nat} {e1 e2 : TypeId} {s1 s2 n1 n2 : Nat} {v1 v2 : Value} {x1 x2 : List Value} (h1 : w.ownsRow b1 e1 s1 v1 n1 x1) (h2 : w.ownsRow b2 e2 s2 v2 n2 x2) (hne : e1 ≠ e2) : ∀ g, v1.ownBlock = some g → v2.ownBlock ≠ some g := fun _ hg1 hg2 =>
  typed_ne (Row.typed (own_mono h1 (Nat.zero_le _)) hg1) (Row.typed (own_mono h2 (Nat.zero_le _)) hg2) hne rfl

set_option maxRecDepth 100000 in
set_option maxHeartbeats 8000000 in
theorem keepPublished (c : Nat) (hc : c < 8) (n : Nat) (hn : n ≤ 64) (now : Int) (hn0 : 0 ≤ now) (hn1 : now ≤ 1099511627776) (t : Nat) (ht : t ≤ 100) (l : List LetD) (ao : Option Addr) (m cap : Nat) (hl : l.length = m) (w0 w : World) (hsc : LetsAt w0 ao l)
    (hbd : ∀ y ∈ l, (-9223372036854775808 ≤ y.delay ∧ y.delay ≤ 9223372036854775807) ∧ (-9223372036854775808 ≤ y.value ∧ y.value ≤ 9223372036854775807) ∧ y.s.size ≤ maxLen) (H : Nat) (F : Nat → Prop) (S : RefS) (hM : MineF w0 w H F S) (hI : PubI c now S 0 [] [] t) :
    Calls Try.prog 20 #[.pointer (some ⟨H, 0, none⟩), .slice ao m cap, .int .i64 (n : Int), .int .i64 now] w fun e w' => ∃ S1 F1 mv wv MS WS, e = .returned (.tuple #[mv, wv, .bool true]) ∧ (∃ k, k ≤ n ∧ PubI c now S1 k MS WS t) ∧ MineF w0 w' H F1 S1 ∧
      w'.ownsRow w.heap.size 35 5 mv MS.length (MS.flatMap mailCells) ∧ w'.ownsRow w.heap.size 50 5 wv WS.length (WS.flatMap waitCells) ∧ (∀ g, mv.ownBlock = some g → ¬ F1 g) ∧ (∀ g, wv.ownBlock = some g → ¬ F1 g) := by
  obtain ⟨i0, hi, hz0, hz1, hz2⟩ := info_parts infoMail
  have HL : Hid (l.length = m) := hl
  have HSC : Hid (LetsAt w0 ao l) := hsc
  have HBD : Hid (∀ y ∈ l, (-9223372036854775808 ≤ y.delay ∧ y.delay ≤ 9223372036854775807) ∧ (-9223372036854775808 ≤ y.value ∧ y.value ≤ 9223372036854775807) ∧ y.s.size ≤ maxLen) := hbd
  have HM0 : Hid (MineF w0 w H F S) := hM
  have HI0 : Hid (PubI c now S 0 [] [] t) := hI
  clear hl hsc hbd hM hI
  go_enter Try.func20, Try.ntmps20
  go_wp2_with fail
  go_loopw [11, 12, 13] (fun mv wv i wr => ∃ (k : Nat) (S1 : RefS) (F1 : Nat → Prop) (MS : List MailD) (WS : List WaitD), k ≤ m ∧ k ≤ n ∧ i = .int .i64 (k : Int) ∧ PubI c now S1 k MS WS t ∧ MineF w0 wr H F1 S1 ∧ w.heap.size ≤ wr.heap.size ∧
    wr.ownsRow w.heap.size 35 5 mv MS.length (MS.flatMap mailCells) ∧ wr.ownsRow w.heap.size 50 5 wv WS.length (WS.flatMap waitCells) ∧ (∀ g, mv.ownBlock = some g → ¬ F1 g) ∧ (∀ g, wv.ownBlock = some g → ¬ F1 g)) (fun _ _ i _ => n - (intOf i).toNat)
  case atStart => exact ⟨0, S, F, [], [], Nat.zero_le _, Nat.zero_le _, rfl, HI0.out, HM0.out, Nat.le_refl _, World.ownsRow_nil _ _ _ _, World.ownsRow_nil _ _ _ _, fun g hg => by simp [Value.ownBlock] at hg, fun g hg => by simp [Value.ownBlock] at hg⟩
  case round =>
    obtain ⟨k, S1, F1, MS, WS, hkm, hkn, rfl, hI, hM, hsz, hom, how, hapm, hapw⟩ := hrel
    have hcnt := hI.count
    have II : Hid (PubI c now S1 k MS WS t) := hI
    have MM : Hid (MineF w0 wr H F1 S1) := hM
    have APM : Hid _ := hapm
    have APW : Hid _ := hapw
    obtain ⟨fl, hlk⟩ := hM.lk
    have LK : Hid (Lk S1 fl (waitingM S1)) := hlk
    have hbw := hM.mine.out.size
    have hMSl : MS.length ≤ 64 := by omega
    have hWSl : WS.length ≤ 64 := by omega
    have HCNT : Hid (MS.length + WS.length = k) := hcnt
    clear hI hM hapm hapw hlk hcnt
    by_cases hlt : k < m ∧ k < n
    · obtain ⟨hlt1, hlt2⟩ := hlt
      obtain ⟨y, hy⟩ : ∃ y, l[k]? = some y := ⟨_, List.getElem?_eq_getElem (by rw [HL.out]; exact hlt1)⟩
      obtain ⟨⟨yd0, yd1⟩, ⟨yv0, yv1⟩, ys⟩ := HBD.out y (List.mem_of_getElem? hy)
      obtain ⟨gs, off, rfl, e0, e1, e2⟩ := HSC.out k y hy
      have f0 := cell_later MM.out.mine.out e0
      have f1 := cell_later MM.out.mine.out e1
      have f2 := cell_later MM.out.mine.out e2
      obtain ⟨am, cm, rfl, -, -, -⟩ := Row.form (row_of_own (w := w) hom nilV).1
      obtain ⟨aw, cw, rfl, -, -, hcw⟩ := Row.form (row_of_own (w := w) how nilV).1
      have HOM : Hid _ := hom
      have HOW : Hid _ := how
      have HCW : Hid (CellsAt wr aw (WS.flatMap waitCells)) := hcw
      clear hy hom how hcw e0 e1 e2
      go_wp2_with fail
      refine (keepTopic y.s _ ys).mono ?_
      rintro e w2 ⟨⟨x, rfl, hx⟩, hb2⟩
      have HX : Hid (M.isPathM false x = true) := hx
      have hxs : x.size ≤ 1048576 := Nat.le_trans (path15 hx) (by omega)
      have g0 := cell_later hb2 f0
      have g1 := cell_later hb2 f1
      have M2 : Hid (MineF w0 w2 H F1 S1) := MM.out.below hb2
      have HOM2 : Hid _ := own_below HOM.out hb2
      have HOW2 : Hid _ := own_below HOW.out hb2
      have HCW2 : Hid (CellsAt w2 aw (WS.flatMap waitCells)) := HCW.out.below hb2
      have hs2 : wr.heap.size ≤ w2.heap.size := hb2.size
      clear hx hb2 f0 f1 f2
      go_wp2_with fail
      refine (keepPick y.value 1073741825 _ yv0 yv1 (by omega) (by omega)).mono ?_
      rintro e w2 ⟨rfl, rfl⟩
      have hv := pick_bd y.value 1073741825 (by omega)
      generalize pickM y.value 1073741825 = V at *
      go_wp2_with fail
      refine (keepPick y.delay 1099511627777 _ yd0 yd1 (by omega) (by omega)).mono ?_
      rintro e w2 ⟨rfl, rfl⟩
      have hd := pick_bd y.delay 1099511627777 (by omega)
      generalize pickM y.delay 1099511627777 = D at *
      clear g0 g1
      by_cases hD : D = 0
      · subst hD
        obtain ⟨q1, q2, q3⟩ := pubI_now (v := V) II.out LK.out hc (by omega) HX.out (by omega) (by omega) 0
        have Q1 : Hid (doErr S1 ⟨3, 0, V, 0, 0, x⟩ = 0) := q1
        have Q2 : Hid (doAns S1 ⟨3, 0, V, 0, 0, x⟩ = (k : Int)) := q2
        have Q3 : Hid (PubI c now (doS S1 ⟨3, 0, V, 0, 0, x⟩) (k + 1) (MS ++ [⟨(k : Int), x, V, now, 0⟩]) WS t) := q3
        clear q1 q2 q3
        go_wp2_with fail
        refine (mineFPub 0 V 0 0 x M2.out hxs).mono ?_
        rintro e w5 ⟨rfl, F5, hm5, hu5, hF5, hk5⟩
        rw [Q1.out, Q2.out]
        have M5 : Hid (MineF w0 w5 H F5 (doS S1 ⟨3, 0, V, 0, 0, x⟩)) := hm5
        have HOM5 : Hid (w5.ownsRow w.heap.size 35 5 (.slice am MS.length cm) MS.length (MS.flatMap mailCells)) := own_upd HOM2.out hu5 (fun g hg hf => APM.out g hg hf)
        have HOW5 : Hid (w5.ownsRow w.heap.size 50 5 (.slice aw WS.length cw) WS.length (WS.flatMap waitCells)) := own_upd HOW2.out hu5 (fun g hg hf => APW.out g hg hf)
        have APM5 : Hid (∀ g, (Value.slice am MS.length cm).ownBlock = some g → ¬ F5 g) := fun g hg hf => (hk5 g hf).elim (APM.out g hg) (fun h2 => absurd (World.ownsRow.lt HOM2.out g hg).2 (by omega))
        have APW5 : Hid (∀ g, (Value.slice aw WS.length cw).ownBlock = some g → ¬ F5 g) := fun g hg hf => (hk5 g hf).elim (APW.out g hg) (fun h2 => absurd (World.ownsRow.lt HOW2.out g hg).2 (by omega))
        have hs5 : w2.heap.size ≤ w5.heap.size := hu5.size
        clear hm5 hu5 hF5 hk5
        obtain ⟨v6, w6, hrun, hown6, hgrow, -, hat⟩ := run_append_own_at (P := Try.prog) (w5.alloc (.cells (mailCells ⟨(k : Int), x, V, now, 0⟩).toArray 35)) w.heap.size 28 28 35 i0 _ 5 48 Try.underlying28 hi hz0 hz1 hz2 rfl (by omega) _ _ _ (World.ownsRow.alloc HOM5.out _) ⟨w5.heap.size, 0, none⟩ 1 1 (mailCells ⟨(k : Int), x, V, now, 0⟩) rfl (cells_new _ _ _) (mail_one _) (by unfold maxLen; omega) (by omega) (by simp; omega)
        have hu6 : Upd (fun i => (Value.slice am MS.length cm).ownBlock = some i) (w5.alloc (.cells (mailCells ⟨(k : Int), x, V, now, 0⟩).toArray 35)) w6 := (Upd.refl _ _).grown hgrow (fun i e _ => e)
        have hb0 : w0.heap.size ≤ w.heap.size := HM0.out.mine.out.size
        have M6 : Hid (MineF w0 w6 H F5 (doS S1 ⟨3, 0, V, 0, 0, x⟩)) :=
          (M5.out.below (below_one _ _)).upd hu6 (fun g hg => Nat.le_trans hb0 (World.ownsRow.lt HOM5.out g hg).1) (fun g hf hg => APM5.out g hg hf)
        have HOM6 : Hid (w6.ownsRow w.heap.size 35 5 v6 (MS ++ [(⟨(k : Int), x, V, now, 0⟩ : MailD)]).length ((MS ++ [(⟨(k : Int), x, V, now, 0⟩ : MailD)]).flatMap mailCells)) := by
          show World.ownsRow _ _ _ _ _ _ _
          simpa using hown6
        have HOW6 : Hid (w6.ownsRow w.heap.size 50 5 (.slice aw WS.length cw) WS.length (WS.flatMap waitCells)) := own_upd (World.ownsRow.alloc HOW5.out _) hu6 (fun g hg e => typed_apart HOW5.out HOM5.out (by decide) g hg e)
        have APM6 : Hid (∀ g, v6.ownBlock = some g → ¬ F5 g) := fun g hg hf => by
          rcases hat with h | h
          · exact APM5.out g (h.symm.trans hg) hf
          · rw [h] at hg
            simp at hg
            have := M5.out.lt hf
            omega
        have hs6 : w5.heap.size ≤ w6.heap.size := Nat.le_trans (by simp) hu6.size
        clear hown6 hgrow hat hu6
        go_wp2_with (first | (at_builtin; refine wpList_append_run rfl _ _ 28 rfl _ _ _ _ rfl rfl hrun ?_))
        go_wp2_with fail
        go_roundw
        case rel => exact ⟨k + 1, _, F5, _, WS, by omega, by omega, by go_num, Q3.out, M6.out, by omega, HOM6.out, HOW6.out, APM6.out, APW5.out⟩
        case measure => simp [intOf]; omega
      · have hD0 : 0 < D := by omega
        have hDb : (D == 0) = false := by simp; omega
        have hWS : WS.length < 64 := by have := HCNT.out; omega
        obtain ⟨q1, q2, q3⟩ := pubI_later II.out LK.out (by omega) hWS HX.out (by omega) (by omega) hD0 (by omega) 0 (v := V)
        have Q1 : Hid (doErr S1 ⟨3, 0, V, D, 0, x⟩ = 0) := q1
        have Q2 : Hid (doAns S1 ⟨3, 0, V, D, 0, x⟩ = (k : Int)) := q2
        have Q3 : Hid (PubI c now (doS S1 ⟨3, 0, V, D, 0, x⟩) (k + 1) MS (insM aheadB ⟨(k : Int), x, V, laterM now D, 0⟩ WS) t) := q3
        clear q1 q2 q3
        go_wp2_with fail
        refine (mineFPub 0 V D 0 x M2.out hxs).mono ?_
        rintro e w5 ⟨rfl, F5, hm5, hu5, hF5, hk5⟩
        rw [Q1.out, Q2.out]
        have M5 : Hid (MineF w0 w5 H F5 (doS S1 ⟨3, 0, V, D, 0, x⟩)) := hm5
        have HOM5 : Hid (w5.ownsRow w.heap.size 35 5 (.slice am MS.length cm) MS.length (MS.flatMap mailCells)) := own_upd HOM2.out hu5 (fun g hg hf => APM.out g hg hf)
        have HOW5 : Hid (w5.ownsRow w.heap.size 50 5 (.slice aw WS.length cw) WS.length (WS.flatMap waitCells)) := own_upd HOW2.out hu5 (fun g hg hf => APW.out g hg hf)
        have APM5 : Hid (∀ g, (Value.slice am MS.length cm).ownBlock = some g → ¬ F5 g) := fun g hg hf => (hk5 g hf).elim (APM.out g hg) (fun h2 => absurd (World.ownsRow.lt HOM2.out g hg).2 (by omega))
        have hs5 : w2.heap.size ≤ w5.heap.size := hu5.size
        obtain ⟨aw5, cw5, hvw5, -, -, hcw5⟩ := Row.form (row_of_own (w := w) HOW5.out nilV).1
        simp only [Value.slice.injEq, true_and] at hvw5
        obtain ⟨rfl, rfl⟩ := hvw5
        have HCW5 : Hid (CellsAt w5 aw (WS.flatMap waitCells)) := hcw5
        clear hm5 hu5 hF5 hk5 hcw5
        have HPL : Hid (∀ w', CellsAt w' aw (WS.flatMap waitCells) → Calls Try.prog 25 #[.slice aw WS.length cw, .agg #[.int .i64 (k : Int), .string x, .int .i64 V, .int .i64 (laterM now D), .int .i64 0]] w' fun e w6 => ∃ v, e = .returned v ∧
            w6.ownsRow w'.heap.size 50 5 v (insM aheadB ⟨(k : Int), x, V, laterM now D, 0⟩ WS).length ((insM aheadB ⟨(k : Int), x, V, laterM now D, 0⟩ WS).flatMap waitCells) ∧ Below w'.heap.size w' w6) :=
          fun w' h => keepPlaced WS aw cw ⟨(k : Int), x, V, laterM now D, 0⟩ w' (by omega) h
        go_wp2_with fail
        refine (keepLater now D _ hn0 hn1 (by omega) (by omega)).mono ?_
        rintro e w5 ⟨rfl, rfl⟩
        go_wp2_with fail
        refine (HPL.out _ HCW5.out).mono ?_
        rintro e w6 ⟨v6, rfl, ho6, hb6⟩
        have M6 : Hid (MineF w0 w6 H F5 (doS S1 ⟨3, 0, V, D, 0, x⟩)) := M5.out.below hb6
        have HOM6 : Hid (w6.ownsRow w.heap.size 35 5 (.slice am MS.length cm) MS.length (MS.flatMap mailCells)) := own_below HOM5.out hb6
        have HOW6 : Hid (w6.ownsRow w.heap.size 50 5 v6 (insM aheadB ⟨(k : Int), x, V, laterM now D, 0⟩ WS).length ((insM aheadB ⟨(k : Int), x, V, laterM now D, 0⟩ WS).flatMap waitCells)) := own_mono ho6 (by omega)
        have APW6 : Hid (∀ g, v6.ownBlock = some g → ¬ F5 g) := fun g hg hf => by
          have h1 := (World.ownsRow.lt ho6 g hg).1
          have h2 := M5.out.lt hf
          omega
        have hs6 := hb6.size
        clear ho6 hb6
        go_wp2_with fail
        go_roundw
        case rel => exact ⟨k + 1, _, F5, MS, _, by omega, by omega, by go_num, Q3.out, M6.out, by omega, HOM6.out, HOW6.out, APM5.out, APW6.out⟩
        case measure => simp [intOf]; omega
    · by_cases hk2 : k < m
      · have hk3 : ¬ k < n := fun h => hlt ⟨hk2, h⟩
        clear hlt
        have HOM : Hid _ := hom
        have HOW : Hid _ := how
        clear hom how
        go_wp2_with fail
        go_ret3
        exact ⟨S1, F1, _, _, MS, WS, rfl, ⟨k, hkn, II.out⟩, MM.out, HOM.out, HOW.out, APM.out, APW.out⟩
      · clear hlt
        have HOM : Hid _ := hom
        have HOW : Hid _ := how
        clear hom how
        go_wp2_with fail
        go_ret3
        exact ⟨S1, F1, _, _, MS, WS, rfl, ⟨k, hkn, II.out⟩, MM.out, HOM.out, HOW.out, APM.out, APW.out⟩
end Go.Proofs.Ytmjdndhfmfjbiab

/-
  heraldkeep: topic and filter as functions of the raw text.
-/
namespace Go.Proofs.Ytmjdndhfmfjbiab
open Go.RowKit

def bytesOf (cs : List Int) : ByteArray := ⟨(cs.map fun n => UInt8.ofNat n.toNat).toArray⟩
def wordM (b : Int) : ByteArray := if b / 9 % 3 = 0 then bytesOf [97 + b % 3] else if b / 9 % 3 = 1 then bytesOf [97 + b % 3, 97 + (b + b / 3) % 3] else bytesOf [97 + b % 3, 97 + (b + b / 3) % 3, 97 + (b + 2 * (b / 3)) % 3]
def byteAt (s : ByteArray) (k : Nat) : Int := (((s.data.toList[k]?).getD 0).toNat : Int)

set_option maxRecDepth 100000 in
set_option maxHeartbeats 1000000 in
theorem textWord (b : Int) (w : World) (h0 : 0 ≤ b) (h1 : b ≤ 255) :
    Calls Try.prog 45 #[.int .i64 b] w fun e w' => (e = .returned (.string (wordM b)) ∧ M.isWordL (M.L (wordM b)) = true) ∧ Below w.heap.size w w' := by
  rcases (show b / 9 % 3 = 0 ∨ b / 9 % 3 = 1 ∨ b / 9 % 3 = 2 from by omega) with hn | hn | hn
  · have e : wordM b = bytesOf [97 + b % 3] := by unfold wordM; rw [if_pos hn]
    rw [e]
    clear e
    have hmk : ∀ w : World, (Instr.makeSlice 63 (.int .i64 1) (.int .i64 1)).run Try.prog w = .ok (.slice (some ⟨w.heap.size, 0, none⟩) 1 1) (w.alloc (.cells #[(.int .u8 0)] 5)) := fun w => by kernel_rfl
    have hcv := conv_new w [97 + b % 3]
    simp only [List.length_cons, List.length_nil, List.map_cons, List.map_nil, Nat.zero_add] at hcv
    go_enter Try.func45, Try.ntmps45
    go_wp2_with fail
    refine wp_loop_rounds 2 ?_
    rw [rounds_succ]
    go_wp2_with fail
    rw [rounds_succ]
    go_wp2_with fail
    go_ret
    exact ⟨⟨rfl, word_ok [97 + b % 3] (by simp) (by simp) (by simp; omega)⟩, (Below.refl _ _).alloc (Nat.le_refl _) _⟩
  · have e : wordM b = bytesOf [97 + b % 3, 97 + (b + b / 3) % 3] := by unfold wordM; rw [if_neg (by omega), if_pos hn]
    rw [e]
    clear e
    have hmk : ∀ w : World, (Instr.makeSlice 63 (.int .i64 2) (.int .i64 2)).run Try.prog w = .ok (.slice (some ⟨w.heap.size, 0, none⟩) 2 2) (w.alloc (.cells #[(.int .u8 0), (.int .u8 0)] 5)) := fun w => by kernel_rfl
    have hcv := conv_new w [97 + b % 3, 97 + (b + b / 3) % 3]
    simp only [List.length_cons, List.length_nil, List.map_cons, List.map_nil, Nat.zero_add, Nat.reduceAdd] at hcv
    go_enter Try.func45, Try.ntmps45
    go_wp2_with fail
    refine wp_loop_rounds 3 ?_
    rw [rounds_succ]
    go_wp2_with fail
    rw [rounds_succ]
    go_wp2_with fail
    rw [rounds_succ]
    go_wp2_with fail
    go_ret
    exact ⟨⟨rfl, word_ok [97 + b % 3, 97 + (b + b / 3) % 3] (by simp) (by simp) (by simp; omega)⟩, (Below.refl _ _).alloc (Nat.le_refl _) _⟩
  · have e : wordM b = bytesOf [97 + b % 3, 97 + (b + b / 3) % 3, 97 + (b + 2 * (b / 3)) % 3] := by unfold wordM; rw [if_neg (by omega), if_neg (by omega)]
    rw [e]
    clear e
    have hmk : ∀ w : World, (Instr.makeSlice 63 (.int .i64 3) (.int .i64 3)).run Try.prog w = .ok (.slice (some ⟨w.heap.size, 0, none⟩) 3 3) (w.alloc (.cells #[(.int .u8 0), (.int .u8 0), (.int .u8 0)] 5)) := fun w => by kernel_rfl
    have hcv := conv_new w [97 + b % 3, 97 + (b + b / 3) % 3, 97 + (b + 2 * (b / 3)) % 3]
    simp only [List.length_cons, List.length_nil, List.map_cons, List.map_nil, Nat.zero_add, Nat.reduceAdd] at hcv
    go_enter Try.func45, Try.ntmps45
    go_wp2_with fail
    refine wp_loop_rounds 4 ?_
    rw [rounds_succ]
    go_wp2_with fail
    rw [rounds_succ]
    go_wp2_with fail
    rw [rounds_succ]
    go_wp2_with fail
    rw [rounds_succ]
    go_wp2_with fail
    go_ret
    exact ⟨⟨rfl, word_ok [97 + b % 3, 97 + (b + b / 3) % 3, 97 + (b + 2 * (b / 3)) % 3] (by simp) (by simp) (by simp; omega)⟩, (Below.refl _ _).alloc (Nat.le_refl _) _⟩

/-- What comes of so much, and so many bytes still to go. -/
def topG (s : ByteArray) : Nat → Nat → ByteArray → ByteArray
  | 0, _, y => y
  | f + 1, k, y => if k < s.size then topG s f (k + 1) (y ++ ⟨#[47]⟩ ++ wordM (byteAt s k)) else y
def topicM (s : ByteArray) : ByteArray := if s.toList.isEmpty then ⟨#[97]⟩ else topG s 3 1 (wordM (byteAt s 0))
def endG (y : ByteArray) : ByteArray := if y.toList.isEmpty then ⟨#[35]⟩ else y
def strokeG (k : Nat) (y : ByteArray) : ByteArray := if 0 < k then y ++ ⟨#[47]⟩ else y
def filG (s : ByteArray) : Nat → Nat → ByteArray → ByteArray
  | 0, _, y => endG y
  | f + 1, k, y => if k < s.size then (if byteAt s k / 32 = 0 ∨ byteAt s k / 32 = 1 then filG s f (k + 1) (strokeG k y ++ ⟨#[43]⟩) else if byteAt s k / 32 = 2 then strokeG k y ++ ⟨#[35]⟩ else filG s f (k + 1) (strokeG k y ++ wordM (byteAt s k))) else endG y
def filterM (s : ByteArray) : ByteArray := filG s 4 0 ⟨#[]⟩

def TopG (s : ByteArray) (k : Nat) (y : ByteArray) : Prop := topG s (4 - k) k y = topicM s
def FilG (s : ByteArray) (k : Nat) (y : ByteArray) : Prop := filG s (4 - k) k y = filterM s
theorem byteAt_get {s : ByteArray} {k : Nat} (h : k < s.size) : byteAt s k = (((s[k]'h).toNat : Nat) : Int) := by
  unfold byteAt
  have h' : k < s.data.toList.length := by simpa using h
  rw [List.getElem?_eq_getElem h', Option.getD_some]
  rfl
theorem TopG.first {s : ByteArray} (h : s.toList.isEmpty = false) (hp : 0 < s.size) : TopG s 1 (wordM ((s[0]'hp).toNat : Nat)) := by
  unfold TopG topicM
  rw [h, ← byteAt_get hp]; rfl
theorem TopG.next {s : ByteArray} {k : Nat} {y : ByteArray} (h : TopG s k y) (h4 : k < 4) (hlt : k < s.size) : TopG s (k + 1) (y ++ ⟨#[47]⟩ ++ wordM ((s[k]'hlt).toNat : Nat)) := by
  unfold TopG at h ⊢
  rw [← h, ← byteAt_get hlt, show 4 - k = (4 - (k + 1)) + 1 from by omega, topG, if_pos hlt]
theorem TopG.stop {s : ByteArray} {k : Nat} {y : ByteArray} (h : TopG s k y) (h4 : ¬ (k < s.size ∧ k < 4)) : y = topicM s := by
  unfold TopG at h
  rw [← h]
  by_cases hk : k < 4
  · rw [show 4 - k = (4 - (k + 1)) + 1 from by omega, topG, if_neg (fun hh => h4 ⟨hh, hk⟩)]
  · rw [show 4 - k = 0 from by omega, topG]
theorem FilG.stop {s : ByteArray} {k : Nat} {y : ByteArray} (h : FilG s k y) (h4 : ¬ (k < s.size ∧ k < 4)) : endG y = filterM s := by
  unfold FilG at h
  rw [← h]
  by_cases hk : k < 4
  · rw [show 4 - k = (4 - (k + 1)) + 1 from by omega, filG, if_neg (fun hh => h4 ⟨hh, hk⟩)]
  · rw [show 4 - k = 0 from by omega, filG]
theorem FilG.unfold {s : ByteArray} {k : Nat} {y : ByteArray} (h : FilG s k y) (h4 : k < 4) (hlt : k < s.size) {c : Int} (hc : (((s[k]'hlt).toNat : Nat) : Int) = c) :
    (if c / 32 = 0 ∨ c / 32 = 1 then filG s (4 - (k + 1)) (k + 1) (strokeG k y ++ ⟨#[43]⟩) else if c / 32 = 2 then strokeG k y ++ ⟨#[35]⟩ else filG s (4 - (k + 1)) (k + 1) (strokeG k y ++ wordM c)) = filterM s := by
  unfold FilG at h
  rw [← h, show 4 - k = (4 - (k + 1)) + 1 from by omega, filG, if_pos hlt, byteAt_get hlt, hc]
theorem FilG.plus {s : ByteArray} {k : Nat} {y : ByteArray} (h : FilG s k y) (h4 : k < 4) (hlt : k < s.size) {c : Int} (hc : (((s[k]'hlt).toNat : Nat) : Int) = c) (h2 : c / 32 = 0 ∨ c / 32 = 1) : FilG s (k + 1) (strokeG k y ++ ⟨#[43]⟩) := by
  have := h.unfold h4 hlt hc
  rw [if_pos h2] at this
  exact this
theorem FilG.hash {s : ByteArray} {k : Nat} {y : ByteArray} (h : FilG s k y) (h4 : k < 4) (hlt : k < s.size) {c : Int} (hc : (((s[k]'hlt).toNat : Nat) : Int) = c) (h2 : c / 32 = 2) : strokeG k y ++ ⟨#[35]⟩ = filterM s := by
  have := h.unfold h4 hlt hc
  rw [if_neg (by omega), if_pos h2] at this
  exact this
theorem FilG.word {s : ByteArray} {k : Nat} {y : ByteArray} (h : FilG s k y) (h4 : k < 4) (hlt : k < s.size) {c : Int} (hc : (((s[k]'hlt).toNat : Nat) : Int) = c) (h2 : ¬ (c / 32 = 0 ∨ c / 32 = 1)) (h3 : ¬ c / 32 = 2) : FilG s (k + 1) (strokeG k y ++ wordM c) := by
  have := h.unfold h4 hlt hc
  rw [if_neg h2, if_neg h3] at this
  exact this
end Go.Proofs.Ytmjdndhfmfjbiab

namespace Go.Proofs.Ytmjdndhfmfjbiab
open Go.RowKit

set_option maxRecDepth 100000 in
set_option maxHeartbeats 1000000 in
theorem textTopic (s : ByteArray) (w : World) (hs : s.size ≤ maxLen) :
    Calls Try.prog 10 #[.string s] w fun e w' => (∃ x, e = .returned (.string x) ∧ M.isPathM false x = true ∧ x = topicM s) ∧ Below w.heap.size w w' := by
  unfold maxLen at hs
  cases h0 : s.toList.isEmpty
  · have hp : 0 < s.size := by
      rw [M.L_toList] at h0
      rw [← M.L_len]
      cases hl : M.L s with
      | nil => rw [hl] at h0; cases h0
      | cons _ _ => simp
    have hby := (s[0]'hp).toNat_lt
    have G1 : Hid (TopG s 1 (wordM ((s[0]'hp).toNat : Nat))) := TopG.first h0 hp
    go_enter Try.func10, Try.ntmps10
    go_wp2_with fail
    refine (textWord _ _ (by omega) (by omega)).mono ?_
    rintro e w1 ⟨⟨rfl, hx⟩, hb1⟩
    generalize wordM ((s[0]'hp).toNat : Nat) = x at *
    go_wp2_with fail
    go_loopw [3, 4] (fun v i wr => ∃ (k : Nat) (x : ByteArray), 1 ≤ k ∧ k ≤ 4 ∧ k ≤ s.size ∧ i = .int .i64 k ∧ v = .string x ∧ M.TInv k x ∧ TopG s k x ∧ Below w.heap.size w wr) (fun _ i _ => s.size - (intOf i).toNat)
    case atStart => exact ⟨1, x, by omega, by omega, by omega, rfl, rfl, M.tinv_one hx, G1.out, hb1⟩
    case round =>
      obtain ⟨k, y, hk1, hk4, hks, rfl, rfl, hy, hg, hbr⟩ := hrel
      have HY : Hid (M.TInv k y) := hy
      have HG : Hid (TopG s k y) := hg
      have hyz := hy.1
      clear hy hx hb1 hg G1
      by_cases hlt : k < s.size
      · by_cases hl4 : k < 4
        · have hby := (s[k]'hlt).toNat_lt
          have HN : Hid (TopG s (k + 1) (y ++ ⟨#[47]⟩ ++ wordM ((s[k]'hlt).toNat : Nat))) := HG.out.next hl4 hlt
          go_wp2_with (go_at_call 45; refine (textWord _ _ (by omega) (by omega)).mono ?_; rintro e w2 ⟨⟨rfl, hz⟩, hb2⟩; have hzz := word_size hz)
          go_roundw
          case rel => exact ⟨k + 1, _, by omega, by omega, by omega, by go_num, rfl, M.tinv_succ HY.out hl4 (by assumption), HN.out, hbr.trans ((by assumption : Below wr.heap.size wr _).mono hbr.size)⟩
          case measure => simp [intOf]; omega
        · go_wp2_with fail
          go_ret
          exact ⟨⟨_, rfl, M.tinv_end HY.out hk4, HG.out.stop (by omega)⟩, hbr⟩
      · go_wp2_with fail
        go_ret
        exact ⟨⟨_, rfl, M.tinv_end HY.out hk4, HG.out.stop (by omega)⟩, hbr⟩
  · have HE : Hid (⟨#[97]⟩ = topicM s) := by show _ = _; unfold topicM; rw [h0]; rfl
    go_enter Try.func10, Try.ntmps10
    go_wp2_with fail
    go_ret
    exact ⟨⟨_, rfl, by rw [M.isPath_L]; decide, HE.out⟩, Below.refl _ _⟩

set_option maxRecDepth 100000 in
set_option maxHeartbeats 2000000 in
theorem textFilter (s : ByteArray) (w : World) (hs : s.size ≤ maxLen) :
    Calls Try.prog 72 #[.string s] w fun e w' => (∃ x, e = .returned (.string x) ∧ M.isPathM true x = true ∧ x = filterM s) ∧ Below w.heap.size w w' := by
  unfold maxLen at hs
  have G0 : Hid (FilG s 0 ⟨#[]⟩) := by show _ = _; rfl
  go_enter Try.func72, Try.ntmps72
  go_wp2_with fail
  go_loopw [3, 4] (fun v i wr => ∃ (k : Nat) (x : ByteArray), k ≤ 4 ∧ k ≤ s.size ∧ i = .int .i64 k ∧ v = .string x ∧ M.FInv k x ∧ FilG s k x ∧ Below w.heap.size w wr) (fun _ i _ => s.size - (intOf i).toNat)
  case atStart => exact ⟨0, _, by omega, by omega, rfl, rfl, ⟨by decide, .inl ⟨rfl, rfl⟩⟩, G0.out, Below.refl _ _⟩
  case round =>
    obtain ⟨k, y, hk4, hks, rfl, rfl, hy, hg, hbr⟩ := hrel
    have HY : Hid (M.FInv k y) := hy
    have HG : Hid (FilG s k y) := hg
    have hyz := hy.1
    clear hy hg
    by_cases hlt : k < s.size
    · by_cases hl4 : k < 4
      · have hby := (s[k]'hlt).toNat_lt
        have HS : Hid (∀ c, (((s[k]'hlt).toNat : Nat) : Int) = c → ((c / 32 = 0 ∨ c / 32 = 1) → FilG s (k + 1) (strokeG k y ++ ⟨#[43]⟩)) ∧ (c / 32 = 2 → strokeG k y ++ ⟨#[35]⟩ = filterM s) ∧ (¬ (c / 32 = 0 ∨ c / 32 = 1) → ¬ c / 32 = 2 → FilG s (k + 1) (strokeG k y ++ wordM c))) :=
          fun c hc => ⟨HG.out.plus hl4 hlt hc, HG.out.hash hl4 hlt hc, HG.out.word hl4 hlt hc⟩
        generalize hcc : (((s[k]'hlt).toNat : Nat) : Int) = c
        have HC := HS.out c hcc
        have HC1 : Hid ((c / 32 = 0 ∨ c / 32 = 1) → FilG s (k + 1) (strokeG k y ++ ⟨#[43]⟩)) := HC.1
        have HC2 : Hid (c / 32 = 2 → strokeG k y ++ ⟨#[35]⟩ = filterM s) := HC.2.1
        have HC3 : Hid (¬ (c / 32 = 0 ∨ c / 32 = 1) → ¬ c / 32 = 2 → FilG s (k + 1) (strokeG k y ++ wordM c)) := HC.2.2
        clear HC HS
        by_cases hk0 : 0 < k
        · have HSK : Hid (strokeG k y = y ++ ⟨#[47]⟩) := by show _ = _; unfold strokeG; rw [if_pos hk0]
          rw [HSK.out] at HC1 HC2 HC3
          go_wp2_with (go_at_call 45; refine (textWord _ _ (by omega) (by omega)).mono ?_; rintro e w2 ⟨⟨rfl, hz⟩, hb2⟩; have hzz := word_size hz)
          · go_roundw
            case rel => exact ⟨k + 1, _, by omega, by omega, by go_num, rfl, M.finv_succ HY.out hk0 hl4 plus_ok, HC1.out (by simp only [beq_iff_eq] at *; omega), hbr⟩
            case measure => simp [intOf]; omega
          · go_roundw
            case rel => exact ⟨k + 1, _, by omega, by omega, by go_num, rfl, M.finv_succ HY.out hk0 hl4 plus_ok, HC1.out (by simp only [beq_iff_eq, beq_eq_false_iff_ne, ne_eq] at *; omega), hbr⟩
            case measure => simp [intOf]; omega
          · go_ret
            exact ⟨⟨_, rfl, M.finv_hash HY.out hk0 hl4, HC2.out (by simp only [beq_iff_eq, beq_eq_false_iff_ne, ne_eq] at *; omega)⟩, hbr⟩
          · go_roundw
            case rel => exact ⟨k + 1, _, by omega, by omega, by go_num, rfl, M.finv_succ HY.out hk0 hl4 (okW_word (by assumption)), HC3.out (by simp only [beq_eq_false_iff_ne, ne_eq] at *; omega) (by simp only [beq_eq_false_iff_ne, ne_eq] at *; omega), hbr.trans ((by assumption : Below wr.heap.size wr _).mono hbr.size)⟩
            case measure => simp [intOf]; omega
        · obtain rfl : k = 0 := by omega
          have HSK : Hid (strokeG 0 y = y) := by show _ = _; unfold strokeG; rw [if_neg (by omega)]
          rw [HSK.out] at HC1 HC2 HC3
          go_wp2_with (go_at_call 45; refine (textWord _ _ (by omega) (by omega)).mono ?_; rintro e w2 ⟨⟨rfl, hz⟩, hb2⟩; have hzz := word_size hz)
          · go_roundw
            case rel => exact ⟨1, _, by omega, by omega, by go_num, rfl, M.finv_zero HY.out plus_ok, HC1.out (by simp only [beq_iff_eq] at *; omega), hbr⟩
            case measure => simp [intOf]; omega
          · go_roundw
            case rel => exact ⟨1, _, by omega, by omega, by go_num, rfl, M.finv_zero HY.out plus_ok, HC1.out (by simp only [beq_iff_eq, beq_eq_false_iff_ne, ne_eq] at *; omega), hbr⟩
            case measure => simp [intOf]; omega
          · go_ret
            exact ⟨⟨_, rfl, M.finv_hash0 HY.out, HC2.out (by simp only [beq_iff_eq, beq_eq_false_iff_ne, ne_eq] at *; omega)⟩, hbr⟩
          · go_roundw
            case rel => exact ⟨1, _, by omega, by omega, by go_num, rfl, M.finv_zero HY.out (okW_word (by assumption)), HC3.out (by simp only [beq_eq_false_iff_ne, ne_eq] at *; omega) (by simp only [beq_eq_false_iff_ne, ne_eq] at *; omega), hbr.trans ((by assumption : Below wr.heap.size wr _).mono hbr.size)⟩
            case measure => simp [intOf]; omega
      · have HEN : Hid (endG y = filterM s) := HG.out.stop (by omega)
        rcases M.finv_end HY.out hk4 with he | ⟨he, hp⟩
        all_goals
          go_wp2_with fail
          go_ret
        · exact ⟨⟨_, rfl, hash_path, by rw [← HEN.out]; unfold endG; rw [he]; rfl⟩, hbr⟩
        · exact ⟨⟨_, rfl, hp, by rw [← HEN.out]; unfold endG; rw [he]; rfl⟩, hbr⟩
    · have HEN : Hid (endG y = filterM s) := HG.out.stop (by omega)
      rcases M.finv_end HY.out hk4 with he | ⟨he, hp⟩
      all_goals
        go_wp2_with fail
        go_ret
      · exact ⟨⟨_, rfl, hash_path, by rw [← HEN.out]; unfold endG; rw [he]; rfl⟩, hbr⟩
      · exact ⟨⟨_, rfl, hp, by rw [← HEN.out]; unfold endG; rw [he]; rfl⟩, hbr⟩
end Go.Proofs.Ytmjdndhfmfjbiab

/-
  heraldkeep.do: one operation, out of a raw step.
-/
namespace Go.Proofs.Ytmjdndhfmfjbiab
open Go.RowKit

structure StepD where
  kind : Int
  a : Int
  b : Int
  c : Int
  d : Int
  s : ByteArray
def StepOk (o : StepD) : Prop := (-9223372036854775808 ≤ o.kind ∧ o.kind ≤ 9223372036854775807) ∧ (-9223372036854775808 ≤ o.a ∧ o.a ≤ 9223372036854775807) ∧ (-9223372036854775808 ≤ o.b ∧ o.b ≤ 9223372036854775807) ∧ (-9223372036854775808 ≤ o.c ∧ o.c ≤ 9223372036854775807) ∧ (-9223372036854775808 ≤ o.d ∧ o.d ≤ 9223372036854775807) ∧ o.s.size ≤ maxLen
def stepV (o : StepD) : Value := .agg #[.int .i64 o.kind, .int .i64 o.a, .int .i64 o.b, .int .i64 o.c, .int .i64 o.d, .string o.s]
def opK (o : StepD) (k : Int) : OpD :=
  if k = 0 then ⟨1, pickM o.a 8, 0, 0, 0, filterM o.s⟩
  else if k = 1 then ⟨2, pickM o.a 8, 0, 0, 0, filterM o.s⟩
  else if k = 2 then ⟨3, 0, pickM o.b 1073741825, pickM o.c 1099511627777, pickM o.d 1099511627777, topicM o.s⟩
  else if k = 3 then ⟨4, 0, o.b, 0, 0, ⟨#[]⟩⟩
  else if k = 4 then ⟨5, 0, o.b, 1 + pickM o.c 1099511627776, 0, ⟨#[]⟩⟩
  else if k = 5 then ⟨6, 0, pickM o.b 1099511627777, 0, 0, ⟨#[]⟩⟩
  else ⟨7, pickM o.a 8, o.b, 0, 0, ⟨#[]⟩⟩
def opOf (o : StepD) : OpD := opK o (pickM o.kind 7)
theorem ans_none {S : RefS} {o : OpD} (h : o.kind ≠ 3) : doAns S o = 0 := by unfold doAns; rw [if_neg h]; split <;> rfl

/-- The state behind a step. -/
def goS (S : RefS) (o : StepD) : RefS := doS S (opOf o)
def goE (S : RefS) (o : StepD) : Int := doErr S (opOf o)
def goA (S : RefS) (o : StepD) : Int := doAns S (opOf o)
theorem go_is {S : RefS} {o : StepD} {k : Int} {p : OpD} (hk : pickM o.kind 7 = k) (hp : opK o k = p) : goS S o = doS S p ∧ goE S o = doErr S p ∧ goA S o = doAns S p := by
  have e : opOf o = p := by unfold opOf; rw [hk, hp]
  exact ⟨by unfold goS; rw [e], by unfold goE; rw [e], by unfold goA; rw [e]⟩
end Go.Proofs.Ytmjdndhfmfjbiab

namespace Go.Proofs.Ytmjdndhfmfjbiab
open Go.RowKit

theorem MineStep.later {w0 w w1 w2 : World} {H : Nat} {F : Nat → Prop} {S1 : RefS} (hb : Below w.heap.size w w1) (h : MineStep w0 w1 H F S1 w2) : MineStep w0 w H F S1 w2 := by
  obtain ⟨F1, hm, hu, hF, hk⟩ := h
  exact ⟨F1, hm, (Upd.of_below hb).trans hu (fun _ _ t => t), hF, fun k h1 => (hk k h1).imp id (fun h2 => Nat.le_trans hb.size h2)⟩
theorem MineStep.cell {w0 w w1 : World} {H : Nat} {F : Nat → Prop} {S1 : RefS} (h : MineStep w0 w H F S1 w1) {p : Addr} {v : Value} (hc : w.cell? p = some v) (hn : ¬ F p.block) : w1.cell? p = some v := by
  obtain ⟨F1, hm, hu, -⟩ := h
  exact hu.cell hc hn
theorem step6 {w w1 : World} {o : StepD} {t : TypeId} (hb : Below (w.alloc (Obj.cells #[.int .i64 o.kind, .int .i64 o.a, .int .i64 o.b, .int .i64 o.c, .int .i64 o.d, .string o.s] t)).heap.size (w.alloc (Obj.cells #[.int .i64 o.kind, .int .i64 o.a, .int .i64 o.b, .int .i64 o.c, .int .i64 o.d, .string o.s] t)) w1) :
    w1.cell? ⟨w.heap.size, 0, none⟩ = some (.int .i64 o.kind) ∧ w1.cell? ⟨w.heap.size, 1, none⟩ = some (.int .i64 o.a) ∧ w1.cell? ⟨w.heap.size, 2, none⟩ = some (.int .i64 o.b) ∧
      w1.cell? ⟨w.heap.size, 3, none⟩ = some (.int .i64 o.c) ∧ w1.cell? ⟨w.heap.size, 4, none⟩ = some (.int .i64 o.d) ∧ w1.cell? ⟨w.heap.size, 5, none⟩ = some (.string o.s) :=
  ⟨cell_later hb (by simp), cell_later hb (by simp), cell_later hb (by simp), cell_later hb (by simp), cell_later hb (by simp), cell_later hb (by simp)⟩

set_option maxRecDepth 100000 in
set_option maxHeartbeats 4000000 in
theorem keepDo0 {w0 w : World} {H : Nat} {F : Nat → Prop} {S : RefS} (o : StepD) (ho : StepOk o) (h : MineF w0 w H F S) (e : pickM o.kind 7 = 0) :
    Calls Try.prog 68 #[.pointer (some ⟨H, 0, none⟩), stepV o] w fun e w' => e = .returned (.tuple #[.int .i64 (goA S o), .int .i64 (goE S o)]) ∧ MineStep w0 w H F (goS S o) w' := by
  obtain ⟨⟨k0, k1⟩, ⟨a0, a1⟩, ⟨b0, b1⟩, ⟨c0, c1⟩, ⟨d0, d1⟩, hs⟩ := ho
  have HM : Hid (MineF w0 w H F S) := h
  clear h
  obtain ⟨g1, g2, g3⟩ := go_is (S := S) (p := ⟨1, pickM o.a 8, 0, 0, 0, filterM o.s⟩) e (by simp [opK])
  rw [g1, g2, g3]
  have HK : Hid (pickM o.kind 7 = 0) := e
  clear e g1 g2 g3
  have hA := pick_bd o.a 8 (by omega)
  have hC := pick_bd o.c 1099511627776 (by omega)
  generalize hA1 : pickM o.a 8 = A at *
  generalize hf1 : filterM o.s = f
  generalize ht1 : topicM o.s = t
  generalize hB1 : pickM o.b 1073741825 = B
  generalize hC1 : pickM o.c 1099511627777 = C
  generalize hD1 : pickM o.d 1099511627777 = D
  generalize hE1 : pickM o.c 1099511627776 = E at *
  generalize hG1 : pickM o.b 1099511627777 = G
  have HA1 : Hid (pickM o.a 8 = A) := hA1
  have HF1 : Hid (filterM o.s = f) := hf1
  have HT1 : Hid (topicM o.s = t) := ht1
  have HBX : Hid (pickM o.b 1073741825 = B) := hB1
  have HCX : Hid (pickM o.c 1099511627777 = C) := hC1
  have HDX : Hid (pickM o.d 1099511627777 = D) := hD1
  have HEX : Hid (pickM o.c 1099511627776 = E) := hE1
  have HGX : Hid (pickM o.b 1099511627777 = G) := hG1
  clear hA1 hf1 ht1 hB1 hC1 hD1 hE1 hG1
  unfold stepV
  go_enter Try.func68, Try.ntmps68
  go_wp2_with fail
  refine (keepPick o.a 8 _ a0 a1 (by omega) (by omega)).mono ?_
  rintro e w1 ⟨rfl, hw1⟩
  rw [HA1.out]
  subst hw1
  go_wp2_with fail
  refine (textFilter o.s _ hs).mono ?_
  rintro e w2 ⟨⟨f', rfl, hf, hfe⟩, hb2⟩
  obtain rfl := (hfe.trans HF1.out).symm
  obtain ⟨i0, i1, i2, i3, i4, i5⟩ := step6 hb2
  have hfs : f.size ≤ 1048576 := Nat.le_trans (path15 hf) (by omega)
  have HB2 : Hid (Below w.heap.size w w2) := (below_one w _).trans (hb2.mono (by simp))
  clear hf hb2 hfe
  go_wp2_with fail
  refine (textTopic o.s _ hs).mono ?_
  rintro e w3 ⟨⟨t', rfl, ht, hte⟩, hb3⟩
  obtain rfl := (hte.trans HT1.out).symm
  have j0 := cell_later hb3 i0
  have j1 := cell_later hb3 i1
  have j2 := cell_later hb3 i2
  have j3 := cell_later hb3 i3
  have j4 := cell_later hb3 i4
  have hts : t.size ≤ 1048576 := Nat.le_trans (path15 ht) (by omega)
  have HB3 : Hid (Below w.heap.size w w3) := HB2.out.trans (hb3.mono HB2.out.size)
  clear ht hb3 hte i0 i1 i2 i3 i4 i5
  have M3 : Hid (MineF w0 w3 H F S) := HM.out.below HB3.out
  go_wp2_with fail
  refine (keepPick o.kind 7 _ k0 k1 (by omega) (by omega)).mono ?_
  rintro e w3 ⟨rfl, rfl⟩
  rw [HK.out]
  go_wp2_with fail
  refine (mineFSub A 0 0 0 f M3.out hfs).mono ?_
  rintro e w4 ⟨rfl, hm4⟩
  have M4 : Hid (MineStep w0 w H F _ w4) := hm4.later HB3.out
  clear hm4
  go_wp2_with fail
  go_ret2
  exact ⟨by rw [ans_none (by show (1 : Int) ≠ 3; decide)]; rfl, M4.out⟩

set_option maxRecDepth 100000 in
set_option maxHeartbeats 4000000 in
theorem keepDo1 {w0 w : World} {H : Nat} {F : Nat → Prop} {S : RefS} (o : StepD) (ho : StepOk o) (h : MineF w0 w H F S) (e : pickM o.kind 7 = 1) :
    Calls Try.prog 68 #[.pointer (some ⟨H, 0, none⟩), stepV o] w fun e w' => e = .returned (.tuple #[.int .i64 (goA S o), .int .i64 (goE S o)]) ∧ MineStep w0 w H F (goS S o) w' := by
  obtain ⟨⟨k0, k1⟩, ⟨a0, a1⟩, ⟨b0, b1⟩, ⟨c0, c1⟩, ⟨d0, d1⟩, hs⟩ := ho
  have HM : Hid (MineF w0 w H F S) := h
  clear h
  obtain ⟨g1, g2, g3⟩ := go_is (S := S) (p := ⟨2, pickM o.a 8, 0, 0, 0, filterM o.s⟩) e (by simp [opK])
  rw [g1, g2, g3]
  have HK : Hid (pickM o.kind 7 = 1) := e
  clear e g1 g2 g3
  have hA := pick_bd o.a 8 (by omega)
  have hC := pick_bd o.c 1099511627776 (by omega)
  generalize hA1 : pickM o.a 8 = A at *
  generalize hf1 : filterM o.s = f
  generalize ht1 : topicM o.s = t
  generalize hB1 : pickM o.b 1073741825 = B
  generalize hC1 : pickM o.c 1099511627777 = C
  generalize hD1 : pickM o.d 1099511627777 = D
  generalize hE1 : pickM o.c 1099511627776 = E at *
  generalize hG1 : pickM o.b 1099511627777 = G
  have HA1 : Hid (pickM o.a 8 = A) := hA1
  have HF1 : Hid (filterM o.s = f) := hf1
  have HT1 : Hid (topicM o.s = t) := ht1
  have HBX : Hid (pickM o.b 1073741825 = B) := hB1
  have HCX : Hid (pickM o.c 1099511627777 = C) := hC1
  have HDX : Hid (pickM o.d 1099511627777 = D) := hD1
  have HEX : Hid (pickM o.c 1099511627776 = E) := hE1
  have HGX : Hid (pickM o.b 1099511627777 = G) := hG1
  clear hA1 hf1 ht1 hB1 hC1 hD1 hE1 hG1
  unfold stepV
  go_enter Try.func68, Try.ntmps68
  go_wp2_with fail
  refine (keepPick o.a 8 _ a0 a1 (by omega) (by omega)).mono ?_
  rintro e w1 ⟨rfl, hw1⟩
  rw [HA1.out]
  subst hw1
  go_wp2_with fail
  refine (textFilter o.s _ hs).mono ?_
  rintro e w2 ⟨⟨f', rfl, hf, hfe⟩, hb2⟩
  obtain rfl := (hfe.trans HF1.out).symm
  obtain ⟨i0, i1, i2, i3, i4, i5⟩ := step6 hb2
  have hfs : f.size ≤ 1048576 := Nat.le_trans (path15 hf) (by omega)
  have HB2 : Hid (Below w.heap.size w w2) := (below_one w _).trans (hb2.mono (by simp))
  clear hf hb2 hfe
  go_wp2_with fail
  refine (textTopic o.s _ hs).mono ?_
  rintro e w3 ⟨⟨t', rfl, ht, hte⟩, hb3⟩
  obtain rfl := (hte.trans HT1.out).symm
  have j0 := cell_later hb3 i0
  have j1 := cell_later hb3 i1
  have j2 := cell_later hb3 i2
  have j3 := cell_later hb3 i3
  have j4 := cell_later hb3 i4
  have hts : t.size ≤ 1048576 := Nat.le_trans (path15 ht) (by omega)
  have HB3 : Hid (Below w.heap.size w w3) := HB2.out.trans (hb3.mono HB2.out.size)
  clear ht hb3 hte i0 i1 i2 i3 i4 i5
  have M3 : Hid (MineF w0 w3 H F S) := HM.out.below HB3.out
  go_wp2_with fail
  refine (keepPick o.kind 7 _ k0 k1 (by omega) (by omega)).mono ?_
  rintro e w3 ⟨rfl, rfl⟩
  rw [HK.out]
  go_wp2_with fail
  refine (mineFUnsub A 0 0 0 f M3.out hfs).mono ?_
  rintro e w4 ⟨rfl, hm4⟩
  have M4 : Hid (MineStep w0 w H F _ w4) := hm4.later HB3.out
  clear hm4
  go_wp2_with fail
  go_ret2
  exact ⟨by rw [ans_none (by show (2 : Int) ≠ 3; decide)]; rfl, M4.out⟩

set_option maxRecDepth 100000 in
set_option maxHeartbeats 4000000 in
theorem keepDo3 {w0 w : World} {H : Nat} {F : Nat → Prop} {S : RefS} (o : StepD) (ho : StepOk o) (h : MineF w0 w H F S) (e : pickM o.kind 7 = 3) :
    Calls Try.prog 68 #[.pointer (some ⟨H, 0, none⟩), stepV o] w fun e w' => e = .returned (.tuple #[.int .i64 (goA S o), .int .i64 (goE S o)]) ∧ MineStep w0 w H F (goS S o) w' := by
  obtain ⟨⟨k0, k1⟩, ⟨a0, a1⟩, ⟨b0, b1⟩, ⟨c0, c1⟩, ⟨d0, d1⟩, hs⟩ := ho
  have HM : Hid (MineF w0 w H F S) := h
  clear h
  obtain ⟨g1, g2, g3⟩ := go_is (S := S) (p := ⟨4, 0, o.b, 0, 0, ⟨#[]⟩⟩) e (by simp [opK])
  rw [g1, g2, g3]
  have HK : Hid (pickM o.kind 7 = 3) := e
  clear e g1 g2 g3
  have hA := pick_bd o.a 8 (by omega)
  have hC := pick_bd o.c 1099511627776 (by omega)
  generalize hA1 : pickM o.a 8 = A at *
  generalize hf1 : filterM o.s = f
  generalize ht1 : topicM o.s = t
  generalize hB1 : pickM o.b 1073741825 = B
  generalize hC1 : pickM o.c 1099511627777 = C
  generalize hD1 : pickM o.d 1099511627777 = D
  generalize hE1 : pickM o.c 1099511627776 = E at *
  generalize hG1 : pickM o.b 1099511627777 = G
  have HA1 : Hid (pickM o.a 8 = A) := hA1
  have HF1 : Hid (filterM o.s = f) := hf1
  have HT1 : Hid (topicM o.s = t) := ht1
  have HBX : Hid (pickM o.b 1073741825 = B) := hB1
  have HCX : Hid (pickM o.c 1099511627777 = C) := hC1
  have HDX : Hid (pickM o.d 1099511627777 = D) := hD1
  have HEX : Hid (pickM o.c 1099511627776 = E) := hE1
  have HGX : Hid (pickM o.b 1099511627777 = G) := hG1
  clear hA1 hf1 ht1 hB1 hC1 hD1 hE1 hG1
  unfold stepV
  go_enter Try.func68, Try.ntmps68
  go_wp2_with fail
  refine (keepPick o.a 8 _ a0 a1 (by omega) (by omega)).mono ?_
  rintro e w1 ⟨rfl, hw1⟩
  rw [HA1.out]
  subst hw1
  go_wp2_with fail
  refine (textFilter o.s _ hs).mono ?_
  rintro e w2 ⟨⟨f', rfl, hf, hfe⟩, hb2⟩
  obtain rfl := (hfe.trans HF1.out).symm
  obtain ⟨i0, i1, i2, i3, i4, i5⟩ := step6 hb2
  have hfs : f.size ≤ 1048576 := Nat.le_trans (path15 hf) (by omega)
  have HB2 : Hid (Below w.heap.size w w2) := (below_one w _).trans (hb2.mono (by simp))
  clear hf hb2 hfe
  go_wp2_with fail
  refine (textTopic o.s _ hs).mono ?_
  rintro e w3 ⟨⟨t', rfl, ht, hte⟩, hb3⟩
  obtain rfl := (hte.trans HT1.out).symm
  have j0 := cell_later hb3 i0
  have j1 := cell_later hb3 i1
  have j2 := cell_later hb3 i2
  have j3 := cell_later hb3 i3
  have j4 := cell_later hb3 i4
  have hts : t.size ≤ 1048576 := Nat.le_trans (path15 ht) (by omega)
  have HB3 : Hid (Below w.heap.size w w3) := HB2.out.trans (hb3.mono HB2.out.size)
  clear ht hb3 hte i0 i1 i2 i3 i4 i5
  have M3 : Hid (MineF w0 w3 H F S) := HM.out.below HB3.out
  go_wp2_with fail
  refine (keepPick o.kind 7 _ k0 k1 (by omega) (by omega)).mono ?_
  rintro e w3 ⟨rfl, rfl⟩
  rw [HK.out]
  go_wp2_with fail
  refine (mineFCancel 0 o.b 0 0 ⟨#[]⟩ M3.out (Nat.zero_le _)).mono ?_
  rintro e w4 ⟨rfl, hm4⟩
  have M4 : Hid (MineStep w0 w H F _ w4) := hm4.later HB3.out
  clear hm4
  go_wp2_with fail
  go_ret2
  exact ⟨by rw [ans_none (by show (4 : Int) ≠ 3; decide)]; rfl, M4.out⟩

set_option maxRecDepth 100000 in
set_option maxHeartbeats 4000000 in
theorem keepDo5 {w0 w : World} {H : Nat} {F : Nat → Prop} {S : RefS} (o : StepD) (ho : StepOk o) (h : MineF w0 w H F S) (e : pickM o.kind 7 = 5) :
    Calls Try.prog 68 #[.pointer (some ⟨H, 0, none⟩), stepV o] w fun e w' => e = .returned (.tuple #[.int .i64 (goA S o), .int .i64 (goE S o)]) ∧ MineStep w0 w H F (goS S o) w' := by
  obtain ⟨⟨k0, k1⟩, ⟨a0, a1⟩, ⟨b0, b1⟩, ⟨c0, c1⟩, ⟨d0, d1⟩, hs⟩ := ho
  have HM : Hid (MineF w0 w H F S) := h
  clear h
  obtain ⟨g1, g2, g3⟩ := go_is (S := S) (p := ⟨6, 0, pickM o.b 1099511627777, 0, 0, ⟨#[]⟩⟩) e (by simp [opK])
  rw [g1, g2, g3]
  have HK : Hid (pickM o.kind 7 = 5) := e
  clear e g1 g2 g3
  have hA := pick_bd o.a 8 (by omega)
  have hC := pick_bd o.c 1099511627776 (by omega)
  generalize hA1 : pickM o.a 8 = A at *
  generalize hf1 : filterM o.s = f
  generalize ht1 : topicM o.s = t
  generalize hB1 : pickM o.b 1073741825 = B
  generalize hC1 : pickM o.c 1099511627777 = C
  generalize hD1 : pickM o.d 1099511627777 = D
  generalize hE1 : pickM o.c 1099511627776 = E at *
  generalize hG1 : pickM o.b 1099511627777 = G
  have HA1 : Hid (pickM o.a 8 = A) := hA1
  have HF1 : Hid (filterM o.s = f) := hf1
  have HT1 : Hid (topicM o.s = t) := ht1
  have HBX : Hid (pickM o.b 1073741825 = B) := hB1
  have HCX : Hid (pickM o.c 1099511627777 = C) := hC1
  have HDX : Hid (pickM o.d 1099511627777 = D) := hD1
  have HEX : Hid (pickM o.c 1099511627776 = E) := hE1
  have HGX : Hid (pickM o.b 1099511627777 = G) := hG1
  clear hA1 hf1 ht1 hB1 hC1 hD1 hE1 hG1
  unfold stepV
  go_enter Try.func68, Try.ntmps68
  go_wp2_with fail
  refine (keepPick o.a 8 _ a0 a1 (by omega) (by omega)).mono ?_
  rintro e w1 ⟨rfl, hw1⟩
  rw [HA1.out]
  subst hw1
  go_wp2_with fail
  refine (textFilter o.s _ hs).mono ?_
  rintro e w2 ⟨⟨f', rfl, hf, hfe⟩, hb2⟩
  obtain rfl := (hfe.trans HF1.out).symm
  obtain ⟨i0, i1, i2, i3, i4, i5⟩ := step6 hb2
  have hfs : f.size ≤ 1048576 := Nat.le_trans (path15 hf) (by omega)
  have HB2 : Hid (Below w.heap.size w w2) := (below_one w _).trans (hb2.mono (by simp))
  clear hf hb2 hfe
  go_wp2_with fail
  refine (textTopic o.s _ hs).mono ?_
  rintro e w3 ⟨⟨t', rfl, ht, hte⟩, hb3⟩
  obtain rfl := (hte.trans HT1.out).symm
  have j0 := cell_later hb3 i0
  have j1 := cell_later hb3 i1
  have j2 := cell_later hb3 i2
  have j3 := cell_later hb3 i3
  have j4 := cell_later hb3 i4
  have hts : t.size ≤ 1048576 := Nat.le_trans (path15 ht) (by omega)
  have HB3 : Hid (Below w.heap.size w w3) := HB2.out.trans (hb3.mono HB2.out.size)
  clear ht hb3 hte i0 i1 i2 i3 i4 i5
  have M3 : Hid (MineF w0 w3 H F S) := HM.out.below HB3.out
  go_wp2_with fail
  refine (keepPick o.kind 7 _ k0 k1 (by omega) (by omega)).mono ?_
  rintro e w3 ⟨rfl, rfl⟩
  rw [HK.out]
  go_wp2_with fail
  refine (keepPick o.b 1099511627777 _ b0 b1 (by omega) (by omega)).mono ?_
  rintro e w3 ⟨rfl, rfl⟩
  rw [HGX.out]
  go_wp2_with fail
  refine (mineFTick 0 G 0 0 ⟨#[]⟩ M3.out (Nat.zero_le _)).mono ?_
  rintro e w4 ⟨rfl, hm4⟩
  have M4 : Hid (MineStep w0 w H F _ w4) := hm4.later HB3.out
  clear hm4
  go_wp2_with fail
  go_ret2
  exact ⟨by rw [ans_none (by show (6 : Int) ≠ 3; decide)]; rfl, M4.out⟩

set_option maxRecDepth 100000 in
set_option maxHeartbeats 4000000 in
theorem keepDo6 {w0 w : World} {H : Nat} {F : Nat → Prop} {S : RefS} (o : StepD) (ho : StepOk o) (h : MineF w0 w H F S) (e : pickM o.kind 7 = 6) :
    Calls Try.prog 68 #[.pointer (some ⟨H, 0, none⟩), stepV o] w fun e w' => e = .returned (.tuple #[.int .i64 (goA S o), .int .i64 (goE S o)]) ∧ MineStep w0 w H F (goS S o) w' := by
  obtain ⟨⟨k0, k1⟩, ⟨a0, a1⟩, ⟨b0, b1⟩, ⟨c0, c1⟩, ⟨d0, d1⟩, hs⟩ := ho
  have HM : Hid (MineF w0 w H F S) := h
  clear h
  obtain ⟨g1, g2, g3⟩ := go_is (S := S) (p := ⟨7, pickM o.a 8, o.b, 0, 0, ⟨#[]⟩⟩) e (by simp [opK])
  rw [g1, g2, g3]
  have HK : Hid (pickM o.kind 7 = 6) := e
  clear e g1 g2 g3
  have hA := pick_bd o.a 8 (by omega)
  have hC := pick_bd o.c 1099511627776 (by omega)
  generalize hA1 : pickM o.a 8 = A at *
  generalize hf1 : filterM o.s = f
  generalize ht1 : topicM o.s = t
  generalize hB1 : pickM o.b 1073741825 = B
  generalize hC1 : pickM o.c 1099511627777 = C
  generalize hD1 : pickM o.d 1099511627777 = D
  generalize hE1 : pickM o.c 1099511627776 = E at *
  generalize hG1 : pickM o.b 1099511627777 = G
  have HA1 : Hid (pickM o.a 8 = A) := hA1
  have HF1 : Hid (filterM o.s = f) := hf1
  have HT1 : Hid (topicM o.s = t) := ht1
  have HBX : Hid (pickM o.b 1073741825 = B) := hB1
  have HCX : Hid (pickM o.c 1099511627777 = C) := hC1
  have HDX : Hid (pickM o.d 1099511627777 = D) := hD1
  have HEX : Hid (pickM o.c 1099511627776 = E) := hE1
  have HGX : Hid (pickM o.b 1099511627777 = G) := hG1
  clear hA1 hf1 ht1 hB1 hC1 hD1 hE1 hG1
  unfold stepV
  go_enter Try.func68, Try.ntmps68
  go_wp2_with fail
  refine (keepPick o.a 8 _ a0 a1 (by omega) (by omega)).mono ?_
  rintro e w1 ⟨rfl, hw1⟩
  rw [HA1.out]
  subst hw1
  go_wp2_with fail
  refine (textFilter o.s _ hs).mono ?_
  rintro e w2 ⟨⟨f', rfl, hf, hfe⟩, hb2⟩
  obtain rfl := (hfe.trans HF1.out).symm
  obtain ⟨i0, i1, i2, i3, i4, i5⟩ := step6 hb2
  have hfs : f.size ≤ 1048576 := Nat.le_trans (path15 hf) (by omega)
  have HB2 : Hid (Below w.heap.size w w2) := (below_one w _).trans (hb2.mono (by simp))
  clear hf hb2 hfe
  go_wp2_with fail
  refine (textTopic o.s _ hs).mono ?_
  rintro e w3 ⟨⟨t', rfl, ht, hte⟩, hb3⟩
  obtain rfl := (hte.trans HT1.out).symm
  have j0 := cell_later hb3 i0
  have j1 := cell_later hb3 i1
  have j2 := cell_later hb3 i2
  have j3 := cell_later hb3 i3
  have j4 := cell_later hb3 i4
  have hts : t.size ≤ 1048576 := Nat.le_trans (path15 ht) (by omega)
  have HB3 : Hid (Below w.heap.size w w3) := HB2.out.trans (hb3.mono HB2.out.size)
  clear ht hb3 hte i0 i1 i2 i3 i4 i5
  have M3 : Hid (MineF w0 w3 H F S) := HM.out.below HB3.out
  go_wp2_with fail
  refine (keepPick o.kind 7 _ k0 k1 (by omega) (by omega)).mono ?_
  rintro e w3 ⟨rfl, rfl⟩
  rw [HK.out]
  go_wp2_with fail
  refine (mineFAck A o.b 0 0 ⟨#[]⟩ M3.out (Nat.zero_le _)).mono ?_
  rintro e w4 ⟨rfl, hm4⟩
  have M4 : Hid (MineStep w0 w H F _ w4) := hm4.later HB3.out
  clear hm4
  go_wp2_with fail
  go_ret2
  exact ⟨by rw [ans_none (by show (7 : Int) ≠ 3; decide)]; rfl, M4.out⟩

end Go.Proofs.Ytmjdndhfmfjbiab

namespace Go.Proofs.Ytmjdndhfmfjbiab
open Go.RowKit

set_option maxRecDepth 100000 in
set_option maxHeartbeats 1000000 in
theorem keepDo2 {w0 w : World} {H : Nat} {F : Nat → Prop} {S : RefS} (o : StepD) (ho : StepOk o) (h : MineF w0 w H F S) (e : pickM o.kind 7 = 2) :
    Calls Try.prog 68 #[.pointer (some ⟨H, 0, none⟩), stepV o] w fun e w' => e = .returned (.tuple #[.int .i64 (goA S o), .int .i64 (goE S o)]) ∧ MineStep w0 w H F (goS S o) w' := by
  obtain ⟨g1, g2, g3⟩ := go_is (S := S) (p := ⟨3, 0, pickM o.b 1073741825, pickM o.c 1099511627777, pickM o.d 1099511627777, topicM o.s⟩) e (by simp [opK])
  rw [g1, g2, g3]
  clear g1 g2 g3
  obtain ⟨kk, a, b, c, d, s⟩ := o
  obtain ⟨⟨k0, k1⟩, ⟨a0, a1⟩, ⟨b0, b1⟩, ⟨c0, c1⟩, ⟨d0, d1⟩, hs⟩ := ho
  simp only at k0 k1 a0 a1 b0 b1 c0 c1 d0 d1 hs e
  have HM : Hid (MineF w0 w H F S) := h
  have HK : Hid (pickM kk 7 = 2) := e
  clear e h
  simp only
  generalize hB1 : pickM b 1073741825 = B at *
  generalize hC1 : pickM c 1099511627777 = C at *
  generalize hD1 : pickM d 1099511627777 = D at *
  generalize hT1 : topicM s = t at *
  have HBX : Hid (pickM b 1073741825 = B) := hB1
  have HCX : Hid (pickM c 1099511627777 = C) := hC1
  have HDX : Hid (pickM d 1099511627777 = D) := hD1
  have HTX : Hid (topicM s = t) := hT1
  clear hB1 hC1 hD1 hT1
  unfold stepV
  simp only
  go_enter Try.func68, Try.ntmps68
  go_wp2_with fail
  refine (keepPick a 8 _ a0 a1 (by omega) (by omega)).mono ?_
  rintro e w1 ⟨rfl, hw1⟩
  have hA := pick_bd a 8 (by omega)
  generalize pickM a 8 = A at *
  subst hw1
  go_wp2_with fail
  refine (textFilter s _ hs).mono ?_
  rintro e w2 ⟨⟨f, rfl, hf, -⟩, hb2⟩
  obtain ⟨i0, i1, i2, i3, i4, i5⟩ := step6 (o := ⟨kk, a, b, c, d, s⟩) hb2
  simp only at i0 i1 i2 i3 i4 i5
  have hfs : f.size ≤ 1048576 := Nat.le_trans (path15 hf) (by omega)
  have HB2 : Hid (Below w.heap.size w w2) := (below_one w _).trans (hb2.mono (by simp))
  clear hf hb2
  go_wp2_with fail
  refine (textTopic s _ hs).mono ?_
  rintro e w3 ⟨⟨t', rfl, ht, hte⟩, hb3⟩
  obtain rfl := (hte.trans HTX.out).symm
  have j0 := cell_later hb3 i0
  have j2 := cell_later hb3 i2
  have j3 := cell_later hb3 i3
  have j4 := cell_later hb3 i4
  have hts : t.size ≤ 1048576 := Nat.le_trans (path15 ht) (by omega)
  have HB3 : Hid (Below w.heap.size w w3) := HB2.out.trans (hb3.mono HB2.out.size)
  clear ht hte hb3 i0 i1 i2 i3 i4 i5
  have M3 : Hid (MineF w0 w3 H F S) := HM.out.below HB3.out
  go_wp2_with fail
  refine (keepPick kk 7 _ k0 k1 (by omega) (by omega)).mono ?_
  rintro e w3 ⟨rfl, rfl⟩
  rw [HK.out]
  have hno : ¬ F w.heap.size := fun hf => absurd (HM.out.lt hf) (Nat.lt_irrefl _)
  have KEEP : Hid (∀ w4 S1, MineStep w0 w3.drew H F S1 w4 → w4.cell? ⟨w.heap.size, 2, none⟩ = some (.int .i64 b) ∧ w4.cell? ⟨w.heap.size, 3, none⟩ = some (.int .i64 c) ∧ w4.cell? ⟨w.heap.size, 4, none⟩ = some (.int .i64 d)) :=
    fun w4 S1 h => ⟨h.cell (p := ⟨w.heap.size, 2, none⟩) j2 hno, h.cell (p := ⟨w.heap.size, 3, none⟩) j3 hno, h.cell (p := ⟨w.heap.size, 4, none⟩) j4 hno⟩
  clear hno
  go_wp2_with fail
  go_region_held3 (fun w' => w'.cell? ⟨w.heap.size, 2, none⟩ = some (.int .i64 b) ∧ w'.cell? ⟨w.heap.size, 3, none⟩ = some (.int .i64 c) ∧ w'.cell? ⟨w.heap.size, 4, none⟩ = some (.int .i64 d)) (first | (go_keep; done) | exact KEEP.out _ _ hm4)
    (first | (go_at_call 18; refine (keepPick _ _ _ (by assumption) (by assumption) (by omega) (by omega)).mono ?_; rintro e w5 ⟨rfl, rfl⟩; first | rw [HBX.out] | rw [HCX.out] | rw [HDX.out]) | (go_at_call 14; refine (mineFPub 0 B C D t (M3.out.below below_drew) hts).mono ?_; rintro e w4 ⟨rfl, hm4⟩))
  have M4 : Hid (MineStep w0 w H F (doS S ⟨3, 0, B, C, D, t⟩) w4) := hm4.later HB3.out.drew
  clear hm4
  go_wp2_with fail
  go_ret2
  exact ⟨rfl, M4.out⟩
end Go.Proofs.Ytmjdndhfmfjbiab

namespace Go.Proofs.Ytmjdndhfmfjbiab
open Go.RowKit

set_option maxRecDepth 100000 in
set_option maxHeartbeats 1000000 in
theorem keepDo4 {w0 w : World} {H : Nat} {F : Nat → Prop} {S : RefS} (o : StepD) (ho : StepOk o) (h : MineF w0 w H F S) (e : pickM o.kind 7 = 4) :
    Calls Try.prog 68 #[.pointer (some ⟨H, 0, none⟩), stepV o] w fun e w' => e = .returned (.tuple #[.int .i64 (goA S o), .int .i64 (goE S o)]) ∧ MineStep w0 w H F (goS S o) w' := by
  obtain ⟨g1, g2, g3⟩ := go_is (S := S) (p := ⟨5, 0, o.b, 1 + pickM o.c 1099511627776, 0, ⟨#[]⟩⟩) e (by simp [opK])
  rw [g1, g2, g3]
  clear g1 g2 g3
  obtain ⟨kk, a, b, c, d, s⟩ := o
  obtain ⟨⟨k0, k1⟩, ⟨a0, a1⟩, ⟨b0, b1⟩, ⟨c0, c1⟩, ⟨d0, d1⟩, hs⟩ := ho
  simp only at k0 k1 a0 a1 b0 b1 c0 c1 d0 d1 hs e
  have HM : Hid (MineF w0 w H F S) := h
  have HK : Hid (pickM kk 7 = 4) := e
  clear e h
  have hC := pick_bd c 1099511627776 (by omega)
  simp only
  generalize hE1 : pickM c 1099511627776 = E at *
  have HEX : Hid (pickM c 1099511627776 = E) := hE1
  clear hE1
  unfold stepV
  simp only
  go_enter Try.func68, Try.ntmps68
  go_wp2_with fail
  refine (keepPick a 8 _ a0 a1 (by omega) (by omega)).mono ?_
  rintro e w1 ⟨rfl, hw1⟩
  have hA := pick_bd a 8 (by omega)
  generalize pickM a 8 = A at *
  subst hw1
  go_wp2_with fail
  refine (textFilter s _ hs).mono ?_
  rintro e w2 ⟨⟨f, rfl, hf, -⟩, hb2⟩
  obtain ⟨i0, i1, i2, i3, i4, i5⟩ := step6 (o := ⟨kk, a, b, c, d, s⟩) hb2
  simp only at i0 i1 i2 i3 i4 i5
  have hfs : f.size ≤ 1048576 := Nat.le_trans (path15 hf) (by omega)
  have HB2 : Hid (Below w.heap.size w w2) := (below_one w _).trans (hb2.mono (by simp))
  clear hf hb2
  go_wp2_with fail
  refine (textTopic s _ hs).mono ?_
  rintro e w3 ⟨⟨t, rfl, ht, -⟩, hb3⟩
  have j0 := cell_later hb3 i0
  have j2 := cell_later hb3 i2
  have j3 := cell_later hb3 i3
  have hts : t.size ≤ 1048576 := Nat.le_trans (path15 ht) (by omega)
  have HB3 : Hid (Below w.heap.size w w3) := HB2.out.trans (hb3.mono HB2.out.size)
  clear ht hb3 i0 i1 i2 i3 i4 i5
  have M3 : Hid (MineF w0 w3 H F S) := HM.out.below HB3.out
  go_wp2_with fail
  refine (keepPick kk 7 _ k0 k1 (by omega) (by omega)).mono ?_
  rintro e w3 ⟨rfl, rfl⟩
  rw [HK.out]
  have hno : ¬ F w.heap.size := fun hf => absurd (HM.out.lt hf) (Nat.lt_irrefl _)
  have KEEP : Hid (∀ w4 S1, MineStep w0 w3.drew H F S1 w4 → w4.cell? ⟨w.heap.size, 2, none⟩ = some (.int .i64 b) ∧ w4.cell? ⟨w.heap.size, 3, none⟩ = some (.int .i64 c)) :=
    fun w4 S1 h => ⟨h.cell (p := ⟨w.heap.size, 2, none⟩) j2 hno, h.cell (p := ⟨w.heap.size, 3, none⟩) j3 hno⟩
  clear hno
  have hwrap : IntKind.i64.wrap (1 + E) = 1 + E := Go.IntWalk.i64_in _ (by omega)
  go_wp2_with fail
  go_region_held3 (fun w' => w'.cell? ⟨w.heap.size, 2, none⟩ = some (.int .i64 b) ∧ w'.cell? ⟨w.heap.size, 3, none⟩ = some (.int .i64 c)) (first | (go_keep; done) | exact KEEP.out _ _ hm4)
    (first | (go_at_call 18; refine (keepPick _ _ _ (by assumption) (by assumption) (by omega) (by omega)).mono ?_; rintro e w5 ⟨rfl, rfl⟩; rw [HEX.out]) | (go_at_call 23; refine (mineFMove 0 b (1 + E) 0 ⟨#[]⟩ (M3.out.below below_drew) (Nat.zero_le _)).mono ?_; rintro e w4 ⟨rfl, hm4⟩))
  have M4 : Hid (MineStep w0 w H F (doS S ⟨5, 0, b, 1 + E, 0, ⟨#[]⟩⟩) w4) := hm4.later HB3.out.drew
  clear hm4
  go_wp2_with fail
  go_ret2
  exact ⟨by rw [ans_none (by show (5 : Int) ≠ 3; decide)]; rfl, M4.out⟩
end Go.Proofs.Ytmjdndhfmfjbiab

namespace Go.Proofs.Ytmjdndhfmfjbiab
open Go.RowKit

theorem keepDo {w0 w : World} {H : Nat} {F : Nat → Prop} {S : RefS} (o : StepD) (ho : StepOk o) (h : MineF w0 w H F S) :
    Calls Try.prog 68 #[.pointer (some ⟨H, 0, none⟩), stepV o] w fun e w' => e = .returned (.tuple #[.int .i64 (goA S o), .int .i64 (goE S o)]) ∧ MineStep w0 w H F (goS S o) w' := by
  have hb := pick_bd o.kind 7 (by omega)
  rcases (show pickM o.kind 7 = 0 ∨ pickM o.kind 7 = 1 ∨ pickM o.kind 7 = 2 ∨ pickM o.kind 7 = 3 ∨ pickM o.kind 7 = 4 ∨ pickM o.kind 7 = 5 ∨ pickM o.kind 7 = 6 from by omega) with e | e | e | e | e | e | e
  · exact keepDo0 o ho h e
  · exact keepDo1 o ho h e
  · exact keepDo2 o ho h e
  · exact keepDo3 o ho h e
  · exact keepDo4 o ho h e
  · exact keepDo5 o ho h e
  · exact keepDo6 o ho h e
end Go.Proofs.Ytmjdndhfmfjbiab

/-
  heraldkeep: operations one behind the other on a broker of one's own, and what they leave alone.
-/
namespace Go.Proofs.Ytmjdndhfmfjbiab
open Go.RowKit

theorem MineStep.refl {w0 w : World} {H : Nat} {F : Nat → Prop} {S : RefS} (h : MineF w0 w H F S) : MineStep w0 w H F S w := by
  have hF : ∀ k, F k → w0.heap.size ≤ k := by
    obtain ⟨R, hp, hF, hb, hg⟩ := h
    exact hF
  exact ⟨F, h, Upd.refl _ _, hF, fun k hk => .inl hk⟩
theorem MineStep.trans {w0 w w1 w2 : World} {H : Nat} {F F1 : Nat → Prop} {S2 : RefS} (hu1 : Upd F w w1) (hF : ∀ k, F k → w0.heap.size ≤ k) (hk1 : ∀ k, F1 k → F k ∨ w.heap.size ≤ k) (h2 : MineStep w0 w1 H F1 S2 w2) : MineStep w0 w H F S2 w2 := by
  obtain ⟨F2, hm2, hu2, -, hk2⟩ := h2
  refine ⟨F2, hm2, hu1.trans hu2 (fun i hi hf => (hk1 i hf).resolve_right (by omega)), hF, fun k hk => ?_⟩
  rcases hk2 k hk with h | h
  · exact hk1 k h
  · exact .inr (Nat.le_trans hu1.size h)
theorem MineStep.below {w0 w w1 w2 : World} {H : Nat} {F : Nat → Prop} {S1 : RefS} (h : MineStep w0 w H F S1 w1) (hb : Below w1.heap.size w1 w2) : MineStep w0 w H F S1 w2 := by
  obtain ⟨F1, hm, hu, hF, hk⟩ := h
  exact ⟨F1, hm.below hb, hu.below hb, hF, hk⟩
theorem MineStep.mine {w0 w w1 : World} {H : Nat} {F : Nat → Prop} {S1 : RefS} (h : MineStep w0 w H F S1 w1) : Mine w0 w1 H S1 := by
  obtain ⟨F1, hm, -⟩ := h
  exact hm.mine
theorem MineStep.upd {w0 w w1 : World} {H : Nat} {F : Nat → Prop} {S1 : RefS} (h : MineStep w0 w H F S1 w1) : Upd F w w1 := by
  obtain ⟨F1, hm, hu, -⟩ := h
  exact hu

theorem stepSub {w0 w w1 : World} {H : Nat} {F : Nat → Prop} {S : RefS} (a b c d : Int) (s : ByteArray) (h : MineStep w0 w H F S w1) (hs : s.size ≤ 1048576) :
    Calls Try.prog 11 #[.pointer (some ⟨H, 0, none⟩), .int .i64 a, .string s] w1 fun e w' => e = .returned (.int .i64 (doErr S ⟨1, a, b, c, d, s⟩)) ∧ MineStep w0 w H F (doS S ⟨1, a, b, c, d, s⟩) w' := by
  obtain ⟨F1, hm, hu, hF, hk⟩ := h
  refine (mineFSub a b c d s hm hs).mono ?_
  rintro e w2 ⟨rfl, h2⟩
  exact ⟨rfl, MineStep.trans hu hF hk h2⟩
theorem stepUnsub {w0 w w1 : World} {H : Nat} {F : Nat → Prop} {S : RefS} (a b c d : Int) (s : ByteArray) (h : MineStep w0 w H F S w1) (hs : s.size ≤ 1048576) :
    Calls Try.prog 73 #[.pointer (some ⟨H, 0, none⟩), .int .i64 a, .string s] w1 fun e w' => e = .returned (.int .i64 (doErr S ⟨2, a, b, c, d, s⟩)) ∧ MineStep w0 w H F (doS S ⟨2, a, b, c, d, s⟩) w' := by
  obtain ⟨F1, hm, hu, hF, hk⟩ := h
  refine (mineFUnsub a b c d s hm hs).mono ?_
  rintro e w2 ⟨rfl, h2⟩
  exact ⟨rfl, MineStep.trans hu hF hk h2⟩
theorem stepCancel {w0 w w1 : World} {H : Nat} {F : Nat → Prop} {S : RefS} (a b c d : Int) (s : ByteArray) (h : MineStep w0 w H F S w1) (hs : s.size ≤ 1048576) :
    Calls Try.prog 22 #[.pointer (some ⟨H, 0, none⟩), .int .i64 b] w1 fun e w' => e = .returned (.int .i64 (doErr S ⟨4, a, b, c, d, s⟩)) ∧ MineStep w0 w H F (doS S ⟨4, a, b, c, d, s⟩) w' := by
  obtain ⟨F1, hm, hu, hF, hk⟩ := h
  refine (mineFCancel a b c d s hm hs).mono ?_
  rintro e w2 ⟨rfl, h2⟩
  exact ⟨rfl, MineStep.trans hu hF hk h2⟩
theorem stepMove {w0 w w1 : World} {H : Nat} {F : Nat → Prop} {S : RefS} (a b c d : Int) (s : ByteArray) (h : MineStep w0 w H F S w1) (hs : s.size ≤ 1048576) :
    Calls Try.prog 23 #[.pointer (some ⟨H, 0, none⟩), .int .i64 b, .int .i64 c] w1 fun e w' => e = .returned (.int .i64 (doErr S ⟨5, a, b, c, d, s⟩)) ∧ MineStep w0 w H F (doS S ⟨5, a, b, c, d, s⟩) w' := by
  obtain ⟨F1, hm, hu, hF, hk⟩ := h
  refine (mineFMove a b c d s hm hs).mono ?_
  rintro e w2 ⟨rfl, h2⟩
  exact ⟨rfl, MineStep.trans hu hF hk h2⟩
theorem stepTick {w0 w w1 : World} {H : Nat} {F : Nat → Prop} {S : RefS} (a b c d : Int) (s : ByteArray) (h : MineStep w0 w H F S w1) (hs : s.size ≤ 1048576) :
    Calls Try.prog 19 #[.pointer (some ⟨H, 0, none⟩), .int .i64 b] w1 fun e w' => e = .returned (.int .i64 (doErr S ⟨6, a, b, c, d, s⟩)) ∧ MineStep w0 w H F (doS S ⟨6, a, b, c, d, s⟩) w' := by
  obtain ⟨F1, hm, hu, hF, hk⟩ := h
  refine (mineFTick a b c d s hm hs).mono ?_
  rintro e w2 ⟨rfl, h2⟩
  exact ⟨rfl, MineStep.trans hu hF hk h2⟩
theorem stepAck {w0 w w1 : World} {H : Nat} {F : Nat → Prop} {S : RefS} (a b c d : Int) (s : ByteArray) (h : MineStep w0 w H F S w1) (hs : s.size ≤ 1048576) :
    Calls Try.prog 13 #[.pointer (some ⟨H, 0, none⟩), .int .i64 a, .int .i64 b] w1 fun e w' => e = .returned (.int .i64 (doErr S ⟨7, a, b, c, d, s⟩)) ∧ MineStep w0 w H F (doS S ⟨7, a, b, c, d, s⟩) w' := by
  obtain ⟨F1, hm, hu, hF, hk⟩ := h
  refine (mineFAck a b c d s hm hs).mono ?_
  rintro e w2 ⟨rfl, h2⟩
  exact ⟨rfl, MineStep.trans hu hF hk h2⟩
theorem stepPub {w0 w w1 : World} {H : Nat} {F : Nat → Prop} {S : RefS} (a b c d : Int) (s : ByteArray) (h : MineStep w0 w H F S w1) (hs : s.size ≤ 1048576) :
    Calls Try.prog 14 #[.pointer (some ⟨H, 0, none⟩), .string s, .int .i64 b, .int .i64 c, .int .i64 d] w1 fun e w' => e = .returned (.tuple #[.int .i64 (doAns S ⟨3, a, b, c, d, s⟩), .int .i64 (doErr S ⟨3, a, b, c, d, s⟩)]) ∧ MineStep w0 w H F (doS S ⟨3, a, b, c, d, s⟩) w' := by
  obtain ⟨F1, hm, hu, hF, hk⟩ := h
  refine (mineFPub a b c d s hm hs).mono ?_
  rintro e w2 ⟨rfl, h2⟩
  exact ⟨rfl, MineStep.trans hu hF hk h2⟩
theorem stepDo {w0 w w1 : World} {H : Nat} {F : Nat → Prop} {S : RefS} (o : StepD) (ho : StepOk o) (h : MineStep w0 w H F S w1) :
    Calls Try.prog 68 #[.pointer (some ⟨H, 0, none⟩), stepV o] w1 fun e w' => e = .returned (.tuple #[.int .i64 (goA S o), .int .i64 (goE S o)]) ∧ MineStep w0 w H F (goS S o) w' := by
  obtain ⟨F1, hm, hu, hF, hk⟩ := h
  refine (keepDo o ho hm).mono ?_
  rintro e w2 ⟨rfl, h2⟩
  exact ⟨rfl, MineStep.trans hu hF hk h2⟩

/-- What is refused. -/
theorem refused {S : RefS} {o : OpD} {e : Int} (h1 : wrongM S o = e) (h0 : e ≠ 0) : doErr S o = e ∧ doS S o = S ∧ doAns S o = 0 := by
  have h := is_wrong h1 h0
  exact ⟨h, (not_done (by rw [h]; exact h0)).2⟩
def outM (c n : Int) : Int := if 0 ≤ c ∧ c < n then n + c else c
theorem out_not {c n : Int} : ¬ (0 ≤ outM c n ∧ outM c n < n) := by unfold outM; split <;> omega
theorem out_unknown (c : Int) : knownB (outM c 8) = false := by
  have := out_not (c := c) (n := 8)
  unfold knownB
  by_cases h : 0 ≤ outM c 8
  · have : ¬ outM c 8 < 8 := fun h2 => this ⟨h, h2⟩
    simp [this]
  · simp [h]
theorem out_time (c : Int) : isTimeM (outM c 1099511627777) = false := by
  have := out_not (c := c) (n := 1099511627777)
  unfold isTimeM
  by_cases h : 0 ≤ outM c 1099511627777
  · have : ¬ outM c 1099511627777 ≤ 1099511627776 := fun h2 => this ⟨h, by omega⟩
    simp [this]
  · simp [h]
set_option maxRecDepth 100000 in
theorem keepOutside (c n : Int) (w : World) (h0 : -9223372036854775808 ≤ c) (h1 : c ≤ 9223372036854775807) (hn : 0 < n) (hn1 : n ≤ 1099511627777) :
    Calls Try.prog 71 #[.int .i64 c, .int .i64 n] w fun e w' => e = .returned (.int .i64 (outM c n)) ∧ w' = w := by
  by_cases hc : 0 ≤ c
  · by_cases hc2 : c < n
    · have HE : Hid (outM c n = n + c) := if_pos ⟨hc, hc2⟩
      go_enter Try.func71, Try.ntmps71
      go_wp2_with fail
      go_ret
      exact ⟨ret_int HE.out.symm, rfl⟩
    · have HE : Hid (outM c n = c) := if_neg (fun h => hc2 h.2)
      go_enter Try.func71, Try.ntmps71
      go_wp2_with fail
      go_ret
      exact ⟨ret_int HE.out.symm, rfl⟩
  · have HE : Hid (outM c n = c) := if_neg (fun h => hc h.1)
    go_enter Try.func71, Try.ntmps71
    go_wp2_with fail
    go_ret
    exact ⟨ret_int HE.out.symm, rfl⟩
theorem find_none {α : Type} {p : α → Bool} {l : List α} : ∀ {i : Int}, (∀ x ∈ l, p x = false) → findM p l i = -1 := by
  induction l with
  | nil => intro i _; rfl
  | cons a l ih =>
    intro i h
    rw [findM, h a (by simp)]
    exact ih (fun x hx => h x (by simp [hx]))
theorem Mine.num {w0 w : World} {H : Nat} {S : RefS} (h : Mine w0 w H S) : Num S := by
  obtain ⟨F, R, ⟨x, fil, wait, hb, -⟩, -⟩ := h
  exact hb.num
theorem far_none {w0 w : World} {H : Nat} {S : RefS} (h : Mine w0 w H S) (n : Int) : findM (fun m => m.number == outM n 500) S.wait 0 = -1 :=
  find_none (fun m hm => by
    have h1 := h.num.wait m hm
    have h2 := h.good.inv.pub
    have h3 := h.good.inv.done
    have h4 := out_not (c := n) (n := 500)
    simp only [beq_eq_false_iff_ne, ne_eq]
    intro e
    exact h4 (by omega))
end Go.Proofs.Ytmjdndhfmfjbiab

/-
  heraldkeep: a script, done.
-/
namespace Go.Proofs.Ytmjdndhfmfjbiab
open Go.RowKit

def StepAt (w : World) (g off : Nat) (o : StepD) : Prop := w.cell? ⟨g, off, none⟩ = some (.int .i64 o.kind) ∧ w.cell? ⟨g, off + 1, none⟩ = some (.int .i64 o.a) ∧ w.cell? ⟨g, off + 2, none⟩ = some (.int .i64 o.b) ∧ w.cell? ⟨g, off + 3, none⟩ = some (.int .i64 o.c) ∧ w.cell? ⟨g, off + 4, none⟩ = some (.int .i64 o.d) ∧ w.cell? ⟨g, off + 5, none⟩ = some (.string o.s)
def StepsAt (w : World) (ao : Option Addr) (l : List StepD) : Prop := ∀ j o, l[j]? = some o → ∃ g off, ao = some ⟨g, off, none⟩ ∧ StepAt w g (off + j * 6) o
def runS (S : RefS) (l : List StepD) : RefS := l.foldl goS S
theorem run_next {S : RefS} {l : List StepD} {k : Nat} {o : StepD} (h : l[k]? = some o) : runS S (l.take (k + 1)) = goS (runS S (l.take k)) o := by
  unfold runS
  rw [List.take_add_one, h, List.foldl_append]; rfl
theorem mineDo {w0 w : World} {H : Nat} {S : RefS} (o : StepD) (ho : StepOk o) (h : Mine w0 w H S) :
    Calls Try.prog 68 #[.pointer (some ⟨H, 0, none⟩), stepV o] w fun e w' => e = .returned (.tuple #[.int .i64 (goA S o), .int .i64 (goE S o)]) ∧ Mine w0 w' H (goS S o) := by
  obtain ⟨F, hm⟩ := h.mineF
  refine (keepDo o ho hm).mono ?_
  rintro e w2 ⟨rfl, h2⟩
  exact ⟨rfl, h2.mine⟩

set_option maxRecDepth 100000 in
set_option maxHeartbeats 4000000 in
theorem keepReplayed (l : List StepD) (ao : Option Addr) (m cap N : Nat) (w : World) (hl : l.length = m) (hN : N ≤ 9223372036854775807) (hsc : StepsAt w ao l) (hok : ∀ o ∈ l, StepOk o) :
    Calls Try.prog 31 #[.slice ao m cap, .int .i64 (N : Int)] w fun e w' => ∃ H, e = .returned (.pointer (some ⟨H, 0, none⟩)) ∧ Mine w w' H (runS (refNew 500) (l.take N)) := by
  have HL : Hid (l.length = m) := hl
  have HSC : Hid (StepsAt w ao l) := hsc
  have HOK : Hid (∀ o ∈ l, StepOk o) := hok
  clear hl hsc hok
  go_enter Try.func31, Try.ntmps31
  go_wp2_with fail
  refine (mineOpened 500 w (by omega) (by omega)).mono ?_
  rintro e w1 ⟨H, rfl, hm1⟩
  have M1 : Hid (Mine w w1 H (refNew 500)) := hm1
  clear hm1
  go_wp2_with fail
  go_loopw [6] (fun i wr => ∃ k : Nat, k ≤ N ∧ k ≤ m ∧ i = .int .i64 (k : Int) ∧ Mine w wr H (runS (refNew 500) (l.take k))) (fun i _ => N - (intOf i).toNat)
  case atStart => exact ⟨0, Nat.zero_le _, Nat.zero_le _, rfl, M1.out⟩
  case round =>
    obtain ⟨k, hkN, hkm, rfl, hM⟩ := hrel
    have MM : Hid (Mine w wr H (runS (refNew 500) (l.take k))) := hM
    clear hM
    by_cases hlt : k < N ∧ k < m
    · obtain ⟨hlt1, hlt2⟩ := hlt
      obtain ⟨o, ho⟩ : ∃ o, l[k]? = some o := ⟨_, List.getElem?_eq_getElem (by rw [HL.out]; exact hlt2)⟩
      have HO : Hid (StepOk o) := HOK.out o (List.mem_of_getElem? ho)
      obtain ⟨gs, off, rfl, e0, e1, e2, e3, e4, e5⟩ := HSC.out k o ho
      have f0 := cell_later MM.out.out e0
      have f1 := cell_later MM.out.out e1
      have f2 := cell_later MM.out.out e2
      have f3 := cell_later MM.out.out e3
      have f4 := cell_later MM.out.out e4
      have f5 := cell_later MM.out.out e5
      have HN : Hid (runS (refNew 500) (l.take (k + 1)) = goS (runS (refNew 500) (l.take k)) o) := run_next ho
      clear ho e0 e1 e2 e3 e4 e5
      generalize runS (refNew 500) (l.take k) = S at *
      go_wp2_with fail
      refine (mineDo o HO.out MM.out).mono ?_
      rintro e w2 ⟨rfl, hm2⟩
      have M2 : Hid (Mine w w2 H (runS (refNew 500) (l.take (k + 1)))) := by rw [HN.out]; exact hm2
      clear hm2 f0 f1 f2 f3 f4 f5
      go_wp2_with fail
      go_roundw
      case rel => exact ⟨k + 1, by omega, by omega, by go_num, M2.out⟩
      case measure => simp [intOf]; omega
    · have HE : Hid (l.take k = l.take N) := by
        show _ = _
        by_cases h1 : k < N
        · have h2 : k = m := by omega
          rw [h2, ← HL.out, List.take_length, List.take_of_length_le (by rw [HL.out]; omega)]
        · rw [show k = N from by omega]
      by_cases hk2 : k < N
      · have hk3 : ¬ k < m := fun h => hlt ⟨hk2, h⟩
        clear hlt
        go_wp2_with fail
        go_ret
        exact ⟨H, rfl, by rw [← HE.out]; exact MM.out⟩
      · clear hlt
        go_wp2_with fail
        go_ret
        exact ⟨H, rfl, by rw [← HE.out]; exact MM.out⟩
end Go.Proofs.Ytmjdndhfmfjbiab

/-
  heraldkeep: all that a broker shows.
-/
namespace Go.Proofs.Ytmjdndhfmfjbiab
open Go.RowKit

theorem infoRowT : (Try.prog.info? 86).map (fun i => (i.zero, i.size, i.bytes)) = some (some (.slice none 0 0), 1, 24) := by kernel_rfl
theorem infoRowM : (Try.prog.info? 28).map (fun i => (i.zero, i.size, i.bytes)) = some (some (.slice none 0 0), 1, 24) := by kernel_rfl
theorem infoNum : (Try.prog.info? 3).map (fun i => (i.zero, i.size, i.bytes)) = some (some (.int .i64 0), 1, 8) := by kernel_rfl

structure LookD where
  time : Int
  fil : Nat → List ByteArray
  que : Nat → List MailD
  lost : Nat → Int
  wait : List WaitD
  recs : Int
def lookM (S : RefS) : LookD := ⟨S.time, fun k => filtersM S (k : Int), fun k => queueM S (k : Int), fun k => lostM S (k : Int), waitingM S, (S.done.length : Int)⟩
structure LookFew (L : LookD) : Prop where
  fil : ∀ k, (L.fil k).length ≤ 1048576
  que : ∀ k, (L.que k).length ≤ 1048576
  wait : L.wait.length ≤ 1048576

/-- A row between two blocks. -/
def RowIn (w : World) (base top : Nat) (e : TypeId) (size : Nat) (v : Value) (n : Nat) (xs : List Value) : Prop := w.ownsRow base e size v n xs ∧ ∀ g, v.ownBlock = some g → g < top
theorem RowIn.upd {P : Nat → Prop} {w w1 : World} {base top : Nat} {e : TypeId} {size : Nat} {v : Value} {n : Nat} {xs : List Value} (h : RowIn w base top e size v n xs) (hu : Upd P w w1) (hP : ∀ g, P g → g < base ∨ top ≤ g) : RowIn w1 base top e size v n xs :=
  ⟨own_upd h.1 hu (fun g hg hp => by
    have h1 := (World.ownsRow.lt h.1 g hg).1
    have h2 := h.2 g hg
    rcases hP g hp with h | h <;> omega), h.2⟩
theorem RowIn.of {w : World} {base : Nat} {e : TypeId} {size : Nat} {v : Value} {n : Nat} {xs : List Value} (h : w.ownsRow base e size v n xs) : RowIn w base w.heap.size e size v n xs := ⟨h, fun g hg => (World.ownsRow.lt h g hg).2⟩
theorem RowIn.form {w : World} {base top : Nat} {e : TypeId} {size : Nat} {v : Value} {n : Nat} {xs : List Value} (h : RowIn w base top e size v n xs) : ∃ ao c, v = .slice ao n c ∧ n ≤ c ∧ c ≤ maxLen ∧ CellsAt w ao xs := Row.form (own_mono h.1 (Nat.zero_le _))

def textsF (l : List ByteArray) : List Value := l.map Value.string
/-- A look, as it lies. -/
structure LookIn (w : World) (base top : Nat) (L : LookD) (fv qv lv wv : Value) (FV QV : List Value) : Prop where
  fil : RowIn w base top 86 1 fv 8 FV
  que : RowIn w base top 28 1 qv 8 QV
  lost : RowIn w base top 3 1 lv 8 ((List.range 8).map (fun j => Value.int .i64 (L.lost j)))
  wait : RowIn w base top 50 5 wv L.wait.length (L.wait.flatMap waitCells)
  fils : ∀ j v, FV[j]? = some v → RowIn w base top 9 1 v (L.fil j).length (textsF (L.fil j))
  ques : ∀ j v, QV[j]? = some v → RowIn w base top 35 5 v (L.que j).length ((L.que j).flatMap mailCells)
def LookAt (w : World) (base top : Nat) (L : LookD) (v : Value) : Prop := ∃ fv qv lv wv FV QV, v = .agg #[.int .i64 L.time, fv, qv, lv, wv, .int .i64 L.recs] ∧ LookIn w base top L fv qv lv wv FV QV
theorem LookIn.upd {P : Nat → Prop} {w w1 : World} {base top : Nat} {L : LookD} {fv qv lv wv : Value} {FV QV : List Value} (h : LookIn w base top L fv qv lv wv FV QV) (hu : Upd P w w1) (hP : ∀ g, P g → g < base ∨ top ≤ g) : LookIn w1 base top L fv qv lv wv FV QV :=
  ⟨h.fil.upd hu hP, h.que.upd hu hP, h.lost.upd hu hP, h.wait.upd hu hP, fun j v hv => (h.fils j v hv).upd hu hP, fun j v hv => (h.ques j v hv).upd hu hP⟩
theorem LookIn.below {w w1 : World} {base top : Nat} {L : LookD} {fv qv lv wv : Value} {FV QV : List Value} (h : LookIn w base top L fv qv lv wv FV QV) (hb : Below w.heap.size w w1) : LookIn w1 base top L fv qv lv wv FV QV :=
  h.upd (P := fun _ => False) (Upd.of_below hb) (fun _ f => f.elim)
theorem LookAt.upd {P : Nat → Prop} {w w1 : World} {base top : Nat} {L : LookD} {v : Value} (h : LookAt w base top L v) (hu : Upd P w w1) (hP : ∀ g, P g → g < base ∨ top ≤ g) : LookAt w1 base top L v := by
  obtain ⟨fv, qv, lv, wv, FV, QV, hv, hl⟩ := h
  exact ⟨fv, qv, lv, wv, FV, QV, hv, hl.upd hu hP⟩
theorem LookAt.below {w w1 : World} {base top : Nat} {L : LookD} {v : Value} (h : LookAt w base top L v) (hb : Below w.heap.size w w1) : LookAt w1 base top L v :=
  h.upd (P := fun _ => False) (Upd.of_below hb) (fun _ f => f.elim)

/-- What one round of the comparing reads. -/
structure PickAt (w : World) (L : LookD) (fv qv lv : Value) (k : Nat) (gf gq gl : Nat) (cf cq cl : Nat) (af aq : Option Addr) (df dq : Nat) : Prop where
  fv : fv = .slice (some ⟨gf, 0, none⟩) 8 cf
  qv : qv = .slice (some ⟨gq, 0, none⟩) 8 cq
  lv : lv = .slice (some ⟨gl, 0, none⟩) 8 cl
  f : w.cell? ⟨gf, k, none⟩ = some (.slice af (L.fil k).length df)
  q : w.cell? ⟨gq, k, none⟩ = some (.slice aq (L.que k).length dq)
  l : w.cell? ⟨gl, k, none⟩ = some (.int .i64 (L.lost k))
  fc : CellsAt w af (textsF (L.fil k))
  qc : CellsAt w aq ((L.que k).flatMap mailCells)
theorem LookIn.pick {w : World} {base top : Nat} {L : LookD} {fv qv lv wv : Value} {FV QV : List Value} (h : LookIn w base top L fv qv lv wv FV QV) {k : Nat} (hk : k < 8) : ∃ gf gq gl cf cq cl af aq df dq, PickAt w L fv qv lv k gf gq gl cf cq cl af aq df dq := by
  have lF : FV.length = 8 := by have := h.fil.1.1; omega
  have lQ : QV.length = 8 := by have := h.que.1.1; omega
  obtain ⟨vf, hvf⟩ : ∃ v, FV[k]? = some v := ⟨_, List.getElem?_eq_getElem (by omega)⟩
  obtain ⟨vq, hvq⟩ : ∃ v, QV[k]? = some v := ⟨_, List.getElem?_eq_getElem (by omega)⟩
  obtain ⟨a1, c1, e1, -, -, h1⟩ := h.fil.form
  obtain ⟨a2, c2, e2, -, -, h2⟩ := h.que.form
  obtain ⟨a3, c3, e3, -, -, h3⟩ := h.lost.form
  obtain ⟨gf, rfl, k1⟩ := h1 k vf hvf
  obtain ⟨gq, rfl, k2⟩ := h2 k vq hvq
  obtain ⟨gl, rfl, k3⟩ := h3 k (.int .i64 (L.lost k)) (by simp [hk])
  obtain ⟨af, df, rfl, -, -, x1⟩ := (h.fils k vf hvf).form
  obtain ⟨aq, dq, rfl, -, -, x2⟩ := (h.ques k vq hvq).form
  exact ⟨gf, gq, gl, c1, c2, c3, af, aq, df, dq, e1, e2, e3, k1, k2, k3, x1, x2⟩
theorem look_few {S : RefS} (h : Good S) (hw : (waitingM S).length = S.wait.length) : LookFew (lookM S) := by
  refine ⟨fun k => ?_, fun k => ?_, ?_⟩
  · show (filtersM S k).length ≤ _
    unfold filtersM
    split
    · rename_i hk
      rw [sel_len]
      exact Nat.le_trans (h.inv.fil _ (by have := known_nat hk; omega)).1 (by omega)
    · simp
  · show (queueM S k).length ≤ _
    unfold queueM
    split
    · rename_i hk
      rw [List.length_map]
      exact Nat.le_trans (h.inv.que _ (by have := known_nat hk; omega)).1 (by omega)
    · simp
  · show (waitingM S).length ≤ _
    rw [hw]; exact Nat.le_trans h.inv.wait.1 (by omega)
end Go.Proofs.Ytmjdndhfmfjbiab

namespace Go.Proofs.Ytmjdndhfmfjbiab
open Go.RowKit

/-- A look that is being made. -/
structure LookW (w : World) (base B : Nat) (L : LookD) (t : Int) (kf kq kl : Nat) (fv qv lv : Value) (FV QV : List Value) : Prop where
  self : w.ownsRow base 70 6 (.slice (some ⟨B, 0, none⟩) 1 1) 1 [.int .i64 t, fv, qv, lv, nilV, .int .i64 0]
  fil : w.ownsRow base 86 1 fv kf FV
  que : w.ownsRow base 28 1 qv kq QV
  lost : w.ownsRow base 3 1 lv kl ((List.range kl).map (fun j => Value.int .i64 (L.lost j)))
  fils : ∀ j v, FV[j]? = some v → w.ownsRow base 9 1 v (L.fil j).length (textsF (L.fil j))
  ques : ∀ j v, QV[j]? = some v → w.ownsRow base 35 5 v (L.que j).length ((L.que j).flatMap mailCells)
theorem LookW.upd {P : Nat → Prop} {w w1 : World} {base B : Nat} {L : LookD} {t : Int} {kf kq kl : Nat} {fv qv lv : Value} {FV QV : List Value} (h : LookW w base B L t kf kq kl fv qv lv FV QV) (hu : Upd P w w1) (hP : ∀ g, base ≤ g → ¬ P g) : LookW w1 base B L t kf kq kl fv qv lv FV QV :=
  ⟨own_upd h.self hu (fun g hg => hP g (World.ownsRow.lt h.self g hg).1), own_upd h.fil hu (fun g hg => hP g (World.ownsRow.lt h.fil g hg).1), own_upd h.que hu (fun g hg => hP g (World.ownsRow.lt h.que g hg).1), own_upd h.lost hu (fun g hg => hP g (World.ownsRow.lt h.lost g hg).1),
    fun j v hv => own_upd (h.fils j v hv) hu (fun g hg => hP g (World.ownsRow.lt (h.fils j v hv) g hg).1), fun j v hv => own_upd (h.ques j v hv) hu (fun g hg => hP g (World.ownsRow.lt (h.ques j v hv) g hg).1)⟩
theorem LookW.below {w w1 : World} {base B : Nat} {L : LookD} {t : Int} {kf kq kl : Nat} {fv qv lv : Value} {FV QV : List Value} (h : LookW w base B L t kf kq kl fv qv lv FV QV) (hb : Below w.heap.size w w1) : LookW w1 base B L t kf kq kl fv qv lv FV QV :=
  h.upd (P := fun _ => False) (Upd.of_below hb) (fun _ _ f => f)
theorem self_cell {w : World} {base B : Nat} {e : TypeId} {xs : List Value} {n : Nat} (h : w.ownsRow base e n (.slice (some ⟨B, 0, none⟩) 1 1) 1 xs) (j : Nat) (u : Value) (hj : xs[j]? = some u) : w.cell? ⟨B, j, none⟩ = some u := by
  obtain ⟨ao, c, hv, -, -, hc⟩ := Row.form (own_mono h (Nat.zero_le _))
  simp only [Value.slice.injEq, true_and] at hv
  obtain ⟨rfl, rfl⟩ := hv
  obtain ⟨g, e1, h1⟩ := hc j u hj
  cases e1
  exact h1
theorem own_grown {w w1 : World} {row : Option Nat} {base : Nat} {e : TypeId} {size : Nat} {v : Value} {n : Nat} {xs : List Value} (h : w.ownsRow base e size v n xs) (hg : w.grownBy w1 row) (hr : ∀ g, v.ownBlock = some g → row ≠ some g) : w1.ownsRow base e size v n xs :=
  own_upd (P := fun i => row = some i) h ((Upd.refl _ _).grown hg (fun _ e _ => e)) (fun g hg => hr g hg)
theorem below_grown {w w1 : World} {row : Option Nat} {base : Nat} (hg : w.grownBy w1 row) (hb : base ≤ w.heap.size) (hr : ∀ g, row = some g → base ≤ g) : Below base w w1 :=
  below_of_upd (S := fun i => row = some i) ((Upd.refl _ _).grown hg (fun _ e _ => e)) hb hr

theorem LookW.addF {w : World} {base B : Nat} {L : LookD} {t : Int} {kf kq kl : Nat} {fv qv lv : Value} {FV QV : List Value} {v : Value} (h : LookW w base B L t kf kq kl fv qv lv FV QV) (hv : w.ownsRow base 9 1 v (L.fil kf).length (textsF (L.fil kf))) (hk : kf ≤ 8) (hbs : base ≤ w.heap.size) :
    ∃ v1 w1, (Builtin.append_ #[67, 67] 67 #[fv, .slice (some ⟨w.heap.size, 0, none⟩) 1 1]).run Try.prog (w.alloc (.cells #[v] 86)) = .ok v1 w1 ∧ w1.cell? ⟨B, 1, none⟩ = some fv ∧ w1.frozen? ⟨B, 1, none⟩ = false ∧ w1.cell? ⟨B, 2, none⟩ = some qv ∧
      LookW (w1.setCell ⟨B, 1, none⟩ v1) base B L t (kf + 1) kq kl v1 qv lv (FV ++ [v]) QV ∧ Below base w (w1.setCell ⟨B, 1, none⟩ v1) ∧ (∀ (e : TypeId) (size : Nat) (u : Value) (n : Nat) (xs : List Value), e ≠ 86 → e ≠ 70 → w.ownsRow base e size u n xs → (w1.setCell ⟨B, 1, none⟩ v1).ownsRow base e size u n xs) := by
  obtain ⟨i0, hi, hz0, hz1, hz2⟩ := info_parts infoRowT
  have ha := h.below (below_one w (.cells #[v] 86))
  have hva := own_below hv (below_one w (.cells #[v] 86))
  have hlf : FV.length = kf := by have := h.fil.1; omega
  have hone : v.oneCell' = true := by
    obtain ⟨a, c, e, -⟩ := Row.form (own_mono hv (Nat.zero_le _))
    rw [e]; rfl
  obtain ⟨v1, w1, hrun, hown, hgrow, -, -⟩ := run_append_own_at (P := Try.prog) (w.alloc (.cells #[v] 86)) base 67 67 86 i0 _ 1 24 Try.underlying67 hi hz0 hz1 hz2 rfl (by omega) _ _ _ ha.fil ⟨w.heap.size, 0, none⟩ 1 1 [v] rfl (cells_new _ _ _) (by simpa using hone) (by unfold maxLen; omega) (by omega) (by simp; omega)
  have hs1 : w1.ownsRow base 70 6 (.slice (some ⟨B, 0, none⟩) 1 1) 1 [.int .i64 t, fv, qv, lv, nilV, .int .i64 0] := own_grown ha.self hgrow (typed_apart ha.self ha.fil (by decide))
  have st := World.ownsRow.stored hs1 1 v1
  have hg2 := st.2
  have hb1 : Below base w w1 := ((below_one w _).mono hbs).trans (below_grown hgrow (by simp; omega) (fun g hg => (World.ownsRow.lt ha.fil g hg).1))
  have hsz1 : base ≤ w1.heap.size := Nat.le_trans hbs hb1.size
  have hBb : base ≤ B := (World.ownsRow.lt hs1 B rfl).1
  have hq1 := own_grown ha.que hgrow (typed_apart ha.que ha.fil (by decide))
  have hl1 := own_grown ha.lost hgrow (typed_apart ha.lost ha.fil (by decide))
  have hv1 := own_grown hva hgrow (typed_apart hva ha.fil (by decide))
  refine ⟨v1, w1, hrun, self_cell hs1 1 fv rfl, World.ownsRow.frozenAt hs1 1, self_cell hs1 2 qv rfl, ⟨st.1, own_grown hown hg2 (typed_apart hown hs1 (by decide)), own_grown hq1 hg2 (typed_apart hq1 hs1 (by decide)), own_grown hl1 hg2 (typed_apart hl1 hs1 (by decide)), fun j y hy => ?_, fun j y hy => ?_⟩, hb1.trans (below_grown hg2 hsz1 (fun g hg => by cases hg; exact hBb)), fun e size u n xs he1 he2 hu => ?_⟩
  · by_cases hj : j < kf
    · rw [List.getElem?_append_left (by omega)] at hy
      have h1 := own_grown (ha.fils j y hy) hgrow (typed_apart (ha.fils j y hy) ha.fil (by decide))
      exact own_grown h1 hg2 (typed_apart h1 hs1 (by decide))
    · have hjl := (List.getElem?_eq_some_iff.1 hy).1
      simp at hjl
      obtain rfl : j = kf := by omega
      rw [List.getElem?_append_right (by omega), hlf, Nat.sub_self] at hy
      cases hy
      exact own_grown hv1 hg2 (typed_apart hv1 hs1 (by decide))
  · have h1 := own_grown (ha.ques j y hy) hgrow (typed_apart (ha.ques j y hy) ha.fil (by decide))
    exact own_grown h1 hg2 (typed_apart h1 hs1 (by decide))
  · have h0 := own_below hu (below_one w (.cells #[v] 86))
    have h1 := own_grown h0 hgrow (typed_apart h0 ha.fil he1)
    exact own_grown h1 hg2 (typed_apart h1 hs1 he2)

theorem LookW.addQ {w : World} {base B : Nat} {L : LookD} {t : Int} {kf kq kl : Nat} {fv qv lv : Value} {FV QV : List Value} {v : Value} (h : LookW w base B L t kf kq kl fv qv lv FV QV) (hv : w.ownsRow base 35 5 v (L.que kq).length ((L.que kq).flatMap mailCells)) (hk : kq ≤ 8) (hbs : base ≤ w.heap.size) :
    ∃ v1 w1, (Builtin.append_ #[68, 68] 68 #[qv, .slice (some ⟨w.heap.size, 0, none⟩) 1 1]).run Try.prog (w.alloc (.cells #[v] 28)) = .ok v1 w1 ∧ w1.cell? ⟨B, 2, none⟩ = some qv ∧ w1.frozen? ⟨B, 2, none⟩ = false ∧ w1.cell? ⟨B, 3, none⟩ = some lv ∧
      LookW (w1.setCell ⟨B, 2, none⟩ v1) base B L t kf (kq + 1) kl fv v1 lv FV (QV ++ [v]) ∧ Below base w (w1.setCell ⟨B, 2, none⟩ v1) := by
  obtain ⟨i0, hi, hz0, hz1, hz2⟩ := info_parts infoRowM
  have ha := h.below (below_one w (.cells #[v] 28))
  have hva := own_below hv (below_one w (.cells #[v] 28))
  have hlq : QV.length = kq := by have := h.que.1; omega
  have hone : v.oneCell' = true := by
    obtain ⟨a, c, e, -⟩ := Row.form (own_mono hv (Nat.zero_le _))
    rw [e]; rfl
  obtain ⟨v1, w1, hrun, hown, hgrow, -, -⟩ := run_append_own_at (P := Try.prog) (w.alloc (.cells #[v] 28)) base 68 68 28 i0 _ 1 24 Try.underlying68 hi hz0 hz1 hz2 rfl (by omega) _ _ _ ha.que ⟨w.heap.size, 0, none⟩ 1 1 [v] rfl (cells_new _ _ _) (by simpa using hone) (by unfold maxLen; omega) (by omega) (by simp; omega)
  have hs1 : w1.ownsRow base 70 6 (.slice (some ⟨B, 0, none⟩) 1 1) 1 [.int .i64 t, fv, qv, lv, nilV, .int .i64 0] := own_grown ha.self hgrow (typed_apart ha.self ha.que (by decide))
  have st := World.ownsRow.stored hs1 2 v1
  have hg2 := st.2
  have hb1 : Below base w w1 := ((below_one w _).mono hbs).trans (below_grown hgrow (by simp; omega) (fun g hg => (World.ownsRow.lt ha.que g hg).1))
  have hsz1 : base ≤ w1.heap.size := Nat.le_trans hbs hb1.size
  have hBb : base ≤ B := (World.ownsRow.lt hs1 B rfl).1
  have hf1 := own_grown ha.fil hgrow (typed_apart ha.fil ha.que (by decide))
  have hl1 := own_grown ha.lost hgrow (typed_apart ha.lost ha.que (by decide))
  have hv1 := own_grown hva hgrow (typed_apart hva ha.que (by decide))
  refine ⟨v1, w1, hrun, self_cell hs1 2 qv rfl, World.ownsRow.frozenAt hs1 2, self_cell hs1 3 lv rfl, ⟨st.1, own_grown hf1 hg2 (typed_apart hf1 hs1 (by decide)), own_grown hown hg2 (typed_apart hown hs1 (by decide)), own_grown hl1 hg2 (typed_apart hl1 hs1 (by decide)), fun j y hy => ?_, fun j y hy => ?_⟩, hb1.trans (below_grown hg2 hsz1 (fun g hg => by cases hg; exact hBb))⟩
  · have h1 := own_grown (ha.fils j y hy) hgrow (typed_apart (ha.fils j y hy) ha.que (by decide))
    exact own_grown h1 hg2 (typed_apart h1 hs1 (by decide))
  · by_cases hj : j < kq
    · rw [List.getElem?_append_left (by omega)] at hy
      have h1 := own_grown (ha.ques j y hy) hgrow (typed_apart (ha.ques j y hy) ha.que (by decide))
      exact own_grown h1 hg2 (typed_apart h1 hs1 (by decide))
    · have hjl := (List.getElem?_eq_some_iff.1 hy).1
      simp at hjl
      obtain rfl : j = kq := by omega
      rw [List.getElem?_append_right (by omega), hlq, Nat.sub_self] at hy
      cases hy
      exact own_grown hv1 hg2 (typed_apart hv1 hs1 (by decide))

theorem LookW.addL {w : World} {base B : Nat} {L : LookD} {t : Int} {kf kq kl : Nat} {fv qv lv : Value} {FV QV : List Value} (h : LookW w base B L t kf kq kl fv qv lv FV QV) (hk : kl ≤ 8) (hbs : base ≤ w.heap.size) :
    ∃ v1 w1, (Builtin.append_ #[22, 22] 22 #[lv, .slice (some ⟨w.heap.size, 0, none⟩) 1 1]).run Try.prog (w.alloc (.cells #[Value.int .i64 (L.lost kl)] 3)) = .ok v1 w1 ∧ w1.cell? ⟨B, 3, none⟩ = some lv ∧ w1.frozen? ⟨B, 3, none⟩ = false ∧
      LookW (w1.setCell ⟨B, 3, none⟩ v1) base B L t kf kq (kl + 1) fv qv v1 FV QV ∧ Below base w (w1.setCell ⟨B, 3, none⟩ v1) := by
  obtain ⟨i0, hi, hz0, hz1, hz2⟩ := info_parts infoNum
  have ha := h.below (below_one w (.cells #[Value.int .i64 (L.lost kl)] 3))
  obtain ⟨v1, w1, hrun, hown, hgrow, -, -⟩ := run_append_own_at (P := Try.prog) (w.alloc (.cells #[Value.int .i64 (L.lost kl)] 3)) base 22 22 3 i0 _ 1 8 Try.underlying22 hi hz0 hz1 hz2 rfl (by omega) _ _ _ ha.lost ⟨w.heap.size, 0, none⟩ 1 1 [Value.int .i64 (L.lost kl)] rfl (cells_new _ _ _) (by simp [Value.oneCell']) (by unfold maxLen; omega) (by omega) (by simp; omega)
  have hs1 : w1.ownsRow base 70 6 (.slice (some ⟨B, 0, none⟩) 1 1) 1 [.int .i64 t, fv, qv, lv, nilV, .int .i64 0] := own_grown ha.self hgrow (typed_apart ha.self ha.lost (by decide))
  have st := World.ownsRow.stored hs1 3 v1
  have hg2 := st.2
  have hb1 : Below base w w1 := ((below_one w _).mono hbs).trans (below_grown hgrow (by simp; omega) (fun g hg => (World.ownsRow.lt ha.lost g hg).1))
  have hsz1 : base ≤ w1.heap.size := Nat.le_trans hbs hb1.size
  have hBb : base ≤ B := (World.ownsRow.lt hs1 B rfl).1
  have hf1 := own_grown ha.fil hgrow (typed_apart ha.fil ha.lost (by decide))
  have hq1 := own_grown ha.que hgrow (typed_apart ha.que ha.lost (by decide))
  have hown' : w1.ownsRow base 3 1 v1 (kl + 1) ((List.range (kl + 1)).map (fun j => Value.int .i64 (L.lost j))) := by
    rw [List.range_succ, List.map_append]; exact hown
  refine ⟨v1, w1, hrun, self_cell hs1 3 lv rfl, World.ownsRow.frozenAt hs1 3, ⟨st.1, own_grown hf1 hg2 (typed_apart hf1 hs1 (by decide)), own_grown hq1 hg2 (typed_apart hq1 hs1 (by decide)), own_grown hown' hg2 (typed_apart hown' hs1 (by decide)), fun j y hy => ?_, fun j y hy => ?_⟩, hb1.trans (below_grown hg2 hsz1 (fun g hg => by cases hg; exact hBb))⟩
  · have h1 := own_grown (ha.fils j y hy) hgrow (typed_apart (ha.fils j y hy) ha.lost (by decide))
    exact own_grown h1 hg2 (typed_apart h1 hs1 (by decide))
  · have h1 := own_grown (ha.ques j y hy) hgrow (typed_apart (ha.ques j y hy) ha.lost (by decide))
    exact own_grown h1 hg2 (typed_apart h1 hs1 (by decide))
theorem look_start (w : World) (L : LookD) (t : Int) : LookW (w.alloc (.cells #[.int .i64 t, nilV, nilV, nilV, nilV, .int .i64 0] 70)) w.heap.size w.heap.size L t 0 0 0 nilV nilV nilV [] [] :=
  ⟨⟨rfl, .inr ⟨w.heap.size, 1, #[.int .i64 t, nilV, nilV, nilV, nilV, .int .i64 0], rfl, Nat.le_refl _, heap_alloc_new w _, Nat.le_refl _, by unfold maxLen; omega, rfl, rfl⟩⟩, World.ownsRow_nil _ _ _ _, World.ownsRow_nil _ _ _ _, World.ownsRow_nil _ _ _ _, fun j v hv => by simp at hv, fun j v hv => by simp at hv⟩
end Go.Proofs.Ytmjdndhfmfjbiab

namespace Go.Proofs.Ytmjdndhfmfjbiab
open Go.RowKit

theorem size_set (w : World) (p : Addr) (v : Value) : (w.setCell p v).heap.size = w.heap.size := by simp [World.setCell]

theorem LookW.done {w w1 : World} {base B R b0 b1 b2 : Nat} {L : LookD} {t : Int} {fv qv lv wv : Value} {FV QV rs : List Value} (h : LookW w base B L t 8 8 8 fv qv lv FV QV) (hR : w.ownsRow b1 70 6 (.slice (some ⟨R, 0, none⟩) 1 1) 1 rs) (hw : w.ownsRow b2 50 5 wv L.wait.length (L.wait.flatMap waitCells))
    (hu : Upd (fun g => g = R ∨ g = B) w w1) (h0 : b0 ≤ base) (h2 : b0 ≤ b2) : LookIn w1 b0 w1.heap.size L fv qv lv wv FV QV := by
  have key : ∀ (e : TypeId) (size : Nat) (v : Value) (n b : Nat) (xs : List Value), e ≠ 70 → b0 ≤ b → w.ownsRow b e size v n xs → RowIn w1 b0 w1.heap.size e size v n xs := fun e size v n b xs he hb hrow =>
    RowIn.of (own_mono (own_upd hrow hu (fun g hg hp => by
      rcases hp with rfl | rfl
      · exact typed_apart hrow hR he g hg rfl
      · exact typed_apart hrow h.self he g hg rfl)) hb)
  exact ⟨key _ _ _ _ _ _ (by decide) h0 h.fil, key _ _ _ _ _ _ (by decide) h0 h.que, key _ _ _ _ _ _ (by decide) h0 h.lost, key _ _ _ _ _ _ (by decide) h2 hw, fun j v hv => key _ _ _ _ _ _ (by decide) h0 (h.fils j v hv), fun j v hv => key _ _ _ _ _ _ (by decide) h0 (h.ques j v hv)⟩
theorem upd8 {w : World} (R B : Nat) (a b c d e f x y : Value) : Upd (fun g => g = R ∨ g = B) w ((((((((w.setCell ⟨B, 4, none⟩ x).setCell ⟨B, 5, none⟩ y).setCell ⟨R, 0, none⟩ a).setCell ⟨R, 1, none⟩ b).setCell ⟨R, 2, none⟩ c).setCell ⟨R, 3, none⟩ d).setCell ⟨R, 4, none⟩ e).setCell ⟨R, 5, none⟩ f) :=
  (((((((((Upd.refl (fun g => g = R ∨ g = B) w).setCell (p := ⟨B, 4, none⟩) (fun _ => .inr rfl) _).setCell (p := ⟨B, 5, none⟩) (fun _ => .inr rfl) _).setCell (p := ⟨R, 0, none⟩) (fun _ => .inl rfl) _).setCell (p := ⟨R, 1, none⟩) (fun _ => .inl rfl) _).setCell (p := ⟨R, 2, none⟩) (fun _ => .inl rfl) _).setCell (p := ⟨R, 3, none⟩) (fun _ => .inl rfl) _).setCell (p := ⟨R, 4, none⟩) (fun _ => .inl rfl) _).setCell (p := ⟨R, 5, none⟩) (fun _ => .inl rfl) _)

set_option maxRecDepth 100000 in
set_option maxHeartbeats 4000000 in
theorem keepLook {w0 w : World} {H : Nat} {S : RefS} (h : Mine w0 w H S) :
    Calls Try.prog 32 #[.pointer (some ⟨H, 0, none⟩)] w fun e w' => ∃ v, e = .returned v ∧ LookAt w' w.heap.size w'.heap.size (lookM S) v ∧ Below w.heap.size w w' := by
  have M0 : Hid (Mine w0 w H S) := h
  clear h
  have HB1 : Hid (∀ o p, Mine w0 ((w.alloc o).alloc p) H S) := fun o p => (M0.out.below (below_one _ _)).below (below_one _ _)
  go_enter Try.func32, Try.ntmps32
  go_wp2_with fail
  refine (mineTime (HB1.out _ _)).mono ?_
  rintro e w1 ⟨rfl, rfl⟩
  have LS : (LookW ((w.alloc (.cells #[.int .i64 0, nilV, nilV, nilV, nilV, .int .i64 0] 70)).alloc (.cells #[.int .i64 S.time, nilV, nilV, nilV, nilV, .int .i64 0] 70)) (w.heap.size + 1) (w.heap.size + 1) (lookM S) S.time 0 0 0 nilV nilV nilV [] []) := by
    have := look_start (w.alloc (.cells #[.int .i64 0, nilV, nilV, nilV, nilV, .int .i64 0] 70)) (lookM S) S.time
    simpa using this
  have LB : (Below (w.heap.size + 1) (w.alloc (.cells #[.int .i64 0, nilV, nilV, nilV, nilV, .int .i64 0] 70)) ((w.alloc (.cells #[.int .i64 0, nilV, nilV, nilV, nilV, .int .i64 0] 70)).alloc (.cells #[.int .i64 S.time, nilV, nilV, nilV, nilV, .int .i64 0] 70))) := by
    have := below_one (w.alloc (.cells #[.int .i64 0, nilV, nilV, nilV, nilV, .int .i64 0] 70)) (.cells #[.int .i64 S.time, nilV, nilV, nilV, nilV, .int .i64 0] 70)
    simpa using this
  have LS : Hid (LookW _ (w.heap.size + 1) (w.heap.size + 1) (lookM S) S.time 0 0 0 nilV nilV nilV [] []) := LS
  have LB : Hid (Below (w.heap.size + 1) _ _) := LB
  generalize hwR : w.alloc (.cells #[.int .i64 0, nilV, nilV, nilV, nilV, .int .i64 0] 70) = wR at LS LB
  have HWR : Hid (w.alloc (.cells #[.int .i64 0, nilV, nilV, nilV, nilV, .int .i64 0] 70) = wR) := hwR
  have HWS : Hid (wR.heap.size = w.heap.size + 1) := by show _ = _; rw [← hwR]; simp
  have HWB : Hid (Below w.heap.size w wR) := by rw [← hwR]; exact below_one _ _
  clear hwR
  go_wp2_with fail
  go_loopw [4] (fun i wr => ∃ (k : Nat) (fv qv lv : Value) (FV QV : List Value), k ≤ 8 ∧ i = .int .i64 (k : Int) ∧ LookW wr (w.heap.size + 1) (w.heap.size + 1) (lookM S) S.time k k k fv qv lv FV QV ∧ Below (w.heap.size + 1) wR wr) (fun i _ => 8 - (intOf i).toNat)
  case atStart => exact ⟨0, nilV, nilV, nilV, [], [], by omega, rfl, by have h := LS.out; rw [← HWR.out] at h; exact h, by have h := LB.out; rw [← HWR.out] at h ⊢; exact h⟩
  case round =>
    obtain ⟨k, fv, qv, lv, FV, QV, hk, rfl, hlw, hbr⟩ := hrel
    have LW : Hid (LookW wr (w.heap.size + 1) (w.heap.size + 1) (lookM S) S.time k k k fv qv lv FV QV) := hlw
    have HBR : Hid (Below (w.heap.size + 1) wR wr) := hbr
    have HBW : Hid (Below w.heap.size w wr) := HWB.out.trans (hbr.mono (by omega))
    have MR : Hid (Mine w0 wr H S) := M0.out.below HBW.out
    clear hlw hbr
    by_cases hlt : k < 8
    · go_wp2_with fail
      refine (mineFilters (k : Int) MR.out).mono ?_
      rintro e w2 ⟨v2, rfl, ho2, hb2⟩
      rw [flat_strs] at ho2
      have M2 : Hid (Mine w0 w2 H S) := MR.out.below hb2
      have LW2 : Hid (LookW w2 (w.heap.size + 1) (w.heap.size + 1) (lookM S) S.time k k k fv qv lv FV QV) := LW.out.below hb2
      have hsr : w.heap.size + 1 ≤ wr.heap.size := by have := HBR.out.size; have := HWS.out; omega
      have HO2 : Hid (w2.ownsRow (w.heap.size + 1) 9 1 v2 ((lookM S).fil k).length (textsF ((lookM S).fil k))) := own_mono ho2 hsr
      have HB2 : Hid (Below (w.heap.size + 1) wR w2) := HBR.out.trans (hb2.mono hsr)
      have hs2 : w.heap.size + 1 ≤ w2.heap.size := Nat.le_trans hsr hb2.size
      clear ho2 hb2
      go_wp2_with fail
      refine (mineQueue (k : Int) M2.out).mono ?_
      rintro e w3 ⟨v3, rfl, ho3, hb3⟩
      have M3 : Hid (Mine w0 w3 H S) := M2.out.below hb3
      have LW3 : Hid (LookW w3 (w.heap.size + 1) (w.heap.size + 1) (lookM S) S.time k k k fv qv lv FV QV) := LW2.out.below hb3
      have HO3 : Hid (w3.ownsRow (w.heap.size + 1) 35 5 v3 ((lookM S).que k).length (((lookM S).que k).flatMap mailCells)) := own_mono ho3 hs2
      have HO23 : Hid (w3.ownsRow (w.heap.size + 1) 9 1 v2 ((lookM S).fil k).length (textsF ((lookM S).fil k))) := own_below HO2.out hb3
      have HB3 : Hid (Below (w.heap.size + 1) wR w3) := HB2.out.trans (hb3.mono hs2)
      have hs3 : w.heap.size + 1 ≤ w3.heap.size := Nat.le_trans hs2 hb3.size
      clear ho3 hb3
      go_wp2_with fail
      refine (mineLost (k : Int) M3.out).mono ?_
      rintro e w3 ⟨rfl, rfl⟩
      obtain ⟨va, wa, ra, ca1, fa1, ca2, la, ba, ka⟩ := LW3.out.addF HO23.out (by omega) hs3
      have hsa : w.heap.size + 1 ≤ (wa.setCell ⟨w.heap.size + 1, 1, none⟩ va).heap.size := Nat.le_trans hs3 ba.size
      obtain ⟨vb, wb, rb, cb1, fb1, cb2, lb, bb⟩ := la.addQ (ka 35 5 v3 _ _ (by decide) (by decide) HO3.out) (by omega) hsa
      have hsb : w.heap.size + 1 ≤ (wb.setCell ⟨w.heap.size + 1, 2, none⟩ vb).heap.size := Nat.le_trans hsa bb.size
      obtain ⟨vc, wc, rc, cc1, fc1, lc, bc⟩ := lb.addL (by omega) hsb
      have HBC : Hid (Below (w.heap.size + 1) wR (wc.setCell ⟨w.heap.size + 1, 3, none⟩ vc)) := ((HB3.out.trans ba).trans bb).trans bc
      have LC : Hid (LookW (wc.setCell ⟨w.heap.size + 1, 3, none⟩ vc) (w.heap.size + 1) (w.heap.size + 1) (lookM S) S.time (k + 1) (k + 1) (k + 1) va vb vc (FV ++ [v2]) (QV ++ [v3])) := lc
      have hBl3 : w.heap.size + 1 < w3.heap.size := (World.ownsRow.lt LW3.out.self _ rfl).2
      have ca0 := self_cell LW3.out.self 1 fv rfl
      obtain ⟨xa, xc, rfl, -, -, -⟩ := Row.form (own_mono LW3.out.fil (Nat.zero_le _))
      obtain ⟨ya, yc, rfl, -, -, -⟩ := Row.form (own_mono LW3.out.que (Nat.zero_le _))
      obtain ⟨za, zc, rfl, -, -, -⟩ := Row.form (own_mono LW3.out.lost (Nat.zero_le _))
      obtain ⟨ua, uc, rfl, -, -, -⟩ := Row.form (own_mono HO23.out (Nat.zero_le _))
      obtain ⟨ta, tc, rfl, -, -, -⟩ := Row.form (own_mono HO3.out (Nat.zero_le _))
      obtain ⟨va1, va2, rfl, -, -, -⟩ := Row.form (own_mono LC.out.fil (Nat.zero_le _))
      obtain ⟨vb1, vb2, rfl, -, -, -⟩ := Row.form (own_mono LC.out.que (Nat.zero_le _))
      obtain ⟨vc1, vc2, rfl, -, -, -⟩ := Row.form (own_mono LC.out.lost (Nat.zero_le _))
      rw [size_set] at rb rc
      clear la lb lc ba bb bc ka hsa hsb
      go_wp2_with (first | (at_builtin; first | refine wpList_append_run rfl _ _ 67 rfl _ _ _ _ rfl rfl ra ?_ | refine wpList_append_run rfl _ _ 68 rfl _ _ _ _ rfl rfl rb ?_ | refine wpList_append_run rfl _ _ 22 rfl _ _ _ _ rfl rfl rc ?_))
      go_roundw
      case rel => exact ⟨k + 1, _, _, _, _, _, by omega, by go_num, LC.out, HBC.out⟩
      case measure => simp [intOf]; omega
    · obtain rfl : k = 8 := by omega
      have ca5 := self_cell LW.out.self 5 _ rfl
      go_wp2_with fail
      refine (mineWaiting MR.out).mono ?_
      rintro e w2 ⟨v2, rfl, ho2, hb2⟩
      obtain ⟨ua, uc, rfl, -, -, -⟩ := Row.form (own_mono ho2 (Nat.zero_le _))
      have LW2 := LW.out.below hb2
      obtain ⟨xa, xc, rfl, -, -, -⟩ := Row.form (own_mono LW2.fil (Nat.zero_le _))
      obtain ⟨ya, yc, rfl, -, -, -⟩ := Row.form (own_mono LW2.que (Nat.zero_le _))
      obtain ⟨za, zc, rfl, -, -, -⟩ := Row.form (own_mono LW2.lost (Nat.zero_le _))
      have c20 := self_cell LW2.self 0 _ rfl
      have c21 := self_cell LW2.self 1 _ rfl
      have c22 := self_cell LW2.self 2 _ rfl
      have c23 := self_cell LW2.self 3 _ rfl
      have c25 := self_cell LW2.self 5 _ rfl
      have f25 := World.ownsRow.frozenAt LW2.self 5
      have hR : w2.ownsRow w.heap.size 70 6 (.slice (some ⟨w.heap.size, 0, none⟩) 1 1) 1 [.int .i64 0, nilV, nilV, nilV, nilV, .int .i64 0] := by
        have hsr : w.heap.size + 1 ≤ wr.heap.size := by have := HBR.out.size; have := HWS.out; omega
        have h1 : wR.ownsRow w.heap.size 70 6 (.slice (some ⟨w.heap.size, 0, none⟩) 1 1) 1 [.int .i64 0, nilV, nilV, nilV, nilV, .int .i64 0] := by
          rw [← HWR.out]
          exact (look_start w (lookM S) 0).self
        refine own_below h1 ?_
        rw [HWS.out]
        exact HBR.out.trans (hb2.mono hsr)
      have r0 := self_cell hR 0 _ rfl
      have r1 := self_cell hR 1 _ rfl
      have r2 := self_cell hR 2 _ rfl
      have r3 := self_cell hR 3 _ rfl
      have r4 := self_cell hR 4 _ rfl
      have r5 := self_cell hR 5 _ rfl
      have g0 := World.ownsRow.frozenAt hR 0
      have g1 := World.ownsRow.frozenAt hR 1
      have g2 := World.ownsRow.frozenAt hR 2
      have g3 := World.ownsRow.frozenAt hR 3
      have g4 := World.ownsRow.frozenAt hR 4
      have g5 := World.ownsRow.frozenAt hR 5
      have HR : Hid _ := hR
      clear hR
      have c24 := self_cell LW2.self 4 _ rfl
      have f24 := World.ownsRow.frozenAt LW2.self 4
      have hBl : w.heap.size + 1 < w2.heap.size := (World.ownsRow.lt LW2.self _ rfl).2
      have HBW2 : Hid (Below w.heap.size w (w2.setCell ⟨w.heap.size + 1, 4, none⟩ (.slice ua (waitingM S).length uc))) := (HBW.out.trans (hb2.mono HBW.out.size)).setCell (by show w.heap.size ≤ w.heap.size + 1; omega) _
      have M2 : Hid (Mine w0 (w2.setCell ⟨w.heap.size + 1, 4, none⟩ (.slice ua (waitingM S).length uc)) H S) := M0.out.below HBW2.out
      have LWX : Hid (LookW w2 (w.heap.size + 1) (w.heap.size + 1) (lookM S) S.time 8 8 8 _ _ _ FV QV) := LW2
      have HO2 : Hid _ := ho2
      have HB2 : Hid (Below wr.heap.size wr w2) := hb2
      clear ho2 hb2 LW2
      go_wp2_with fail
      refine (mineRecords M2.out).mono ?_
      rintro e w3 ⟨rfl, rfl⟩
      go_wp2_with fail
      have HU : Hid (∀ a b c d e f x y, Upd (fun g => g = w.heap.size ∨ g = w.heap.size + 1) w2 ((((((((w2.setCell ⟨w.heap.size + 1, 4, none⟩ x).setCell ⟨w.heap.size + 1, 5, none⟩ y).setCell ⟨w.heap.size, 0, none⟩ a).setCell ⟨w.heap.size, 1, none⟩ b).setCell ⟨w.heap.size, 2, none⟩ c).setCell ⟨w.heap.size, 3, none⟩ d).setCell ⟨w.heap.size, 4, none⟩ e).setCell ⟨w.heap.size, 5, none⟩ f)) := fun a b c d e f x y => upd8 _ _ a b c d e f x y
      exact bodyPost_ret (v := .agg #[.int .i64 S.time, .slice xa 8 xc, .slice ya 8 yc, .slice za 8 zc, .slice ua (waitingM S).length uc, .int .i64 (S.done.length : Int)]) (by rw [results_cell1 rfl]; go_simp) rfl
        ⟨_, rfl, ⟨_, _, _, _, FV, QV, rfl, LWX.out.done HR.out HO2.out (HU.out _ _ _ _ _ _ _ _) (by omega) HBW.out.size⟩, (HBW.out.trans (HB2.out.mono HBW.out.size)).trans (below_of_upd (HU.out _ _ _ _ _ _ _ _) (Nat.le_trans HBW.out.size HB2.out.size) (fun g hg => by omega))⟩
end Go.Proofs.Ytmjdndhfmfjbiab

namespace Go.Proofs.Ytmjdndhfmfjbiab
open Go.RowKit

theorem two_cells {w wr : World} {xs ys : Array Value} {t : TypeId} (hb : Below (w.heap.size + 2) ((w.alloc (.cells xs t)).alloc (.cells ys t)) wr) : (∀ j u, xs[j]? = some u → wr.cell? ⟨w.heap.size, j, none⟩ = some u) ∧ (∀ j u, ys[j]? = some u → wr.cell? ⟨w.heap.size + 1, j, none⟩ = some u) ∧ Below w.heap.size w wr := by
  have h2 : ((w.alloc (.cells xs t)).alloc (.cells ys t)).heap.size = w.heap.size + 2 := by simp
  have hb' : Below ((w.alloc (.cells xs t)).alloc (.cells ys t)).heap.size ((w.alloc (.cells xs t)).alloc (.cells ys t)) wr := by rw [h2]; exact hb
  refine ⟨fun j u hj => cell_later hb' ?_, fun j u hj => cell_later hb' ?_, ((below_one w _).trans ((below_one _ _).mono (by simp))).trans (hb.mono (by omega))⟩
  · have hh : ((w.alloc (.cells xs t)).alloc (.cells ys t)).heap[w.heap.size]? = some (.cells xs t (0, 0)) := by
      rw [heap_alloc_old _ _ (by simp)]; exact heap_alloc_new w _
    rw [cell_of_row _ w.heap.size j _ _ (0, 0) hh]; exact hj
  · have hh := heap_alloc_new (w.alloc (.cells xs t)) (.cells ys t)
    rw [show (w.alloc (.cells xs t)).heap.size = w.heap.size + 1 from by simp] at hh
    rw [cell_of_row _ (w.heap.size + 1) j _ _ (0, 0) hh]; exact hj

set_option maxRecDepth 100000 in
set_option maxHeartbeats 4000000 in
theorem keepAlike (L : LookD) (hL : LookFew L) (a b : Value) (w : World) (base top base' top' : Nat) (ha : LookAt w base top L a) (hb : LookAt w base' top' L b) :
    Calls Try.prog 33 #[a, b] w fun e w' => e = .returned (.bool true) ∧ Below w.heap.size w w' := by
  obtain ⟨fa, qa, la, wa, FA, QA, rfl, ha⟩ := ha
  obtain ⟨fb, qb, lb, wb, FB, QB, rfl, hb⟩ := hb
  have HA : Hid (LookIn w base top L fa qa la wa FA QA) := ha
  have HB : Hid (LookIn w base' top' L fb qb lb wb FB QB) := hb
  have hf := hL.fil
  have HF : Hid (LookFew L) := hL
  clear ha hb hL hf
  go_enter Try.func33, Try.ntmps33
  go_wp2_with fail
  go_loopw [5] (fun i wr => ∃ k : Nat, k ≤ 8 ∧ i = .int .i64 (k : Int) ∧ Below (w.heap.size + 2) ((w.alloc (.cells #[.int .i64 L.time, fa, qa, la, wa, .int .i64 L.recs] 70)).alloc (.cells #[.int .i64 L.time, fb, qb, lb, wb, .int .i64 L.recs] 70)) wr) (fun i _ => 8 - (intOf i).toNat)
  case atStart => exact ⟨0, by omega, rfl, Below.refl _ _⟩
  case round =>
    obtain ⟨k, hk, rfl, hbr⟩ := hrel
    obtain ⟨hA, hB, hbw⟩ := two_cells hbr
    have ca0 : wr.cell? ⟨w.heap.size, 0, none⟩ = some (.int .i64 L.time) := hA 0 _ rfl
    have ca1 : wr.cell? ⟨w.heap.size, 1, none⟩ = some fa := hA 1 _ rfl
    have ca2 : wr.cell? ⟨w.heap.size, 2, none⟩ = some qa := hA 2 _ rfl
    have ca3 : wr.cell? ⟨w.heap.size, 3, none⟩ = some la := hA 3 _ rfl
    have ca4 : wr.cell? ⟨w.heap.size, 4, none⟩ = some wa := hA 4 _ rfl
    have ca5 : wr.cell? ⟨w.heap.size, 5, none⟩ = some (.int .i64 L.recs) := hA 5 _ rfl
    have cb0 : wr.cell? ⟨w.heap.size + 1, 0, none⟩ = some (.int .i64 L.time) := hB 0 _ rfl
    have cb1 : wr.cell? ⟨w.heap.size + 1, 1, none⟩ = some fb := hB 1 _ rfl
    have cb2 : wr.cell? ⟨w.heap.size + 1, 2, none⟩ = some qb := hB 2 _ rfl
    have cb3 : wr.cell? ⟨w.heap.size + 1, 3, none⟩ = some lb := hB 3 _ rfl
    have cb4 : wr.cell? ⟨w.heap.size + 1, 4, none⟩ = some wb := hB 4 _ rfl
    have cb5 : wr.cell? ⟨w.heap.size + 1, 5, none⟩ = some (.int .i64 L.recs) := hB 5 _ rfl
    have HBR : Hid (Below (w.heap.size + 2) ((w.alloc (.cells #[.int .i64 L.time, fa, qa, la, wa, .int .i64 L.recs] 70)).alloc (.cells #[.int .i64 L.time, fb, qb, lb, wb, .int .i64 L.recs] 70)) wr) := hbr
    have HSZ : Hid (w.heap.size + 2 ≤ wr.heap.size) := by have := hbr.size; simpa [Hid] using this
    have HBW : Hid (Below w.heap.size w wr) := hbw
    clear hbr hbw hA hB
    by_cases hlt : k < 8
    · obtain ⟨gf, gq, gl, cf, cq, cl, af, aq, df, dq, hp⟩ := (HA.out.below HBW.out).pick hlt
      obtain ⟨gf', gq', gl', cf', cq', cl', af', aq', df', dq', hp'⟩ := (HB.out.below HBW.out).pick hlt
      obtain ⟨rfl, rfl, rfl, p1, p2, p3, p4, p5⟩ := hp
      obtain ⟨rfl, rfl, rfl, r1, r2, r3, r4, r5⟩ := hp'
      clear ca0 ca4 ca5 cb0 cb4 cb5
      have P4 : Hid _ := p4
      have P5 : Hid _ := p5
      have R4 : Hid _ := r4
      have R5 : Hid _ := r5
      clear p4 p5 r4 r5
      go_wp2_with fail
      go_region_held3 (fun w' => w'.cell? ⟨w.heap.size, 1, none⟩ = some (.slice (some ⟨gf, 0, none⟩) 8 cf) ∧ w'.cell? ⟨w.heap.size + 1, 1, none⟩ = some (.slice (some ⟨gf', 0, none⟩) 8 cf') ∧ w'.cell? ⟨gf, k, none⟩ = some (.slice af (L.fil k).length df) ∧ w'.cell? ⟨gf', k, none⟩ = some (.slice af' (L.fil k).length df'))
        (first | (go_keep; done) | exact ⟨cell_later hb2 ca1, cell_later hb2 cb1, cell_later hb2 p1, cell_later hb2 r1⟩)
        (first | (go_at_call 70; refine (keepSameTexts (L.fil k) af af' df df' _ (HF.out.fil k) (by exact P4.out) (by exact R4.out)).mono ?_; rintro e w2 ⟨rfl, hb2⟩))
      have da2 := cell_later hb2 ca2
      have da3 := cell_later hb2 ca3
      have db2 := cell_later hb2 cb2
      have db3 := cell_later hb2 cb3
      have s2 := cell_later hb2 p2
      have s3 := cell_later hb2 p3
      have t2 := cell_later hb2 r2
      have t3 := cell_later hb2 r3
      have P52 : Hid (CellsAt w2 aq ((L.que k).flatMap mailCells)) := (show CellsAt wr.drew aq ((L.que k).flatMap mailCells) from P5.out).below hb2
      have R52 : Hid (CellsAt w2 aq' ((L.que k).flatMap mailCells)) := (show CellsAt wr.drew aq' ((L.que k).flatMap mailCells) from R5.out).below hb2
      have HB2 : Hid (Below wr.heap.size wr w2) := below_drew.trans hb2
      clear hb2 ca1 ca2 ca3 cb1 cb2 cb3 p1 p2 p3 r1 r2 r3
      go_wp2_with fail
      go_region_held3 (fun w' => w'.cell? ⟨w.heap.size, 2, none⟩ = some (.slice (some ⟨gq, 0, none⟩) 8 cq) ∧ w'.cell? ⟨w.heap.size + 1, 2, none⟩ = some (.slice (some ⟨gq', 0, none⟩) 8 cq') ∧ w'.cell? ⟨gq, k, none⟩ = some (.slice aq (L.que k).length dq) ∧ w'.cell? ⟨gq', k, none⟩ = some (.slice aq' (L.que k).length dq'))
        (first | (go_keep; done) | exact ⟨cell_later hb3 da2, cell_later hb3 db2, cell_later hb3 s2, cell_later hb3 t2⟩)
        (first | (go_at_call 17; refine (keepSameMails (L.que k) aq aq' dq dq' _ (HF.out.que k) (by exact P52.out) (by exact R52.out)).mono ?_; rintro e w3 ⟨rfl, hb3⟩))
      have ea3 := cell_later hb3 da3
      have eb3 := cell_later hb3 db3
      have x3 := cell_later hb3 s3
      have y3 := cell_later hb3 t3
      have HB3 : Hid (Below wr.heap.size wr w3) := HB2.out.trans ((below_drew.trans hb3).mono HB2.out.size)
      clear hb3 da2 da3 db2 db3 s2 s3 t2 t3
      go_wp2_with fail
      go_quiet (fail)
      go_wp2_with fail
      go_roundw
      case rel => exact ⟨k + 1, by omega, by go_num, below_drewN (HBR.out.trans (HB3.out.mono HSZ.out))⟩
      case measure => simp [intOf]; omega
    · obtain ⟨a1, c1, e1, -, -, h1⟩ := (HA.out.below HBW.out).wait.form
      obtain ⟨a2, c2, e2, -, -, h2⟩ := (HB.out.below HBW.out).wait.form
      rw [e1] at ca4
      rw [e2] at cb4
      have X1 : Hid (CellsAt wr a1 (L.wait.flatMap waitCells)) := h1
      have X2 : Hid (CellsAt wr a2 (L.wait.flatMap waitCells)) := h2
      clear e1 e2 h1 h2 ca1 ca2 ca3 cb1 cb2 cb3
      go_wp2_with fail
      refine (keepSameWaits L.wait a1 a2 c1 c2 _ HF.out.wait X1.out X2.out).mono ?_
      rintro e w2 ⟨rfl, hb2⟩
      have d0 := cell_later hb2 ca0
      have d5 := cell_later hb2 ca5
      have f0 := cell_later hb2 cb0
      have f5 := cell_later hb2 cb5
      have HB2 : Hid (Below w.heap.size w w2) := HBW.out.trans (hb2.mono HBW.out.size)
      clear hb2 ca0 ca5 cb0 cb5 ca4 cb4
      go_wp2_with fail
      go_ret
      exact ⟨rfl, HB2.out⟩
end Go.Proofs.Ytmjdndhfmfjbiab

/-
  heraldkeep: what is refused.
-/
namespace Go.Proofs.Ytmjdndhfmfjbiab
open Go.RowKit

theorem known0 : knownB 0 = true := by decide
theorem ref_client {S : RefS} {a : Int} (h : knownB a = false) (k b c d : Int) (s : ByteArray) (hk : k = 1 ∨ k = 2 ∨ k = 7) : doErr S ⟨k, a, b, c, d, s⟩ = 2 ∧ doS S ⟨k, a, b, c, d, s⟩ = S := by
  obtain ⟨h1, h2, -⟩ := refused (S := S) (o := ⟨k, a, b, c, d, s⟩) (e := 2) (by rcases hk with rfl | rfl | rfl <;> simp [wrongM, h]) (by omega)
  exact ⟨h1, h2⟩
theorem ref_filter {S : RefS} {y : ByteArray} (h : M.isPathM true y = false) (k b c d : Int) (hk : k = 1 ∨ k = 2) : doErr S ⟨k, 0, b, c, d, y⟩ = 4 ∧ doS S ⟨k, 0, b, c, d, y⟩ = S := by
  obtain ⟨h1, h2, -⟩ := refused (S := S) (o := ⟨k, 0, b, c, d, y⟩) (e := 4) (by rcases hk with rfl | rfl <;> simp [wrongM, h, known0]) (by omega)
  exact ⟨h1, h2⟩
theorem ref_topic {S : RefS} {y : ByteArray} (h : M.isPathM false y = false) (a b c d : Int) : doErr S ⟨3, a, b, c, d, y⟩ = 3 ∧ doS S ⟨3, a, b, c, d, y⟩ = S ∧ doAns S ⟨3, a, b, c, d, y⟩ = 0 :=
  refused (by simp [wrongM, pubErr, h]) (by omega)
theorem ref_value {S : RefS} {t : ByteArray} (h : M.isPathM false t = true) {b : Int} (hb : ¬ (0 ≤ b ∧ b < 1073741825)) (a c d : Int) : doErr S ⟨3, a, b, c, d, t⟩ = 5 ∧ doS S ⟨3, a, b, c, d, t⟩ = S ∧ doAns S ⟨3, a, b, c, d, t⟩ = 0 := by
  refine refused ?_ (by omega)
  simp only [wrongM, pubErr, h]
  by_cases h0 : b < 0
  · simp [h0]
  · have : 1073741824 < b := by omega
    simp [this]
theorem ref_delay {S : RefS} {t : ByteArray} (h : M.isPathM false t = true) {c : Int} (hc : isTimeM c = false) (a d : Int) : doErr S ⟨3, a, 1, c, d, t⟩ = 5 ∧ doS S ⟨3, a, 1, c, d, t⟩ = S ∧ doAns S ⟨3, a, 1, c, d, t⟩ = 0 :=
  refused (by simp [wrongM, pubErr, h, hc]) (by omega)
theorem ref_life {S : RefS} {t : ByteArray} (h : M.isPathM false t = true) {d : Int} (hd : isTimeM d = false) (a : Int) : doErr S ⟨3, a, 1, 0, d, t⟩ = 5 ∧ doS S ⟨3, a, 1, 0, d, t⟩ = S ∧ doAns S ⟨3, a, 1, 0, d, t⟩ = 0 := by
  have h0 : isTimeM 0 = true := by decide
  exact refused (by simp [wrongM, pubErr, h, hd, h0]) (by omega)
theorem ref_cancel {S : RefS} {b : Int} (h : findM (fun m => m.number == b) S.wait 0 = -1) (a c d : Int) (s : ByteArray) : doErr S ⟨4, a, b, c, d, s⟩ = 7 ∧ doS S ⟨4, a, b, c, d, s⟩ = S ∧ doAns S ⟨4, a, b, c, d, s⟩ = 0 :=
  refused (by simp [wrongM, noneErr, h]) (by omega)
theorem ref_move {S : RefS} {b : Int} (h : findM (fun m => m.number == b) S.wait 0 = -1) (a c d : Int) (s : ByteArray) : doErr S ⟨5, a, b, c, d, s⟩ = 7 ∧ doS S ⟨5, a, b, c, d, s⟩ = S ∧ doAns S ⟨5, a, b, c, d, s⟩ = 0 :=
  refused (by simp [wrongM, moveErr, h]) (by omega)
theorem ref_tick {S : RefS} {b : Int} (h : isTimeM b = false) (a c d : Int) (s : ByteArray) : doErr S ⟨6, a, b, c, d, s⟩ = 5 ∧ doS S ⟨6, a, b, c, d, s⟩ = S ∧ doAns S ⟨6, a, b, c, d, s⟩ = 0 :=
  refused (by simp [wrongM, tickErr, h]) (by omega)

set_option maxRecDepth 100000 in
set_option maxHeartbeats 4000000 in
theorem keepClients {w0 w w1 : World} {H : Nat} {F : Nat → Prop} {S : RefS} (n k : Int) (raw : ByteArray) (hn0 : -9223372036854775808 ≤ n) (hn1 : n ≤ 9223372036854775807) (hk0 : -9223372036854775808 ≤ k) (hk1 : k ≤ 9223372036854775807) (hr : raw.size ≤ maxLen) (h : MineStep w0 w H F S w1) :
    Calls Try.prog 38 #[.pointer (some ⟨H, 0, none⟩), .int .i64 n, .int .i64 k, .string raw] w1 fun e w' => e = .returned (.bool true) ∧ MineStep w0 w H F S w' := by
  have M0 : Hid (MineStep w0 w H F S w1) := h
  have hu := out_unknown n
  clear h
  go_enter Try.func38, Try.ntmps38
  go_wp2_with fail
  refine (keepOutside n 8 _ hn0 hn1 (by omega) (by omega)).mono ?_
  rintro e w1 ⟨rfl, rfl⟩
  generalize outM n 8 = c at *
  have HC : Hid (∀ k b c' d s, (k = 1 ∨ k = 2 ∨ k = 7) → doErr S ⟨k, c, b, c', d, s⟩ = 2 ∧ doS S ⟨k, c, b, c', d, s⟩ = S) := fun k b c' d s hk => ref_client hu k b c' d s hk
  have HFL : Hid (filtersM S c = []) := by show _ = _; unfold filtersM; rw [hu]; rfl
  have HQU : Hid (queueM S c = []) := by show _ = _; unfold queueM; rw [hu]; rfl
  have HLO : Hid (lostM S c = 0) := by show _ = _; unfold lostM; rw [hu]; rfl
  clear hu
  go_wp2_with fail
  refine (textFilter raw _ hr).mono ?_
  rintro e w2 ⟨⟨f, rfl, hf, -⟩, hb2⟩
  have hfs : f.size ≤ 1048576 := Nat.le_trans (path15 hf) (by omega)
  have M2 : Hid (MineStep w0 w H F S w2) := M0.out.below hb2
  clear hf hb2
  go_wp2_with fail
  refine (stepSub c 0 0 0 ⟨#[33]⟩ M2.out (by show 1 ≤ _; omega)).mono ?_
  rintro e w3 ⟨rfl, hm3⟩
  rw [(HC.out 1 0 0 0 ⟨#[33]⟩ (by omega)).1]
  rw [(HC.out 1 0 0 0 ⟨#[33]⟩ (by omega)).2] at hm3
  have M3 : Hid (MineStep w0 w H F S w3) := hm3
  clear hm3
  go_wp2_with fail
  refine (stepUnsub c 0 0 0 f M3.out hfs).mono ?_
  rintro e w4 ⟨rfl, hm4⟩
  rw [(HC.out 2 0 0 0 f (by omega)).1]
  rw [(HC.out 2 0 0 0 f (by omega)).2] at hm4
  have M4 : Hid (MineStep w0 w H F S w4) := hm4
  clear hm4
  go_wp2_with fail
  refine (stepAck c k 0 0 ⟨#[]⟩ M4.out (Nat.zero_le _)).mono ?_
  rintro e w5 ⟨rfl, hm5⟩
  rw [(HC.out 7 k 0 0 ⟨#[]⟩ (by omega)).1]
  rw [(HC.out 7 k 0 0 ⟨#[]⟩ (by omega)).2] at hm5
  have M5 : Hid (MineStep w0 w H F S w5) := hm5
  clear hm5
  go_wp2_with fail
  refine (keepNone k _ hk0 hk1).mono ?_
  rintro e w6 ⟨⟨y, rfl, hy1, hy2, hy3⟩, hb6⟩
  have M6 : Hid (MineStep w0 w H F S w6) := M5.out.below hb6
  have Y1 : Hid (doErr S ⟨1, 0, 0, 0, 0, y⟩ = 4 ∧ doS S ⟨1, 0, 0, 0, 0, y⟩ = S) := ref_filter hy1 1 0 0 0 (by omega)
  clear hy1 hy2 hb6
  go_wp2_with fail
  refine (stepSub 0 0 0 0 y M6.out (by omega)).mono ?_
  rintro e w7 ⟨rfl, hm7⟩
  rw [Y1.out.1]
  rw [Y1.out.2] at hm7
  have M7 : Hid (MineStep w0 w H F S w7) := hm7
  clear hm7
  go_wp2_with fail
  refine (keepNone k _ hk0 hk1).mono ?_
  rintro e w8 ⟨⟨z, rfl, hz1, hz2, hz3⟩, hb8⟩
  have M8 : Hid (MineStep w0 w H F S w8) := M7.out.below hb8
  have Z1 : Hid (doErr S ⟨2, 0, 0, 0, 0, z⟩ = 4 ∧ doS S ⟨2, 0, 0, 0, 0, z⟩ = S) := ref_filter hz1 2 0 0 0 (by omega)
  clear hz1 hz2 hb8
  go_wp2_with fail
  refine (stepUnsub 0 0 0 0 z M8.out (by omega)).mono ?_
  rintro e w9 ⟨rfl, hm9⟩
  rw [Z1.out.1]
  rw [Z1.out.2] at hm9
  have M9 : Hid (MineStep w0 w H F S w9) := hm9
  clear hm9
  go_wp2_with fail
  refine (mineFilters c M9.out.mine).mono ?_
  rintro e w10 ⟨v, rfl, ho10, hb10⟩
  rw [HFL.out] at ho10
  obtain ⟨af, cf, rfl, -, -, -⟩ := Row.form (row_of_own (w := w9) ho10 nilV).1
  have M10 : Hid (MineStep w0 w H F S w10) := M9.out.below hb10
  clear ho10 hb10
  go_wp2_with fail
  refine (mineQueue c M10.out.mine).mono ?_
  rintro e w11 ⟨v, rfl, ho11, hb11⟩
  rw [HQU.out] at ho11
  obtain ⟨aq, cq, rfl, -, -, -⟩ := Row.form (row_of_own (w := w10) ho11 nilV).1
  have M11 : Hid (MineStep w0 w H F S w11) := M10.out.below hb11
  clear ho11 hb11
  go_wp2_with fail
  refine (mineLost c M11.out.mine).mono ?_
  rintro e w11 ⟨rfl, rfl⟩
  rw [HLO.out]
  go_wp2_with fail
  go_ret
  exact ⟨rfl, M11.out⟩

set_option maxRecDepth 100000 in
set_option maxHeartbeats 4000000 in
theorem keepMessages {w0 w w1 : World} {H : Nat} {F : Nat → Prop} {S : RefS} (n k : Int) (raw : ByteArray) (hn0 : -9223372036854775808 ≤ n) (hn1 : n ≤ 9223372036854775807) (hk0 : -9223372036854775808 ≤ k) (hk1 : k ≤ 9223372036854775807) (hr : raw.size ≤ maxLen) (h : MineStep w0 w H F S w1) :
    Calls Try.prog 39 #[.pointer (some ⟨H, 0, none⟩), .int .i64 n, .int .i64 k, .string raw] w1 fun e w' => e = .returned (.bool true) ∧ MineStep w0 w H F S w' := by
  have M0 : Hid (MineStep w0 w H F S w1) := h
  have hfar := far_none h.mine n
  have hval := out_not (c := n) (n := 1073741825)
  have htime := out_time n
  clear h
  go_enter Try.func39, Try.ntmps39
  go_wp2_with fail
  refine (textTopic raw _ hr).mono ?_
  rintro e w2 ⟨⟨t, rfl, ht, -⟩, hb2⟩
  have hts : t.size ≤ 1048576 := Nat.le_trans (path15 ht) (by omega)
  have M2 : Hid (MineStep w0 w H F S w2) := M0.out.below hb2
  clear hb2
  go_wp2_with fail
  refine (keepOutside n 1073741825 _ hn0 hn1 (by omega) (by omega)).mono ?_
  rintro e w2 ⟨rfl, rfl⟩
  generalize outM n 1073741825 = v at *
  go_wp2_with fail
  refine (keepOutside n 1099511627777 _ hn0 hn1 (by omega) (by omega)).mono ?_
  rintro e w2 ⟨rfl, rfl⟩
  generalize outM n 1099511627777 = late at *
  have R1 : Hid (doErr S ⟨3, 0, 1, 0, 0, ⟨#[43]⟩⟩ = 3 ∧ doS S ⟨3, 0, 1, 0, 0, ⟨#[43]⟩⟩ = S ∧ doAns S ⟨3, 0, 1, 0, 0, ⟨#[43]⟩⟩ = 0) := ref_topic (by rw [M.isPath_L]; decide) 0 1 0 0
  have R2 : Hid (doErr S ⟨3, 0, v, 0, 0, t⟩ = 5 ∧ doS S ⟨3, 0, v, 0, 0, t⟩ = S ∧ doAns S ⟨3, 0, v, 0, 0, t⟩ = 0) := ref_value ht hval 0 0 0
  have R3 : Hid (doErr S ⟨3, 0, 1, late, 0, t⟩ = 5 ∧ doS S ⟨3, 0, 1, late, 0, t⟩ = S ∧ doAns S ⟨3, 0, 1, late, 0, t⟩ = 0) := ref_delay ht htime 0 0
  have R4 : Hid (doErr S ⟨3, 0, 1, 0, late, t⟩ = 5 ∧ doS S ⟨3, 0, 1, 0, late, t⟩ = S ∧ doAns S ⟨3, 0, 1, 0, late, t⟩ = 0) := ref_life ht htime 0
  have R5 : Hid (doErr S ⟨6, 0, late, 0, 0, ⟨#[]⟩⟩ = 5 ∧ doS S ⟨6, 0, late, 0, 0, ⟨#[]⟩⟩ = S ∧ doAns S ⟨6, 0, late, 0, 0, ⟨#[]⟩⟩ = 0) := ref_tick htime 0 0 0 ⟨#[]⟩
  have HFAR : Hid (findM (fun m => m.number == outM n 500) S.wait 0 = -1) := hfar
  clear ht hval htime hfar
  go_wp2_with fail
  refine (keepNone k _ hk0 hk1).mono ?_
  rintro e w3 ⟨⟨y, rfl, hy1, hy2, hy3⟩, hb3⟩
  have M3 : Hid (MineStep w0 w H F S w3) := M2.out.below hb3
  have Y1 : Hid (doErr S ⟨3, 0, v, 0, 0, y⟩ = 3 ∧ doS S ⟨3, 0, v, 0, 0, y⟩ = S ∧ doAns S ⟨3, 0, v, 0, 0, y⟩ = 0) := ref_topic hy2 0 v 0 0
  clear hy1 hy2 hb3
  go_wp2_with fail
  refine (stepPub 0 v 0 0 y M3.out (by omega)).mono ?_
  rintro e w4 ⟨rfl, hm4⟩
  rw [Y1.out.1, Y1.out.2.2]
  rw [Y1.out.2.1] at hm4
  have M4 : Hid (MineStep w0 w H F S w4) := hm4
  clear hm4
  go_wp2_with fail
  refine (stepPub 0 1 0 0 ⟨#[43]⟩ M4.out (by show 1 ≤ _; omega)).mono ?_
  rintro e w5 ⟨rfl, hm5⟩
  rw [R1.out.1, R1.out.2.2]
  rw [R1.out.2.1] at hm5
  have M5 : Hid (MineStep w0 w H F S w5) := hm5
  clear hm5
  go_wp2_with fail
  refine (stepPub 0 v 0 0 t M5.out hts).mono ?_
  rintro e w6 ⟨rfl, hm6⟩
  rw [R2.out.1, R2.out.2.2]
  rw [R2.out.2.1] at hm6
  have M6 : Hid (MineStep w0 w H F S w6) := hm6
  clear hm6
  go_wp2_with fail
  refine (stepPub 0 1 late 0 t M6.out hts).mono ?_
  rintro e w7 ⟨rfl, hm7⟩
  rw [R3.out.1, R3.out.2.2]
  rw [R3.out.2.1] at hm7
  have M7 : Hid (MineStep w0 w H F S w7) := hm7
  clear hm7
  go_wp2_with fail
  refine (stepPub 0 1 0 late t M7.out hts).mono ?_
  rintro e w8 ⟨rfl, hm8⟩
  rw [R4.out.1, R4.out.2.2]
  rw [R4.out.2.1] at hm8
  have M8 : Hid (MineStep w0 w H F S w8) := hm8
  clear hm8
  go_wp2_with fail
  refine (keepOutside n 500 _ hn0 hn1 (by omega) (by omega)).mono ?_
  rintro e w8 ⟨rfl, rfl⟩
  generalize outM n 500 = far at *
  have R6 : Hid (doErr S ⟨4, 0, far, 0, 0, ⟨#[]⟩⟩ = 7 ∧ doS S ⟨4, 0, far, 0, 0, ⟨#[]⟩⟩ = S ∧ doAns S ⟨4, 0, far, 0, 0, ⟨#[]⟩⟩ = 0) := ref_cancel HFAR.out 0 0 0 ⟨#[]⟩
  have R7 : Hid (doErr S ⟨5, 0, far, 0, 0, ⟨#[]⟩⟩ = 7 ∧ doS S ⟨5, 0, far, 0, 0, ⟨#[]⟩⟩ = S ∧ doAns S ⟨5, 0, far, 0, 0, ⟨#[]⟩⟩ = 0) := ref_move HFAR.out 0 0 0 ⟨#[]⟩
  go_wp2_with fail
  refine (stepCancel 0 far 0 0 ⟨#[]⟩ M8.out (Nat.zero_le _)).mono ?_
  rintro e w9 ⟨rfl, hm9⟩
  rw [R6.out.1]
  rw [R6.out.2.1] at hm9
  have M9 : Hid (MineStep w0 w H F S w9) := hm9
  clear hm9
  go_wp2_with fail
  refine (stepMove 0 far 0 0 ⟨#[]⟩ M9.out (Nat.zero_le _)).mono ?_
  rintro e w10 ⟨rfl, hm10⟩
  rw [R7.out.1]
  rw [R7.out.2.1] at hm10
  have M10 : Hid (MineStep w0 w H F S w10) := hm10
  clear hm10
  go_wp2_with fail
  refine (stepTick 0 late 0 0 ⟨#[]⟩ M10.out (Nat.zero_le _)).mono ?_
  rintro e w11 ⟨rfl, hm11⟩
  rw [R5.out.1]
  rw [R5.out.2.1] at hm11
  have M11 : Hid (MineStep w0 w H F S w11) := hm11
  clear hm11
  go_wp2_with fail
  go_ret
  exact ⟨rfl, M11.out⟩
end Go.Proofs.Ytmjdndhfmfjbiab

namespace Go.Proofs.Ytmjdndhfmfjbiab
open Go.RowKit

theorem look_good {w0 w : World} {H : Nat} {F : Nat → Prop} {S : RefS} (h : MineF w0 w H F S) : LookFew (lookM S) := by
  obtain ⟨fl, hlk⟩ := h.lk
  exact look_few h.mine.good (waiting_len hlk)

set_option maxRecDepth 100000 in
set_option maxHeartbeats 8000000 in
theorem refusedWalk (l : List StepD) (ao : Option Addr) (m cap : Nat) (n k : Int) (raw : ByteArray) (back : Int) (w : World) (hl : l.length = m) (hm : m ≤ 9223372036854775807) (hsc : StepsAt w ao l) (hok : ∀ o ∈ l, StepOk o)
    (hn0 : -9223372036854775808 ≤ n) (hn1 : n ≤ 9223372036854775807) (hk0 : -9223372036854775808 ≤ k) (hk1 : k ≤ 9223372036854775807) (hr : raw.size ≤ maxLen) (hb0 : -9223372036854775808 ≤ back) (hb1 : back ≤ 9223372036854775807) :
    Calls Try.prog 7 #[.slice ao m cap, .int .i64 n, .int .i64 k, .string raw, .int .i64 back] w fun e w' => e = .returned (.bool true) ∧ Below w.heap.size w w' := by
  have HARG : Hid (l.length = m ∧ StepsAt w ao l ∧ ∀ o ∈ l, StepOk o) := ⟨hl, hsc, hok⟩
  clear hl hsc hok
  go_enter Try.func7, Try.ntmps7
  go_wp2_with fail
  refine (keepReplayed l ao m cap m w HARG.out.1 hm HARG.out.2.1 HARG.out.2.2).mono ?_
  rintro e w1 ⟨H, rfl, hm1⟩
  generalize runS (refNew 500) (l.take m) = S at *
  obtain ⟨F, hm1⟩ := hm1.mineF
  have M1 : Hid (MineF w w1 H F S) := hm1
  have HFL : Hid (∀ g, F g → g < w1.heap.size) := fun g hg => hm1.lt hg
  have HLF : Hid (LookFew (lookM S)) := look_good hm1
  have ht0 := hm1.mine.good.inv.time0
  have ht1 := hm1.mine.good.inv.time1
  clear hm1
  go_wp2_with fail
  refine (mineDisk M1.out.mine).mono ?_
  rintro e w1 ⟨rfl, rfl⟩
  generalize hdk : cat (S.done.map recOf) = dk
  have HDK : Hid (cat (S.done.map recOf) = dk) := hdk
  clear hdk
  go_wp2_with fail
  refine (keepLook M1.out.mine).mono ?_
  rintro e w2 ⟨v, rfl, hl2, hb2⟩
  obtain ⟨fv, qv, lv, wv, FV, QV, rfl, hli⟩ := hl2
  obtain ⟨xa, xc, rfl, -, -, -⟩ := hli.fil.form
  obtain ⟨ya, yc, rfl, -, -, -⟩ := hli.que.form
  obtain ⟨za, zc, rfl, -, -, -⟩ := hli.lost.form
  obtain ⟨ua, uc, rfl, -, -, -⟩ := hli.wait.form
  have HL2 : Hid (LookIn w2 w1.heap.size w2.heap.size (lookM S) (.slice xa 8 xc) (.slice ya 8 yc) (.slice za 8 zc) (.slice ua (lookM S).wait.length uc) FV QV) := hli
  have M2 : Hid (MineF w w2 H F S) := M1.out.below hb2
  have hs2 : w1.heap.size ≤ w2.heap.size := hb2.size
  have HNO : Hid (¬ F w2.heap.size) := fun hf => by have := HFL.out _ hf; omega
  clear hb2 hli
  have hlt : (lookM S).time = S.time := rfl
  rw [hlt]
  clear hlt
  generalize hrc : (lookM S).recs = rc at *
  have HRC : Hid ((lookM S).recs = rc) := hrc
  clear hrc
  generalize hwl : (lookM S).wait.length = wl at *
  have HWL : Hid ((lookM S).wait.length = wl) := hwl
  clear hwl
  go_wp2_with fail
  generalize hwA : w2.alloc _ = wA
  have hh : wA.heap[w2.heap.size]? = some (.cells #[.int .i64 S.time, .slice xa 8 xc, .slice ya 8 yc, .slice za 8 zc, .slice ua wl uc, .int .i64 rc] 70 (0, 0)) := by rw [← hwA]; exact heap_alloc_new w2 _
  have hbA : Below w2.heap.size w2 wA := by rw [← hwA]; exact below_one _ _
  have HCA : Hid (∀ j u, #[Value.int .i64 S.time, .slice xa 8 xc, .slice ya 8 yc, .slice za 8 zc, .slice ua wl uc, .int .i64 rc][j]? = some u → wA.cell? ⟨w2.heap.size, j, none⟩ = some u) := fun j u hj => by rw [cell_of_row _ w2.heap.size j _ _ (0, 0) hh]; exact hj
  have MA : Hid (MineStep w wA H F S wA) := MineStep.refl (M2.out.below hbA)
  have LA : Hid (LookIn wA w1.heap.size w2.heap.size (lookM S) (.slice xa 8 xc) (.slice ya 8 yc) (.slice za 8 zc) (.slice ua wl uc) FV QV) := HL2.out.below hbA
  clear hwA hh hbA
  refine (keepClients n k raw hn0 hn1 hk0 hk1 hr MA.out).mono ?_
  rintro e w4 ⟨rfl, hm4⟩
  have M4 : Hid (MineStep w wA H F S w4) := hm4
  clear hm4
  go_wp2_with fail
  refine (keepMessages n k raw hn0 hn1 hk0 hk1 hr M4.out).mono ?_
  rintro e w5 ⟨rfl, hm5⟩
  have M5 : Hid (MineStep w wA H F S w5) := hm5
  have c50 : w5.cell? ⟨w2.heap.size, 0, none⟩ = some (.int .i64 S.time) := hm5.cell (p := ⟨w2.heap.size, 0, none⟩) (HCA.out 0 _ rfl) HNO.out
  clear hm5
  go_wp2_with fail
  refine (keepPick back (S.time + 1) _ hb0 hb1 (by omega) (by omega)).mono ?_
  rintro e w5 ⟨rfl, rfl⟩
  have hpk := pick_bd back (S.time + 1) (by omega)
  generalize pickM back (S.time + 1) = p at *
  obtain ⟨t1, t2⟩ := tick_still (S := S) (b := p) 0 0 0 ⟨#[]⟩ (by omega) (by omega) (by omega)
  have T1 : Hid (doErr S ⟨6, 0, p, 0, 0, ⟨#[]⟩⟩ = 0) := t1
  have T2 : Hid (doS S ⟨6, 0, p, 0, 0, ⟨#[]⟩⟩ = S) := t2
  clear t1 t2 c50
  go_wp2_with fail
  refine (stepTick 0 p 0 0 ⟨#[]⟩ M5.out (Nat.zero_le _)).mono ?_
  rintro e w6 ⟨rfl, hm6⟩
  rw [T1.out]
  rw [T2.out] at hm6
  have M6 : Hid (MineStep w wA H F S w6) := hm6
  clear hm6
  go_wp2_with fail
  refine (keepNone k _ hk0 hk1).mono ?_
  rintro e w7 ⟨⟨y, rfl, hy1, hy2, hy3⟩, hb7⟩
  have M7 : Hid (MineStep w wA H F S w7) := M6.out.below hb7
  have Y1 : Hid (M.fitsE y ⟨#[97]⟩ = 4) := by simp [Hid, M.fitsE, hy1]
  have hym : y.size ≤ maxLen := by unfold maxLen; omega
  clear hy1 hy2 hb7
  go_wp2_with fail
  refine (heraldFits y ⟨#[97]⟩ _ hym (by unfold maxLen; show 1 ≤ _; omega)).mono ?_
  rintro e w8 ⟨rfl, hb8⟩
  rw [Y1.out]
  have M8 : Hid (MineStep w wA H F S w8) := M7.out.below hb8
  clear hb8
  go_wp2_with fail
  refine (keepNone k _ hk0 hk1).mono ?_
  rintro e w9 ⟨⟨z, rfl, hz1, hz2, hz3⟩, hb9⟩
  have M9 : Hid (MineStep w wA H F S w9) := M8.out.below hb9
  have Z1 : Hid (M.fitsE ⟨#[35]⟩ z = 3) := by simp [Hid, M.fitsE, hash_ok, hz2]
  have hzm : z.size ≤ maxLen := by unfold maxLen; omega
  clear hz1 hz2 hb9
  go_wp2_with fail
  refine (heraldFits ⟨#[35]⟩ z _ (by unfold maxLen; show 1 ≤ _; omega) hzm).mono ?_
  rintro e w10 ⟨rfl, hb10⟩
  rw [Z1.out]
  have M10 : Hid (MineStep w wA H F S w10) := M9.out.below hb10
  clear hb10
  go_wp2_with fail
  refine (keepLook M10.out.mine).mono ?_
  rintro e w11 ⟨v, rfl, hl11, hb11⟩
  obtain ⟨fv', qv', lv', wv', FV', QV', rfl, hli⟩ := hl11
  obtain ⟨xa', xc', rfl, -, -, -⟩ := hli.fil.form
  obtain ⟨ya', yc', rfl, -, -, -⟩ := hli.que.form
  obtain ⟨za', zc', rfl, -, -, -⟩ := hli.lost.form
  obtain ⟨ua', uc', rfl, -, -, -⟩ := hli.wait.form
  rw [HWL.out] at hli
  have L11 : Hid (LookIn w11 w10.heap.size w11.heap.size (lookM S) (.slice xa' 8 xc') (.slice ya' 8 yc') (.slice za' 8 zc') (.slice ua' wl uc') FV' QV') := hli
  have M11 : Hid (MineStep w wA H F S w11) := M10.out.below hb11
  have hlt : (lookM S).time = S.time := rfl
  rw [hlt, HRC.out, HWL.out]
  clear hlt hli hb11
  have MB : Hid (∀ ob, Mine w (w11.alloc ob) H S) := fun ob => M11.out.mine.below (below_one _ _)
  go_wp2_with fail
  refine (mineDisk (MB.out _)).mono ?_
  rintro e w12 ⟨rfl, hw12⟩
  rw [HDK.out]
  have hh : w12.heap[w11.heap.size]? = some (.cells #[.int .i64 S.time, .slice xa' 8 xc', .slice ya' 8 yc', .slice za' 8 zc', .slice ua' wl uc', .int .i64 rc] 70 (0, 0)) := by rw [hw12]; exact heap_alloc_new w11 _
  have hbB : Below w11.heap.size w11 w12 := by rw [hw12]; exact below_one _ _
  have M12 : Hid (MineStep w wA H F S w12) := M11.out.below hbB
  have L12 : Hid (LookIn w12 w10.heap.size w11.heap.size (lookM S) (.slice xa' 8 xc') (.slice ya' 8 yc') (.slice za' 8 zc') (.slice ua' wl uc') FV' QV') := L11.out.below hbB
  have LA12 : Hid (LookIn w12 w1.heap.size w2.heap.size (lookM S) (.slice xa 8 xc) (.slice ya 8 yc) (.slice za 8 zc) (.slice ua wl uc) FV QV) := LA.out.upd M12.out.upd (fun g hg => .inl (HFL.out g hg))
  have a0 : w12.cell? ⟨w2.heap.size, 0, none⟩ = some (.int .i64 S.time) := M12.out.cell (p := ⟨w2.heap.size, 0, none⟩) (HCA.out 0 _ rfl) HNO.out
  have a1 : w12.cell? ⟨w2.heap.size, 1, none⟩ = some (.slice xa 8 xc) := M12.out.cell (p := ⟨w2.heap.size, 1, none⟩) (HCA.out 1 _ rfl) HNO.out
  have a2 : w12.cell? ⟨w2.heap.size, 2, none⟩ = some (.slice ya 8 yc) := M12.out.cell (p := ⟨w2.heap.size, 2, none⟩) (HCA.out 2 _ rfl) HNO.out
  have a3 : w12.cell? ⟨w2.heap.size, 3, none⟩ = some (.slice za 8 zc) := M12.out.cell (p := ⟨w2.heap.size, 3, none⟩) (HCA.out 3 _ rfl) HNO.out
  have a4 : w12.cell? ⟨w2.heap.size, 4, none⟩ = some (.slice ua wl uc) := M12.out.cell (p := ⟨w2.heap.size, 4, none⟩) (HCA.out 4 _ rfl) HNO.out
  have a5 : w12.cell? ⟨w2.heap.size, 5, none⟩ = some (.int .i64 rc) := M12.out.cell (p := ⟨w2.heap.size, 5, none⟩) (HCA.out 5 _ rfl) HNO.out
  have b0 : w12.cell? ⟨w11.heap.size, 0, none⟩ = some (.int .i64 S.time) := cell_of_row _ w11.heap.size 0 _ _ (0, 0) hh
  have b1 : w12.cell? ⟨w11.heap.size, 1, none⟩ = some (.slice xa' 8 xc') := cell_of_row _ w11.heap.size 1 _ _ (0, 0) hh
  have b2 : w12.cell? ⟨w11.heap.size, 2, none⟩ = some (.slice ya' 8 yc') := cell_of_row _ w11.heap.size 2 _ _ (0, 0) hh
  have b3 : w12.cell? ⟨w11.heap.size, 3, none⟩ = some (.slice za' 8 zc') := cell_of_row _ w11.heap.size 3 _ _ (0, 0) hh
  have b4 : w12.cell? ⟨w11.heap.size, 4, none⟩ = some (.slice ua' wl uc') := cell_of_row _ w11.heap.size 4 _ _ (0, 0) hh
  have b5 : w12.cell? ⟨w11.heap.size, 5, none⟩ = some (.int .i64 rc) := cell_of_row _ w11.heap.size 5 _ _ (0, 0) hh
  have HAL : Hid (Calls Try.prog 33 #[.agg #[.int .i64 S.time, .slice xa 8 xc, .slice ya 8 yc, .slice za 8 zc, .slice ua wl uc, .int .i64 rc], .agg #[.int .i64 S.time, .slice xa' 8 xc', .slice ya' 8 yc', .slice za' 8 zc', .slice ua' wl uc', .int .i64 rc]] w12 fun e w' => e = .returned (.bool true) ∧ Below w12.heap.size w12 w') :=
    keepAlike (lookM S) HLF.out _ _ w12 _ _ _ _ ⟨_, _, _, _, FV, QV, by rw [HRC.out]; rfl, LA12.out⟩ ⟨_, _, _, _, FV', QV', by rw [HRC.out]; rfl, L12.out⟩
  clear hw12 hh hbB
  go_wp2_with fail
  refine HAL.out.mono ?_
  rintro e w13 ⟨rfl, hb13⟩
  have HB13 : Hid (Below w.heap.size w w13) := (M12.out.mine.below hb13).out
  clear hb13
  go_wp2_with fail
  go_ret
  exact ⟨rfl, HB13.out⟩
end Go.Proofs.Ytmjdndhfmfjbiab

namespace Go.Proofs.Ytmjdndhfmfjbiab
open Go.RowKit
open Go.Deep Go.ChangeShapes Go.WideShapes Go.ChangeAt
open Go.ChangeMaps (open_string shut_string)

theorem laidOutS : laidOutB Try.prog = true := by kernel_rfl
theorem cellsIntS : Try.prog.cellsOf 3 = 1 := by kernel_rfl
theorem cellsStrS : Try.prog.cellsOf 9 = 1 := by kernel_rfl
theorem cellsStepS : Try.prog.cellsOf 59 = 6 := by kernel_rfl
theorem arr5s {args : Array Value} {a b c d e : Value} (h : args.toList = [a, b, c, d, e]) : args = #[a, b, c, d, e] := by cases args; simp only at h; rw [h]

set_option maxRecDepth 100000 in
theorem open_kstep {H : Type} {enc : TypeId × Value → H} {W : World} {base : Nat} {spare : Nat → Bool} {held : Bool} {fuel : Nat} {cs : List Value} {x : DataW H × List MemPlace} (h : DataW.trod enc Try.prog W base spare held fuel 59 cs = some x) :
    ∃ y : StepD, cs = [.int .i64 y.kind, .int .i64 y.a, .int .i64 y.b, .int .i64 y.c, .int .i64 y.d, .string y.s] ∧ StepOk y := by
  obtain ⟨xs, n, -, hx, hl, hlen, hf⟩ := DataW.trod_struct Try.underlying59 h
  rw [cellsStepS] at hl
  match cs, hl with
  | [v0, v1, v2, v3, v4, v5], _ =>
    match xs, hlen with
    | [y0, y1, y2, y3, y4, y5], _ =>
      have f0 : DataW.trod enc Try.prog W base spare held n 3 (([v0, v1, v2, v3, v4, v5].drop 0).take (Try.prog.cellsOf 3)) = some y0 := hf 0 _ rfl
      have f1 : DataW.trod enc Try.prog W base spare held n 3 (([v0, v1, v2, v3, v4, v5].drop 1).take (Try.prog.cellsOf 3)) = some y1 := hf 1 _ rfl
      have f2 : DataW.trod enc Try.prog W base spare held n 3 (([v0, v1, v2, v3, v4, v5].drop 2).take (Try.prog.cellsOf 3)) = some y2 := hf 2 _ rfl
      have f3 : DataW.trod enc Try.prog W base spare held n 3 (([v0, v1, v2, v3, v4, v5].drop 3).take (Try.prog.cellsOf 3)) = some y3 := hf 3 _ rfl
      have f4 : DataW.trod enc Try.prog W base spare held n 3 (([v0, v1, v2, v3, v4, v5].drop 4).take (Try.prog.cellsOf 3)) = some y4 := hf 4 _ rfl
      have f5 : DataW.trod enc Try.prog W base spare held n 9 (([v0, v1, v2, v3, v4, v5].drop 5).take (Try.prog.cellsOf 9)) = some y5 := hf 5 _ rfl
      rw [cellsIntS] at f0 f1 f2 f3 f4
      rw [cellsStrS] at f5
      simp only [List.drop_zero, List.drop_succ_cons, List.take_succ_cons, List.take_zero] at f0 f1 f2 f3 f4 f5
      obtain ⟨n0, e0, -, w0⟩ := DataW.trod_int Try.underlying3 f0
      obtain ⟨n1, e1, -, w1⟩ := DataW.trod_int Try.underlying3 f1
      obtain ⟨n2, e2, -, w2⟩ := DataW.trod_int Try.underlying3 f2
      obtain ⟨n3, e3, -, w3⟩ := DataW.trod_int Try.underlying3 f3
      obtain ⟨n4, e4, -, w4⟩ := DataW.trod_int Try.underlying3 f4
      obtain ⟨s5, e5, -, w5⟩ := DataW.trod_string Try.underlying9 f5
      simp only [List.cons.injEq, and_true] at e0 e1 e2 e3 e4 e5
      subst e0 e1 e2 e3 e4 e5
      exact ⟨⟨n0, n1, n2, n3, n4, s5⟩, rfl, bounds_i64 w0, bounds_i64 w1, bounds_i64 w2, bounds_i64 w3, bounds_i64 w4, w5⟩

set_option maxRecDepth 100000 in
theorem open_ksteps {H : Type} {enc : TypeId × Value → H} {W : World} {base : Nat} {v : Value} {d : DataW H} {p : List MemPlace} (hval : Value.okWide Try.prog W .any base 57 v) (h : DataW.Trod enc Try.prog W 0 (fun _ => true) true 57 v d p) :
    ∃ ao n cap, ∃ l : List StepD, v = .slice ao n cap ∧ l.length = n ∧ n ≤ maxLen ∧ StepsAt W ao l ∧ ∀ o ∈ l, StepOk o := by
  obtain ⟨a0, len, cap, rfl⟩ := okWide_slice Try.underlying57 hval
  obtain ⟨fuel, hf⟩ := h
  rcases open_slice Try.underlying57 hf with ⟨hcs, hx⟩ | ⟨a, len', cap', m, n, D, Pl, hcs, -, hl, hm, hmm, hx, hel⟩
  · simp [Value.cells] at hcs
    obtain ⟨rfl, rfl, rfl⟩ := hcs
    exact ⟨none, 0, 0, [], rfl, rfl, Nat.zero_le _, fun j o ho => by simp at ho, fun o ho => by simp at ho⟩
  · simp [Value.cells] at hcs
    obtain ⟨rfl, rfl, rfl⟩ := hcs
    simp only [if_true] at hmm
    subst hmm
    obtain ⟨b, off, spot⟩ := a
    haveI : Inhabited StepD := ⟨⟨0, 0, 0, 0, 0, ⟨#[]⟩⟩⟩
    obtain ⟨f, hfo⟩ := choose_lt (α := StepD) (n := len) (p := fun i o => W.cells? 0 ((⟨b, off, spot⟩ : Addr).add (i * 6)) 6 = some ([.int .i64 o.kind, .int .i64 o.a, .int .i64 o.b, .int .i64 o.c, .int .i64 o.d, .string o.s]) ∧ StepOk o) (fun i hi => by
      obtain ⟨cs', h1, h2⟩ := hel i (by omega)
      rw [cellsStepS] at h1
      obtain ⟨o, rfl, ho⟩ := open_kstep h2
      exact ⟨o, h1, ho⟩)
    refine ⟨some ⟨b, off, spot⟩, len, m, (List.range len).map f, rfl, by simp, by omega, fun j o ho => ?_, fun o ho => ?_⟩
    · obtain ⟨hj, rfl⟩ := List.getElem?_eq_some_iff.1 ho
      simp only [List.length_map, List.length_range] at hj
      simp only [List.getElem_map, List.getElem_range]
      obtain ⟨h1, -⟩ := hfo j hj
      obtain ⟨-, -, hcell⟩ := World.cells?_some h1
      obtain ⟨h01, -⟩ := hfo 0 (by omega)
      obtain ⟨-, -, hcell0⟩ := World.cells?_some h01
      have hspot : spot = none := by
        have := World.cell?_spot (hcell0 0 (by omega))
        simpa [Addr.add] using this
      subst hspot
      refine ⟨b, off, rfl, ?_⟩
      rw [Addr.add_lit] at hcell
      have c0 := hcell 0 (by omega)
      have c1 := hcell 1 (by omega)
      have c2 := hcell 2 (by omega)
      have c3 := hcell 3 (by omega)
      have c4 := hcell 4 (by omega)
      have c5 := hcell 5 (by omega)
      rw [Addr.add_lit] at c0 c1 c2 c3 c4 c5
      exact ⟨c0, c1, c2, c3, c4, c5⟩
    · obtain ⟨i, hi, rfl⟩ := List.mem_map.1 ho
      exact (hfo i (List.mem_range.1 hi)).2

set_option maxRecDepth 100000 in
theorem refusedLifted (os : Os) (started : os.Started) (H : Type) (enc : TypeId × Value → H) :
    ReturnsInHanded {} Try.checked os 7 .any (Rows.refusedSpec.pre6 enc Try.prog Try.f7 Rows.refusedRow.domain false) (Rows.refusedSpec.post enc Try.prog Try.f7 false true false false) := by
  refine returnsInHanded_of_change (C := Try.checked) ownK started (by kernel_rfl) Try.func7
    (ChangeSpec.witness6 (enc := enc) (C := Try.checked) false ⟨#[], #[.slice none 0 0, .int .i64 0, .int .i64 0, .string .empty, .int .i64 0], []⟩ 8 (by kernel_rfl) (by kernel_rfl) (by kernel_rfl) (by kernel_rfl)) ?_
  intro W base args ds gs before hval0 hW hcnd _
  have hval : ∀ (j : Nat) t v, Try.f7.params[j]? = some t → args[j]? = some v → Value.okWide Try.prog W .any base t v := hval0
  have hW' := hW
  obtain ⟨p, q, hA0, hV, rfl, hfz, hnd⟩ := hW
  have hA : DataW.TrodAll enc Try.prog W 0 (fun _ => true) true Try.f7.params.toList args.toList ds p := hA0
  rw [Try.params7] at hA hval
  obtain ⟨v0, vs0, d0, ds0, p0, q0, hargs, rfl, rfl, h0, r0⟩ := trodAll_cons hA
  obtain ⟨v1, vs1, d1, ds1, p1, q1, rfl, rfl, rfl, h1, r1⟩ := trodAll_cons r0
  obtain ⟨v2, vs2, d2, ds2, p2, q2, rfl, rfl, rfl, h2, r2⟩ := trodAll_cons r1
  obtain ⟨v3, vs3, d3, ds3, p3, q3, rfl, rfl, rfl, h3, r3⟩ := trodAll_cons r2
  obtain ⟨v4, vs4, d4, ds4, p4, q4, rfl, rfl, rfl, h4, r4⟩ := trodAll_cons r3
  obtain ⟨rfl, rfl, rfl⟩ := trodAll_nil r4
  obtain rfl := arr5s hargs
  obtain ⟨rfl, rfl⟩ := trodVars_none hV
  obtain ⟨ao, m, cap, l, rfl, hl, hlm, hsc, hok⟩ := open_ksteps (hval 0 57 v0 rfl rfl) h0
  obtain ⟨n1, rfl, rfl, rfl, w1⟩ := open_int Try.underlying3 (hval 1 3 v1 rfl rfl) h1
  obtain ⟨n2, rfl, rfl, rfl, w2⟩ := open_int Try.underlying3 (hval 2 3 v2 rfl rfl) h2
  obtain ⟨s, rfl, rfl, rfl, hmax⟩ := open_string Try.underlying9 (hval 3 9 v3 rfl rfl) h3
  obtain ⟨n4, rfl, rfl, rfl, w4⟩ := open_int Try.underlying3 (hval 4 3 v4 rfl rfl) h4
  clear hA0 hval0 hcnd
  simp only [List.append_nil] at hW'
  have hlt0 : ∀ x ∈ p0, x.block < W.heap.size := fun x hx => hW'.lt x (by simp [hx])
  refine (refusedWalk l ao m cap n1 n2 s n4 W hl (by unfold maxLen at hlm; omega) hsc hok (bounds_i64 w1).1 (bounds_i64 w1).2 (bounds_i64 w2).1 (bounds_i64 w2).2 hmax (bounds_i64 w4).1 (bounds_i64 w4).2).mono fun e W' ⟨he, hg⟩ => ?_
  subst he
  exact ⟨_, rfl, _, _, _, [], _, [], hW', trodAll_mk1 (shut_bool Try.underlying4 _), trodAll_cons_mk (Below.trod laidOutS (by kernel_rfl) (of_decide_eq_true (by kernel_rfl)) h0 hg hlt0) (trodAll_cons_mk (shut_int Try.underlying3 w1) (trodAll_cons_mk (shut_int Try.underlying3 w2) (trodAll_cons_mk (shut_string Try.underlying9 hmax) (trodAll_cons_mk (shut_int Try.underlying3 w4) trodAll_mk0)))), rfl, hg.frame _, fun h => by cases h⟩

theorem refused_holds : Rows.RefusedSaid :=
  OpenClaim.holds_of_wide 7 Try.f7 rfl rfl rfl rfl rfl rfl rfl ⟨rfl, rfl, rfl, rfl, rfl⟩ rfl rfl rfl rfl rfl (by kernel_rfl) Try.func7 (by kernel_rfl)
    (of_decide_eq_true (by kernel_rfl)) (by unfold Func.isWrapper; first | (rw [if_pos (by decide +kernel)]; kernel_rfl) | (rw [if_neg (by decide +kernel)]; exact ⟨rfl, rfl⟩))
    (fun os started H enc _ => refusedLifted os started H enc)
end Go.Proofs.Ytmjdndhfmfjbiab

/-
  heraldkeep.played, same: scripts on one broker, on two.
-/
namespace Go.Proofs.Ytmjdndhfmfjbiab
open Go.RowKit

theorem MineF.base {w0 w1 w : World} {H : Nat} {F : Nat → Prop} {S : RefS} (h : MineF w1 w H F S) (hb : Below w0.heap.size w0 w1) : MineF w0 w H F S := by
  obtain ⟨R, hp, hF, hbw, hg⟩ := h
  exact ⟨R, hp, fun k hk => Nat.le_trans hb.size (hF k hk), hb.trans (hbw.mono hb.size), hg⟩
theorem MineF.good {w0 w : World} {H : Nat} {F : Nat → Prop} {S : RefS} (h : MineF w0 w H F S) : Good S := h.mine.good
theorem MineF.low {w0 w : World} {H : Nat} {F : Nat → Prop} {S : RefS} {k : Nat} (h : MineF w0 w H F S) (hk : F k) : w0.heap.size ≤ k := by
  obtain ⟨R, hp, hF, -⟩ := h
  exact hF k hk
theorem disk_size {w0 w : World} {H : Nat} {S : RefS} (h : Mine w0 w H S) : (cat (S.done.map recOf)).size = 42 * S.done.length := by
  obtain ⟨F, R, ⟨x, fil, wait, hb, -⟩, -, -, -⟩ := h
  have := hb.size
  rw [hb.recs] at this
  exact this
def doneN (l : List StepD) (i : Nat) : Nat := (runS (refNew 500) (l.take i)).done.length
def endAt (l : List StepD) (i : Nat) : Int := ((42 * doneN l i : Nat) : Int)
def endsV (l : List StepD) (n : Nat) : List Value := (List.range n).map (fun i => Value.int .i64 (endAt l i))
theorem ends_next (l : List StepD) (n : Nat) : endsV l (n + 1) = endsV l n ++ [Value.int .i64 (endAt l n)] := by unfold endsV; rw [List.range_succ, List.map_append]; rfl

set_option maxRecDepth 100000 in
set_option maxHeartbeats 4000000 in
theorem keepPlayed (l : List StepD) (ao : Option Addr) (m cap : Nat) (w : World) (hl : l.length = m) (hm : m ≤ 16777216) (hsc : StepsAt w ao l) (hok : ∀ o ∈ l, StepOk o) :
    Calls Try.prog 28 #[.slice ao m cap] w fun e w' => ∃ H F v, e = .returned (.tuple #[.pointer (some ⟨H, 0, none⟩), v]) ∧ MineF w w' H F (runS (refNew 500) l) ∧ w'.ownsRow w.heap.size 3 1 v (m + 1) (endsV l (m + 1)) ∧ ∀ g, v.ownBlock = some g → ¬ F g := by
  obtain ⟨i0, hi, hz0, hz1, hz2⟩ := info_parts infoNum
  have HL : Hid (l.length = m) := hl
  have HSC : Hid (StepsAt w ao l) := hsc
  have HOK : Hid (∀ o ∈ l, StepOk o) := hok
  clear hl hsc hok
  go_enter Try.func28, Try.ntmps28
  go_wp2_with fail
  refine (mineOpened 500 w (by omega) (by omega)).mono ?_
  rintro e w1 ⟨H, rfl, hm1⟩
  obtain ⟨F1, hm1⟩ := hm1.mineF
  have M1 : Hid (MineF w w1 H F1 (refNew 500)) := hm1
  clear hm1
  go_wp2_with fail
  refine (mineDisk M1.out.mine).mono ?_
  rintro e w1 ⟨rfl, rfl⟩
  have hd0 : cat ((refNew 500).done.map recOf) = ⟨#[]⟩ := rfl
  rw [hd0]
  clear hd0
  have hs1 : w.heap.size ≤ w1.heap.size := M1.out.mine.out.size
  have O1 : Hid ((w1.alloc (.cells #[Value.int .i64 0] 3)).ownsRow w.heap.size 3 1 (.slice (some ⟨w1.heap.size, 0, none⟩) 1 1) 1 (endsV l 1)) :=
    World.ownsRow_lit w1 #[Value.int .i64 0] 1 hs1 (by unfold maxLen; omega) rfl
  have M1' : Hid (MineF w (w1.alloc (.cells #[Value.int .i64 0] 3)) H F1 (refNew 500)) := M1.out.below (below_one _ _)
  have A1 : Hid (∀ g, (Value.slice (some ⟨w1.heap.size, 0, none⟩) 1 1).ownBlock = some g → ¬ F1 g) := fun g hg hf => by
    simp [Value.ownBlock] at hg
    have := M1.out.lt hf
    omega
  go_wp2_with fail
  go_loopw [5, 6, 7] (fun dv v i wr => ∃ (k : Nat) (F : Nat → Prop) (s : ByteArray), k ≤ m ∧ i = .int .i64 (k : Int) ∧ dv = .string s ∧ MineF w wr H F (runS (refNew 500) (l.take k)) ∧ wr.ownsRow w.heap.size 3 1 v (k + 1) (endsV l (k + 1)) ∧ ∀ g, v.ownBlock = some g → ¬ F g) (fun _ _ i _ => m - (intOf i).toNat)
  case atStart => exact ⟨0, F1, _, Nat.zero_le _, rfl, rfl, M1'.out, O1.out, A1.out⟩
  case round =>
    obtain ⟨k, F, s, hkm, rfl, rfl, hM, hown, hap⟩ := hrel
    have MM : Hid (MineF w wr H F (runS (refNew 500) (l.take k))) := hM
    have HAP : Hid _ := hap
    obtain ⟨av, cv, rfl, -, -, -⟩ := Row.form (own_mono hown (Nat.zero_le _))
    have HOW : Hid (wr.ownsRow w.heap.size 3 1 (.slice av (k + 1) cv) (k + 1) (endsV l (k + 1))) := hown
    clear hM hap hown
    by_cases hlt : k < m
    · obtain ⟨o, ho⟩ : ∃ o, l[k]? = some o := ⟨_, List.getElem?_eq_getElem (by rw [HL.out]; exact hlt)⟩
      have HO : Hid (StepOk o) := HOK.out o (List.mem_of_getElem? ho)
      obtain ⟨gs, off, rfl, e0, e1, e2, e3, e4, e5⟩ := HSC.out k o ho
      have f0 := cell_later MM.out.mine.out e0
      have f1 := cell_later MM.out.mine.out e1
      have f2 := cell_later MM.out.mine.out e2
      have f3 := cell_later MM.out.mine.out e3
      have f4 := cell_later MM.out.mine.out e4
      have f5 := cell_later MM.out.mine.out e5
      have HN : Hid (runS (refNew 500) (l.take (k + 1)) = goS (runS (refNew 500) (l.take k)) o) := run_next ho
      clear ho e0 e1 e2 e3 e4 e5
      go_wp2_with fail
      refine (keepDo o HO.out MM.out).mono ?_
      rintro e w2 ⟨rfl, F2, hm2, hu2, hF2, hk2⟩
      rw [← HN.out] at hm2
      have M2 : Hid (MineF w w2 H F2 (runS (refNew 500) (l.take (k + 1)))) := hm2
      have HO2 : Hid (w2.ownsRow w.heap.size 3 1 (.slice av (k + 1) cv) (k + 1) (endsV l (k + 1))) := own_upd HOW.out hu2 (fun g hg hf => HAP.out g hg hf)
      have AP2 : Hid (∀ g, (Value.slice av (k + 1) cv).ownBlock = some g → ¬ F2 g) := fun g hg hf => (hk2 g hf).elim (HAP.out g hg) (fun h2 => absurd (World.ownsRow.lt HOW.out g hg).2 (by omega))
      have hs2 : w.heap.size ≤ w2.heap.size := hm2.mine.out.size
      have HDS : Hid ((cat ((runS (refNew 500) (l.take (k + 1))).done.map recOf)).size = 42 * doneN l (k + 1)) := disk_size hm2.mine
      have hdn : doneN l (k + 1) ≤ 500 := hm2.good.inv.done
      clear hm2 hu2 hF2 hk2 f0 f1 f2 f3 f4 f5
      generalize hSS : runS (refNew 500) (l.take (k + 1)) = SS at *
      have HSS : Hid (runS (refNew 500) (l.take (k + 1)) = SS) := hSS
      clear hSS
      go_wp2_with fail
      refine (mineDisk M2.out.mine).mono ?_
      rintro e w2 ⟨rfl, rfl⟩
      have hdk := HDS.out
      generalize cat (SS.done.map recOf) = dk at *
      have hdi : (dk.size : Int) = endAt l (k + 1) := by unfold endAt; omega
      have hde : endAt l (k + 1) ≤ 21000 := by unfold endAt; omega
      have hde0 : 0 ≤ endAt l (k + 1) := by unfold endAt; omega
      obtain ⟨v6, w6, hrun, hown6, hgrow, -, hat⟩ := run_append_own_at (P := Try.prog) (w2.alloc (.cells #[Value.int .i64 (dk.size : Int)] 3)) w.heap.size 22 22 3 i0 _ 1 8 Try.underlying22 hi hz0 hz1 hz2 rfl (by omega) _ _ _ (World.ownsRow.alloc HO2.out _) ⟨w2.heap.size, 0, none⟩ 1 1 [Value.int .i64 (dk.size : Int)] rfl (cells_new _ _ _) (by simp [Value.oneCell']) (by unfold maxLen; omega) (by omega) (by simp; omega)
      have hu6 : Upd (fun i => (Value.slice av (k + 1) cv).ownBlock = some i) w2 w6 := ((Upd.refl _ w2).alloc _).grown hgrow (fun i e _ => e)
      have M6 : Hid (MineF w w6 H F2 SS) := M2.out.upd hu6 (fun g hg => (World.ownsRow.lt HO2.out g hg).1) (fun g hf hg => AP2.out g hg hf)
      have HO6 : Hid (w6.ownsRow w.heap.size 3 1 v6 (k + 1 + 1) (endsV l (k + 1 + 1))) := by
        rw [hdi] at hown6
        rw [ends_next l (k + 1)]
        exact hown6
      have AP6 : Hid (∀ g, v6.ownBlock = some g → ¬ F2 g) := fun g hg hf => by
        rcases hat with h | h
        · exact AP2.out g (h.symm.trans hg) hf
        · rw [h] at hg
          simp at hg
          have := M2.out.lt hf
          omega
      clear hown6 hgrow hat hu6 hdi hde hde0 hdk
      go_wp2_with (first | (at_builtin; refine wpList_append_run rfl _ _ 22 rfl _ _ _ _ rfl rfl hrun ?_))
      go_wp2_with fail
      go_roundw
      case rel => exact ⟨k + 1, F2, dk, by omega, by go_num, rfl, by rw [HSS.out]; exact M6.out, HO6.out, AP6.out⟩
      case measure => simp [intOf]; omega
    · obtain rfl : k = m := by omega
      have HT : Hid (l.take k = l) := by show _ = _; rw [← HL.out, List.take_length]
      go_wp2_with fail
      go_ret2
      exact ⟨H, F, _, rfl, by have := MM.out; rw [HT.out] at this; exact this, HOW.out, HAP.out⟩

/-- Two brokers that stand alike. -/
def TwoF (w0 w : World) (A : Nat) (FA : Nat → Prop) (B : Nat) (FB : Nat → Prop) (S : RefS) : Prop := MineF w0 w A FA S ∧ MineF w0 w B FB S ∧ ∀ k, FA k → ¬ FB k
theorem two_first {w0 w w1 : World} {A B : Nat} {FA FB : Nat → Prop} {S S1 : RefS} (h2 : MineF w0 w B FB S) (hd : ∀ k, FA k → ¬ FB k) (hs : MineStep w0 w A FA S1 w1) : ∃ FA1, MineF w0 w1 A FA1 S1 ∧ MineF w0 w1 B FB S ∧ (∀ k, FA1 k → ¬ FB k) ∧ Upd FA w w1 ∧ ∀ k, FA1 k → FA k ∨ w.heap.size ≤ k := by
  obtain ⟨F1, hm, hu, hF, hk⟩ := hs
  exact ⟨F1, hm, h2.upd hu (fun k hk => hF k hk) (fun k hb ha => hd k ha hb), fun k h1 hb => (hk k h1).elim (fun h => hd k h hb) (fun h => absurd (h2.lt hb) (by omega)), hu, hk⟩
end Go.Proofs.Ytmjdndhfmfjbiab

namespace Go.Proofs.Ytmjdndhfmfjbiab
open Go.RowKit

set_option maxRecDepth 100000 in
set_option maxHeartbeats 4000000 in
theorem keepSame (l : List StepD) (ao : Option Addr) (m cap : Nat) {w0 w : World} {A B : Nat} {FA FB : Nat → Prop} {S : RefS} (hl : l.length = m) (hsc : StepsAt w0 ao l) (hok : ∀ o ∈ l, StepOk o) (hm : m ≤ 9223372036854775807) (h : TwoF w0 w A FA B FB S) :
    Calls Try.prog 34 #[.pointer (some ⟨A, 0, none⟩), .pointer (some ⟨B, 0, none⟩), .slice ao m cap] w fun e w' => e = .returned (.bool true) ∧ ∃ FA1 FB1, TwoF w0 w' A FA1 B FB1 (runS S l) ∧ Upd (fun k => FA k ∨ FB k) w w' ∧ ∀ k, FA1 k ∨ FB1 k → (FA k ∨ FB k) ∨ w.heap.size ≤ k := by
  have HL : Hid (l.length = m) := hl
  have HSC : Hid (StepsAt w0 ao l) := hsc
  have HOK : Hid (∀ o ∈ l, StepOk o) := hok
  have H0 : Hid (TwoF w0 w A FA B FB S) := h
  clear hl hsc hok h
  go_enter Try.func34, Try.ntmps34
  go_wp2_with fail
  go_loopw [7] (fun i wr => ∃ (k : Nat) (FA1 FB1 : Nat → Prop), k ≤ m ∧ i = .int .i64 (k : Int) ∧ TwoF w0 wr A FA1 B FB1 (runS S (l.take k)) ∧ Upd (fun k => FA k ∨ FB k) w wr ∧ ∀ k, FA1 k ∨ FB1 k → (FA k ∨ FB k) ∨ w.heap.size ≤ k) (fun i _ => m - (intOf i).toNat)
  case atStart => exact ⟨0, FA, FB, Nat.zero_le _, rfl, H0.out, Upd.refl _ _, fun k hk => .inl hk⟩
  case round =>
    obtain ⟨k, FA1, FB1, hkm, rfl, hT, hU, hK⟩ := hrel
    have UU : Hid (Upd (fun k => FA k ∨ FB k) w wr) := hU
    have KK : Hid (∀ k, FA1 k ∨ FB1 k → (FA k ∨ FB k) ∨ w.heap.size ≤ k) := hK
    clear hU hK
    have TT : Hid (TwoF w0 wr A FA1 B FB1 (runS S (l.take k))) := hT
    clear hT
    by_cases hlt : k < m
    · obtain ⟨o, ho⟩ : ∃ o, l[k]? = some o := ⟨_, List.getElem?_eq_getElem (by rw [HL.out]; exact hlt)⟩
      have HO : Hid (StepOk o) := HOK.out o (List.mem_of_getElem? ho)
      obtain ⟨gs, off, rfl, e0, e1, e2, e3, e4, e5⟩ := HSC.out k o ho
      have f0 := cell_later TT.out.1.mine.out e0
      have f1 := cell_later TT.out.1.mine.out e1
      have f2 := cell_later TT.out.1.mine.out e2
      have f3 := cell_later TT.out.1.mine.out e3
      have f4 := cell_later TT.out.1.mine.out e4
      have f5 := cell_later TT.out.1.mine.out e5
      have HN : Hid (runS S (l.take (k + 1)) = goS (runS S (l.take k)) o) := run_next ho
      clear ho
      generalize runS S (l.take k) = T at *
      go_wp2_with fail
      refine (keepDo o HO.out TT.out.1).mono ?_
      rintro e w2 ⟨rfl, hs2⟩
      obtain ⟨FA2, a2, b2, d2, u2, k2⟩ := two_first TT.out.2.1 TT.out.2.2 hs2
      have U2 : Hid (Upd (fun k => FA k ∨ FB k) w w2) := UU.out.trans u2 (fun i hi hf => (KK.out i (.inl hf)).resolve_right (by omega))
      have K2 : Hid (∀ k, FA2 k ∨ FB1 k → (FA k ∨ FB k) ∨ w.heap.size ≤ k) := fun k hk => by
        rcases hk with hk | hk
        · rcases k2 k hk with h | h
          · exact KK.out k (.inl h)
          · exact .inr (Nat.le_trans UU.out.size h)
        · exact KK.out k (.inr hk)
      have A2 : Hid (MineF w0 w2 A FA2 (goS T o)) := a2
      have B2 : Hid (MineF w0 w2 B FB1 T) := b2
      have D2 : Hid (∀ k, FB1 k → ¬ FA2 k) := fun k hb ha => d2 k ha hb
      have g0 := cell_later a2.mine.out e0
      have g1 := cell_later a2.mine.out e1
      have g2 := cell_later a2.mine.out e2
      have g3 := cell_later a2.mine.out e3
      have g4 := cell_later a2.mine.out e4
      have g5 := cell_later a2.mine.out e5
      clear hs2 a2 b2 d2 u2 k2 f0 f1 f2 f3 f4 f5 e0 e1 e2 e3 e4 e5
      go_wp2_with fail
      refine (keepDo o HO.out B2.out).mono ?_
      rintro e w3 ⟨rfl, hs3⟩
      obtain ⟨FB3, b3, a3, d3, u3, k3⟩ := two_first A2.out D2.out hs3
      have U3 : Hid (Upd (fun k => FA k ∨ FB k) w w3) := U2.out.trans u3 (fun i hi hf => (K2.out i (.inr hf)).resolve_right (by omega))
      have K3 : Hid (∀ k, FA2 k ∨ FB3 k → (FA k ∨ FB k) ∨ w.heap.size ≤ k) := fun k hk => by
        rcases hk with hk | hk
        · exact K2.out k (.inl hk)
        · rcases k3 k hk with h | h
          · exact K2.out k (.inr h)
          · exact .inr (Nat.le_trans U2.out.size h)
      have T3 : Hid (TwoF w0 w3 A FA2 B FB3 (runS S (l.take (k + 1)))) := by rw [HN.out]; exact ⟨a3, b3, fun k ha hb => d3 k hb ha⟩
      clear hs3 a3 b3 d3 u3 k3 g0 g1 g2 g3 g4 g5
      go_wp2_with fail
      go_roundw
      case rel => exact ⟨k + 1, FA2, FB3, by omega, by go_num, T3.out, U3.out, K3.out⟩
      case measure => simp [intOf]; omega
    · obtain rfl : k = m := by omega
      have HT : Hid (l.take k = l) := by show _ = _; rw [← HL.out, List.take_length]
      go_wp2_with fail
      go_ret
      exact ⟨rfl, FA1, FB1, by have := TT.out; rw [HT.out] at this; exact this, UU.out, KK.out⟩
end Go.Proofs.Ytmjdndhfmfjbiab

/-
  heraldkeep.Prefix: the math.
-/
namespace Go.Proofs.Ytmjdndhfmfjbiab
open Go.RowKit

theorem run_room (l : List StepD) : ∀ S : RefS, (runS S l).room = S.room := by
  induction l with
  | nil => intro S; rfl
  | cons o l ih => intro S; show (runS (goS S o) l).room = _; rw [ih]; exact do_room S _
theorem go_done (S : RefS) (o : StepD) : (goS S o).done = S.done ∨ (goS S o).done = S.done ++ [opOf o] := by
  unfold goS
  rw [do_done]
  split
  · exact .inr rfl
  · exact .inl rfl
theorem run_more (l : List StepD) : ∀ S : RefS, ∃ D, (runS S l).done = S.done ++ D := by
  induction l with
  | nil => intro S; exact ⟨[], (List.append_nil _).symm⟩
  | cons o l ih =>
    intro S
    obtain ⟨D, hD⟩ := ih (goS S o)
    have e : runS S (o :: l) = runS (goS S o) l := rfl
    rcases go_done S o with h | h
    · exact ⟨D, by rw [e, hD, h]⟩
    · exact ⟨[opOf o] ++ D, by rw [e, hD, h, List.append_assoc]⟩
theorem run_append (S : RefS) (a b : List StepD) : runS S (a ++ b) = runS (runS S a) b := by unfold runS; exact List.foldl_append ..
theorem run_split (l : List StepD) (i : Nat) (S : RefS) : runS S l = runS (runS S (l.take i)) (l.drop i) := by rw [← run_append, List.take_append_drop]
/-- What was done first stands first. -/
theorem run_prefix (l : List StepD) (i : Nat) : (runS (refNew 500) (l.take i)).done = (runS (refNew 500) l).done.take (doneN l i) := by
  obtain ⟨D, hD⟩ := run_more (l.drop i) (runS (refNew 500) (l.take i))
  rw [run_split l i, hD]
  unfold doneN
  rw [List.take_left]
theorem doneN_zero (l : List StepD) : doneN l 0 = 0 := rfl
theorem doneN_step (l : List StepD) (i : Nat) : doneN l (i + 1) = doneN l i ∨ doneN l (i + 1) = doneN l i + 1 := by
  unfold doneN
  cases h : l[i]? with
  | none => left; rw [List.take_add_one, h]; simp
  | some o =>
    rw [run_next h]
    rcases go_done (runS (refNew 500) (l.take i)) o with e | e
    · left; rw [e]
    · right; rw [e]; simp
theorem doneN_mono (l : List StepD) {i j : Nat} (h : i ≤ j) : doneN l i ≤ doneN l j := by
  induction h with
  | refl => exact Nat.le_refl _
  | step _ ih => rename_i j' _; rcases doneN_step l j' with e | e <;> (show _ ≤ doneN l (j' + 1); omega)
theorem doneN_all {l : List StepD} {m : Nat} (h : l.length = m) : doneN l m = (runS (refNew 500) l).done.length := by unfold doneN; rw [← h, List.take_length]
/-- Every count between comes up. -/
theorem doneN_hits (l : List StepD) (j : Nat) : ∀ m, j ≤ doneN l m → ∃ i, i ≤ m ∧ doneN l i = j
  | 0, h => ⟨0, Nat.le_refl _, by rw [doneN_zero] at h ⊢; omega⟩
  | m + 1, h => by
    by_cases h2 : j ≤ doneN l m
    · obtain ⟨i, hi, e⟩ := doneN_hits l j m h2
      exact ⟨i, Nat.le_succ_of_le hi, e⟩
    · exact ⟨m + 1, Nat.le_refl _, by rcases doneN_step l m with e | e <;> omega⟩
/-- The last place at which it is no more. -/
def lastLe (f : Nat → Int) (k : Int) : Nat → Nat
  | 0 => 0
  | i + 1 => if f i ≤ k then i else lastLe f k i
theorem lastLe_le {f : Nat → Int} {k : Int} : ∀ n, lastLe f k (n + 1) ≤ n
  | 0 => by unfold lastLe; split <;> simp [lastLe]
  | n + 1 => by
    unfold lastLe
    split
    · exact Nat.le_refl _
    · exact Nat.le_succ_of_le (lastLe_le n)
theorem lastLe_ok {f : Nat → Int} {k : Int} (h0 : f 0 ≤ k) : ∀ n, f (lastLe f k n) ≤ k
  | 0 => h0
  | n + 1 => by
    unfold lastLe
    split
    · assumption
    · exact lastLe_ok h0 n
theorem lastLe_last {f : Nat → Int} {k : Int} {i : Nat} (hi : f i ≤ k) : ∀ n, i < n → i ≤ lastLe f k n
  | 0, h => by omega
  | n + 1, h => by
    unfold lastLe
    split
    · omega
    · rename_i hn
      have hin : i ≠ n := fun e => hn (e ▸ hi)
      exact lastLe_last hi n (by omega)
theorem prefix_count {l : List StepD} {m k : Nat} : doneN l (lastLe (endAt l) (k : Int) (m + 1)) = min (k / 42) (doneN l m) := by
  have h0 : endAt l 0 ≤ (k : Int) := by unfold endAt; rw [doneN_zero]; omega
  have h1 := lastLe_ok h0 (m + 1)
  have h2 : lastLe (endAt l) (k : Int) (m + 1) ≤ m := lastLe_le m
  have h3 := doneN_mono l h2
  generalize hn : lastLe (endAt l) (k : Int) (m + 1) = n at *
  unfold endAt at h1
  obtain ⟨i, hi, e⟩ := doneN_hits l (min (k / 42) (doneN l m)) m (by omega)
  have h4 : i ≤ n := by rw [← hn]; exact lastLe_last (by unfold endAt; rw [e]; omega) (m + 1) (by omega)
  have h5 := doneN_mono l h4
  omega
theorem prefix_state {l : List StepD} {n j : Nat} (hg : Good (runS (refNew 500) (l.take n))) (hj : j = doneN l n) : { replay ((runS (refNew 500) l).done.take j) with room := 500 } = runS (refNew 500) (l.take n) := by
  have h := hg.again
  rw [run_prefix l n, run_room] at h
  rw [hj]
  exact h.symm
theorem take_size {R : List ByteArray} (h : ∀ r ∈ R, r.size = 42) {j : Nat} (hj : j ≤ R.length) : (cat R).extract 0 (42 * j) = cat (R.take j) := by
  apply ba_ext
  rw [ba_extract, List.drop_zero]
  have e : cat R = cat (R.take j) ++ cat (R.drop j) := by rw [← cat_append, List.take_append_drop]
  have hl : (cat (R.take j)).data.toList.length = 42 * j := by
    rw [← ba_size, cat_size (fun r hr => h r (List.mem_of_mem_take hr)), List.length_take, Nat.min_eq_left hj]
  rw [e, ba_list, ← hl, List.take_left]

def stepA : StepD := ⟨0, 0, 0, 0, 0, ⟨#[64]⟩⟩
def stepB : StepD := ⟨2, 0, 0, 5, 9, ⟨#[97]⟩⟩
def stepC : StepD := ⟨5, 0, 3, 0, 0, ⟨#[]⟩⟩
theorem first_three (l : List StepD) : doneN (stepA :: stepB :: stepC :: l) 1 = 1 ∧ doneN (stepA :: stepB :: stepC :: l) 2 = 2 ∧ doneN (stepA :: stepB :: stepC :: l) 3 = 3 := by
  refine ⟨?_, ?_, ?_⟩
  · show (runS (refNew 500) [stepA]).done.length = 1
    decide +kernel
  · show (runS (refNew 500) [stepA, stepB]).done.length = 2
    decide +kernel
  · show (runS (refNew 500) [stepA, stepB, stepC]).done.length = 3
    decide +kernel

theorem mineBack {wa w : World} {H : Nat} {S : RefS} (d : ByteArray) (k : Nat) (hm : Mine wa w H S) (hd : Damaged (cat (S.done.map recOf)) d k) :
    Calls Try.prog 30 #[.string d, .int .i64 500] w fun e w' => ∃ H1 F1, e = .returned (.tuple #[.pointer (some ⟨H1, 0, none⟩), .int .i64 0]) ∧ MineF w w' H1 F1 { replay (S.done.take (wholeN (S.done.map recOf) k)) with room := 500 } := by
  obtain ⟨F, R, hp, -, -, hg⟩ := hm
  have hR := hp.recs_eq
  rw [← hR] at hd ⊢
  obtain ⟨hc, hr, hs⟩ := chain_back hp hg hd
  refine (hrNew w 500 hc hs (by omega) (by omega)).mono ?_
  rintro e w' ⟨H1, F1, he, hp1, hk, hb⟩
  exact ⟨H1, F1, he, _, hp1, hk, hb, hg.back _ (by omega) (by omega)⟩
theorem rec42 {wa w : World} {H : Nat} {S : RefS} (hm : Mine wa w H S) : ∀ r ∈ S.done.map recOf, r.size = 42 := by
  obtain ⟨F, R, ⟨x, fil, wait, hb, -⟩, -⟩ := hm
  have := hb.r42
  rw [hb.recs] at this
  exact this
end Go.Proofs.Ytmjdndhfmfjbiab

namespace Go.Proofs.Ytmjdndhfmfjbiab
open Go.RowKit

def stepCells (o : StepD) : List Value := [.int .i64 o.kind, .int .i64 o.a, .int .i64 o.b, .int .i64 o.c, .int .i64 o.d, .string o.s]
theorem step_len (o : StepD) : (stepCells o).length = 6 := rfl
theorem steps_one (l : List StepD) : ∀ u ∈ l.flatMap stepCells, u.oneCell' = true := fun u hu => by
  obtain ⟨o, -, ho⟩ := List.mem_flatMap.1 hu
  simp only [stepCells, List.mem_cons, List.not_mem_nil, or_false] at ho
  rcases ho with rfl | rfl | rfl | rfl | rfl | rfl <;> rfl
theorem infoStep : (Try.prog.info? 59).map (fun i => (i.zero, i.size, i.bytes)) = some (some (.agg #[.int .i64 0, .int .i64 0, .int .i64 0, .int .i64 0, .int .i64 0, .string ⟨#[]⟩]), 6, 56) := by kernel_rfl
theorem step_get {w : World} {g off : Nat} {o : StepD} (h : StepAt w g off o) {r : Nat} {u : Value} (hu : (stepCells o)[r]? = some u) : w.cell? ⟨g, off + r, none⟩ = some u := by
  obtain ⟨h0, h1, h2, h3, h4, h5⟩ := h
  have hr : r < 6 := (List.getElem?_eq_some_iff.1 hu).1
  rcases (show r = 0 ∨ r = 1 ∨ r = 2 ∨ r = 3 ∨ r = 4 ∨ r = 5 from by omega) with rfl | rfl | rfl | rfl | rfl | rfl <;> (simp only [stepCells, List.getElem?_cons_succ, List.getElem?_cons_zero, Option.some.injEq] at hu; subst hu; assumption)
theorem steps_cells {w : World} {b off : Nat} {l : List StepD} (h : StepsAt w (some ⟨b, off, none⟩) l) : ∀ j u, (l.flatMap stepCells)[j]? = some u → w.cell? ((⟨b, off, none⟩ : Addr).add j) = some u := fun j u hj => by
  have hlt := (List.getElem?_eq_some_iff.1 hj).1
  rw [flat_len stepCells 6 step_len] at hlt
  obtain ⟨o, ho⟩ : ∃ o, l[j / 6]? = some o := ⟨_, List.getElem?_eq_getElem (by omega)⟩
  have e : j / 6 * 6 + j % 6 = j := by omega
  have hg := flat_get stepCells 6 step_len l (j / 6) (j % 6) o ho (by omega)
  rw [e, hj] at hg
  obtain ⟨g, off', he, hs⟩ := h (j / 6) o ho
  simp only [Option.some.injEq, Addr.mk.injEq, and_true] at he
  obtain ⟨rfl, rfl⟩ := he
  have := step_get hs hg.symm
  rw [Addr.add_lit]
  rw [show off + j / 6 * 6 + j % 6 = off + j from by omega] at this
  exact this
theorem steps_of_row {w : World} {ao : Option Addr} {l : List StepD} (h : CellsAt w ao (l.flatMap stepCells)) : StepsAt w ao l := fun j o ho => by
  have key : ∀ r u, (stepCells o)[r]? = some u → ∃ g, ao = some ⟨g, 0, none⟩ ∧ w.cell? ⟨g, j * 6 + r, none⟩ = some u := fun r u hu => by
    have hr : r < 6 := (List.getElem?_eq_some_iff.1 hu).1
    exact h (j * 6 + r) u (by rw [flat_get stepCells 6 step_len l j r o ho hr]; exact hu)
  obtain ⟨g, e, c0⟩ := key 0 _ rfl
  obtain ⟨g1, e1, c1⟩ := key 1 _ rfl
  obtain ⟨g2, e2, c2⟩ := key 2 _ rfl
  obtain ⟨g3, e3, c3⟩ := key 3 _ rfl
  obtain ⟨g4, e4, c4⟩ := key 4 _ rfl
  obtain ⟨g5, e5, c5⟩ := key 5 _ rfl
  rw [e] at e1 e2 e3 e4 e5
  cases e1; cases e2; cases e3; cases e4; cases e5
  refine ⟨g, 0, e, ?_⟩
  rw [Nat.zero_add]
  exact ⟨c0, c1, c2, c3, c4, c5⟩

def litCells : Array Value := #[.int .i64 0, .int .i64 0, .int .i64 0, .int .i64 0, .int .i64 0, .string ⟨#[64]⟩, .int .i64 2, .int .i64 0, .int .i64 0, .int .i64 5, .int .i64 9, .string ⟨#[97]⟩, .int .i64 5, .int .i64 0, .int .i64 3, .int .i64 0, .int .i64 0, .string ⟨#[]⟩]
theorem lit_cells : litCells.toList = [stepA, stepB, stepC].flatMap stepCells := rfl
theorem all_run {l : List StepD} {ao : Option Addr} {m cap : Nat} (w : World) (hl : l.length = m) (hm : m ≤ 1048576) (hsc : StepsAt w ao l) (hn : ao = none → m = 0 ∧ cap = 0) :
    ∃ v1 w1, (Builtin.append_ #[57, 57] 57 #[.slice (some ⟨w.heap.size, 0, none⟩) 3 3, .slice ao m cap]).run Try.prog (w.alloc (.cells litCells 59)) = .ok v1 w1 ∧
      w1.ownsRow w.heap.size 59 6 v1 (stepA :: stepB :: stepC :: l).length ((stepA :: stepB :: stepC :: l).flatMap stepCells) ∧ Below w.heap.size w w1 := by
  obtain ⟨i0, hi, hz0, hz1, hz2⟩ := info_parts infoStep
  have h0 : (w.alloc (.cells litCells 59)).ownsRow w.heap.size 59 6 (.slice (some ⟨w.heap.size, 0, none⟩) 3 3) 3 litCells.toList := World.ownsRow_lit w litCells 3 (Nat.le_refl _) (by unfold maxLen; omega) rfl
  have hb0 := below_one w (.cells litCells 59)
  have e : (stepA :: stepB :: stepC :: l).flatMap stepCells = litCells.toList ++ l.flatMap stepCells := by
    rw [lit_cells, ← List.flatMap_append]; rfl
  cases ao with
  | none =>
    obtain ⟨rfl, rfl⟩ := hn rfl
    obtain rfl : l = [] := List.eq_nil_of_length_eq_zero hl
    exact ⟨_, _, run_append_owned_none (P := Try.prog) _ w.heap.size _ _ 59 i0 6 Try.underlying57 hi _ _ _ h0, by rw [e, List.flatMap_nil, List.append_nil]; exact h0, hb0⟩
  | some a =>
    have hsc2 : StepsAt (w.alloc (.cells litCells 59)) (some a) l := fun j o ho => by
      obtain ⟨g, off', he, h1, h2, h3, h4, h5, h6⟩ := hsc j o ho
      exact ⟨g, off', he, cell_later hb0 h1, cell_later hb0 h2, cell_later hb0 h3, cell_later hb0 h4, cell_later hb0 h5, cell_later hb0 h6⟩
    have hnews : ∀ j u, (l.flatMap stepCells)[j]? = some u → (w.alloc (.cells litCells 59)).cell? (a.add j) = some u := fun j u hj => by
      cases l with
      | nil => simp at hj
      | cons o t =>
        obtain ⟨g, off, he, -⟩ := hsc2 0 o rfl
        simp only [Option.some.injEq] at he
        subst he
        exact steps_cells hsc2 j u hj
    obtain ⟨v1, w1, hrun, hown, hgrow, -, -⟩ := run_append_own_at (P := Try.prog) (w.alloc (.cells litCells 59)) w.heap.size 57 57 59 i0 _ 6 56 Try.underlying57 hi hz0 hz1 hz2 rfl (by omega) _ _ _ h0 a m cap (l.flatMap stepCells) (by rw [flat_len stepCells 6 step_len, hl]) hnews (steps_one l) (by unfold maxLen; omega) (by omega) (by simp)
    refine ⟨v1, w1, hrun, ?_, ?_⟩
    · rw [e, show (stepA :: stepB :: stepC :: l).length = 3 + m from by simp [hl]; omega]
      exact hown
    · exact hb0.trans (below_of_upd (S := fun i => (Value.slice (some ⟨w.heap.size, 0, none⟩) 3 3).ownBlock = some i) ((Upd.refl _ _).grown hgrow (fun _ e _ => e)) (by simp) (fun g hg => by simp [Value.ownBlock] at hg; omega))
end Go.Proofs.Ytmjdndhfmfjbiab

namespace Go.Proofs.Ytmjdndhfmfjbiab
open Go.RowKit

theorem StepsAt.below {w w1 : World} {ao : Option Addr} {l : List StepD} (h : StepsAt w ao l) (hb : Below w.heap.size w w1) : StepsAt w1 ao l := fun j o ho => by
  obtain ⟨g, off, he, h1, h2, h3, h4, h5, h6⟩ := h j o ho
  exact ⟨g, off, he, cell_later hb h1, cell_later hb h2, cell_later hb h3, cell_later hb h4, cell_later hb h5, cell_later hb h6⟩
theorem ends_cell {w : World} {ge : Nat} {l : List StepD} {n : Nat} (h : CellsAt w (some ⟨ge, 0, none⟩) (endsV l n)) {i : Nat} (hi : i < n) : w.cell? ⟨ge, i, none⟩ = some (.int .i64 (endAt l i)) := by
  obtain ⟨g, e, hc⟩ := h i (.int .i64 (endAt l i)) (by unfold endsV; simp [hi])
  cases e
  exact hc
theorem last_hit' {f : Nat → Int} {k : Int} {q : Nat} (h : f q ≤ k) : lastLe f k (q + 1) = q := by rw [lastLe, if_pos h]
theorem last_miss' {f : Nat → Int} {k : Int} {q : Nat} (h : ¬ f q ≤ k) : lastLe f k (q + 1) = lastLe f k q := by rw [lastLe, if_neg h]
theorem ret_num {a b : Int} (h : a = b) : Value.int .i64 a = Value.int .i64 b := by rw [h]

abbrev LookC (L : LookD) (xa : Option Addr) (xc : Nat) (ya : Option Addr) (yc : Nat) (za : Option Addr) (zc : Nat) (ua : Option Addr) (uc : Nat) : Array Value := #[.int .i64 L.time, .slice xa 8 xc, .slice ya 8 yc, .slice za 8 zc, .slice ua L.wait.length uc, .int .i64 L.recs]
theorem keepLookF {w0 w : World} {H : Nat} {S : RefS} {L : LookD} (hL : lookM S = L) (h : Mine w0 w H S) :
    Calls Try.prog 32 #[.pointer (some ⟨H, 0, none⟩)] w fun e w' => ∃ xa xc ya yc za zc ua uc FV QV, e = .returned (.agg #[.int .i64 L.time, .slice xa 8 xc, .slice ya 8 yc, .slice za 8 zc, .slice ua L.wait.length uc, .int .i64 L.recs]) ∧
      LookIn w' w.heap.size w'.heap.size L (.slice xa 8 xc) (.slice ya 8 yc) (.slice za 8 zc) (.slice ua L.wait.length uc) FV QV ∧ Below w.heap.size w w' := by
  subst hL
  refine (keepLook h).mono ?_
  rintro e w2 ⟨v, rfl, hl2, hb2⟩
  obtain ⟨fv, qv, lv, wv, FV, QV, rfl, hli⟩ := hl2
  obtain ⟨xa, xc, rfl, -, -, -⟩ := hli.fil.form
  obtain ⟨ya, yc, rfl, -, -, -⟩ := hli.que.form
  obtain ⟨za, zc, rfl, -, -, -⟩ := hli.lost.form
  obtain ⟨ua, uc, rfl, -, -, -⟩ := hli.wait.form
  exact ⟨xa, xc, ya, yc, za, zc, ua, uc, FV, QV, rfl, hli, hb2⟩
/-- A look's own block. -/
def LookB (w : World) (g : Nat) (cs : Array Value) : Prop := w.heap[g]? = some (.cells cs 70 (0, 0))
theorem LookB.cell {w : World} {g : Nat} {cs : Array Value} (h : LookB w g cs) (j : Nat) (u : Value) (hj : cs[j]? = some u) : w.cell? ⟨g, j, none⟩ = some u := by rw [cell_of_row _ g j _ _ (0, 0) h]; exact hj
theorem LookB.frozen {w : World} {g : Nat} {cs : Array Value} (h : LookB w g cs) (j : Nat) : w.frozen? ⟨g, j, none⟩ = false := frozen_of_row w g j _ _ h
theorem LookB.lt {w : World} {g : Nat} {cs : Array Value} (h : LookB w g cs) : g < w.heap.size := (Array.getElem?_eq_some_iff.1 h).1
theorem LookB.upd {P : Nat → Prop} {w w1 : World} {g : Nat} {cs : Array Value} (h : LookB w g cs) (hu : Upd P w w1) (hn : ¬ P g) : LookB w1 g cs := by
  unfold LookB
  rw [hu.block g h.lt hn]; exact h
theorem LookB.below {w w1 : World} {g : Nat} {cs : Array Value} (h : LookB w g cs) (hb : Below w.heap.size w w1) : LookB w1 g cs := h.upd (P := fun _ => False) (Upd.of_below hb) (fun f => f)
theorem LookB.new (w : World) (cs : Array Value) : LookB (w.alloc (.cells cs 70)) w.heap.size cs := heap_alloc_new w _
theorem LookB.put {w : World} {g : Nat} {x0 x1 x2 x3 x4 x5 a b c d e f : Value} (h : LookB w g #[x0, x1, x2, x3, x4, x5]) : LookB ((((((w.setCell ⟨g, 0, none⟩ a).setCell ⟨g, 1, none⟩ b).setCell ⟨g, 2, none⟩ c).setCell ⟨g, 3, none⟩ d).setCell ⟨g, 4, none⟩ e).setCell ⟨g, 5, none⟩ f) g #[a, b, c, d, e, f] := by
  unfold LookB
  rw [heap_setCell_row _ g 5 _ _ _ (heap_setCell_row _ g 4 _ _ _ (heap_setCell_row _ g 3 _ _ _ (heap_setCell_row _ g 2 _ _ _ (heap_setCell_row _ g 1 _ _ _ (heap_setCell_row w g 0 _ _ _ h)))))]
  rfl
theorem upd_put (w : World) (g : Nat) (a b c d e f : Value) : Upd (fun k => k = g) w ((((((w.setCell ⟨g, 0, none⟩ a).setCell ⟨g, 1, none⟩ b).setCell ⟨g, 2, none⟩ c).setCell ⟨g, 3, none⟩ d).setCell ⟨g, 4, none⟩ e).setCell ⟨g, 5, none⟩ f) :=
  ((((((Upd.refl (fun k => k = g) w).setCell (p := ⟨g, 0, none⟩) (fun _ => rfl) _).setCell (p := ⟨g, 1, none⟩) (fun _ => rfl) _).setCell (p := ⟨g, 2, none⟩) (fun _ => rfl) _).setCell (p := ⟨g, 3, none⟩) (fun _ => rfl) _).setCell (p := ⟨g, 4, none⟩) (fun _ => rfl) _).setCell (p := ⟨g, 5, none⟩) (fun _ => rfl) _
theorem two_upd {P : Nat → Prop} {w0 w w1 : World} {A B : Nat} {FA FB : Nat → Prop} {S : RefS} (h : TwoF w0 w A FA B FB S) (hu : Upd P w w1) (h0 : ∀ k, P k → w0.heap.size ≤ k) (hn : ∀ k, P k → ¬ FA k ∧ ¬ FB k) : TwoF w0 w1 A FA B FB S :=
  ⟨h.1.upd hu h0 (fun k hk hp => (hn k hp).1 hk), h.2.1.upd hu h0 (fun k hk hp => (hn k hp).2 hk), h.2.2⟩
theorem two_below {w0 w w1 : World} {A B : Nat} {FA FB : Nat → Prop} {S : RefS} (h : TwoF w0 w A FA B FB S) (hb : Below w.heap.size w w1) : TwoF w0 w1 A FA B FB S := ⟨h.1.below hb, h.2.1.below hb, h.2.2⟩
theorem turn_facts2 {D : ByteArray} {w3 w4 : World} {n cap : Nat} {c t : Int} (hb4 : Below w3.heap.size w3 w4) (hby : ∀ j, j < D.size → w4.cell? ⟨w3.heap.size, j, none⟩ = some (.int .u8 (D[j]!.toNat : Int)) ∧ w4.frozen? ⟨w3.heap.size, j, none⟩ = false) (hn : n < D.size) (hc : (D[n]!.toNat : Int) = c) (h1 : 1 ≤ t) (h2 : t < 256) :
    ∃ d, Damaged D d n ∧ (convert 63 9 (.slice (some ⟨w3.heap.size, 0, none⟩) D.size cap)).run Try.prog (w4.setCell ⟨w3.heap.size, n, none⟩ (.int .u8 ((c + t) % 256))) = .ok (.string d) (w4.setCell ⟨w3.heap.size, n, none⟩ (.int .u8 ((c + t) % 256))) ∧ Below w3.heap.size w3 (w4.setCell ⟨w3.heap.size, n, none⟩ (.int .u8 ((c + t) % 256))) := by
  have hcb := D[n]!.toNat_lt
  have hu : ((UInt8.ofNat ((c + t) % 256).toNat).toNat : Int) = (c + t) % 256 := by rw [UInt8.toNat_ofNat']; omega
  refine ⟨D.set! n (UInt8.ofNat ((c + t) % 256).toNat), .inr ⟨hn, ByteArray.size_set! _ _ _, fun i _ hne => ByteArray.getElem!_set!_ne _ _ _ _ (fun e => hne e.symm), ?_⟩, ?_, ?_⟩
  · rw [ByteArray.getElem!_set!_self _ _ _ hn]
    intro e
    rw [e, hc] at hu
    omega
  · refine bytes_back _ D w3.heap.size n cap _ hn (fun j hj => ?_)
    by_cases hjn : j = n
    · subst hjn
      rw [if_pos rfl, World.cell?_setCell_same _ _ _ (hby j hj).1, hu]
    · rw [if_neg hjn, World.cell?_setCell_other _ _ _ _ (by simp)]
      exact (hby j hj).1
  · exact hb4.setCell (Nat.le_refl _) _
end Go.Proofs.Ytmjdndhfmfjbiab

namespace Go.Proofs.Ytmjdndhfmfjbiab
open Go.RowKit

set_option maxRecDepth 100000 in
set_option maxHeartbeats 1000000 in
theorem prefixWalk (l : List StepD) (ao : Option Addr) (m cap : Nat) (at' by' : Int) (r : List StepD) (bo : Option Addr) (p cap2 : Nat) (w : World) (hl : l.length = m) (hm : m ≤ 1048576) (hsc : StepsAt w ao l) (hok : ∀ o ∈ l, StepOk o) (hn : ao = none → m = 0 ∧ cap = 0)
    (hl2 : r.length = p) (hp : p ≤ 1048576) (hsc2 : StepsAt w bo r) (hok2 : ∀ o ∈ r, StepOk o) (ha0 : -9223372036854775808 ≤ at') (ha1 : at' ≤ 9223372036854775807) (hb0 : -9223372036854775808 ≤ by') (hb1 : by' ≤ 9223372036854775807) :
    Calls Try.prog 5 #[.slice ao m cap, .int .i64 at', .int .i64 by', .slice bo p cap2] w fun e w' => e = .returned (.bool true) ∧ Below w.heap.size w w' := by
  obtain ⟨v1, w1, hrun, hown, hbw1⟩ := all_run w hl hm hsc hn
  have HRS : Hid (r.length = p ∧ StepsAt w bo r ∧ ∀ o ∈ r, StepOk o) := ⟨hl2, hsc2, hok2⟩
  have HOK : Hid (∀ o ∈ stepA :: stepB :: stepC :: l, StepOk o) := fun o ho => by
    simp only [List.mem_cons] at ho
    rcases ho with rfl | rfl | rfl | ho
    · exact ⟨by decide, by decide, by decide, by decide, by decide, by unfold maxLen; show 1 ≤ _; omega⟩
    · exact ⟨by decide, by decide, by decide, by decide, by decide, by unfold maxLen; show 1 ≤ _; omega⟩
    · exact ⟨by decide, by decide, by decide, by decide, by decide, by unfold maxLen; show 0 ≤ _; omega⟩
    · exact hok o ho
  obtain ⟨t1, t2, t3⟩ := first_three l
  have hNl : (stepA :: stepB :: stepC :: l).length = m + 3 := by simp [hl]
  generalize hL : stepA :: stepB :: stepC :: l = L at *
  rw [hNl] at hown
  obtain ⟨a1, c1, rfl, -, -, hc1⟩ := Row.form (own_mono hown (Nat.zero_le _))
  have SA1 : Hid (StepsAt w1 a1 L) := steps_of_row hc1
  have HNL : Hid (L.length = m + 3) := hNl
  have HBW1 : Hid (Below w.heap.size w w1) := hbw1
  have x0 : endAt L 0 = 0 := rfl
  have x1 : endAt L 1 = 42 := by unfold endAt; rw [t1]; rfl
  have x2 : endAt L 2 = 84 := by unfold endAt; rw [t2]; rfl
  have x3 : endAt L 3 = 126 := by unfold endAt; rw [t3]; rfl
  have X0 : Hid (endAt L 0 = 0 ∧ endAt L 1 = 42 ∧ endAt L 2 = 84 ∧ endAt L 3 = 126) := ⟨x0, x1, x2, x3⟩
  have T3 : Hid (doneN L 3 = 3) := t3
  clear hl hsc hok hn hl2 hsc2 hok2 hown hc1 hNl hL t1 t2 t3 x0 x1 x2 x3 hbw1
  unfold litCells at hrun
  go_enter Try.func5, Try.ntmps5
  go_wp2_with (first | (at_builtin; refine wpList_append_run rfl _ _ 57 rfl _ _ _ _ rfl rfl hrun ?_))
  refine (keepPlayed L a1 (m + 3) c1 w1 HNL.out (by omega) SA1.out HOK.out).mono ?_
  rintro e w2 ⟨H, F, v2, rfl, hm2, ho2, hap2⟩
  generalize hSS : runS (refNew 500) L = S at *
  have HSS : Hid (runS (refNew 500) L = S) := hSS
  have M2 : Hid (MineF w1 w2 H F S) := hm2
  obtain ⟨a2, c2, rfl, hc2, -, hce⟩ := Row.form (own_mono ho2 (Nat.zero_le _))
  obtain ⟨ge, he, -⟩ := hce 0 (.int .i64 (endAt L 0)) (by unfold endsV; simp)
  subst he
  have HCE : Hid (CellsAt w2 (some ⟨ge, 0, none⟩) (endsV L (m + 3 + 1))) := hce
  have HDC : Hid (doneN L (m + 3) = S.done.length) := by show _ = _; rw [doneN_all HNL.out, hSS]
  have hdc3 : 3 ≤ S.done.length := by rw [← HDC.out]; exact Nat.le_trans (Nat.le_of_eq T3.out.symm) (doneN_mono L (by omega))
  have hdc5 : S.done.length ≤ 500 := hm2.good.inv.done
  have HDS : Hid ((cat (S.done.map recOf)).size = 42 * S.done.length) := disk_size hm2.mine
  have H42 : Hid (∀ r ∈ S.done.map recOf, r.size = 42) := rec42 hm2.mine
  have z0 : w2.cell? ⟨ge, 0, none⟩ = some (.int .i64 0) := by rw [ends_cell hce (by omega), X0.out.1]
  have z1 : w2.cell? ⟨ge, 1, none⟩ = some (.int .i64 42) := by rw [ends_cell hce (by omega), X0.out.2.1]
  have z2 : w2.cell? ⟨ge, 2, none⟩ = some (.int .i64 84) := by rw [ends_cell hce (by omega), X0.out.2.2.1]
  have z3 : w2.cell? ⟨ge, 3, none⟩ = some (.int .i64 126) := by rw [ends_cell hce (by omega), X0.out.2.2.2]
  have HEB0 : Hid (∀ q, endAt L q ≤ 9223372036854775807 ∧ 0 ≤ endAt L q) := fun q => by
    obtain ⟨D, hD⟩ := run_more (L.drop q) (runS (refNew 500) (L.take q))
    rw [← run_split, hSS] at hD
    have h1 : doneN L q ≤ S.done.length := by unfold doneN; rw [hD, List.length_append]; omega
    unfold endAt
    omega
  clear hSS hm2 ho2 hap2 hce hrun
  generalize hNE : m + 3 + 1 = NE at *
  have HNE : Hid (m + 3 + 1 = NE) := hNE
  have hne4 : ¬ ((NE : Int) < 4) := by omega
  have hne5 : (0 : Int) < (NE : Int) ∧ (1 : Int) < (NE : Int) ∧ (2 : Int) < (NE : Int) ∧ (3 : Int) < (NE : Int) := by omega
  obtain ⟨q0, q1, q2, q3⟩ := hne5
  have hneb : decide ((NE : Int) < 4) = false := decide_eq_false hne4
  have hneu : (NE : Int) ≤ 1048580 := by omega
  clear hNE
  go_wp2_with fail
  go_quiet (fail)
  generalize hw3 : w2.drewN nq = w3
  have hb3 : Below w2.heap.size w2 w3 := by rw [← hw3]; exact below_drewN (Below.refl _ _)
  have M3 : Hid (MineF w1 w3 H F S) := M2.out.below hb3
  have HCE3 : Hid (CellsAt w3 (some ⟨ge, 0, none⟩) (endsV L NE)) := HCE.out.below hb3
  clear hw3 hb3 z0 z1 z2 z3
  go_wp2_with fail
  refine (mineDisk M3.out.mine).mono ?_
  rintro e w3 ⟨rfl, rfl⟩
  have hds := HDS.out
  generalize hdk : cat (S.done.map recOf) = dk at *
  have HDK : Hid (cat (S.done.map recOf) = dk) := hdk
  have HDZ : Hid (dk.size = 42 * S.done.length) := hds
  have hdz1 : 126 ≤ dk.size := by omega
  have hdz2 : dk.size ≤ 21000 := by omega
  clear hdk hds
  go_wp2_with fail
  refine (keepPick at' ((dk.size : Int) + 1) _ ha0 ha1 (by omega) (by omega)).mono ?_
  rintro e w3 ⟨rfl, rfl⟩
  have hk1 := pick_bd at' ((dk.size : Int) + 1) (by omega)
  obtain ⟨k1, hk1e⟩ : ∃ k1 : Nat, pickM at' ((dk.size : Int) + 1) = (k1 : Int) := ⟨(pickM at' ((dk.size : Int) + 1)).toNat, by omega⟩
  rw [hk1e] at hk1 ⊢
  have hk1s : k1 ≤ dk.size := by omega
  clear hk1e
  go_wp2_with fail
  refine (keepPick by' 256 _ hb0 hb1 (by omega) (by omega)).mono ?_
  rintro e w3 ⟨rfl, rfl⟩
  have ht := pick_bd by' 256 (by omega)
  generalize pickM by' 256 = t at *
  by_cases ht0 : t = 0
  · subst ht0
    have HDAM : Hid (Damaged (cat (S.done.map recOf)) (dk.extract 0 k1) k1) := by rw [HDK.out]; exact .inl ⟨hk1s, rfl⟩
    have HEB : Hid (∀ q, endAt L q ≤ 9223372036854775807 ∧ 0 ≤ endAt L q) := HEB0.out
    go_wp2_with fail
    generalize dk.extract 0 k1 = dd at *
    go_loopw [17, 18] (fun nv i wr => ∃ q : Nat, q ≤ NE ∧ i = .int .i64 (q : Int) ∧ nv = .int .i64 ((lastLe (endAt L) (k1 : Int) q : Nat) : Int) ∧ wr = w3) (fun _ i _ => NE - (intOf i).toNat)
    case atStart => exact ⟨0, Nat.zero_le _, rfl, rfl, rfl⟩
    case round =>
      obtain ⟨q, hqn, rfl, rfl, rfl⟩ := hrel
      by_cases hlt : q < NE
      · have hcq := ends_cell HCE3.out hlt
        have hqb : endAt L q ≤ 9223372036854775807 ∧ 0 ≤ endAt L q := HEB.out q
        by_cases hle : endAt L q ≤ (k1 : Int)
        · have HLE : Hid (((q : Nat) : Int) = ((lastLe (endAt L) (k1 : Int) (q + 1) : Nat) : Int)) := by show _ = _; rw [last_hit' hle]
          generalize endAt L q = E at *
          go_wp2_with fail
          go_roundw
          case rel => exact ⟨q + 1, by omega, by go_num, ret_num HLE.out, trivial⟩
          case measure => simp [intOf]; omega
        · have HLE : Hid (((lastLe (endAt L) (k1 : Int) q : Nat) : Int) = ((lastLe (endAt L) (k1 : Int) (q + 1) : Nat) : Int)) := by show _ = _; rw [last_miss' hle]
          generalize endAt L q = E at *
          generalize lastLe (endAt L) (k1 : Int) q = nq' at *
          go_wp2_with fail
          go_roundw
          case rel => exact ⟨q + 1, by omega, by go_num, ret_num HLE.out, trivial⟩
          case measure => simp [intOf]; omega
      · obtain rfl : q = NE := by omega
        have hnn3 : lastLe (endAt L) (k1 : Int) q ≤ m + 3 := by rw [← HNE.out]; exact lastLe_le _
        have HCNT : Hid (doneN L (lastLe (endAt L) (k1 : Int) q) = min (k1 / 42) S.done.length) := by show _ = _; rw [← HNE.out, prefix_count, HDC.out]
        generalize lastLe (endAt L) (k1 : Int) q = nn at *
        have hnnq : nn < q := by have := HNE.out; omega
        have hcn : wr.cell? ⟨ge, nn, none⟩ = some (.int .i64 (endAt L nn)) := ends_cell HCE3.out (by have := HNE.out; omega)
        go_wp2_with fail
        refine (mineBack dd k1 M3.out.mine HDAM.out).mono ?_
        rintro e w4 ⟨Hx, Fx, rfl, hx4⟩
        have X4 : Hid (MineF wr w4 Hx Fx { replay (S.done.take (wholeN (S.done.map recOf) k1)) with room := 500 }) := hx4
        have SA4 : Hid (StepsAt w4 a1 L) := SA1.out.below (M3.out.mine.out.trans (hx4.mine.out.mono M3.out.mine.out.size))
        have hcn4 := cell_later hx4.mine.out hcn
        clear hx4 hcn
        go_wp2_with fail
        refine (keepReplayed L a1 (m + 3) c1 nn w4 HNL.out (by omega) SA4.out HOK.out).mono ?_
        rintro e w5 ⟨Hy, rfl, hy5⟩
        have HST : Hid ({ replay (S.done.take (wholeN (S.done.map recOf) k1)) with room := 500 } = runS (refNew 500) (L.take nn)) := by
          have h := prefix_state (j := wholeN (S.done.map recOf) k1) hy5.good (by rw [whole_all H42.out, List.length_map, HCNT.out])
          rw [HSS.out] at h
          exact h
        have HDN : Hid ((runS (refNew 500) (L.take nn)).done = S.done.take (doneN L nn)) := by show _ = _; rw [run_prefix, HSS.out]
        generalize runS (refNew 500) (L.take nn) = SY at *
        have hcn5 := cell_later hy5.out hcn4
        obtain ⟨Fy, hy5⟩ := hy5.mineF
        have TW5 : Hid (TwoF w w5 Hx Fx Hy Fy SY) := by
          have hbw3 : Below w.heap.size w wr := HBW1.out.trans (M3.out.mine.out.mono HBW1.out.size)
          have x5 : MineF wr w5 Hx Fx SY := by have h := X4.out.below hy5.mine.out; rw [HST.out] at h; exact h
          exact ⟨x5.base hbw3, hy5.base (hbw3.trans (X4.out.mine.out.mono hbw3.size)), fun k ha hb => absurd (X4.out.lt ha) (by have := hy5.low hb; omega)⟩
        have HLFE : Hid (cat (SY.done.map recOf) = dk.extract 0 (42 * doneN L nn)) := by
          show _ = _
          rw [HDN.out, List.map_take, ← HDK.out, take_size H42.out (by rw [List.length_map, HCNT.out]; omega)]
        have hen : endAt L nn = ((42 * doneN L nn : Nat) : Int) := rfl
        have hdn1 : 42 * doneN L nn ≤ dk.size := by rw [HDZ.out, HCNT.out]; omega
        rw [hen] at hcn5
        generalize hce : 42 * doneN L nn = ce at *
        clear hy5 hcn4 hen hce
        go_wp2_with fail
        refine (mineDisk TW5.out.1.mine).mono ?_
        rintro e w5 ⟨rfl, rfl⟩
        rw [HLFE.out]
        generalize hLK : lookM SY = LK
        have HLK : Hid (lookM SY = LK) := hLK
        have HFW : Hid (LookFew LK) := by rw [← hLK]; exact look_good TW5.out.1
        clear hLK
        go_wp2_with fail
        refine (keepLookF HLK.out TW5.out.1.mine).mono ?_
        rintro e w6 ⟨xa, xc, ya, yc, za, zc, ua, uc, FV, QV, rfl, hl6, hb6⟩
        have L6 : Hid (LookIn w6 w5.heap.size w6.heap.size LK (.slice xa 8 xc) (.slice ya 8 yc) (.slice za 8 zc) (.slice ua LK.wait.length uc) FV QV) := hl6
        have TW6 : Hid (TwoF w w6 Hx Fx Hy Fy SY) := two_below TW5.out hb6
        have hcn6 := cell_later hb6 hcn5
        have hs56 : w5.heap.size ≤ w6.heap.size := hb6.size
        clear hl6 hb6 hcn5
        go_wp2_with fail
        generalize hwA : w6.alloc _ = wA
        have hbA : Below w6.heap.size w6 wA := by rw [← hwA]; exact below_one _ _
        have BA : Hid (LookB wA w6.heap.size #[.int .i64 LK.time, .slice xa 8 xc, .slice ya 8 yc, .slice za 8 zc, .slice ua LK.wait.length uc, .int .i64 LK.recs]) := by rw [← hwA]; exact LookB.new _ _
        have TWA : Hid (TwoF w wA Hx Fx Hy Fy SY) := two_below TW6.out hbA
        have LA : Hid (LookIn wA w5.heap.size w6.heap.size LK (.slice xa 8 xc) (.slice ya 8 yc) (.slice za 8 zc) (.slice ua LK.wait.length uc) FV QV) := L6.out.below hbA
        have hcnA := cell_later hbA hcn6
        have hsA : wA.heap.size = w6.heap.size + 1 := by rw [← hwA]; simp
        have HSA : Hid (wA.heap.size = w6.heap.size + 1) := hsA
        clear hwA hbA hcn6 hsA
        refine (keepLookF HLK.out TWA.out.2.1.mine).mono ?_
        rintro e w7 ⟨xa', xc', ya', yc', za', zc', ua', uc', FV', QV', rfl, hl7, hb7⟩
        have L7 : Hid (LookIn w7 wA.heap.size w7.heap.size LK (.slice xa' 8 xc') (.slice ya' 8 yc') (.slice za' 8 zc') (.slice ua' LK.wait.length uc') FV' QV') := hl7
        have LA7 : Hid (LookIn w7 w5.heap.size w6.heap.size LK (.slice xa 8 xc) (.slice ya 8 yc) (.slice za 8 zc) (.slice ua LK.wait.length uc) FV QV) := LA.out.below hb7
        have TW7 : Hid (TwoF w w7 Hx Fx Hy Fy SY) := two_below TWA.out hb7
        have BA7 : Hid (LookB w7 w6.heap.size #[.int .i64 LK.time, .slice xa 8 xc, .slice ya 8 yc, .slice za 8 zc, .slice ua LK.wait.length uc, .int .i64 LK.recs]) := BA.out.below hb7
        have hcn7 := cell_later hb7 hcnA
        have k0 := BA7.out.cell 0 _ rfl
        have k1' := BA7.out.cell 1 _ rfl
        have k2 := BA7.out.cell 2 _ rfl
        have k3 := BA7.out.cell 3 _ rfl
        have k4 := BA7.out.cell 4 _ rfl
        have k5 := BA7.out.cell 5 _ rfl
        have HS7 : Hid (wA.heap.size ≤ w7.heap.size) := hb7.size
        have hlt67 : w6.heap.size < w7.heap.size := BA7.out.lt
        clear hl7 hb7 hcnA
        have HALS : Hid (∀ w8, Below w7.heap.size w7 w8 → Calls Try.prog 33 #[.agg #[.int .i64 LK.time, .slice xa 8 xc, .slice ya 8 yc, .slice za 8 zc, .slice ua LK.wait.length uc, .int .i64 LK.recs], .agg #[.int .i64 LK.time, .slice xa' 8 xc', .slice ya' 8 yc', .slice za' 8 zc', .slice ua' LK.wait.length uc', .int .i64 LK.recs]] w8 fun e w' => e = .returned (.bool true) ∧ Below w8.heap.size w8 w') :=
          fun w8 hb => keepAlike LK HFW.out _ _ w8 _ _ _ _ ⟨_, _, _, _, FV, QV, rfl, LA7.out.below hb⟩ ⟨_, _, _, _, FV', QV', rfl, L7.out.below hb⟩
        go_wp2_with fail
        generalize hwB : w7.alloc _ = wB
        have hbB : Below w7.heap.size w7 wB := by rw [← hwB]; exact below_one _ _
        have BY : Hid (LookB wB w7.heap.size #[.int .i64 LK.time, .slice xa' 8 xc', .slice ya' 8 yc', .slice za' 8 zc', .slice ua' LK.wait.length uc', .int .i64 LK.recs]) := by rw [← hwB]; exact LookB.new _ _
        have BX : Hid (LookB wB w6.heap.size #[.int .i64 LK.time, .slice xa 8 xc, .slice ya 8 yc, .slice za 8 zc, .slice ua LK.wait.length uc, .int .i64 LK.recs]) := BA7.out.below hbB
        have TWB : Hid (TwoF w wB Hx Fx Hy Fy SY) := two_below TW7.out hbB
        have hcnB := cell_later hbB hcn7
        refine (HALS.out _ hbB).mono ?_
        clear hwB hbB hcn7 k0 k1' k2 k3 k4 k5
        rintro e w9 ⟨rfl, hb9⟩
        have BY9 : Hid (LookB w9 w7.heap.size #[.int .i64 LK.time, .slice xa' 8 xc', .slice ya' 8 yc', .slice za' 8 zc', .slice ua' LK.wait.length uc', .int .i64 LK.recs]) := BY.out.below hb9
        have BX9 : Hid (LookB w9 w6.heap.size #[.int .i64 LK.time, .slice xa 8 xc, .slice ya 8 yc, .slice za 8 zc, .slice ua LK.wait.length uc, .int .i64 LK.recs]) := BX.out.below hb9
        have TW9 : Hid (TwoF w w9 Hx Fx Hy Fy SY) := two_below TWB.out hb9
        have hcn9 := cell_later hb9 hcnB
        clear hb9 hcnB
        go_wp2_with fail
        refine (keepSame r bo p cap2 HRS.out.1 HRS.out.2.1 HRS.out.2.2 (by omega) TW9.out).mono ?_
        rintro e w10 ⟨rfl, FA1, FB1, ht10, hu10, hk10⟩
        have nx : ¬ (Fx w6.heap.size ∨ Fy w6.heap.size) := fun h => h.elim (fun h => absurd (TW6.out.1.lt h) (by omega)) (fun h => absurd (TW6.out.2.1.lt h) (by omega))
        have ny : ¬ (Fx w7.heap.size ∨ Fy w7.heap.size) := fun h => h.elim (fun h => absurd (TW7.out.1.lt h) (by omega)) (fun h => absurd (TW7.out.2.1.lt h) (by omega))
        have hx9 := BX9.out.lt
        have hy9 := BY9.out.lt
        have NX : Hid (¬ FA1 w6.heap.size ∧ ¬ FB1 w6.heap.size) := ⟨fun h => (hk10 _ (.inl h)).elim nx (fun h => by omega), fun h => (hk10 _ (.inr h)).elim nx (fun h => by omega)⟩
        have NY : Hid (¬ FA1 w7.heap.size ∧ ¬ FB1 w7.heap.size) := ⟨fun h => (hk10 _ (.inl h)).elim ny (fun h => by omega), fun h => (hk10 _ (.inr h)).elim ny (fun h => by omega)⟩
        have BX10 : Hid (LookB w10 w6.heap.size _) := BX9.out.upd hu10 nx
        have BY10 : Hid (LookB w10 w7.heap.size _) := BY9.out.upd hu10 ny
        generalize runS SY r = S2 at *
        have TW10 : Hid (TwoF w w10 Hx FA1 Hy FB1 S2) := ht10
        generalize hLK2 : lookM S2 = L2
        have HLK2 : Hid (lookM S2 = L2) := hLK2
        have HFW2 : Hid (LookFew L2) := by rw [← hLK2]; exact look_good ht10.1
        have hx10 := BX10.out.lt
        have hy10 := BY10.out.lt
        have HW6 : Hid (w.heap.size ≤ w6.heap.size ∧ w.heap.size ≤ w7.heap.size) := ⟨TW6.out.1.mine.out.size, TW7.out.1.mine.out.size⟩
        clear hLK2 ht10 hu10 hk10 nx ny hx9 hy9 hcn9
        go_wp2_with fail
        refine (keepLookF HLK2.out TW10.out.1.mine).mono ?_
        rintro e w11 ⟨xb, xd, yb, yd, zb, zd, ub, ud, FV2, QV2, rfl, hl11, hb11⟩
        have L11 : Hid (LookIn w11 w10.heap.size w11.heap.size L2 (.slice xb 8 xd) (.slice yb 8 yd) (.slice zb 8 zd) (.slice ub L2.wait.length ud) FV2 QV2) := hl11
        have TW11 : Hid (TwoF w w11 Hx FA1 Hy FB1 S2) := two_below TW10.out hb11
        have BX11 : Hid (LookB w11 w6.heap.size _) := BX10.out.below hb11
        have BY11 : Hid (LookB w11 w7.heap.size _) := BY10.out.below hb11
        have s0 := BX11.out.cell 0 _ rfl
        have s1 := BX11.out.cell 1 _ rfl
        have s2 := BX11.out.cell 2 _ rfl
        have s3 := BX11.out.cell 3 _ rfl
        have s4 := BX11.out.cell 4 _ rfl
        have s5 := BX11.out.cell 5 _ rfl
        have g0 := BX11.out.frozen 0
        have g1 := BX11.out.frozen 1
        have g2 := BX11.out.frozen 2
        have g3 := BX11.out.frozen 3
        have g4 := BX11.out.frozen 4
        have g5 := BX11.out.frozen 5
        have hs11 : w10.heap.size ≤ w11.heap.size := hb11.size
        clear hl11 hb11
        go_wp2_with fail
        generalize hwC : World.setCell _ _ _ = wC
        have huC : Upd (fun k => k = w6.heap.size) w11 wC := by rw [← hwC]; exact upd_put _ _ _ _ _ _ _ _
        have BXC : Hid (LookB wC w6.heap.size #[.int .i64 L2.time, .slice xb 8 xd, .slice yb 8 yd, .slice zb 8 zd, .slice ub L2.wait.length ud, .int .i64 L2.recs]) := by rw [← hwC]; exact BX11.out.put
        have BYC : Hid (LookB wC w7.heap.size _) := BY11.out.upd huC (by omega)
        have TWC : Hid (TwoF w wC Hx FA1 Hy FB1 S2) := two_upd TW11.out huC (fun k e => by rw [e]; exact HW6.out.1) (fun k e => by rw [e]; exact NX.out)
        have LC : Hid (LookIn wC w10.heap.size w11.heap.size L2 (.slice xb 8 xd) (.slice yb 8 yd) (.slice zb 8 zd) (.slice ub L2.wait.length ud) FV2 QV2) := L11.out.upd huC (fun g e => .inl (by omega))
        have hsC : w10.heap.size ≤ wC.heap.size := Nat.le_trans hs11 huC.size
        clear hwC huC s0 s1 s2 s3 s4 s5 g0 g1 g2 g3 g4 g5
        refine (keepLookF HLK2.out TWC.out.2.1.mine).mono ?_
        rintro e w12 ⟨xb', xd', yb', yd', zb', zd', ub', ud', FV3, QV3, rfl, hl12, hb12⟩
        have L12 : Hid (LookIn w12 wC.heap.size w12.heap.size L2 (.slice xb' 8 xd') (.slice yb' 8 yd') (.slice zb' 8 zd') (.slice ub' L2.wait.length ud') FV3 QV3) := hl12
        have LC12 : Hid (LookIn w12 w10.heap.size w11.heap.size L2 (.slice xb 8 xd) (.slice yb 8 yd) (.slice zb 8 zd) (.slice ub L2.wait.length ud) FV2 QV2) := LC.out.below hb12
        have TW12 : Hid (TwoF w w12 Hx FA1 Hy FB1 S2) := two_below TWC.out hb12
        have BX12 : Hid (LookB w12 w6.heap.size #[.int .i64 L2.time, .slice xb 8 xd, .slice yb 8 yd, .slice zb 8 zd, .slice ub L2.wait.length ud, .int .i64 L2.recs]) := BXC.out.below hb12
        have BY12 : Hid (LookB w12 w7.heap.size _) := BYC.out.below hb12
        have x0 := BX12.out.cell 0 _ rfl
        have x1 := BX12.out.cell 1 _ rfl
        have x2 := BX12.out.cell 2 _ rfl
        have x3 := BX12.out.cell 3 _ rfl
        have x4 := BX12.out.cell 4 _ rfl
        have x5 := BX12.out.cell 5 _ rfl
        have s0 := BY12.out.cell 0 _ rfl
        have s1 := BY12.out.cell 1 _ rfl
        have s2 := BY12.out.cell 2 _ rfl
        have s3 := BY12.out.cell 3 _ rfl
        have s4 := BY12.out.cell 4 _ rfl
        have s5 := BY12.out.cell 5 _ rfl
        have g0 := BY12.out.frozen 0
        have g1 := BY12.out.frozen 1
        have g2 := BY12.out.frozen 2
        have g3 := BY12.out.frozen 3
        have g4 := BY12.out.frozen 4
        have g5 := BY12.out.frozen 5
        have hne67 : ¬ w6.heap.size = w7.heap.size := by omega
        have hne76 : ¬ w7.heap.size = w6.heap.size := by omega
        clear hl12 hb12
        go_wp2_with fail
        generalize hwD : World.setCell _ _ _ = wD
        have huD : Upd (fun k => k = w7.heap.size) w12 wD := by rw [← hwD]; exact upd_put _ _ _ _ _ _ _ _
        have TWD : Hid (TwoF w wD Hx FA1 Hy FB1 S2) := two_upd TW12.out huD (fun k e => by rw [e]; exact HW6.out.2) (fun k e => by rw [e]; exact NY.out)
        have HALD : Hid (Calls Try.prog 33 #[.agg #[.int .i64 L2.time, .slice xb 8 xd, .slice yb 8 yd, .slice zb 8 zd, .slice ub L2.wait.length ud, .int .i64 L2.recs], .agg #[.int .i64 L2.time, .slice xb' 8 xd', .slice yb' 8 yd', .slice zb' 8 zd', .slice ub' L2.wait.length ud', .int .i64 L2.recs]] wD fun e w' => e = .returned (.bool true) ∧ Below wD.heap.size wD w') :=
          keepAlike L2 HFW2.out _ _ wD _ _ _ _ ⟨_, _, _, _, FV2, QV2, rfl, LC12.out.upd huD (fun g e => .inl (by omega))⟩ ⟨_, _, _, _, FV3, QV3, rfl, L12.out.upd huD (fun g e => .inl (by omega))⟩
        clear hwD huD
        refine HALD.out.mono ?_
        rintro e w13 ⟨rfl, hb13⟩
        have HB13 : Hid (Below w.heap.size w w13) := (TWD.out.1.mine.below hb13).out
        clear hb13 x0 x1 x2 x3 x4 x5 s0 s1 s2 s3 s4 s5 g0 g1 g2 g3 g4 g5
        go_wp2_with fail
        go_ret
        exact ⟨rfl, HB13.out⟩
  · have ht1 : 1 ≤ t := by omega
    go_wp2_with fail
    refine (keepPick at' (dk.size : Int) _ ha0 ha1 (by omega) (by omega)).mono ?_
    rintro e w3 ⟨rfl, rfl⟩
    have hn1 := pick_bd at' (dk.size : Int) (by omega)
    obtain ⟨n1, hn1e⟩ : ∃ n1 : Nat, pickM at' (dk.size : Int) = (n1 : Int) := ⟨(pickM at' (dk.size : Int)).toNat, by omega⟩
    rw [hn1e] at hn1 ⊢
    have hn1s : n1 < dk.size := by omega
    obtain ⟨cap3, w4, hcv, hb4, hs4, hcap, hby⟩ := bytes_of w3 dk
    obtain ⟨hbn, hbf⟩ := hby n1 hn1s
    have HBY : Hid (∀ j, j < dk.size → w4.cell? ⟨w3.heap.size, j, none⟩ = some (.int .u8 (dk[j]!.toNat : Int)) ∧ w4.frozen? ⟨w3.heap.size, j, none⟩ = false) := hby
    have HEB : Hid (∀ q, endAt L q ≤ 9223372036854775807 ∧ 0 ≤ endAt L q) := HEB0.out
    clear hn1e hby
    obtain ⟨c, hcc⟩ : ∃ c : Int, (dk[n1]!.toNat : Int) = c := ⟨_, rfl⟩
    rw [hcc] at hbn
    have hcb : 0 ≤ c ∧ c ≤ 255 := by have := dk[n1]!.toNat_lt; omega
    obtain ⟨dd, hdam, hcv2, hbT⟩ := turn_facts2 (cap := cap3) hb4 HBY.out hn1s hcc ht1 (by omega)
    have HDAM : Hid (Damaged (cat (S.done.map recOf)) dd n1) := by rw [HDK.out]; exact hdam
    clear hdam hcc
    go_wp2_with fail
    generalize hwT : w4.setCell _ _ = wT
    rw [hwT] at hbT
    have M3 : Hid (MineF w1 wT H F S) := M3.out.below hbT
    have HCE3 : Hid (CellsAt wT (some ⟨ge, 0, none⟩) (endsV L NE)) := HCE3.out.below hbT
    clear hwT hbT hcv hcv2 hbn hbf hb4
    go_loopw [17, 18] (fun nv i wr => ∃ q : Nat, q ≤ NE ∧ i = .int .i64 (q : Int) ∧ nv = .int .i64 ((lastLe (endAt L) (n1 : Int) q : Nat) : Int) ∧ wr = wT) (fun _ i _ => NE - (intOf i).toNat)
    case atStart => exact ⟨0, Nat.zero_le _, rfl, rfl, rfl⟩
    case round =>
      obtain ⟨q, hqn, rfl, rfl, rfl⟩ := hrel
      by_cases hlt : q < NE
      · have hcq := ends_cell HCE3.out hlt
        have hqb : endAt L q ≤ 9223372036854775807 ∧ 0 ≤ endAt L q := HEB.out q
        by_cases hle : endAt L q ≤ (n1 : Int)
        · have HLE : Hid (((q : Nat) : Int) = ((lastLe (endAt L) (n1 : Int) (q + 1) : Nat) : Int)) := by show _ = _; rw [last_hit' hle]
          generalize endAt L q = E at *
          go_wp2_with fail
          go_roundw
          case rel => exact ⟨q + 1, by omega, by go_num, ret_num HLE.out, trivial⟩
          case measure => simp [intOf]; omega
        · have HLE : Hid (((lastLe (endAt L) (n1 : Int) q : Nat) : Int) = ((lastLe (endAt L) (n1 : Int) (q + 1) : Nat) : Int)) := by show _ = _; rw [last_miss' hle]
          generalize endAt L q = E at *
          generalize lastLe (endAt L) (n1 : Int) q = nq' at *
          go_wp2_with fail
          go_roundw
          case rel => exact ⟨q + 1, by omega, by go_num, ret_num HLE.out, trivial⟩
          case measure => simp [intOf]; omega
      · obtain rfl : q = NE := by omega
        have hnn3 : lastLe (endAt L) (n1 : Int) q ≤ m + 3 := by rw [← HNE.out]; exact lastLe_le _
        have HCNT : Hid (doneN L (lastLe (endAt L) (n1 : Int) q) = min (n1 / 42) S.done.length) := by show _ = _; rw [← HNE.out, prefix_count, HDC.out]
        generalize lastLe (endAt L) (n1 : Int) q = nn at *
        have hnnq : nn < q := by have := HNE.out; omega
        have hcn : wr.cell? ⟨ge, nn, none⟩ = some (.int .i64 (endAt L nn)) := ends_cell HCE3.out (by have := HNE.out; omega)
        go_wp2_with fail
        refine (mineBack dd n1 M3.out.mine HDAM.out).mono ?_
        rintro e w4 ⟨Hx, Fx, rfl, hx4⟩
        have X4 : Hid (MineF wr w4 Hx Fx { replay (S.done.take (wholeN (S.done.map recOf) n1)) with room := 500 }) := hx4
        have SA4 : Hid (StepsAt w4 a1 L) := SA1.out.below (M3.out.mine.out.trans (hx4.mine.out.mono M3.out.mine.out.size))
        have hcn4 := cell_later hx4.mine.out hcn
        clear hx4 hcn
        go_wp2_with fail
        refine (keepReplayed L a1 (m + 3) c1 nn w4 HNL.out (by omega) SA4.out HOK.out).mono ?_
        rintro e w5 ⟨Hy, rfl, hy5⟩
        have HST : Hid ({ replay (S.done.take (wholeN (S.done.map recOf) n1)) with room := 500 } = runS (refNew 500) (L.take nn)) := by
          have h := prefix_state (j := wholeN (S.done.map recOf) n1) hy5.good (by rw [whole_all H42.out, List.length_map, HCNT.out])
          rw [HSS.out] at h
          exact h
        have HDN : Hid ((runS (refNew 500) (L.take nn)).done = S.done.take (doneN L nn)) := by show _ = _; rw [run_prefix, HSS.out]
        generalize runS (refNew 500) (L.take nn) = SY at *
        have hcn5 := cell_later hy5.out hcn4
        obtain ⟨Fy, hy5⟩ := hy5.mineF
        have TW5 : Hid (TwoF w w5 Hx Fx Hy Fy SY) := by
          have hbw3 : Below w.heap.size w wr := HBW1.out.trans (M3.out.mine.out.mono HBW1.out.size)
          have x5 : MineF wr w5 Hx Fx SY := by have h := X4.out.below hy5.mine.out; rw [HST.out] at h; exact h
          exact ⟨x5.base hbw3, hy5.base (hbw3.trans (X4.out.mine.out.mono hbw3.size)), fun k ha hb => absurd (X4.out.lt ha) (by have := hy5.low hb; omega)⟩
        have HLFE : Hid (cat (SY.done.map recOf) = dk.extract 0 (42 * doneN L nn)) := by
          show _ = _
          rw [HDN.out, List.map_take, ← HDK.out, take_size H42.out (by rw [List.length_map, HCNT.out]; omega)]
        have hen : endAt L nn = ((42 * doneN L nn : Nat) : Int) := rfl
        have hdn1 : 42 * doneN L nn ≤ dk.size := by rw [HDZ.out, HCNT.out]; omega
        rw [hen] at hcn5
        generalize hce : 42 * doneN L nn = ce at *
        clear hy5 hcn4 hen hce
        go_wp2_with fail
        refine (mineDisk TW5.out.1.mine).mono ?_
        rintro e w5 ⟨rfl, rfl⟩
        rw [HLFE.out]
        generalize hLK : lookM SY = LK
        have HLK : Hid (lookM SY = LK) := hLK
        have HFW : Hid (LookFew LK) := by rw [← hLK]; exact look_good TW5.out.1
        clear hLK
        go_wp2_with fail
        refine (keepLookF HLK.out TW5.out.1.mine).mono ?_
        rintro e w6 ⟨xa, xc, ya, yc, za, zc, ua, uc, FV, QV, rfl, hl6, hb6⟩
        have L6 : Hid (LookIn w6 w5.heap.size w6.heap.size LK (.slice xa 8 xc) (.slice ya 8 yc) (.slice za 8 zc) (.slice ua LK.wait.length uc) FV QV) := hl6
        have TW6 : Hid (TwoF w w6 Hx Fx Hy Fy SY) := two_below TW5.out hb6
        have hcn6 := cell_later hb6 hcn5
        have hs56 : w5.heap.size ≤ w6.heap.size := hb6.size
        clear hl6 hb6 hcn5
        go_wp2_with fail
        generalize hwA : w6.alloc _ = wA
        have hbA : Below w6.heap.size w6 wA := by rw [← hwA]; exact below_one _ _
        have BA : Hid (LookB wA w6.heap.size #[.int .i64 LK.time, .slice xa 8 xc, .slice ya 8 yc, .slice za 8 zc, .slice ua LK.wait.length uc, .int .i64 LK.recs]) := by rw [← hwA]; exact LookB.new _ _
        have TWA : Hid (TwoF w wA Hx Fx Hy Fy SY) := two_below TW6.out hbA
        have LA : Hid (LookIn wA w5.heap.size w6.heap.size LK (.slice xa 8 xc) (.slice ya 8 yc) (.slice za 8 zc) (.slice ua LK.wait.length uc) FV QV) := L6.out.below hbA
        have hcnA := cell_later hbA hcn6
        have hsA : wA.heap.size = w6.heap.size + 1 := by rw [← hwA]; simp
        have HSA : Hid (wA.heap.size = w6.heap.size + 1) := hsA
        clear hwA hbA hcn6 hsA
        refine (keepLookF HLK.out TWA.out.2.1.mine).mono ?_
        rintro e w7 ⟨xa', xc', ya', yc', za', zc', ua', uc', FV', QV', rfl, hl7, hb7⟩
        have L7 : Hid (LookIn w7 wA.heap.size w7.heap.size LK (.slice xa' 8 xc') (.slice ya' 8 yc') (.slice za' 8 zc') (.slice ua' LK.wait.length uc') FV' QV') := hl7
        have LA7 : Hid (LookIn w7 w5.heap.size w6.heap.size LK (.slice xa 8 xc) (.slice ya 8 yc) (.slice za 8 zc) (.slice ua LK.wait.length uc) FV QV) := LA.out.below hb7
        have TW7 : Hid (TwoF w w7 Hx Fx Hy Fy SY) := two_below TWA.out hb7
        have BA7 : Hid (LookB w7 w6.heap.size #[.int .i64 LK.time, .slice xa 8 xc, .slice ya 8 yc, .slice za 8 zc, .slice ua LK.wait.length uc, .int .i64 LK.recs]) := BA.out.below hb7
        have hcn7 := cell_later hb7 hcnA
        have k0 := BA7.out.cell 0 _ rfl
        have k1' := BA7.out.cell 1 _ rfl
        have k2 := BA7.out.cell 2 _ rfl
        have k3 := BA7.out.cell 3 _ rfl
        have k4 := BA7.out.cell 4 _ rfl
        have k5 := BA7.out.cell 5 _ rfl
        have HS7 : Hid (wA.heap.size ≤ w7.heap.size) := hb7.size
        have hlt67 : w6.heap.size < w7.heap.size := BA7.out.lt
        clear hl7 hb7 hcnA
        have HALS : Hid (∀ w8, Below w7.heap.size w7 w8 → Calls Try.prog 33 #[.agg #[.int .i64 LK.time, .slice xa 8 xc, .slice ya 8 yc, .slice za 8 zc, .slice ua LK.wait.length uc, .int .i64 LK.recs], .agg #[.int .i64 LK.time, .slice xa' 8 xc', .slice ya' 8 yc', .slice za' 8 zc', .slice ua' LK.wait.length uc', .int .i64 LK.recs]] w8 fun e w' => e = .returned (.bool true) ∧ Below w8.heap.size w8 w') :=
          fun w8 hb => keepAlike LK HFW.out _ _ w8 _ _ _ _ ⟨_, _, _, _, FV, QV, rfl, LA7.out.below hb⟩ ⟨_, _, _, _, FV', QV', rfl, L7.out.below hb⟩
        go_wp2_with fail
        generalize hwB : w7.alloc _ = wB
        have hbB : Below w7.heap.size w7 wB := by rw [← hwB]; exact below_one _ _
        have BY : Hid (LookB wB w7.heap.size #[.int .i64 LK.time, .slice xa' 8 xc', .slice ya' 8 yc', .slice za' 8 zc', .slice ua' LK.wait.length uc', .int .i64 LK.recs]) := by rw [← hwB]; exact LookB.new _ _
        have BX : Hid (LookB wB w6.heap.size #[.int .i64 LK.time, .slice xa 8 xc, .slice ya 8 yc, .slice za 8 zc, .slice ua LK.wait.length uc, .int .i64 LK.recs]) := BA7.out.below hbB
        have TWB : Hid (TwoF w wB Hx Fx Hy Fy SY) := two_below TW7.out hbB
        have hcnB := cell_later hbB hcn7
        refine (HALS.out _ hbB).mono ?_
        clear hwB hbB hcn7 k0 k1' k2 k3 k4 k5
        rintro e w9 ⟨rfl, hb9⟩
        have BY9 : Hid (LookB w9 w7.heap.size #[.int .i64 LK.time, .slice xa' 8 xc', .slice ya' 8 yc', .slice za' 8 zc', .slice ua' LK.wait.length uc', .int .i64 LK.recs]) := BY.out.below hb9
        have BX9 : Hid (LookB w9 w6.heap.size #[.int .i64 LK.time, .slice xa 8 xc, .slice ya 8 yc, .slice za 8 zc, .slice ua LK.wait.length uc, .int .i64 LK.recs]) := BX.out.below hb9
        have TW9 : Hid (TwoF w w9 Hx Fx Hy Fy SY) := two_below TWB.out hb9
        have hcn9 := cell_later hb9 hcnB
        clear hb9 hcnB
        go_wp2_with fail
        refine (keepSame r bo p cap2 HRS.out.1 HRS.out.2.1 HRS.out.2.2 (by omega) TW9.out).mono ?_
        rintro e w10 ⟨rfl, FA1, FB1, ht10, hu10, hk10⟩
        have nx : ¬ (Fx w6.heap.size ∨ Fy w6.heap.size) := fun h => h.elim (fun h => absurd (TW6.out.1.lt h) (by omega)) (fun h => absurd (TW6.out.2.1.lt h) (by omega))
        have ny : ¬ (Fx w7.heap.size ∨ Fy w7.heap.size) := fun h => h.elim (fun h => absurd (TW7.out.1.lt h) (by omega)) (fun h => absurd (TW7.out.2.1.lt h) (by omega))
        have hx9 := BX9.out.lt
        have hy9 := BY9.out.lt
        have NX : Hid (¬ FA1 w6.heap.size ∧ ¬ FB1 w6.heap.size) := ⟨fun h => (hk10 _ (.inl h)).elim nx (fun h => by omega), fun h => (hk10 _ (.inr h)).elim nx (fun h => by omega)⟩
        have NY : Hid (¬ FA1 w7.heap.size ∧ ¬ FB1 w7.heap.size) := ⟨fun h => (hk10 _ (.inl h)).elim ny (fun h => by omega), fun h => (hk10 _ (.inr h)).elim ny (fun h => by omega)⟩
        have BX10 : Hid (LookB w10 w6.heap.size _) := BX9.out.upd hu10 nx
        have BY10 : Hid (LookB w10 w7.heap.size _) := BY9.out.upd hu10 ny
        generalize runS SY r = S2 at *
        have TW10 : Hid (TwoF w w10 Hx FA1 Hy FB1 S2) := ht10
        generalize hLK2 : lookM S2 = L2
        have HLK2 : Hid (lookM S2 = L2) := hLK2
        have HFW2 : Hid (LookFew L2) := by rw [← hLK2]; exact look_good ht10.1
        have hx10 := BX10.out.lt
        have hy10 := BY10.out.lt
        have HW6 : Hid (w.heap.size ≤ w6.heap.size ∧ w.heap.size ≤ w7.heap.size) := ⟨TW6.out.1.mine.out.size, TW7.out.1.mine.out.size⟩
        clear hLK2 ht10 hu10 hk10 nx ny hx9 hy9 hcn9
        go_wp2_with fail
        refine (keepLookF HLK2.out TW10.out.1.mine).mono ?_
        rintro e w11 ⟨xb, xd, yb, yd, zb, zd, ub, ud, FV2, QV2, rfl, hl11, hb11⟩
        have L11 : Hid (LookIn w11 w10.heap.size w11.heap.size L2 (.slice xb 8 xd) (.slice yb 8 yd) (.slice zb 8 zd) (.slice ub L2.wait.length ud) FV2 QV2) := hl11
        have TW11 : Hid (TwoF w w11 Hx FA1 Hy FB1 S2) := two_below TW10.out hb11
        have BX11 : Hid (LookB w11 w6.heap.size _) := BX10.out.below hb11
        have BY11 : Hid (LookB w11 w7.heap.size _) := BY10.out.below hb11
        have s0 := BX11.out.cell 0 _ rfl
        have s1 := BX11.out.cell 1 _ rfl
        have s2 := BX11.out.cell 2 _ rfl
        have s3 := BX11.out.cell 3 _ rfl
        have s4 := BX11.out.cell 4 _ rfl
        have s5 := BX11.out.cell 5 _ rfl
        have g0 := BX11.out.frozen 0
        have g1 := BX11.out.frozen 1
        have g2 := BX11.out.frozen 2
        have g3 := BX11.out.frozen 3
        have g4 := BX11.out.frozen 4
        have g5 := BX11.out.frozen 5
        have hs11 : w10.heap.size ≤ w11.heap.size := hb11.size
        clear hl11 hb11
        go_wp2_with fail
        generalize hwC : World.setCell _ _ _ = wC
        have huC : Upd (fun k => k = w6.heap.size) w11 wC := by rw [← hwC]; exact upd_put _ _ _ _ _ _ _ _
        have BXC : Hid (LookB wC w6.heap.size #[.int .i64 L2.time, .slice xb 8 xd, .slice yb 8 yd, .slice zb 8 zd, .slice ub L2.wait.length ud, .int .i64 L2.recs]) := by rw [← hwC]; exact BX11.out.put
        have BYC : Hid (LookB wC w7.heap.size _) := BY11.out.upd huC (by omega)
        have TWC : Hid (TwoF w wC Hx FA1 Hy FB1 S2) := two_upd TW11.out huC (fun k e => by rw [e]; exact HW6.out.1) (fun k e => by rw [e]; exact NX.out)
        have LC : Hid (LookIn wC w10.heap.size w11.heap.size L2 (.slice xb 8 xd) (.slice yb 8 yd) (.slice zb 8 zd) (.slice ub L2.wait.length ud) FV2 QV2) := L11.out.upd huC (fun g e => .inl (by omega))
        have hsC : w10.heap.size ≤ wC.heap.size := Nat.le_trans hs11 huC.size
        clear hwC huC s0 s1 s2 s3 s4 s5 g0 g1 g2 g3 g4 g5
        refine (keepLookF HLK2.out TWC.out.2.1.mine).mono ?_
        rintro e w12 ⟨xb', xd', yb', yd', zb', zd', ub', ud', FV3, QV3, rfl, hl12, hb12⟩
        have L12 : Hid (LookIn w12 wC.heap.size w12.heap.size L2 (.slice xb' 8 xd') (.slice yb' 8 yd') (.slice zb' 8 zd') (.slice ub' L2.wait.length ud') FV3 QV3) := hl12
        have LC12 : Hid (LookIn w12 w10.heap.size w11.heap.size L2 (.slice xb 8 xd) (.slice yb 8 yd) (.slice zb 8 zd) (.slice ub L2.wait.length ud) FV2 QV2) := LC.out.below hb12
        have TW12 : Hid (TwoF w w12 Hx FA1 Hy FB1 S2) := two_below TWC.out hb12
        have BX12 : Hid (LookB w12 w6.heap.size #[.int .i64 L2.time, .slice xb 8 xd, .slice yb 8 yd, .slice zb 8 zd, .slice ub L2.wait.length ud, .int .i64 L2.recs]) := BXC.out.below hb12
        have BY12 : Hid (LookB w12 w7.heap.size _) := BYC.out.below hb12
        have x0 := BX12.out.cell 0 _ rfl
        have x1 := BX12.out.cell 1 _ rfl
        have x2 := BX12.out.cell 2 _ rfl
        have x3 := BX12.out.cell 3 _ rfl
        have x4 := BX12.out.cell 4 _ rfl
        have x5 := BX12.out.cell 5 _ rfl
        have s0 := BY12.out.cell 0 _ rfl
        have s1 := BY12.out.cell 1 _ rfl
        have s2 := BY12.out.cell 2 _ rfl
        have s3 := BY12.out.cell 3 _ rfl
        have s4 := BY12.out.cell 4 _ rfl
        have s5 := BY12.out.cell 5 _ rfl
        have g0 := BY12.out.frozen 0
        have g1 := BY12.out.frozen 1
        have g2 := BY12.out.frozen 2
        have g3 := BY12.out.frozen 3
        have g4 := BY12.out.frozen 4
        have g5 := BY12.out.frozen 5
        have hne67 : ¬ w6.heap.size = w7.heap.size := by omega
        have hne76 : ¬ w7.heap.size = w6.heap.size := by omega
        clear hl12 hb12
        go_wp2_with fail
        generalize hwD : World.setCell _ _ _ = wD
        have huD : Upd (fun k => k = w7.heap.size) w12 wD := by rw [← hwD]; exact upd_put _ _ _ _ _ _ _ _
        have TWD : Hid (TwoF w wD Hx FA1 Hy FB1 S2) := two_upd TW12.out huD (fun k e => by rw [e]; exact HW6.out.2) (fun k e => by rw [e]; exact NY.out)
        have HALD : Hid (Calls Try.prog 33 #[.agg #[.int .i64 L2.time, .slice xb 8 xd, .slice yb 8 yd, .slice zb 8 zd, .slice ub L2.wait.length ud, .int .i64 L2.recs], .agg #[.int .i64 L2.time, .slice xb' 8 xd', .slice yb' 8 yd', .slice zb' 8 zd', .slice ub' L2.wait.length ud', .int .i64 L2.recs]] wD fun e w' => e = .returned (.bool true) ∧ Below wD.heap.size wD w') :=
          keepAlike L2 HFW2.out _ _ wD _ _ _ _ ⟨_, _, _, _, FV2, QV2, rfl, LC12.out.upd huD (fun g e => .inl (by omega))⟩ ⟨_, _, _, _, FV3, QV3, rfl, L12.out.upd huD (fun g e => .inl (by omega))⟩
        clear hwD huD
        refine HALD.out.mono ?_
        rintro e w13 ⟨rfl, hb13⟩
        have HB13 : Hid (Below w.heap.size w w13) := (TWD.out.1.mine.below hb13).out
        clear hb13 x0 x1 x2 x3 x4 x5 s0 s1 s2 s3 s4 s5 g0 g1 g2 g3 g4 g5
        go_wp2_with fail
        go_ret
        exact ⟨rfl, HB13.out⟩

end Go.Proofs.Ytmjdndhfmfjbiab

namespace Go.Proofs.Ytmjdndhfmfjbiab
open Go.RowKit
open Go.Deep Go.ChangeShapes Go.WideShapes Go.ChangeAt
open Go.ChangeMaps (open_string shut_string)

set_option maxRecDepth 100000 in
theorem open_kstepsB {H : Type} {enc : TypeId × Value → H} {W : World} {base : Nat} {v : Value} {d : DataW H} {p : List MemPlace} (hval : Value.okWide Try.prog W .any base 57 v) (h : DataW.Trod enc Try.prog W 0 (fun _ => true) true 57 v d p) (hk : Rows.uptoBulk d ≤ 1048576) :
    ∃ ao n cap, ∃ l : List StepD, v = .slice ao n cap ∧ l.length = n ∧ n ≤ 1048576 ∧ (ao = none → n = 0 ∧ cap = 0) ∧ StepsAt W ao l ∧ ∀ o ∈ l, StepOk o := by
  obtain ⟨a0, len, cap, rfl⟩ := okWide_slice Try.underlying57 hval
  obtain ⟨fuel, hf⟩ := h
  rcases open_slice Try.underlying57 hf with ⟨hcs, hx⟩ | ⟨a, len', cap', m, n, D, Pl, hcs, -, hl, hm, hmm, hx, hel⟩
  · simp [Value.cells] at hcs
    obtain ⟨rfl, rfl, rfl⟩ := hcs
    exact ⟨none, 0, 0, [], rfl, rfl, Nat.zero_le _, fun _ => ⟨rfl, rfl⟩, fun j o ho => by simp at ho, fun o ho => by simp at ho⟩
  · simp [Value.cells] at hcs
    obtain ⟨rfl, rfl, rfl⟩ := hcs
    simp only [if_true] at hmm
    subst hmm
    simp only [Prod.mk.injEq] at hx
    obtain ⟨rfl, -⟩ := hx
    simp only [Rows.uptoBulk] at hk
    have hlen : len ≤ 1048576 := by
      have := bulk_len ((List.range len).map D)
      simp only [List.length_map, List.length_range] at this
      omega
    obtain ⟨b, off, spot⟩ := a
    haveI : Inhabited StepD := ⟨⟨0, 0, 0, 0, 0, ⟨#[]⟩⟩⟩
    obtain ⟨f, hfo⟩ := choose_lt (α := StepD) (n := len) (p := fun i o => W.cells? 0 ((⟨b, off, spot⟩ : Addr).add (i * 6)) 6 = some ([.int .i64 o.kind, .int .i64 o.a, .int .i64 o.b, .int .i64 o.c, .int .i64 o.d, .string o.s]) ∧ StepOk o) (fun i hi => by
      obtain ⟨cs', h1, h2⟩ := hel i (by omega)
      rw [cellsStepS] at h1
      obtain ⟨o, rfl, ho⟩ := open_kstep h2
      exact ⟨o, h1, ho⟩)
    refine ⟨some ⟨b, off, spot⟩, len, m, (List.range len).map f, rfl, by simp, hlen, fun h => (by cases h), fun j o ho => ?_, fun o ho => ?_⟩
    · obtain ⟨hj, rfl⟩ := List.getElem?_eq_some_iff.1 ho
      simp only [List.length_map, List.length_range] at hj
      simp only [List.getElem_map, List.getElem_range]
      obtain ⟨h1, -⟩ := hfo j hj
      obtain ⟨-, -, hcell⟩ := World.cells?_some h1
      obtain ⟨h01, -⟩ := hfo 0 (by omega)
      obtain ⟨-, -, hcell0⟩ := World.cells?_some h01
      have hspot : spot = none := by
        have := World.cell?_spot (hcell0 0 (by omega))
        simpa [Addr.add] using this
      subst hspot
      refine ⟨b, off, rfl, ?_⟩
      rw [Addr.add_lit] at hcell
      have c0 := hcell 0 (by omega)
      have c1 := hcell 1 (by omega)
      have c2 := hcell 2 (by omega)
      have c3 := hcell 3 (by omega)
      have c4 := hcell 4 (by omega)
      have c5 := hcell 5 (by omega)
      rw [Addr.add_lit] at c0 c1 c2 c3 c4 c5
      exact ⟨c0, c1, c2, c3, c4, c5⟩
    · obtain ⟨i, hi, rfl⟩ := List.mem_map.1 ho
      exact (hfo i (List.mem_range.1 hi)).2

theorem arr4p {args : Array Value} {a b c d : Value} (h : args.toList = [a, b, c, d]) : args = #[a, b, c, d] := by cases args; simp only at h; rw [h]
theorem small4p {H : Type} {d0 d1 d2 d3 : DataW H} (hk : Rows.uptoSmall H ([d0, d1, d2, d3] ++ []) = true) : Rows.uptoBulk d0 ≤ 1048576 ∧ Rows.uptoBulk d3 ≤ 1048576 := by
  have h : Rows.uptoBulkAll ([d0, d1, d2, d3] ++ []) ≤ 1048576 := of_decide_eq_true hk
  simp only [List.append_nil, Rows.uptoBulkAll] at h
  omega

set_option maxRecDepth 100000 in
theorem prefixContract (H : Type) (enc : TypeId × Value → H) (W : World) (base : Nat) (args : Array Value) (ds gs : List (DataW H)) (before : List MemPlace)
    (hval : ∀ (j : Nat) t v, Try.f5.params[j]? = some t → args[j]? = some v → Value.okWide Try.prog W .any base t v)
    (hW : DataW.Whole enc Try.prog Try.f5.params.toList Rows.prefixSpec.vars false W args.toList ds gs before) (hk : Rows.uptoSmall H (ds ++ gs) = true) :
    Calls Try.prog 5 args W fun e W' => ∃ v, e = .returned v ∧ Rows.prefixSpec.post enc Try.prog Try.f5 false true false false W args v W' := by
  have hW' := hW
  obtain ⟨p, q, hA0, hV, rfl, hfz, hnd⟩ := hW
  have hA : DataW.TrodAll enc Try.prog W 0 (fun _ => true) true Try.f5.params.toList args.toList ds p := hA0
  rw [Try.params5] at hA hval
  obtain ⟨v0, vs0, d0, ds0, p0, q0, hargs, rfl, rfl, h0, r0⟩ := trodAll_cons hA
  obtain ⟨v1, vs1, d1, ds1, p1, q1, rfl, rfl, rfl, h1, r1⟩ := trodAll_cons r0
  obtain ⟨v2, vs2, d2, ds2, p2, q2, rfl, rfl, rfl, h2, r2⟩ := trodAll_cons r1
  obtain ⟨v3, vs3, d3, ds3, p3, q3, rfl, rfl, rfl, h3, r3⟩ := trodAll_cons r2
  obtain ⟨rfl, rfl, rfl⟩ := trodAll_nil r3
  obtain rfl := arr4p hargs
  obtain ⟨rfl, rfl⟩ := trodVars_none hV
  obtain ⟨k0, k3⟩ := small4p hk
  obtain ⟨ao, m, cap, l, rfl, hl, hlm, hno, hsc, hok⟩ := open_kstepsB (hval 0 57 v0 rfl rfl) h0 k0
  obtain ⟨n1, rfl, rfl, rfl, w1⟩ := open_int Try.underlying3 (hval 1 3 v1 rfl rfl) h1
  obtain ⟨n2, rfl, rfl, rfl, w2⟩ := open_int Try.underlying3 (hval 2 3 v2 rfl rfl) h2
  obtain ⟨bo, pp, cap2, r, rfl, hl2, hlm2, -, hsc2, hok2⟩ := open_kstepsB (hval 3 57 v3 rfl rfl) h3 k3
  clear hA0 hk
  simp only [List.append_nil] at hW'
  have hlt0 : ∀ x ∈ p0, x.block < W.heap.size := fun x hx => hW'.lt x (by simp [hx])
  have hlt3 : ∀ x ∈ p3, x.block < W.heap.size := fun x hx => hW'.lt x (by simp [hx])
  refine (prefixWalk l ao m cap n1 n2 r bo pp cap2 W hl hlm hsc hok hno hl2 hlm2 hsc2 hok2 (bounds_i64 w1).1 (bounds_i64 w1).2 (bounds_i64 w2).1 (bounds_i64 w2).2).mono fun e W' ⟨he, hg⟩ => ?_
  subst he
  exact ⟨_, rfl, _, _, _, [], _, [], hW', trodAll_mk1 (shut_bool Try.underlying4 _), trodAll_cons_mk (Below.trod laidOutS (by kernel_rfl) (of_decide_eq_true (by kernel_rfl)) h0 hg hlt0) (trodAll_cons_mk (shut_int Try.underlying3 w1) (trodAll_cons_mk (shut_int Try.underlying3 w2) (trodAll_cons_mk (Below.trod laidOutS (by kernel_rfl) (of_decide_eq_true (by kernel_rfl)) h3 hg hlt3) trodAll_mk0))), rfl, hg.frame _, fun h => by cases h⟩

set_option maxRecDepth 100000 in
theorem prefixLifted (os : Os) (started : os.Started) (H : Type) (enc : TypeId × Value → H) (F : Stop.Interp) :
    ReturnsInHanded {} Try.checked os 5 .any ((Rows.OpenSpec.upto Rows.prefixSpec).pre6 enc Try.prog Try.f5 Rows.prefixUptoRow.domain false) (((Rows.OpenSpec.upto Rows.prefixSpec).at F).post enc Try.prog Try.f5 false true false false) := by
  refine returnsInHanded_of_cond (C := Try.checked) (s := Rows.OpenSpec.upto Rows.prefixSpec) (k := Rows.uptoSmall) rfl ownK started (by kernel_rfl) Try.func5
    (OpenSpec.witness (enc := enc) (C := Try.checked) (s := Rows.OpenSpec.upto Rows.prefixSpec) (k := Rows.uptoSmall) rfl false ⟨#[], #[.slice none 0 0, .int .i64 0, .int .i64 0, .slice none 0 0], []⟩ 8 (by kernel_rfl) (by kernel_rfl) (by kernel_rfl)
      (x := ([.nil, .lit (.int .i64 0), .lit (.int .i64 0), .nil], [], [])) (by kernel_rfl) rfl (by kernel_rfl)) ?_
  intro W base args ds gs before hval hW _ hk _
  exact prefixContract H enc W base args ds gs before hval hW hk

theorem prefix_holds : Rows.PrefixUptoSaid :=
  OpenClaim.holds_of_cond 5 Try.f5 rfl rfl rfl rfl rfl rfl rfl ⟨rfl, rfl, rfl, rfl, rfl⟩ rfl rfl rfl rfl rfl (by kernel_rfl) Try.func5 (by kernel_rfl)
    (of_decide_eq_true (by kernel_rfl)) (by unfold Func.isWrapper; first | (rw [if_pos (by decide +kernel)]; kernel_rfl) | (rw [if_neg (by decide +kernel)]; exact ⟨rfl, rfl⟩))
    (fun os started H enc _ F => prefixLifted os started H enc F)
end Go.Proofs.Ytmjdndhfmfjbiab
