import Derived.Test.YtmjdndhfmfjbiabM07
import Derived.Deep.RegionWith
namespace Go.Proofs.Ytmjdndhfmfjbiab
open Go.RowKit

set_option maxRecDepth 100000 in
set_option maxHeartbeats 1000000 in
theorem keepPlaced (ws : List WaitD) (ao : Option Addr) (c : Nat) (x : WaitD) (w : World) (hl : ws.length ≤ 1048576) (h : CellsAt w ao (ws.flatMap waitCells)) :
    Calls Try.prog 25 #[.slice ao ws.length c, waitV x] w fun e w' => ∃ v, e = .returned v ∧
      w'.ownsRow w.heap.size 50 5 v (insM aheadB x ws).length ((insM aheadB x ws).flatMap waitCells) ∧ Below w.heap.size w w' := by
  obtain ⟨i0, hi, hz0, hz1, hz2⟩ := info_parts infoWait
  have H : Hid (CellsAt w ao (ws.flatMap waitCells)) := h
  clear h
  go_enter Try.func25, Try.ntmps25
  go_wp2_with fail
  generalize hWA : w.alloc _ = wa
  have hbA : Below w.heap.size w wa := by rw [← hWA]; exact below_one _ _
  have hsA : w.heap.size < wa.heap.size := by rw [← hWA]; simp
  have h0 : wa.cell? ⟨w.heap.size, 0, none⟩ = some (.int .i64 x.number) := by rw [← hWA]; simp
  have h1 : wa.cell? ⟨w.heap.size, 1, none⟩ = some (.string x.topic) := by rw [← hWA]; simp
  have h2 : wa.cell? ⟨w.heap.size, 2, none⟩ = some (.int .i64 x.value) := by rw [← hWA]; simp
  have h3 : wa.cell? ⟨w.heap.size, 3, none⟩ = some (.int .i64 x.deadline) := by rw [← hWA]; simp
  have h4 : wa.cell? ⟨w.heap.size, 4, none⟩ = some (.int .i64 x.life) := by rw [← hWA]; simp
  have HA : Hid (CellsAt wa ao (ws.flatMap waitCells)) := H.out.below hbA
  clear hWA H
  go_loopw [5, 6, 7] (fun v p i wr => ∃ k : Nat, k ≤ ws.length ∧ i = .int .i64 k ∧ p = .bool (insTo aheadB x ws k).2 ∧ wr.ownsRow wa.heap.size 50 5 v (insTo aheadB x ws k).1.length ((insTo aheadB x ws k).1.flatMap waitCells) ∧ Below wa.heap.size wa wr) (fun _ _ i _ => ws.length - (intOf i).toNat)
  case atStart => exact ⟨0, Nat.zero_le _, rfl, rfl, World.ownsRow_nil _ _ _ _, Below.refl _ _⟩
  case round =>
    obtain ⟨k, hk, rfl, rfl, hown, hbr⟩ := hrel
    have hkl := (insTo_len aheadB x ws k).1
    have hsz := hbr.size
    have r0 := cell_later hbr h0
    have r1 := cell_later hbr h1
    have r2 := cell_later hbr h2
    have r3 := cell_later hbr h3
    have r4 := cell_later hbr h4
    by_cases hlt : k < ws.length
    · obtain ⟨y, hy⟩ : ∃ y, ws[k]? = some y := ⟨_, List.getElem?_eq_getElem hlt⟩
      obtain ⟨g, rfl, hg, c0, c1, c2, c3, c4⟩ := wait_cells (HA.out.below hbr) hy
      have HST : Hid (insTo aheadB x ws (k + 1) = if !(insTo aheadB x ws k).2 && aheadB x y then ((insTo aheadB x ws k).1 ++ [x] ++ [y], true) else ((insTo aheadB x ws k).1 ++ [y], (insTo aheadB x ws k).2)) := insTo_step hy
      have YY : Hid (ws[k]? = some y) := hy
      clear hy
      generalize hT : insTo aheadB x ws k = T at *
      obtain ⟨T1, T2⟩ := T
      clear hT
      simp only at hown hkl
      cases T2
      · cases hah : aheadB x y
        · have HK : Hid (insTo aheadB x ws (k + 1) = (T1 ++ [y], false)) := by show _ = _; rw [HST.out, hah]; rfl
          have HAH : Hid (aheadB x y = false) := hah
          clear hah
          go_wp2_with fail
          go_region_with (go_at_call 66; refine (keepAhead x y _).mono ?_; rintro e w2 ⟨rfl, hb2⟩; rw [HAH.out])
          all_goals have b2 : Below wr.heap.size wr w2 := below_drew.trans (hb2.mono (Nat.le_refl _))
          all_goals have hown2 := own_below hown b2
          all_goals have hbr2 : Below wa.heap.size wa w2 := hbr.trans (b2.mono hbr.size)
          all_goals have d0 := cell_later b2 c0
          all_goals have d1 := cell_later b2 c1
          all_goals have d2 := cell_later b2 c2
          all_goals have d3 := cell_later b2 c3
          all_goals have d4 := cell_later b2 c4
          all_goals have s0 := cell_later b2 r0
          all_goals have s1 := cell_later b2 r1
          all_goals have s2 := cell_later b2 r2
          all_goals have s3 := cell_later b2 r3
          all_goals have s4 := cell_later b2 r4
          all_goals have hs2 := b2.size
          all_goals have hg2 : g < w2.heap.size := by omega
          all_goals clear hb2 b2 hown
          all_goals go_wp2_with (first | (at_builtin; refine wpList_append_own _ rfl _ _ 44 rfl wa.heap.size 50 i0 _ 5 48 Try.underlying44 hi hz0 hz1 hz2 rfl (by decide) _ _ _ rfl (hown2.alloc _) ⟨w2.heap.size, 0, none⟩ 1 1 (waitCells y) rfl rfl (cells_new _ _ _) (wait_one _) (by unfold maxLen; omega) (by omega) (by simp; omega) ?_))
          all_goals intro v' w3 hown' hgrow _
          all_goals have R := grow_row hown2 hbr2 hown' hgrow
          all_goals clear hown' hgrow hown2
          all_goals go_wp2_with fail
          all_goals go_roundw
          all_goals first
            | (case rel => exact ⟨k + 1, by omega, by go_num, by rw [HK.out], by rw [HK.out]; exact R.1, R.2⟩)
            | (case measure => simp [intOf]; omega)
            | skip
        · have HK : Hid (insTo aheadB x ws (k + 1) = (T1 ++ [x] ++ [y], true)) := by show _ = _; rw [HST.out, hah]; rfl
          have HAH : Hid (aheadB x y = true) := hah
          clear hah
          go_wp2_with fail
          go_region_with (go_at_call 66; refine (keepAhead x y _).mono ?_; rintro e w2 ⟨rfl, hb2⟩; rw [HAH.out])
          all_goals have b2 : Below wr.heap.size wr w2 := below_drew.trans (hb2.mono (Nat.le_refl _))
          all_goals have hown2 := own_below hown b2
          all_goals have hbr2 : Below wa.heap.size wa w2 := hbr.trans (b2.mono hbr.size)
          all_goals have d0 := cell_later b2 c0
          all_goals have d1 := cell_later b2 c1
          all_goals have d2 := cell_later b2 c2
          all_goals have d3 := cell_later b2 c3
          all_goals have d4 := cell_later b2 c4
          all_goals have s0 := cell_later b2 r0
          all_goals have s1 := cell_later b2 r1
          all_goals have s2 := cell_later b2 r2
          all_goals have s3 := cell_later b2 r3
          all_goals have s4 := cell_later b2 r4
          all_goals have hs2 := b2.size
          all_goals have hg2 : g < w2.heap.size := by omega
          all_goals clear hb2 b2 hown
          all_goals go_wp2_with (first | (at_builtin; refine wpList_append_own _ rfl _ _ 44 rfl wa.heap.size 50 i0 _ 5 48 Try.underlying44 hi hz0 hz1 hz2 rfl (by decide) _ _ _ rfl (hown2.alloc _) ⟨w2.heap.size, 0, none⟩ 1 1 (waitCells x) rfl rfl (cells_new _ _ _) (wait_one _) (by unfold maxLen; omega) (by omega) (by simp; omega) ?_))
          all_goals intro v' w3 hown' hgrow _
          all_goals have R := grow_row hown2 hbr2 hown' hgrow
          all_goals obtain ⟨T3, hT3⟩ : ∃ T3, T1 ++ [x] = T3 := ⟨_, rfl⟩
          all_goals have HK2 : Hid (insTo aheadB x ws (k + 1) = (T3 ++ [y], true)) := (by show _ = _; rw [HK.out, hT3])
          all_goals have hl3 : T3.length ≤ k + 2 := (by rw [← hT3]; simp; omega)
          all_goals have hown3 := R.1
          all_goals have hbr3 := R.2
          all_goals rw [hT3] at hown3
          all_goals have hwy : CellsAt w3 (some ⟨g, 0, none⟩) (ws.flatMap waitCells) := HA.out.below hbr3
          all_goals obtain ⟨g', eg, hg3, f0, f1, f2, f3, f4⟩ := wait_cells hwy YY.out
          all_goals simp only [Option.some.injEq, Addr.mk.injEq, and_true] at eg
          all_goals subst eg
          all_goals have hs3 := hbr3.size
          all_goals clear hown' hgrow hown2 R hT3 hwy
          all_goals go_wp2_with (first | (at_builtin; refine wpList_append_own _ rfl _ _ 44 rfl wa.heap.size 50 i0 _ 5 48 Try.underlying44 hi hz0 hz1 hz2 rfl (by decide) _ _ _ rfl (hown3.alloc _) ⟨w3.heap.size, 0, none⟩ 1 1 (waitCells y) rfl rfl (cells_new _ _ _) (wait_one _) (by unfold maxLen; omega) (by omega) (by simp; omega) ?_))
          all_goals intro v4 w4 hown4 hgrow4 _
          all_goals have R4 := grow_row hown3 hbr3 hown4 hgrow4
          all_goals clear hown4 hgrow4 hown3
          all_goals go_wp2_with fail
          all_goals go_roundw
          all_goals first
            | (case rel => exact ⟨k + 1, by omega, by go_num, by rw [HK2.out], by rw [HK2.out]; exact R4.1, R4.2⟩)
            | (case measure => simp [intOf]; omega)
            | skip
      · cases hah : aheadB x y
        · have HK : Hid (insTo aheadB x ws (k + 1) = (T1 ++ [y], true)) := by show _ = _; rw [HST.out, hah]; rfl
          have HAH : Hid (aheadB x y = false) := hah
          clear hah
          go_wp2_with fail
          go_region_with (go_at_call 66; refine (keepAhead x y _).mono ?_; rintro e w2 ⟨rfl, hb2⟩; rw [HAH.out])
          all_goals have b2 : Below wr.heap.size wr w2 := below_drew.trans (hb2.mono (Nat.le_refl _))
          all_goals have hown2 := own_below hown b2
          all_goals have hbr2 : Below wa.heap.size wa w2 := hbr.trans (b2.mono hbr.size)
          all_goals have d0 := cell_later b2 c0
          all_goals have d1 := cell_later b2 c1
          all_goals have d2 := cell_later b2 c2
          all_goals have d3 := cell_later b2 c3
          all_goals have d4 := cell_later b2 c4
          all_goals have s0 := cell_later b2 r0
          all_goals have s1 := cell_later b2 r1
          all_goals have s2 := cell_later b2 r2
          all_goals have s3 := cell_later b2 r3
          all_goals have s4 := cell_later b2 r4
          all_goals have hs2 := b2.size
          all_goals have hg2 : g < w2.heap.size := by omega
          all_goals clear hb2 b2 hown
          all_goals go_wp2_with (first | (at_builtin; refine wpList_append_own _ rfl _ _ 44 rfl wa.heap.size 50 i0 _ 5 48 Try.underlying44 hi hz0 hz1 hz2 rfl (by decide) _ _ _ rfl (hown2.alloc _) ⟨w2.heap.size, 0, none⟩ 1 1 (waitCells y) rfl rfl (cells_new _ _ _) (wait_one _) (by unfold maxLen; omega) (by omega) (by simp; omega) ?_))
          all_goals intro v' w3 hown' hgrow _
          all_goals have R := grow_row hown2 hbr2 hown' hgrow
          all_goals clear hown' hgrow hown2
          all_goals go_wp2_with fail
          all_goals go_roundw
          all_goals first
            | (case rel => exact ⟨k + 1, by omega, by go_num, by rw [HK.out], by rw [HK.out]; exact R.1, R.2⟩)
            | (case measure => simp [intOf]; omega)
            | skip
        · have HK : Hid (insTo aheadB x ws (k + 1) = (T1 ++ [y], true)) := by show _ = _; rw [HST.out, hah]; rfl
          have HAH : Hid (aheadB x y = true) := hah
          clear hah
          go_wp2_with fail
          go_region_with (go_at_call 66; refine (keepAhead x y _).mono ?_; rintro e w2 ⟨rfl, hb2⟩; rw [HAH.out])
          all_goals have b2 : Below wr.heap.size wr w2 := below_drew.trans (hb2.mono (Nat.le_refl _))
          all_goals have hown2 := own_below hown b2
          all_goals have hbr2 : Below wa.heap.size wa w2 := hbr.trans (b2.mono hbr.size)
          all_goals have d0 := cell_later b2 c0
          all_goals have d1 := cell_later b2 c1
          all_goals have d2 := cell_later b2 c2
          all_goals have d3 := cell_later b2 c3
          all_goals have d4 := cell_later b2 c4
          all_goals have s0 := cell_later b2 r0
          all_goals have s1 := cell_later b2 r1
          all_goals have s2 := cell_later b2 r2
          all_goals have s3 := cell_later b2 r3
          all_goals have s4 := cell_later b2 r4
          all_goals have hs2 := b2.size
          all_goals have hg2 : g < w2.heap.size := by omega
          all_goals clear hb2 b2 hown
          all_goals go_wp2_with (first | (at_builtin; refine wpList_append_own _ rfl _ _ 44 rfl wa.heap.size 50 i0 _ 5 48 Try.underlying44 hi hz0 hz1 hz2 rfl (by decide) _ _ _ rfl (hown2.alloc _) ⟨w2.heap.size, 0, none⟩ 1 1 (waitCells y) rfl rfl (cells_new _ _ _) (wait_one _) (by unfold maxLen; omega) (by omega) (by simp; omega) ?_))
          all_goals intro v' w3 hown' hgrow _
          all_goals have R := grow_row hown2 hbr2 hown' hgrow
          all_goals clear hown' hgrow hown2
          all_goals go_wp2_with fail
          all_goals go_roundw
          all_goals first
            | (case rel => exact ⟨k + 1, by omega, by go_num, by rw [HK.out], by rw [HK.out]; exact R.1, R.2⟩)
            | (case measure => simp [intOf]; omega)
            | skip
    · obtain rfl : k = ws.length := by omega
      have HEND : Hid (insM aheadB x ws = if (insTo aheadB x ws ws.length).2 then (insTo aheadB x ws ws.length).1 else (insTo aheadB x ws ws.length).1 ++ [x]) := insTo_end aheadB x ws
      generalize hT : insTo aheadB x ws ws.length = T at *
      obtain ⟨T1, T2⟩ := T
      clear hT
      simp only at hown hkl
      cases T2
      · have HE : Hid (insM aheadB x ws = T1 ++ [x]) := HEND.out
        clear HEND
        go_wp2_with (first | (at_builtin; refine wpList_append_own _ rfl _ _ 44 rfl wa.heap.size 50 i0 _ 5 48 Try.underlying44 hi hz0 hz1 hz2 rfl (by decide) _ _ _ rfl (hown.alloc _) ⟨wr.heap.size, 0, none⟩ 1 1 (waitCells x) rfl rfl (cells_new _ _ _) (wait_one _) (by unfold maxLen; omega) (by omega) (by simp; omega) ?_))
        intro v' w1 hown' hgrow _
        have R := grow_row hown hbr hown' hgrow
        clear hown' hgrow hown
        go_wp2_with fail
        go_ret
        exact ⟨_, rfl, by rw [HE.out]; exact own_mono R.1 (by omega), hbA.trans (R.2.mono hbA.size)⟩
      · have HE : Hid (insM aheadB x ws = T1) := HEND.out
        clear HEND
        go_wp2_with fail
        go_ret
        exact ⟨_, rfl, by rw [HE.out]; exact own_mono hown (by omega), hbA.trans (hbr.mono hbA.size)⟩
end Go.Proofs.Ytmjdndhfmfjbiab

namespace Go.Proofs.Ytmjdndhfmfjbiab
open Go.RowKit

theorem fit_self (x : ByteArray) : fitAny [x] x = true := by
  unfold fitAny
  rw [List.any_cons, M.along_L, M.along_self]; rfl
theorem topic_filter {x : ByteArray} (h : M.isPathM false x = true) : M.isPathM true x = true := by
  rw [M.isPath_L] at h ⊢
  exact M.path_wild h

/-- A client subscribes, with nothing done before. -/
theorem sub_first {x : ByteArray} (hx : M.isPathM true x = true) (n : Nat) (hn : n < 8) (room : Int) (hr : 0 < room) (b c d : Int) :
    doErr (refNew room) ⟨1, n, b, c, d, x⟩ = 0 ∧ doS (refNew room) ⟨1, n, b, c, d, x⟩ = { refNew room with done := [⟨1, n, b, c, d, x⟩], fil := setAt (fun _ => []) n [x] } := by
  have hk : knownB (n : Int) = true := by simp [knownB]; omega
  have hz : wrongM (refNew room) ⟨1, n, b, c, d, x⟩ = 0 := by simp [wrongM, hk, hx, refNew, findM, subErr]
  obtain ⟨-, q2, q3⟩ := is_done hz (writes_not (by show (1 : Int) ≠ 6; decide)) (by show ((0 : Nat) : Int) < room; omega)
  exact ⟨q2, by rw [q3]; simp [turnM, refNew]⟩

/-- A message is sent at once. -/
theorem pub_now {S : RefS} {x : ByteArray} {v life : Int} (a : Int) (hx : M.isPathM false x = true) (hv0 : 0 ≤ v) (hv1 : v ≤ 1073741824) (hl0 : 0 ≤ life) (hl1 : life ≤ 1099511627776) (hr : (S.done.length : Int) < S.room) :
    doErr S ⟨3, a, v, 0, life, x⟩ = 0 ∧ doAns S ⟨3, a, v, 0, life, x⟩ = S.pub ∧ doS S ⟨3, a, v, 0, life, x⟩ = sendTo { S with done := S.done ++ [⟨3, a, v, 0, life, x⟩], pub := S.pub + 1 } ⟨S.pub, x, v, 0, life⟩ 8 := by
  have hz : wrongM S ⟨3, a, v, 0, life, x⟩ = 0 := by
    have h1 : isTimeM 0 = true := by decide
    have h2 : isTimeM life = true := by simp [isTimeM]; omega
    simp [wrongM, pubErr, hx, h1, h2]
    omega
  obtain ⟨q1, q2, q3⟩ := is_done hz (writes_not (by show (3 : Int) ≠ 6; decide)) hr
  exact ⟨q2, by unfold doAns; rw [q1]; rfl, by rw [q3]; simp [turnM]⟩

/-- What one client has of a message that is sent. -/
theorem send_at (S : RefS) (m : WaitD) (n : Nat) (hn : n < 8) : (sendTo S m 8).que n = if fitAny (S.fil n) m.topic then (if 10 ≤ (S.que n).length then S.que n else S.que n ++ [sentOf S m]) else S.que n := by
  have keep : ∀ k, n < k → (sendTo S m k).que n = (sendTo S m (n + 1)).que n := by
    intro k
    induction k with
    | zero => intro h; omega
    | succ k ih =>
      intro h
      by_cases e : k = n
      · subst e; rfl
      · rw [sendTo, ((sendOne_keeps (sendTo S m k) m k).2.2.2.2.2.2 n (by omega)).2, ih (by omega)]
  rw [keep 8 hn, sendTo]
  obtain ⟨k1, k2, -, -, -, -, k7⟩ := sendTo_keeps S m n
  have hq := (k7 n (Nat.le_refl _)).2
  unfold sendOne
  rw [k1]
  split
  · rw [hq]
    split
    · exact hq
    · show setAt (sendTo S m n).que n _ n = _
      rw [setAt_same]
      unfold sentOf
      rw [k2]
  · exact hq

theorem send_lost (S : RefS) (m : WaitD) (n : Nat) (hn : n < 8) : (sendTo S m 8).lost n = if fitAny (S.fil n) m.topic then (if 10 ≤ (S.que n).length then S.lost n + 1 else S.lost n) else S.lost n := by
  have keep : ∀ k, n < k → (sendTo S m k).lost n = (sendTo S m (n + 1)).lost n := by
    intro k
    induction k with
    | zero => intro h; omega
    | succ k ih =>
      intro h
      by_cases e : k = n
      · subst e; rfl
      · rw [sendTo, ((sendOne_keeps (sendTo S m k) m k).2.2.2.2.2.2 n (by omega)).1, ih (by omega)]
  rw [keep 8 hn, sendTo]
  obtain ⟨k1, k2, -, -, -, -, k7⟩ := sendTo_keeps S m n
  obtain ⟨hl, hq⟩ := k7 n (Nat.le_refl _)
  unfold sendOne
  rw [k1]
  split
  · rw [hq]
    split
    · show setAt (sendTo S m n).lost n _ n = _
      rw [setAt_same, hl]
    · exact hl
  · exact hl
end Go.Proofs.Ytmjdndhfmfjbiab

/-
  heraldkeep: a broker of one's own, and its blocks.
-/
namespace Go.Proofs.Ytmjdndhfmfjbiab
open Go.RowKit

/-- A broker that was made since, and the blocks that it takes up. -/
def MineF (w0 w : World) (H : Nat) (F : Nat → Prop) (S : RefS) : Prop := ∃ R, PRc w H F S R ∧ (∀ k, F k → w0.heap.size ≤ k) ∧ Below w0.heap.size w0 w ∧ Good S
theorem MineF.mine {w0 w : World} {H : Nat} {F : Nat → Prop} {S : RefS} (h : MineF w0 w H F S) : Mine w0 w H S := by
  obtain ⟨R, hp, hF, hb, hg⟩ := h
  exact ⟨F, R, hp, hF, hb, hg⟩
theorem Mine.mineF {w0 w : World} {H : Nat} {S : RefS} (h : Mine w0 w H S) : ∃ F, MineF w0 w H F S := by
  obtain ⟨F, R, hp, hF, hb, hg⟩ := h
  exact ⟨F, R, hp, hF, hb, hg⟩
theorem MineF.below {w0 w w1 : World} {H : Nat} {F : Nat → Prop} {S : RefS} (h : MineF w0 w H F S) (hb : Below w.heap.size w w1) : MineF w0 w1 H F S := by
  obtain ⟨R, hp, hF, hbw, hg⟩ := h
  exact ⟨R, hp.below hb, hF, hbw.trans (hb.mono hbw.size), hg⟩
theorem MineF.upd {P : Nat → Prop} {w0 w w1 : World} {H : Nat} {F : Nat → Prop} {S : RefS} (h : MineF w0 w H F S) (hu : Upd P w w1) (h0 : ∀ k, P k → w0.heap.size ≤ k) (hs : ∀ k, F k → ¬ P k) : MineF w0 w1 H F S := by
  obtain ⟨R, ⟨x, fil, wait, hb, hF1⟩, hF, hbw, hg⟩ := h
  exact ⟨R, ⟨x, fil, wait, hb.upd hu (fun i hi => hs i ((hF1 i).2 hi)), hF1⟩, hF, hbw.trans (below_of_upd hu hbw.size h0), hg⟩
theorem MineF.lt {w0 w : World} {H : Nat} {F : Nat → Prop} {S : RefS} {k : Nat} (h : MineF w0 w H F S) (hk : F k) : k < w.heap.size := by
  obtain ⟨R, hp, -, -, -⟩ := h
  exact hp.lt hk
/-- What an operation on it leaves. -/
def MineStep (w0 w : World) (H : Nat) (F : Nat → Prop) (S1 : RefS) (w1 : World) : Prop := ∃ F1, MineF w0 w1 H F1 S1 ∧ Upd F w w1 ∧ (∀ k, F k → w0.heap.size ≤ k) ∧ ∀ k, F1 k → F k ∨ w.heap.size ≤ k
theorem MineF.step {w0 w w1 : World} {H : Nat} {F : Nat → Prop} {S1 : RefS} {R : List ByteArray} (hF : ∀ k, F k → w0.heap.size ≤ k) (hbw : Below w0.heap.size w0 w) (hg : Good S1) (ho : Outcome PRc w H F R S1 w1) : MineStep w0 w H F S1 w1 := by
  obtain ⟨F1, R1, hp, hu, hk⟩ := ho
  refine ⟨F1, ⟨R ++ R1, hp, fun k h => ?_, hbw.trans (below_of_upd hu hbw.size hF), hg⟩, hu, hF, hk⟩
  rcases hk k h with h1 | h1
  · exact hF k h1
  · exact Nat.le_trans hbw.size h1

theorem mineFSub {w0 w : World} {H : Nat} {F : Nat → Prop} {S : RefS} (a b c d : Int) (s : ByteArray) (h : MineF w0 w H F S) (hs : s.size ≤ 1048576) :
    Calls Try.prog 11 #[.pointer (some ⟨H, 0, none⟩), .int .i64 a, .string s] w fun e w' => e = .returned (.int .i64 (doErr S ⟨1, a, b, c, d, s⟩)) ∧ MineStep w0 w H F (doS S ⟨1, a, b, c, d, s⟩) w' := by
  obtain ⟨R, hp, hF, hbw, hg⟩ := h
  refine (hrSubscribe a b c d s hp hg hs).mono ?_
  rintro e w1 ⟨rfl, ho⟩
  exact ⟨rfl, MineF.step hF hbw (hg.does ⟨⟨by show (1 : Int) ≤ 1; omega, by show (1 : Int) ≤ 7; omega⟩, hs⟩) ho⟩

theorem mineFUnsub {w0 w : World} {H : Nat} {F : Nat → Prop} {S : RefS} (a b c d : Int) (s : ByteArray) (h : MineF w0 w H F S) (hs : s.size ≤ 1048576) :
    Calls Try.prog 73 #[.pointer (some ⟨H, 0, none⟩), .int .i64 a, .string s] w fun e w' => e = .returned (.int .i64 (doErr S ⟨2, a, b, c, d, s⟩)) ∧ MineStep w0 w H F (doS S ⟨2, a, b, c, d, s⟩) w' := by
  obtain ⟨R, hp, hF, hbw, hg⟩ := h
  refine (hrUnsubscribe a b c d s hp hg hs).mono ?_
  rintro e w1 ⟨rfl, ho⟩
  exact ⟨rfl, MineF.step hF hbw (hg.does ⟨⟨by show (1 : Int) ≤ 2; omega, by show (2 : Int) ≤ 7; omega⟩, hs⟩) ho⟩

theorem mineFCancel {w0 w : World} {H : Nat} {F : Nat → Prop} {S : RefS} (a b c d : Int) (s : ByteArray) (h : MineF w0 w H F S) (hs : s.size ≤ 1048576) :
    Calls Try.prog 22 #[.pointer (some ⟨H, 0, none⟩), .int .i64 b] w fun e w' => e = .returned (.int .i64 (doErr S ⟨4, a, b, c, d, s⟩)) ∧ MineStep w0 w H F (doS S ⟨4, a, b, c, d, s⟩) w' := by
  obtain ⟨R, hp, hF, hbw, hg⟩ := h
  refine (hrCancel a b c d s hp hg).mono ?_
  rintro e w1 ⟨rfl, ho⟩
  exact ⟨rfl, MineF.step hF hbw (hg.does ⟨⟨by show (1 : Int) ≤ 4; omega, by show (4 : Int) ≤ 7; omega⟩, hs⟩) ho⟩

theorem mineFMove {w0 w : World} {H : Nat} {F : Nat → Prop} {S : RefS} (a b c d : Int) (s : ByteArray) (h : MineF w0 w H F S) (hs : s.size ≤ 1048576) :
    Calls Try.prog 23 #[.pointer (some ⟨H, 0, none⟩), .int .i64 b, .int .i64 c] w fun e w' => e = .returned (.int .i64 (doErr S ⟨5, a, b, c, d, s⟩)) ∧ MineStep w0 w H F (doS S ⟨5, a, b, c, d, s⟩) w' := by
  obtain ⟨R, hp, hF, hbw, hg⟩ := h
  refine (hrMove a b c d s hp hg).mono ?_
  rintro e w1 ⟨rfl, ho⟩
  exact ⟨rfl, MineF.step hF hbw (hg.does ⟨⟨by show (1 : Int) ≤ 5; omega, by show (5 : Int) ≤ 7; omega⟩, hs⟩) ho⟩

theorem mineFTick {w0 w : World} {H : Nat} {F : Nat → Prop} {S : RefS} (a b c d : Int) (s : ByteArray) (h : MineF w0 w H F S) (hs : s.size ≤ 1048576) :
    Calls Try.prog 19 #[.pointer (some ⟨H, 0, none⟩), .int .i64 b] w fun e w' => e = .returned (.int .i64 (doErr S ⟨6, a, b, c, d, s⟩)) ∧ MineStep w0 w H F (doS S ⟨6, a, b, c, d, s⟩) w' := by
  obtain ⟨R, hp, hF, hbw, hg⟩ := h
  refine (hrTick a b c d s hp hg).mono ?_
  rintro e w1 ⟨rfl, ho⟩
  exact ⟨rfl, MineF.step hF hbw (hg.does ⟨⟨by show (1 : Int) ≤ 6; omega, by show (6 : Int) ≤ 7; omega⟩, hs⟩) ho⟩

theorem mineFAck {w0 w : World} {H : Nat} {F : Nat → Prop} {S : RefS} (a b c d : Int) (s : ByteArray) (h : MineF w0 w H F S) (hs : s.size ≤ 1048576) :
    Calls Try.prog 13 #[.pointer (some ⟨H, 0, none⟩), .int .i64 a, .int .i64 b] w fun e w' => e = .returned (.int .i64 (doErr S ⟨7, a, b, c, d, s⟩)) ∧ MineStep w0 w H F (doS S ⟨7, a, b, c, d, s⟩) w' := by
  obtain ⟨R, hp, hF, hbw, hg⟩ := h
  refine (hrAck a b c d s hp hg).mono ?_
  rintro e w1 ⟨rfl, ho⟩
  exact ⟨rfl, MineF.step hF hbw (hg.does ⟨⟨by show (1 : Int) ≤ 7; omega, by show (7 : Int) ≤ 7; omega⟩, hs⟩) ho⟩

theorem mineFPub {w0 w : World} {H : Nat} {F : Nat → Prop} {S : RefS} (a b c d : Int) (s : ByteArray) (h : MineF w0 w H F S) (hs : s.size ≤ 1048576) :
    Calls Try.prog 14 #[.pointer (some ⟨H, 0, none⟩), .string s, .int .i64 b, .int .i64 c, .int .i64 d] w fun e w' => e = .returned (.tuple #[.int .i64 (doAns S ⟨3, a, b, c, d, s⟩), .int .i64 (doErr S ⟨3, a, b, c, d, s⟩)]) ∧ MineStep w0 w H F (doS S ⟨3, a, b, c, d, s⟩) w' := by
  obtain ⟨R, hp, hF, hbw, hg⟩ := h
  refine (hrPublish a b c d s hp hg hs).mono ?_
  rintro e w1 ⟨rfl, ho⟩
  exact ⟨rfl, MineF.step hF hbw (hg.does ⟨⟨by show (1 : Int) ≤ 3; omega, by show (3 : Int) ≤ 7; omega⟩, hs⟩) ho⟩
end Go.Proofs.Ytmjdndhfmfjbiab
