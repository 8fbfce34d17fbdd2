import Derived.Test.YtmjdndhfmfjbiabM10
import Derived.Deep.RegionWith
import Derived.ProofKit
import Derived.OpenShut
import Derived.JoinedCond
import Derived.ChangeSlices
import Derived.Deep.Slices
namespace Go.Proofs.Ytmjdndhfmfjbiab
open Go.RowKit

set_option maxRecDepth 100000 in
set_option maxHeartbeats 1000000 in
theorem keepPlaced (ws : List WaitD) (ao : Option Addr) (c : Nat) (x : WaitD) (w : World) (hl : ws.length ≤ 1048576) (h : CellsAt w ao (ws.flatMap waitCells)) :
    Calls Try.prog 25 #[.slice ao ws.length c, waitV x] w fun e w' => ∃ v, e = .returned v ∧
      w'.ownsRow w.heap.size 50 5 v (insM aheadB x ws).length ((insM aheadB x ws).flatMap waitCells) ∧ Below w.heap.size w w' := by
  obtain ⟨i0, hi, hz0, hz1, hz2⟩ := info_parts infoWait
  have H : Hid (CellsAt w ao (ws.flatMap waitCells)) := h
  clear h
  go_enter Try.func25, Try.ntmps25
  go_wp2_with fail
  generalize hWA : w.alloc _ = wa
  have hbA : Below w.heap.size w wa := by rw [← hWA]; exact below_one _ _
  have hsA : w.heap.size < wa.heap.size := by rw [← hWA]; simp
  have h0 : wa.cell? ⟨w.heap.size, 0, none⟩ = some (.int .i64 x.number) := by rw [← hWA]; simp
  have h1 : wa.cell? ⟨w.heap.size, 1, none⟩ = some (.string x.topic) := by rw [← hWA]; simp
  have h2 : wa.cell? ⟨w.heap.size, 2, none⟩ = some (.int .i64 x.value) := by rw [← hWA]; simp
  have h3 : wa.cell? ⟨w.heap.size, 3, none⟩ = some (.int .i64 x.deadline) := by rw [← hWA]; simp
  have h4 : wa.cell? ⟨w.heap.size, 4, none⟩ = some (.int .i64 x.life) := by rw [← hWA]; simp
  have HA : Hid (CellsAt wa ao (ws.flatMap waitCells)) := H.out.below hbA
  clear hWA H
  go_loopw [5, 6, 7] (fun v p i wr => ∃ k : Nat, k ≤ ws.length ∧ i = .int .i64 k ∧ p = .bool (insTo aheadB x ws k).2 ∧ wr.ownsRow wa.heap.size 50 5 v (insTo aheadB x ws k).1.length ((insTo aheadB x ws k).1.flatMap waitCells) ∧ Below wa.heap.size wa wr) (fun _ _ i _ => ws.length - (intOf i).toNat)
  case atStart => exact ⟨0, Nat.zero_le _, rfl, rfl, World.ownsRow_nil _ _ _ _, Below.refl _ _⟩
  case round =>
    obtain ⟨k, hk, rfl, rfl, hown, hbr⟩ := hrel
    have hkl := (insTo_len aheadB x ws k).1
    have hsz := hbr.size
    have r0 := cell_later hbr h0
    have r1 := cell_later hbr h1
    have r2 := cell_later hbr h2
    have r3 := cell_later hbr h3
    have r4 := cell_later hbr h4
    by_cases hlt : k < ws.length
    · obtain ⟨y, hy⟩ : ∃ y, ws[k]? = some y := ⟨_, List.getElem?_eq_getElem hlt⟩
      obtain ⟨g, rfl, hg, c0, c1, c2, c3, c4⟩ := wait_cells (HA.out.below hbr) hy
      have HST : Hid (insTo aheadB x ws (k + 1) = if !(insTo aheadB x ws k).2 && aheadB x y then ((insTo aheadB x ws k).1 ++ [x] ++ [y], true) else ((insTo aheadB x ws k).1 ++ [y], (insTo aheadB x ws k).2)) := insTo_step hy
      have YY : Hid (ws[k]? = some y) := hy
      clear hy
      generalize hT : insTo aheadB x ws k = T at *
      obtain ⟨T1, T2⟩ := T
      clear hT
      simp only at hown hkl
      cases T2
      · cases hah : aheadB x y
        · have HK : Hid (insTo aheadB x ws (k + 1) = (T1 ++ [y], false)) := by show _ = _; rw [HST.out, hah]; rfl
          have HAH : Hid (aheadB x y = false) := hah
          clear hah
          go_wp2_with fail
          go_region_with (go_at_call 66; refine (keepAhead x y _).mono ?_; rintro e w2 ⟨rfl, hb2⟩; rw [HAH.out])
          all_goals have b2 : Below wr.heap.size wr w2 := below_drew.trans (hb2.mono (Nat.le_refl _))
          all_goals have hown2 := own_below hown b2
          all_goals have hbr2 : Below wa.heap.size wa w2 := hbr.trans (b2.mono hbr.size)
          all_goals have d0 := cell_later b2 c0
          all_goals have d1 := cell_later b2 c1
          all_goals have d2 := cell_later b2 c2
          all_goals have d3 := cell_later b2 c3
          all_goals have d4 := cell_later b2 c4
          all_goals have s0 := cell_later b2 r0
          all_goals have s1 := cell_later b2 r1
          all_goals have s2 := cell_later b2 r2
          all_goals have s3 := cell_later b2 r3
          all_goals have s4 := cell_later b2 r4
          all_goals have hs2 := b2.size
          all_goals have hg2 : g < w2.heap.size := by omega
          all_goals clear hb2 b2 hown
          all_goals go_wp2_with (first | (at_builtin; refine wpList_append_own _ rfl _ _ 44 rfl wa.heap.size 50 i0 _ 5 48 Try.underlying44 hi hz0 hz1 hz2 rfl (by decide) _ _ _ rfl (hown2.alloc _) ⟨w2.heap.size, 0, none⟩ 1 1 (waitCells y) rfl rfl (cells_new _ _ _) (wait_one _) (by unfold maxLen; omega) (by omega) (by simp; omega) ?_))
          all_goals intro v' w3 hown' hgrow _
          all_goals have R := grow_row hown2 hbr2 hown' hgrow
          all_goals clear hown' hgrow hown2
          all_goals go_wp2_with fail
          all_goals go_roundw
          all_goals first
            | (case rel => exact ⟨k + 1, by omega, by go_num, by rw [HK.out], by rw [HK.out]; exact R.1, R.2⟩)
            | (case measure => simp [intOf]; omega)
            | skip
        · have HK : Hid (insTo aheadB x ws (k + 1) = (T1 ++ [x] ++ [y], true)) := by show _ = _; rw [HST.out, hah]; rfl
          have HAH : Hid (aheadB x y = true) := hah
          clear hah
          go_wp2_with fail
          go_region_with (go_at_call 66; refine (keepAhead x y _).mono ?_; rintro e w2 ⟨rfl, hb2⟩; rw [HAH.out])
          all_goals have b2 : Below wr.heap.size wr w2 := below_drew.trans (hb2.mono (Nat.le_refl _))
          all_goals have hown2 := own_below hown b2
          all_goals have hbr2 : Below wa.heap.size wa w2 := hbr.trans (b2.mono hbr.size)
          all_goals have d0 := cell_later b2 c0
          all_goals have d1 := cell_later b2 c1
          all_goals have d2 := cell_later b2 c2
          all_goals have d3 := cell_later b2 c3
          all_goals have d4 := cell_later b2 c4
          all_goals have s0 := cell_later b2 r0
          all_goals have s1 := cell_later b2 r1
          all_goals have s2 := cell_later b2 r2
          all_goals have s3 := cell_later b2 r3
          all_goals have s4 := cell_later b2 r4
          all_goals have hs2 := b2.size
          all_goals have hg2 : g < w2.heap.size := by omega
          all_goals clear hb2 b2 hown
          all_goals go_wp2_with (first | (at_builtin; refine wpList_append_own _ rfl _ _ 44 rfl wa.heap.size 50 i0 _ 5 48 Try.underlying44 hi hz0 hz1 hz2 rfl (by decide) _ _ _ rfl (hown2.alloc _) ⟨w2.heap.size, 0, none⟩ 1 1 (waitCells x) rfl rfl (cells_new _ _ _) (wait_one _) (by unfold maxLen; omega) (by omega) (by simp; omega) ?_))
          all_goals intro v' w3 hown' hgrow _
          all_goals have R := grow_row hown2 hbr2 hown' hgrow
          all_goals obtain ⟨T3, hT3⟩ : ∃ T3, T1 ++ [x] = T3 := ⟨_, rfl⟩
          all_goals have HK2 : Hid (insTo aheadB x ws (k + 1) = (T3 ++ [y], true)) := (by show _ = _; rw [HK.out, hT3])
          all_goals have hl3 : T3.length ≤ k + 2 := (by rw [← hT3]; simp; omega)
          all_goals have hown3 := R.1
          all_goals have hbr3 := R.2
          all_goals rw [hT3] at hown3
          all_goals have hwy : CellsAt w3 (some ⟨g, 0, none⟩) (ws.flatMap waitCells) := HA.out.below hbr3
          all_goals obtain ⟨g', eg, hg3, f0, f1, f2, f3, f4⟩ := wait_cells hwy YY.out
          all_goals simp only [Option.some.injEq, Addr.mk.injEq, and_true] at eg
          all_goals subst eg
          all_goals have hs3 := hbr3.size
          all_goals clear hown' hgrow hown2 R hT3 hwy
          all_goals go_wp2_with (first | (at_builtin; refine wpList_append_own _ rfl _ _ 44 rfl wa.heap.size 50 i0 _ 5 48 Try.underlying44 hi hz0 hz1 hz2 rfl (by decide) _ _ _ rfl (hown3.alloc _) ⟨w3.heap.size, 0, none⟩ 1 1 (waitCells y) rfl rfl (cells_new _ _ _) (wait_one _) (by unfold maxLen; omega) (by omega) (by simp; omega) ?_))
          all_goals intro v4 w4 hown4 hgrow4 _
          all_goals have R4 := grow_row hown3 hbr3 hown4 hgrow4
          all_goals clear hown4 hgrow4 hown3
          all_goals go_wp2_with fail
          all_goals go_roundw
          all_goals first
            | (case rel => exact ⟨k + 1, by omega, by go_num, by rw [HK2.out], by rw [HK2.out]; exact R4.1, R4.2⟩)
            | (case measure => simp [intOf]; omega)
            | skip
      · cases hah : aheadB x y
        · have HK : Hid (insTo aheadB x ws (k + 1) = (T1 ++ [y], true)) := by show _ = _; rw [HST.out, hah]; rfl
          have HAH : Hid (aheadB x y = false) := hah
          clear hah
          go_wp2_with fail
          go_region_with (go_at_call 66; refine (keepAhead x y _).mono ?_; rintro e w2 ⟨rfl, hb2⟩; rw [HAH.out])
          all_goals have b2 : Below wr.heap.size wr w2 := below_drew.trans (hb2.mono (Nat.le_refl _))
          all_goals have hown2 := own_below hown b2
          all_goals have hbr2 : Below wa.heap.size wa w2 := hbr.trans (b2.mono hbr.size)
          all_goals have d0 := cell_later b2 c0
          all_goals have d1 := cell_later b2 c1
          all_goals have d2 := cell_later b2 c2
          all_goals have d3 := cell_later b2 c3
          all_goals have d4 := cell_later b2 c4
          all_goals have s0 := cell_later b2 r0
          all_goals have s1 := cell_later b2 r1
          all_goals have s2 := cell_later b2 r2
          all_goals have s3 := cell_later b2 r3
          all_goals have s4 := cell_later b2 r4
          all_goals have hs2 := b2.size
          all_goals have hg2 : g < w2.heap.size := by omega
          all_goals clear hb2 b2 hown
          all_goals go_wp2_with (first | (at_builtin; refine wpList_append_own _ rfl _ _ 44 rfl wa.heap.size 50 i0 _ 5 48 Try.underlying44 hi hz0 hz1 hz2 rfl (by decide) _ _ _ rfl (hown2.alloc _) ⟨w2.heap.size, 0, none⟩ 1 1 (waitCells y) rfl rfl (cells_new _ _ _) (wait_one _) (by unfold maxLen; omega) (by omega) (by simp; omega) ?_))
          all_goals intro v' w3 hown' hgrow _
          all_goals have R := grow_row hown2 hbr2 hown' hgrow
          all_goals clear hown' hgrow hown2
          all_goals go_wp2_with fail
          all_goals go_roundw
          all_goals first
            | (case rel => exact ⟨k + 1, by omega, by go_num, by rw [HK.out], by rw [HK.out]; exact R.1, R.2⟩)
            | (case measure => simp [intOf]; omega)
            | skip
        · have HK : Hid (insTo aheadB x ws (k + 1) = (T1 ++ [y], true)) := by show _ = _; rw [HST.out, hah]; rfl
          have HAH : Hid (aheadB x y = true) := hah
          clear hah
          go_wp2_with fail
          go_region_with (go_at_call 66; refine (keepAhead x y _).mono ?_; rintro e w2 ⟨rfl, hb2⟩; rw [HAH.out])
          all_goals have b2 : Below wr.heap.size wr w2 := below_drew.trans (hb2.mono (Nat.le_refl _))
          all_goals have hown2 := own_below hown b2
          all_goals have hbr2 : Below wa.heap.size wa w2 := hbr.trans (b2.mono hbr.size)
          all_goals have d0 := cell_later b2 c0
          all_goals have d1 := cell_later b2 c1
          all_goals have d2 := cell_later b2 c2
          all_goals have d3 := cell_later b2 c3
          all_goals have d4 := cell_later b2 c4
          all_goals have s0 := cell_later b2 r0
          all_goals have s1 := cell_later b2 r1
          all_goals have s2 := cell_later b2 r2
          all_goals have s3 := cell_later b2 r3
          all_goals have s4 := cell_later b2 r4
          all_goals have hs2 := b2.size
          all_goals have hg2 : g < w2.heap.size := by omega
          all_goals clear hb2 b2 hown
          all_goals go_wp2_with (first | (at_builtin; refine wpList_append_own _ rfl _ _ 44 rfl wa.heap.size 50 i0 _ 5 48 Try.underlying44 hi hz0 hz1 hz2 rfl (by decide) _ _ _ rfl (hown2.alloc _) ⟨w2.heap.size, 0, none⟩ 1 1 (waitCells y) rfl rfl (cells_new _ _ _) (wait_one _) (by unfold maxLen; omega) (by omega) (by simp; omega) ?_))
          all_goals intro v' w3 hown' hgrow _
          all_goals have R := grow_row hown2 hbr2 hown' hgrow
          all_goals clear hown' hgrow hown2
          all_goals go_wp2_with fail
          all_goals go_roundw
          all_goals first
            | (case rel => exact ⟨k + 1, by omega, by go_num, by rw [HK.out], by rw [HK.out]; exact R.1, R.2⟩)
            | (case measure => simp [intOf]; omega)
            | skip
    · obtain rfl : k = ws.length := by omega
      have HEND : Hid (insM aheadB x ws = if (insTo aheadB x ws ws.length).2 then (insTo aheadB x ws ws.length).1 else (insTo aheadB x ws ws.length).1 ++ [x]) := insTo_end aheadB x ws
      generalize hT : insTo aheadB x ws ws.length = T at *
      obtain ⟨T1, T2⟩ := T
      clear hT
      simp only at hown hkl
      cases T2
      · have HE : Hid (insM aheadB x ws = T1 ++ [x]) := HEND.out
        clear HEND
        go_wp2_with (first | (at_builtin; refine wpList_append_own _ rfl _ _ 44 rfl wa.heap.size 50 i0 _ 5 48 Try.underlying44 hi hz0 hz1 hz2 rfl (by decide) _ _ _ rfl (hown.alloc _) ⟨wr.heap.size, 0, none⟩ 1 1 (waitCells x) rfl rfl (cells_new _ _ _) (wait_one _) (by unfold maxLen; omega) (by omega) (by simp; omega) ?_))
        intro v' w1 hown' hgrow _
        have R := grow_row hown hbr hown' hgrow
        clear hown' hgrow hown
        go_wp2_with fail
        go_ret
        exact ⟨_, rfl, by rw [HE.out]; exact own_mono R.1 (by omega), hbA.trans (R.2.mono hbA.size)⟩
      · have HE : Hid (insM aheadB x ws = T1) := HEND.out
        clear HEND
        go_wp2_with fail
        go_ret
        exact ⟨_, rfl, by rw [HE.out]; exact own_mono hown (by omega), hbA.trans (hbr.mono hbA.size)⟩
end Go.Proofs.Ytmjdndhfmfjbiab

namespace Go.Proofs.Ytmjdndhfmfjbiab
open Go.RowKit

set_option maxRecDepth 100000 in
set_option maxHeartbeats 1000000 in
theorem keepWithout (ms : List MailD) (ao : Option Addr) (c : Nat) (n : Int) (w : World) (hl : ms.length ≤ 1048576) (h : CellsAt w ao (ms.flatMap mailCells)) :
    Calls Try.prog 12 #[.slice ao ms.length c, .int .i64 n] w fun e w' => ∃ v, e = .returned (.tuple #[v, .bool (ms.any (fun m => m.number == n))]) ∧
      w'.ownsRow w.heap.size 35 5 v (ms.filter (fun m => m.number != n)).length ((ms.filter (fun m => m.number != n)).flatMap mailCells) ∧ Below w.heap.size w w' := by
  obtain ⟨i0, hi, hz0, hz1, hz2⟩ := info_parts infoMail
  have H : Hid (CellsAt w ao (ms.flatMap mailCells)) := h
  clear h
  go_enter Try.func12, Try.ntmps12
  go_wp2_with fail
  go_loopw [6, 7, 8] (fun v b i wr => ∃ k : Nat, k ≤ ms.length ∧ i = .int .i64 k ∧ b = .bool ((ms.take k).any (fun m => m.number == n)) ∧ wr.ownsRow w.heap.size 35 5 v (kept (fun m : MailD => m.number != n) ms k).length ((kept (fun m : MailD => m.number != n) ms k).flatMap mailCells) ∧ Below w.heap.size w wr) (fun _ _ i _ => ms.length - (intOf i).toNat)
  case atStart => exact ⟨0, Nat.zero_le _, rfl, by simp, World.ownsRow_nil _ _ _ _, Below.refl _ _⟩
  case round =>
    obtain ⟨k, hk, rfl, rfl, hown, hbr⟩ := hrel
    have hkl := kept_le (fun m : MailD => m.number != n) ms k
    have hsz := hbr.size
    by_cases hlt : k < ms.length
    · obtain ⟨y, hy⟩ : ∃ y, ms[k]? = some y := ⟨_, List.getElem?_eq_getElem hlt⟩
      obtain ⟨g, rfl, hg, c0, c1, c2, c3, c4⟩ := mail_cells (H.out.below hbr) hy
      cases he : (y.number == n)
      · have HK : Hid (kept (fun m : MailD => m.number != n) ms (k + 1) = kept (fun m : MailD => m.number != n) ms k ++ [y]) := kept_hit hy (by simp only [bne, he]; rfl)
        have HB : Hid ((ms.take (k + 1)).any (fun m => m.number == n) = (ms.take k).any (fun m => m.number == n)) := by show _ = _; rw [any_take hy, he, Bool.or_false]
        clear hy
        go_wp2_with (first | (at_builtin; refine wpList_append_own _ rfl _ _ 28 rfl w.heap.size 35 i0 _ 5 48 Try.underlying28 hi hz0 hz1 hz2 rfl (by decide) _ _ _ rfl (hown.alloc _) ⟨wr.heap.size, 0, none⟩ 1 1 (mailCells y) rfl rfl (cells_new _ _ _) (mail_one _) (by unfold maxLen; omega) (by omega) (by simp; omega) ?_))
        intro v' w1 hown' hgrow _
        have R := grow_row hown hbr hown' hgrow
        clear hown' hgrow hown
        go_wp2_with fail
        go_roundw
        case rel => exact ⟨k + 1, by omega, by go_num, by rw [HB.out], by rw [HK.out]; exact R.1, R.2⟩
        case measure => simp [intOf]; omega
      · have HK : Hid (kept (fun m : MailD => m.number != n) ms (k + 1) = kept (fun m : MailD => m.number != n) ms k) := kept_miss hy (by simp only [bne, he]; rfl)
        have HB : Hid ((ms.take (k + 1)).any (fun m => m.number == n) = true) := by show _ = _; rw [any_take hy, he, Bool.or_true]
        clear hy
        go_wp2_with fail
        go_roundw
        case rel => exact ⟨k + 1, by omega, by go_num, by rw [HB.out], by rw [HK.out]; exact hown, hbr⟩
        case measure => simp [intOf]; omega
    · have HK : Hid (kept (fun m : MailD => m.number != n) ms k = ms.filter (fun m : MailD => m.number != n)) := kept_end _ _ _ (by omega)
      have HB : Hid ((ms.take k).any (fun m => m.number == n) = ms.any (fun m => m.number == n)) := by show _ = _; rw [List.take_of_length_le (by omega)]
      go_wp2_with fail
      go_ret2
      exact ⟨_, by rw [← HB.out]; rfl, by rw [← HK.out]; exact hown, hbr⟩
end Go.Proofs.Ytmjdndhfmfjbiab

namespace Go.Proofs.Ytmjdndhfmfjbiab
open Go.RowKit

theorem fit_self (x : ByteArray) : fitAny [x] x = true := by
  unfold fitAny
  rw [List.any_cons, M.along_L, M.along_self]; rfl
theorem topic_filter {x : ByteArray} (h : M.isPathM false x = true) : M.isPathM true x = true := by
  rw [M.isPath_L] at h ⊢
  exact M.path_wild h

/-- A client subscribes, with nothing done before. -/
theorem sub_first {x : ByteArray} (hx : M.isPathM true x = true) (n : Nat) (hn : n < 8) (room : Int) (hr : 0 < room) (b c d : Int) :
    doErr (refNew room) ⟨1, n, b, c, d, x⟩ = 0 ∧ doS (refNew room) ⟨1, n, b, c, d, x⟩ = { refNew room with done := [⟨1, n, b, c, d, x⟩], fil := setAt (fun _ => []) n [x] } := by
  have hk : knownB (n : Int) = true := by simp [knownB]; omega
  have hz : wrongM (refNew room) ⟨1, n, b, c, d, x⟩ = 0 := by simp [wrongM, hk, hx, refNew, findM, subErr]
  obtain ⟨-, q2, q3⟩ := is_done hz (writes_not (by show (1 : Int) ≠ 6; decide)) (by show ((0 : Nat) : Int) < room; omega)
  exact ⟨q2, by rw [q3]; simp [turnM, refNew]⟩

/-- A message is sent at once. -/
theorem pub_now {S : RefS} {x : ByteArray} {v life : Int} (a : Int) (hx : M.isPathM false x = true) (hv0 : 0 ≤ v) (hv1 : v ≤ 1073741824) (hl0 : 0 ≤ life) (hl1 : life ≤ 1099511627776) (hr : (S.done.length : Int) < S.room) :
    doErr S ⟨3, a, v, 0, life, x⟩ = 0 ∧ doAns S ⟨3, a, v, 0, life, x⟩ = S.pub ∧ doS S ⟨3, a, v, 0, life, x⟩ = sendTo { S with done := S.done ++ [⟨3, a, v, 0, life, x⟩], pub := S.pub + 1 } ⟨S.pub, x, v, 0, life⟩ 8 := by
  have hz : wrongM S ⟨3, a, v, 0, life, x⟩ = 0 := by
    have h1 : isTimeM 0 = true := by decide
    have h2 : isTimeM life = true := by simp [isTimeM]; omega
    simp [wrongM, pubErr, hx, h1, h2]
    omega
  obtain ⟨q1, q2, q3⟩ := is_done hz (writes_not (by show (3 : Int) ≠ 6; decide)) hr
  exact ⟨q2, by unfold doAns; rw [q1]; rfl, by rw [q3]; simp [turnM]⟩

/-- What one client has of a message that is sent. -/
theorem send_at (S : RefS) (m : WaitD) (n : Nat) (hn : n < 8) : (sendTo S m 8).que n = if fitAny (S.fil n) m.topic then (if 10 ≤ (S.que n).length then S.que n else S.que n ++ [sentOf S m]) else S.que n := by
  have keep : ∀ k, n < k → (sendTo S m k).que n = (sendTo S m (n + 1)).que n := by
    intro k
    induction k with
    | zero => intro h; omega
    | succ k ih =>
      intro h
      by_cases e : k = n
      · subst e; rfl
      · rw [sendTo, ((sendOne_keeps (sendTo S m k) m k).2.2.2.2.2.2 n (by omega)).2, ih (by omega)]
  rw [keep 8 hn, sendTo]
  obtain ⟨k1, k2, -, -, -, -, k7⟩ := sendTo_keeps S m n
  have hq := (k7 n (Nat.le_refl _)).2
  unfold sendOne
  rw [k1]
  split
  · rw [hq]
    split
    · exact hq
    · show setAt (sendTo S m n).que n _ n = _
      rw [setAt_same]
      unfold sentOf
      rw [k2]
  · exact hq

theorem send_lost (S : RefS) (m : WaitD) (n : Nat) (hn : n < 8) : (sendTo S m 8).lost n = if fitAny (S.fil n) m.topic then (if 10 ≤ (S.que n).length then S.lost n + 1 else S.lost n) else S.lost n := by
  have keep : ∀ k, n < k → (sendTo S m k).lost n = (sendTo S m (n + 1)).lost n := by
    intro k
    induction k with
    | zero => intro h; omega
    | succ k ih =>
      intro h
      by_cases e : k = n
      · subst e; rfl
      · rw [sendTo, ((sendOne_keeps (sendTo S m k) m k).2.2.2.2.2.2 n (by omega)).1, ih (by omega)]
  rw [keep 8 hn, sendTo]
  obtain ⟨k1, k2, -, -, -, -, k7⟩ := sendTo_keeps S m n
  obtain ⟨hl, hq⟩ := k7 n (Nat.le_refl _)
  unfold sendOne
  rw [k1]
  split
  · rw [hq]
    split
    · show setAt (sendTo S m n).lost n _ n = _
      rw [setAt_same, hl]
    · exact hl
  · exact hl
end Go.Proofs.Ytmjdndhfmfjbiab

/-
  heraldkeep: a broker of one's own, and its blocks.
-/
namespace Go.Proofs.Ytmjdndhfmfjbiab
open Go.RowKit

/-- A broker that was made since, and the blocks that it takes up. -/
def MineF (w0 w : World) (H : Nat) (F : Nat → Prop) (S : RefS) : Prop := ∃ R, PRc w H F S R ∧ (∀ k, F k → w0.heap.size ≤ k) ∧ Below w0.heap.size w0 w ∧ Good S
theorem MineF.mine {w0 w : World} {H : Nat} {F : Nat → Prop} {S : RefS} (h : MineF w0 w H F S) : Mine w0 w H S := by
  obtain ⟨R, hp, hF, hb, hg⟩ := h
  exact ⟨F, R, hp, hF, hb, hg⟩
theorem Mine.mineF {w0 w : World} {H : Nat} {S : RefS} (h : Mine w0 w H S) : ∃ F, MineF w0 w H F S := by
  obtain ⟨F, R, hp, hF, hb, hg⟩ := h
  exact ⟨F, R, hp, hF, hb, hg⟩
theorem MineF.below {w0 w w1 : World} {H : Nat} {F : Nat → Prop} {S : RefS} (h : MineF w0 w H F S) (hb : Below w.heap.size w w1) : MineF w0 w1 H F S := by
  obtain ⟨R, hp, hF, hbw, hg⟩ := h
  exact ⟨R, hp.below hb, hF, hbw.trans (hb.mono hbw.size), hg⟩
theorem MineF.upd {P : Nat → Prop} {w0 w w1 : World} {H : Nat} {F : Nat → Prop} {S : RefS} (h : MineF w0 w H F S) (hu : Upd P w w1) (h0 : ∀ k, P k → w0.heap.size ≤ k) (hs : ∀ k, F k → ¬ P k) : MineF w0 w1 H F S := by
  obtain ⟨R, ⟨x, fil, wait, hb, hF1⟩, hF, hbw, hg⟩ := h
  exact ⟨R, ⟨x, fil, wait, hb.upd hu (fun i hi => hs i ((hF1 i).2 hi)), hF1⟩, hF, hbw.trans (below_of_upd hu hbw.size h0), hg⟩
theorem MineF.lt {w0 w : World} {H : Nat} {F : Nat → Prop} {S : RefS} {k : Nat} (h : MineF w0 w H F S) (hk : F k) : k < w.heap.size := by
  obtain ⟨R, hp, -, -, -⟩ := h
  exact hp.lt hk
/-- What an operation on it leaves. -/
def MineStep (w0 w : World) (H : Nat) (F : Nat → Prop) (S1 : RefS) (w1 : World) : Prop := ∃ F1, MineF w0 w1 H F1 S1 ∧ Upd F w w1 ∧ (∀ k, F k → w0.heap.size ≤ k) ∧ ∀ k, F1 k → F k ∨ w.heap.size ≤ k
theorem MineF.step {w0 w w1 : World} {H : Nat} {F : Nat → Prop} {S1 : RefS} {R : List ByteArray} (hF : ∀ k, F k → w0.heap.size ≤ k) (hbw : Below w0.heap.size w0 w) (hg : Good S1) (ho : Outcome PRc w H F R S1 w1) : MineStep w0 w H F S1 w1 := by
  obtain ⟨F1, R1, hp, hu, hk⟩ := ho
  refine ⟨F1, ⟨R ++ R1, hp, fun k h => ?_, hbw.trans (below_of_upd hu hbw.size hF), hg⟩, hu, hF, hk⟩
  rcases hk k h with h1 | h1
  · exact hF k h1
  · exact Nat.le_trans hbw.size h1

theorem mineFSub {w0 w : World} {H : Nat} {F : Nat → Prop} {S : RefS} (a b c d : Int) (s : ByteArray) (h : MineF w0 w H F S) (hs : s.size ≤ 1048576) :
    Calls Try.prog 11 #[.pointer (some ⟨H, 0, none⟩), .int .i64 a, .string s] w fun e w' => e = .returned (.int .i64 (doErr S ⟨1, a, b, c, d, s⟩)) ∧ MineStep w0 w H F (doS S ⟨1, a, b, c, d, s⟩) w' := by
  obtain ⟨R, hp, hF, hbw, hg⟩ := h
  refine (hrSubscribe a b c d s hp hg hs).mono ?_
  rintro e w1 ⟨rfl, ho⟩
  exact ⟨rfl, MineF.step hF hbw (hg.does ⟨⟨by show (1 : Int) ≤ 1; omega, by show (1 : Int) ≤ 7; omega⟩, hs⟩) ho⟩

theorem mineFUnsub {w0 w : World} {H : Nat} {F : Nat → Prop} {S : RefS} (a b c d : Int) (s : ByteArray) (h : MineF w0 w H F S) (hs : s.size ≤ 1048576) :
    Calls Try.prog 73 #[.pointer (some ⟨H, 0, none⟩), .int .i64 a, .string s] w fun e w' => e = .returned (.int .i64 (doErr S ⟨2, a, b, c, d, s⟩)) ∧ MineStep w0 w H F (doS S ⟨2, a, b, c, d, s⟩) w' := by
  obtain ⟨R, hp, hF, hbw, hg⟩ := h
  refine (hrUnsubscribe a b c d s hp hg hs).mono ?_
  rintro e w1 ⟨rfl, ho⟩
  exact ⟨rfl, MineF.step hF hbw (hg.does ⟨⟨by show (1 : Int) ≤ 2; omega, by show (2 : Int) ≤ 7; omega⟩, hs⟩) ho⟩

theorem mineFCancel {w0 w : World} {H : Nat} {F : Nat → Prop} {S : RefS} (a b c d : Int) (s : ByteArray) (h : MineF w0 w H F S) (hs : s.size ≤ 1048576) :
    Calls Try.prog 22 #[.pointer (some ⟨H, 0, none⟩), .int .i64 b] w fun e w' => e = .returned (.int .i64 (doErr S ⟨4, a, b, c, d, s⟩)) ∧ MineStep w0 w H F (doS S ⟨4, a, b, c, d, s⟩) w' := by
  obtain ⟨R, hp, hF, hbw, hg⟩ := h
  refine (hrCancel a b c d s hp hg).mono ?_
  rintro e w1 ⟨rfl, ho⟩
  exact ⟨rfl, MineF.step hF hbw (hg.does ⟨⟨by show (1 : Int) ≤ 4; omega, by show (4 : Int) ≤ 7; omega⟩, hs⟩) ho⟩

theorem mineFMove {w0 w : World} {H : Nat} {F : Nat → Prop} {S : RefS} (a b c d : Int) (s : ByteArray) (h : MineF w0 w H F S) (hs : s.size ≤ 1048576) :
    Calls Try.prog 23 #[.pointer (some ⟨H, 0, none⟩), .int .i64 b, .int .i64 c] w fun e w' => e = .returned (.int .i64 (doErr S ⟨5, a, b, c, d, s⟩)) ∧ MineStep w0 w H F (doS S ⟨5, a, b, c, d, s⟩) w' := by
  obtain ⟨R, hp, hF, hbw, hg⟩ := h
  refine (hrMove a b c d s hp hg).mono ?_
  rintro e w1 ⟨rfl, ho⟩
  exact ⟨rfl, MineF.step hF hbw (hg.does ⟨⟨by show (1 : Int) ≤ 5; omega, by show (5 : Int) ≤ 7; omega⟩, hs⟩) ho⟩

theorem mineFTick {w0 w : World} {H : Nat} {F : Nat → Prop} {S : RefS} (a b c d : Int) (s : ByteArray) (h : MineF w0 w H F S) (hs : s.size ≤ 1048576) :
    Calls Try.prog 19 #[.pointer (some ⟨H, 0, none⟩), .int .i64 b] w fun e w' => e = .returned (.int .i64 (doErr S ⟨6, a, b, c, d, s⟩)) ∧ MineStep w0 w H F (doS S ⟨6, a, b, c, d, s⟩) w' := by
  obtain ⟨R, hp, hF, hbw, hg⟩ := h
  refine (hrTick a b c d s hp hg).mono ?_
  rintro e w1 ⟨rfl, ho⟩
  exact ⟨rfl, MineF.step hF hbw (hg.does ⟨⟨by show (1 : Int) ≤ 6; omega, by show (6 : Int) ≤ 7; omega⟩, hs⟩) ho⟩

theorem mineFAck {w0 w : World} {H : Nat} {F : Nat → Prop} {S : RefS} (a b c d : Int) (s : ByteArray) (h : MineF w0 w H F S) (hs : s.size ≤ 1048576) :
    Calls Try.prog 13 #[.pointer (some ⟨H, 0, none⟩), .int .i64 a, .int .i64 b] w fun e w' => e = .returned (.int .i64 (doErr S ⟨7, a, b, c, d, s⟩)) ∧ MineStep w0 w H F (doS S ⟨7, a, b, c, d, s⟩) w' := by
  obtain ⟨R, hp, hF, hbw, hg⟩ := h
  refine (hrAck a b c d s hp hg).mono ?_
  rintro e w1 ⟨rfl, ho⟩
  exact ⟨rfl, MineF.step hF hbw (hg.does ⟨⟨by show (1 : Int) ≤ 7; omega, by show (7 : Int) ≤ 7; omega⟩, hs⟩) ho⟩

theorem mineFPub {w0 w : World} {H : Nat} {F : Nat → Prop} {S : RefS} (a b c d : Int) (s : ByteArray) (h : MineF w0 w H F S) (hs : s.size ≤ 1048576) :
    Calls Try.prog 14 #[.pointer (some ⟨H, 0, none⟩), .string s, .int .i64 b, .int .i64 c, .int .i64 d] w fun e w' => e = .returned (.tuple #[.int .i64 (doAns S ⟨3, a, b, c, d, s⟩), .int .i64 (doErr S ⟨3, a, b, c, d, s⟩)]) ∧ MineStep w0 w H F (doS S ⟨3, a, b, c, d, s⟩) w' := by
  obtain ⟨R, hp, hF, hbw, hg⟩ := h
  refine (hrPublish a b c d s hp hg hs).mono ?_
  rintro e w1 ⟨rfl, ho⟩
  exact ⟨rfl, MineF.step hF hbw (hg.does ⟨⟨by show (1 : Int) ≤ 3; omega, by show (3 : Int) ≤ 7; omega⟩, hs⟩) ho⟩
end Go.Proofs.Ytmjdndhfmfjbiab

namespace Go.Proofs.Ytmjdndhfmfjbiab
open Go.RowKit

def sentX (x : ByteArray) (k : Int) : SentD := ⟨k, x, k, 0, 0⟩
def mailX (x : ByteArray) (k : Int) : MailD := ⟨k, x, k, 0, 0⟩

/-- What a client has that took all of it. -/
structure OrderI (x : ByteArray) (S : RefS) (n lost : Nat) (ns : List Int) (t : Nat) : Prop where
  time : S.time = 0
  wait : S.wait = []
  pub : S.pub = (n : Int)
  room : S.room = 500
  fit : fitAny (S.fil 3) x = true
  fil2 : S.fil 2 = []
  que2 : S.que 2 = []
  lost2 : S.lost 2 = 0
  lost3 : S.lost 3 = (lost : Int)
  que3 : S.que 3 = ns.map (sentX x)
  few : ns.length ≤ 10
  done : S.done.length ≤ t

theorem order_any (x : ByteArray) (ns : List Int) (k : Int) : (ns.map (sentX x)).any (fun m => m.number == k) = ns.any (fun j => j == k) := by rw [List.any_map]; rfl
theorem order_anyM (x : ByteArray) (ns : List Int) (k : Int) : (ns.map (mailX x)).any (fun m => m.number == k) = ns.any (fun j => j == k) := by rw [List.any_map]; rfl
theorem order_filter (x : ByteArray) (ns : List Int) (k : Int) : (ns.map (sentX x)).filter (fun m => m.number != k) = (ns.filter (fun j => j != k)).map (sentX x) := by rw [List.filter_map]; rfl
theorem order_filterM (x : ByteArray) (ns : List Int) (k : Int) : (ns.map (mailX x)).filter (fun m => m.number != k) = (ns.filter (fun j => j != k)).map (mailX x) := by rw [List.filter_map]; rfl

theorem order_ack {x : ByteArray} {S : RefS} {n lost : Nat} {ns : List Int} {t : Nat} (h : OrderI x S n lost ns t) (ht : t < 500) (k b c : Int) (s : ByteArray) :
    doErr S ⟨7, 3, k, b, c, s⟩ = (if ns.any (fun j => j == k) then 0 else 7) ∧ OrderI x (doS S ⟨7, 3, k, b, c, s⟩) n lost (ns.filter (fun j => j != k)) (t + 1) := by
  have hk3 : knownB 3 = true := by decide
  have hw : wrongM S ⟨7, 3, k, b, c, s⟩ = noneErr (findM (fun m => m.number == k) (S.que 3) 0) := by simp [wrongM, hk3]
  have hf := any_findL (fun m : SentD => m.number == k) (S.que 3)
  rw [h.que3, order_any] at hf
  cases ha : ns.any (fun j => j == k)
  · have hlt := hf.2 ha
    have hz : wrongM S ⟨7, 3, k, b, c, s⟩ = 7 := by rw [hw, h.que3, noneErr, if_pos hlt]
    have e := is_wrong hz (by omega)
    refine ⟨by rw [e]; rfl, ?_⟩
    rw [(not_done (by rw [e]; omega)).2.1]
    have hfl : ns.filter (fun j => j != k) = ns := List.filter_eq_self.2 (fun j hj => by
      have := List.any_eq_false.1 ha j hj
      simpa using this)
    rw [hfl]
    exact ⟨h.time, h.wait, h.pub, h.room, h.fit, h.fil2, h.que2, h.lost2, h.lost3, h.que3, h.few, Nat.le_succ_of_le h.done⟩
  · have hz : wrongM S ⟨7, 3, k, b, c, s⟩ = 0 := by
      rw [hw, h.que3, noneErr, if_neg]
      intro hlt
      have := hf.1 hlt
      rw [ha] at this
      cases this
    obtain ⟨-, q2, q3⟩ := is_done hz (writes_not (by show (7 : Int) ≠ 6; decide)) (by rw [h.room]; have := h.done; omega)
    refine ⟨by rw [q2]; rfl, ?_⟩
    rw [q3]
    have e : turnM { S with done := S.done ++ [⟨7, 3, k, b, c, s⟩] } ⟨7, 3, k, b, c, s⟩ = { S with done := S.done ++ [⟨7, 3, k, b, c, s⟩], que := setAt S.que 3 ((S.que 3).filter (fun m => m.number != k)) } := by simp [turnM]
    rw [e]
    refine ⟨h.time, h.wait, h.pub, h.room, h.fit, h.fil2, ?_, h.lost2, h.lost3, ?_, Nat.le_trans (List.length_filter_le _ _) h.few, ?_⟩
    · show setAt S.que 3 ((S.que 3).filter (fun m => m.number != k)) 2 = []
      rw [setAt_other _ _ _ _ (by omega)]; exact h.que2
    · show setAt S.que 3 ((S.que 3).filter (fun m => m.number != k)) 3 = (ns.filter (fun j => j != k)).map (sentX x)
      rw [setAt_same, h.que3, order_filter]
    · have := h.done
      simp
      omega

theorem order_pub {x : ByteArray} {S : RefS} {n lost : Nat} {ns : List Int} {t : Nat} (h : OrderI x S n lost ns t) (ht : t < 500) (hn : n ≤ 500) (hx : M.isPathM false x = true) (a : Int) :
    doErr S ⟨3, a, (n : Int), 0, 0, x⟩ = 0 ∧ doAns S ⟨3, a, (n : Int), 0, 0, x⟩ = (n : Int) ∧
      OrderI x (doS S ⟨3, a, (n : Int), 0, 0, x⟩) (n + 1) (if ns.length < 10 then lost else lost + 1) (if ns.length < 10 then ns ++ [(n : Int)] else ns) (t + 1) := by
  obtain ⟨p1, p2, p3⟩ := pub_now (S := S) (x := x) (v := (n : Int)) (life := 0) a hx (by omega) (by omega) (by omega) (by omega) (by rw [h.room]; have := h.done; omega)
  refine ⟨p1, p2.trans h.pub, ?_⟩
  rw [p3]
  obtain ⟨k1, k2, k3, k4, k5, k6, -⟩ := sendTo_keeps { S with done := S.done ++ [⟨3, a, (n : Int), 0, 0, x⟩], pub := S.pub + 1 } ⟨S.pub, x, (n : Int), 0, 0⟩ 8
  have q2 := send_at { S with done := S.done ++ [⟨3, a, (n : Int), 0, 0, x⟩], pub := S.pub + 1 } ⟨S.pub, x, (n : Int), 0, 0⟩ 2 (by omega)
  have q3 := send_at { S with done := S.done ++ [⟨3, a, (n : Int), 0, 0, x⟩], pub := S.pub + 1 } ⟨S.pub, x, (n : Int), 0, 0⟩ 3 (by omega)
  have l2 := send_lost { S with done := S.done ++ [⟨3, a, (n : Int), 0, 0, x⟩], pub := S.pub + 1 } ⟨S.pub, x, (n : Int), 0, 0⟩ 2 (by omega)
  have l3 := send_lost { S with done := S.done ++ [⟨3, a, (n : Int), 0, 0, x⟩], pub := S.pub + 1 } ⟨S.pub, x, (n : Int), 0, 0⟩ 3 (by omega)
  have f2 : fitAny (S.fil 2) x = false := by rw [h.fil2]; rfl
  have hso : sentOf { S with done := S.done ++ [⟨3, a, (n : Int), 0, 0, x⟩], pub := S.pub + 1 } ⟨S.pub, x, (n : Int), 0, 0⟩ = sentX x (n : Int) := by
    show (⟨S.pub, x, (n : Int), S.time, 0⟩ : SentD) = _
    rw [h.pub, h.time]; rfl
  have q2' : (sendTo { S with done := S.done ++ [⟨3, a, (n : Int), 0, 0, x⟩], pub := S.pub + 1 } ⟨S.pub, x, (n : Int), 0, 0⟩ 8).que 2 = [] := by
    rw [q2]
    show (if fitAny (S.fil 2) x = true then _ else S.que 2) = _
    rw [f2]; exact h.que2
  have l2' : (sendTo { S with done := S.done ++ [⟨3, a, (n : Int), 0, 0, x⟩], pub := S.pub + 1 } ⟨S.pub, x, (n : Int), 0, 0⟩ 8).lost 2 = 0 := by
    rw [l2]
    show (if fitAny (S.fil 2) x = true then _ else S.lost 2) = _
    rw [f2]; exact h.lost2
  have hql : (S.que 3).length = ns.length := by rw [h.que3, List.length_map]
  by_cases hl : ns.length < 10
  · rw [if_pos hl, if_pos hl]
    refine ⟨k2.trans h.time, k4.trans h.wait, by rw [k6]; show S.pub + 1 = _; rw [h.pub]; push_cast; rfl, k5.trans h.room, by rw [k1]; exact h.fit, by rw [k1]; exact h.fil2, q2', l2', ?_, ?_, by simp; omega, by rw [k3]; have := h.done; simp; omega⟩
    · rw [l3]
      show (if fitAny (S.fil 3) x = true then (if 10 ≤ (S.que 3).length then S.lost 3 + 1 else S.lost 3) else S.lost 3) = _
      rw [h.fit, if_pos rfl, if_neg (by omega)]; exact h.lost3
    · rw [q3]
      show (if fitAny (S.fil 3) x = true then (if 10 ≤ (S.que 3).length then S.que 3 else S.que 3 ++ [sentOf _ _]) else S.que 3) = _
      rw [h.fit, if_pos rfl, if_neg (by omega), hso, h.que3, List.map_append]; rfl
  · rw [if_neg hl, if_neg hl]
    refine ⟨k2.trans h.time, k4.trans h.wait, by rw [k6]; show S.pub + 1 = _; rw [h.pub]; push_cast; rfl, k5.trans h.room, by rw [k1]; exact h.fit, by rw [k1]; exact h.fil2, q2', l2', ?_, ?_, h.few, by rw [k3]; have := h.done; simp; omega⟩
    · rw [l3]
      show (if fitAny (S.fil 3) x = true then (if 10 ≤ (S.que 3).length then S.lost 3 + 1 else S.lost 3) else S.lost 3) = _
      rw [h.fit, if_pos rfl, if_pos (by omega), h.lost3]; push_cast; rfl
    · rw [q3]
      show (if fitAny (S.fil 3) x = true then (if 10 ≤ (S.que 3).length then S.que 3 else S.que 3 ++ [sentOf _ _]) else S.que 3) = _
      rw [h.fit, if_pos rfl, if_pos (by omega), h.que3]

def IntsAt (w : World) (ao : Option Addr) (l : List Int) : Prop := ∀ j z, l[j]? = some z → ∃ g off, ao = some ⟨g, off, none⟩ ∧ w.cell? ⟨g, off + j, none⟩ = some (.int .i64 z)

theorem hash_not {x : ByteArray} (hx : M.isPathM false x = true) : (x.toList == (⟨#[35]⟩ : ByteArray).toList) = false := by
  cases h : (x.toList == (⟨#[35]⟩ : ByteArray).toList) with
  | false => rfl
  | true =>
    rw [beq_iff_eq, ByteArray.toList_eq, ByteArray.toList_eq] at h
    rw [M.isPath_L] at hx
    have : M.L x = [35] := h
    rw [this] at hx
    exact absurd hx (by decide)

/-- Behind both subscriptions. -/
theorem order_start {x : ByteArray} (hx : M.isPathM false x = true) : doErr (refNew 500) ⟨1, 3, 0, 0, 0, x⟩ = 0 ∧ doErr (doS (refNew 500) ⟨1, 3, 0, 0, 0, x⟩) ⟨1, 3, 0, 0, 0, ⟨#[35]⟩⟩ = 0 ∧
    OrderI x (doS (doS (refNew 500) ⟨1, 3, 0, 0, 0, x⟩) ⟨1, 3, 0, 0, 0, ⟨#[35]⟩⟩) 0 0 [] 2 := by
  obtain ⟨p1, p2⟩ := sub_first (topic_filter hx) 3 (by omega) 500 (by omega) 0 0 0
  have p1' : doErr (refNew 500) ⟨1, 3, 0, 0, 0, x⟩ = 0 := p1
  have p2' : doS (refNew 500) ⟨1, 3, 0, 0, 0, x⟩ = { refNew 500 with done := [⟨1, 3, 0, 0, 0, x⟩], fil := setAt (fun _ => []) 3 [x] } := p2
  refine ⟨p1', ?_⟩
  rw [p2']
  have hk3 : knownB 3 = true := by decide
  have hh : M.isPathM true ⟨#[35]⟩ = true := hash_path
  have hf3 : (setAt (fun _ => ([] : List ByteArray)) 3 [x]) 3 = [x] := setAt_same _ _ _
  have hz : wrongM ({ refNew 500 with done := [⟨1, 3, 0, 0, 0, x⟩], fil := setAt (fun _ => []) 3 [x] } : RefS) ⟨1, 3, 0, 0, 0, ⟨#[35]⟩⟩ = 0 := by
    have e : findM (fun f => f.toList == (⟨#[35]⟩ : ByteArray).toList) [x] 0 = -1 := by
      rw [findM, hash_not hx]; rfl
    show (if (1 : Int) = 1 then (if knownB 3 = false then 2 else if M.isPathM true ⟨#[35]⟩ = false then 4 else subErr (findM (fun f => f.toList == (⟨#[35]⟩ : ByteArray).toList) ((setAt (fun _ => ([] : List ByteArray)) 3 [x]) 3) 0) ((setAt (fun _ => ([] : List ByteArray)) 3 [x]) 3).length) else _) = 0
    rw [if_pos rfl, hk3, hh, hf3, e]
    simp [subErr]
  obtain ⟨-, q2, q3⟩ := is_done hz (writes_not (by show (1 : Int) ≠ 6; decide)) (by show ((1 : Nat) : Int) < 500; omega)
  refine ⟨q2, ?_⟩
  rw [q3]
  have e : turnM ({ ({ refNew 500 with done := [⟨1, 3, 0, 0, 0, x⟩], fil := setAt (fun _ => []) 3 [x] } : RefS) with done := [⟨1, 3, 0, 0, 0, x⟩] ++ [⟨1, 3, 0, 0, 0, ⟨#[35]⟩⟩] } : RefS) ⟨1, 3, 0, 0, 0, ⟨#[35]⟩⟩ =
      { refNew 500 with done := [⟨1, 3, 0, 0, 0, x⟩] ++ [⟨1, 3, 0, 0, 0, ⟨#[35]⟩⟩], fil := setAt (setAt (fun _ => []) 3 [x]) 3 ((setAt (fun _ => []) 3 [x]) 3 ++ [⟨#[35]⟩]) } := by simp [turnM, refNew]
  have e2 := e
  refine (show OrderI x _ 0 0 [] 2 from ?_)
  rw [show turnM _ _ = _ from e2]
  refine ⟨rfl, rfl, rfl, rfl, ?_, ?_, rfl, rfl, rfl, rfl, by simp, by simp⟩
  · show fitAny (setAt (setAt (fun _ => []) 3 [x]) 3 ((setAt (fun _ => []) 3 [x]) 3 ++ [⟨#[35]⟩]) 3) x = true
    rw [setAt_same, hf3]
    unfold fitAny
    rw [List.cons_append, List.any_cons, M.along_L, M.along_self]; rfl
  · show setAt (setAt (fun _ => ([] : List ByteArray)) 3 [x]) 3 ((setAt (fun _ => ([] : List ByteArray)) 3 [x]) 3 ++ [⟨#[35]⟩]) 2 = []
    rw [setAt_other _ _ _ _ (by omega), setAt_other _ _ _ _ (by omega)]

theorem mail_sent (x : ByteArray) (ns : List Int) : (ns.map (sentX x)).map (mailOf 0) = ns.map (mailX x) := by
  rw [List.map_map]
  rfl

end Go.Proofs.Ytmjdndhfmfjbiab

namespace Go.Proofs.Ytmjdndhfmfjbiab
open Go.RowKit

set_option maxRecDepth 100000 in
set_option maxHeartbeats 8000000 in
theorem orderWalk (s : ByteArray) (l : List Int) (ao : Option Addr) (m cap : Nat) (w : World) (hs : s.size ≤ maxLen) (hl : l.length = m) (hsc : IntsAt w ao l) (hbd : ∀ z ∈ l, -9223372036854775808 ≤ z ∧ z ≤ 9223372036854775807) :
    Calls Try.prog 3 #[.string s, .slice ao m cap] w fun e w' => e = .returned (.bool true) ∧ Below w.heap.size w w' := by
  obtain ⟨i0, hi, hz0, hz1, hz2⟩ := info_parts infoMail
  have HL : Hid (l.length = m) := hl
  have HSC : Hid (IntsAt w ao l) := hsc
  have HBD : Hid (∀ z ∈ l, -9223372036854775808 ≤ z ∧ z ≤ 9223372036854775807) := hbd
  clear hl hsc hbd
  go_enter Try.func3, Try.ntmps3
  go_wp2_with fail
  refine (mineOpened 500 w (by omega) (by omega)).mono ?_
  rintro e w1 ⟨H, rfl, hm1⟩
  have M1 : Hid (Mine w w1 H (refNew 500)) := hm1
  clear hm1
  go_wp2_with fail
  refine (keepTopic s _ hs).mono ?_
  rintro e w2 ⟨⟨x, rfl, hx⟩, hb2⟩
  have HX : Hid (M.isPathM false x = true) := hx
  have hxs : x.size ≤ 1048576 := Nat.le_trans (path15 hx) (by omega)
  have M2 : Hid (Mine w w2 H (refNew 500)) := M1.out.below hb2
  obtain ⟨p1, p2, p3⟩ := order_start hx
  have P1 : Hid (doErr (refNew 500) ⟨1, 3, 0, 0, 0, x⟩ = 0) := p1
  have P2 : Hid (doErr (doS (refNew 500) ⟨1, 3, 0, 0, 0, x⟩) ⟨1, 3, 0, 0, 0, ⟨#[35]⟩⟩ = 0) := p2
  have P3 : Hid (OrderI x (doS (doS (refNew 500) ⟨1, 3, 0, 0, 0, x⟩) ⟨1, 3, 0, 0, 0, ⟨#[35]⟩⟩) 0 0 [] 2) := p3
  clear hx hb2 p1 p2 p3
  go_wp2_with fail
  refine (mineSub 3 0 0 0 x M2.out hxs).mono ?_
  rintro e w3 ⟨rfl, hm3⟩
  rw [P1.out]
  have M3 : Hid (Mine w w3 H (doS (refNew 500) ⟨1, 3, 0, 0, 0, x⟩)) := hm3
  clear hm3
  go_wp2_with fail
  refine (mineSub 3 0 0 0 ⟨#[35]⟩ M3.out (by show 1 ≤ _; omega)).mono ?_
  rintro e w4 ⟨rfl, hm4⟩
  rw [P2.out]
  obtain ⟨F4, hm4⟩ := hm4.mineF
  have M4 : Hid (MineF w w4 H F4 (doS (doS (refNew 500) ⟨1, 3, 0, 0, 0, x⟩) ⟨1, 3, 0, 0, 0, ⟨#[35]⟩⟩)) := hm4
  clear hm4
  go_wp2_with fail
  go_loopw [7, 9, 10, 11, 12] (fun e v n lo i wr => ∃ (k N L : Nat) (S : RefS) (F : Nat → Prop) (ns : List Int), k ≤ m ∧ k ≤ 400 ∧ i = .int .i64 (k : Int) ∧ n = .int .i64 (N : Int) ∧ lo = .int .i64 (L : Int) ∧ (∃ z, e = .int .i64 z) ∧ N ≤ k ∧ L ≤ k ∧ OrderI x S N L ns (2 + k) ∧ MineF w wr H F S ∧
    wr.ownsRow w.heap.size 35 5 v (ns.map (mailX x)).length ((ns.map (mailX x)).flatMap mailCells) ∧ ∀ g, v.ownBlock = some g → ¬ F g) (fun _ _ _ _ i _ => 400 - (intOf i).toNat)
  case atStart => exact ⟨0, 0, 0, _, F4, [], Nat.zero_le _, by omega, rfl, rfl, rfl, ⟨0, rfl⟩, Nat.le_refl _, Nat.le_refl _, P3.out, M4.out, World.ownsRow_nil _ _ _ _, fun g hg => by simp [Value.ownBlock] at hg⟩
  case round =>
    obtain ⟨k, N, L, S, F, ns, hkm, hk4, rfl, rfl, rfl, ⟨z0, rfl⟩, hN, hL, hI, hM, hown, hap⟩ := hrel
    have OI : Hid (OrderI x S N L ns (2 + k)) := hI
    have MM : Hid (MineF w wr H F S) := hM
    have HAP : Hid _ := hap
    have hnl : (ns.map (mailX x)).length ≤ 10 := by rw [List.length_map]; exact hI.few
    have hsz := hM.mine.out.size
    have HNL : Hid (ns.length = (ns.map (mailX x)).length) := by show _ = _; rw [List.length_map]
    clear hI hM hap
    generalize hMS : ns.map (mailX x) = MS at *
    have HMS : Hid (ns.map (mailX x) = MS) := hMS
    clear hMS
    by_cases hlt : k < m ∧ k < 400
    · obtain ⟨hlt1, hlt2⟩ := hlt
      obtain ⟨z, hz⟩ : ∃ z, l[k]? = some z := ⟨_, List.getElem?_eq_getElem (by rw [HL.out]; exact hlt1)⟩
      obtain ⟨zb0, zb1⟩ := HBD.out z (List.mem_of_getElem? hz)
      obtain ⟨gs, off, rfl, hcs⟩ := HSC.out k z hz
      have hcz := cell_later MM.out.mine.out hcs
      clear hz hcs
      by_cases hpos : 0 ≤ z
      · obtain ⟨av, cv, rfl, -, -, hcv⟩ := Row.form (row_of_own (w := w) hown nilV).1
        have HCV : Hid (CellsAt wr av (MS.flatMap mailCells)) := hcv
        obtain ⟨q1, q2⟩ := order_ack OI.out (by omega) (z % 40) 0 0 ⟨#[]⟩
        have Q1 : Hid (doErr S ⟨7, 3, z % 40, 0, 0, ⟨#[]⟩⟩ = (if ns.any (fun j => j == z % 40) then 0 else 7)) := q1
        have Q2 : Hid (OrderI x (doS S ⟨7, 3, z % 40, 0, 0, ⟨#[]⟩⟩) N L (ns.filter (fun j => j != z % 40)) (2 + k + 1)) := q2
        have HAN : Hid (MS.any (fun m => m.number == z % 40) = ns.any (fun j => j == z % 40)) := by show _ = _; rw [← HMS.out]; exact order_anyM _ _ _
        have HFI : Hid (MS.filter (fun m => m.number != z % 40) = (ns.filter (fun j => j != z % 40)).map (mailX x)) := by show _ = _; rw [← HMS.out]; exact order_filterM _ _ _
        clear q1 q2 hcv hown
        cases hany : ns.any (fun j => j == z % 40)
        all_goals
          have HANY : Hid (ns.any (fun j => j == z % 40) = _) := hany
          clear hany
          go_wp2_with fail
          refine (keepWithout MS av cv (z % 40) _ (by omega) HCV.out).mono ?_
          rintro e w5 ⟨v5, rfl, ho5, hb5⟩
          rw [HAN.out, HANY.out]
          rw [HFI.out] at ho5
          have M5 : Hid (MineF w w5 H F S) := MM.out.below hb5
          have HO5 : Hid _ := ho5
          clear ho5 hb5
          go_wp2_with fail
          refine (mineFAck 3 (z % 40) 0 0 ⟨#[]⟩ M5.out (Nat.zero_le _)).mono ?_
          rintro e w6 ⟨rfl, F6, hm6, hu6, hF6, hk6⟩
          rw [Q1.out, HANY.out]
          have M6 : Hid (MineF w w6 H F6 (doS S ⟨7, 3, z % 40, 0, 0, ⟨#[]⟩⟩)) := hm6
          have HO6 : Hid (w6.ownsRow w.heap.size 35 5 v5 ((ns.filter (fun j => j != z % 40)).map (mailX x)).length (((ns.filter (fun j => j != z % 40)).map (mailX x)).flatMap mailCells)) :=
            own_mono (own_upd HO5.out hu6 (fun g hg hf => by have h1 := (World.ownsRow.lt HO5.out g hg).1; have h2 := MM.out.lt hf; omega)) hsz
          have AP6 : Hid (∀ g, v5.ownBlock = some g → ¬ F6 g) := fun g hg hf => by
            obtain ⟨h1, h3⟩ := World.ownsRow.lt HO5.out g hg
            rcases hk6 g hf with h2 | h2
            · have := MM.out.lt h2; omega
            · omega
          clear hm6 hu6 hF6 hk6
          go_wp2_with fail
          go_roundw
          case rel => exact ⟨k + 1, N, L, _, F6, _, by omega, by omega, by go_num, rfl, rfl, ⟨_, rfl⟩, by omega, by omega, Q2.out, M6.out, HO6.out, AP6.out⟩
          case measure => simp [intOf]; omega
      · obtain ⟨av, cv, rfl, -, -, -⟩ := Row.form (row_of_own (w := w) hown nilV).1
        obtain ⟨q1, q2, q3⟩ := order_pub OI.out (by omega) (by omega) HX.out 0
        have Q1 : Hid (doErr S ⟨3, 0, (N : Int), 0, 0, x⟩ = 0) := q1
        have Q2 : Hid (doAns S ⟨3, 0, (N : Int), 0, 0, x⟩ = (N : Int)) := q2
        have Q3 : Hid (OrderI x (doS S ⟨3, 0, (N : Int), 0, 0, x⟩) (N + 1) (if ns.length < 10 then L else L + 1) (if ns.length < 10 then ns ++ [(N : Int)] else ns) (2 + k + 1)) := q3
        have HOW : Hid _ := hown
        clear q1 q2 q3 hown
        go_wp2_with fail
        refine (mineFPub 0 (N : Int) 0 0 x MM.out hxs).mono ?_
        rintro e w5 ⟨rfl, F5, hm5, hu5, hF5, hk5⟩
        rw [Q1.out, Q2.out]
        have M5 : Hid (MineF w w5 H F5 (doS S ⟨3, 0, (N : Int), 0, 0, x⟩)) := hm5
        have HO5 : Hid (w5.ownsRow w.heap.size 35 5 (.slice av MS.length cv) MS.length (MS.flatMap mailCells)) := own_upd HOW.out hu5 (fun g hg hf => HAP.out g hg hf)
        have AP5 : Hid (∀ g, (Value.slice av MS.length cv).ownBlock = some g → ¬ F5 g) := fun g hg hf => by
          rcases hk5 g hf with h2 | h2
          · exact HAP.out g hg h2
          · have := (World.ownsRow.lt HOW.out g hg).2; omega
        have hs5 : wr.heap.size ≤ w5.heap.size := hu5.size
        clear hm5 hu5 hF5 hk5
        by_cases hten : MS.length < 10
        · have Q4 : Hid (OrderI x (doS S ⟨3, 0, (N : Int), 0, 0, x⟩) (N + 1) L (ns ++ [(N : Int)]) (2 + k + 1)) := by
            have h1 := Q3.out
            rw [if_pos (by rw [HNL.out]; exact hten), if_pos (by rw [HNL.out]; exact hten)] at h1
            exact h1
          obtain ⟨v6, w6, hrun, hown6, hgrow, -, hat⟩ := run_append_own_at (P := Try.prog) (w5.alloc (.cells (mailCells ⟨(N : Int), x, (N : Int), 0, 0⟩).toArray 35)) w.heap.size 28 28 35 i0 _ 5 48 Try.underlying28 hi hz0 hz1 hz2 rfl (by omega) _ _ _ (World.ownsRow.alloc HO5.out _) ⟨w5.heap.size, 0, none⟩ 1 1 (mailCells ⟨(N : Int), x, (N : Int), 0, 0⟩) rfl (cells_new _ _ _) (mail_one _) (by unfold maxLen; omega) (by omega) (by simp; omega)
          have M6 : Hid (MineF w w6 H F5 (doS S ⟨3, 0, (N : Int), 0, 0, x⟩)) :=
            (M5.out.below (below_one _ _)).upd (P := fun i => (Value.slice av MS.length cv).ownBlock = some i) ((Upd.refl _ _).grown hgrow (fun i e _ => e)) (fun g hg => (World.ownsRow.lt HO5.out g hg).1) (fun g hf hg => AP5.out g hg hf)
          have HO6 : Hid (w6.ownsRow w.heap.size 35 5 v6 ((ns ++ [(N : Int)]).map (mailX x)).length (((ns ++ [(N : Int)]).map (mailX x)).flatMap mailCells)) := by
            show World.ownsRow _ _ _ _ _ _ _
            rw [List.map_append, HMS.out]
            simpa [mailX] using hown6
          have AP6 : Hid (∀ g, v6.ownBlock = some g → ¬ F5 g) := fun g hg hf => by
            rcases hat with h | h
            · exact AP5.out g (h.symm.trans hg) hf
            · rw [h] at hg
              simp at hg
              have := M5.out.lt hf
              omega
          clear hown6 hgrow hat
          go_wp2_with (first | (at_builtin; refine wpList_append_run rfl _ _ 28 rfl _ _ _ _ rfl rfl hrun ?_))
          go_wp2_with fail
          go_roundw
          case rel => exact ⟨k + 1, N + 1, L, _, F5, _, by omega, by omega, by go_num, by go_num, rfl, ⟨_, rfl⟩, by omega, by omega, Q4.out, M6.out, HO6.out, AP6.out⟩
          case measure => simp [intOf]; omega
        · have Q4 : Hid (OrderI x (doS S ⟨3, 0, (N : Int), 0, 0, x⟩) (N + 1) (L + 1) ns (2 + k + 1)) := by
            have h1 := Q3.out
            rw [if_neg (by rw [HNL.out]; exact hten), if_neg (by rw [HNL.out]; exact hten)] at h1
            exact h1
          go_wp2_with fail
          go_roundw
          case rel => exact ⟨k + 1, N + 1, L + 1, _, F5, ns, by omega, by omega, by go_num, by go_num, by go_num, ⟨_, rfl⟩, by omega, by omega, Q4.out, M5.out, by rw [HMS.out]; exact HO5.out, AP5.out⟩
          case measure => simp [intOf]; omega
    · obtain ⟨av, cv, rfl, -, -, hcv⟩ := Row.form (row_of_own (w := w) hown nilV).1
      have HCV : Hid (CellsAt wr av (MS.flatMap mailCells)) := hcv
      have hq3 : queueM S 3 = MS := by
        have e : queueM S 3 = (S.que 3).map (mailOf S.time) := by unfold queueM; rfl
        rw [e, OI.out.que3, OI.out.time, mail_sent, HMS.out]
      have hq2 : queueM S 2 = [] := by
        have e : queueM S 2 = (S.que 2).map (mailOf S.time) := by unfold queueM; rfl
        rw [e, OI.out.que2]; rfl
      have hl3 : lostM S 3 = (L : Int) := by
        have e : lostM S 3 = S.lost 3 := by unfold lostM; rfl
        rw [e]; exact OI.out.lost3
      have hl2 : lostM S 2 = 0 := by
        have e : lostM S 2 = S.lost 2 := by unfold lostM; rfl
        rw [e]; exact OI.out.lost2
      have HQ3 : Hid (queueM S 3 = MS) := hq3
      have HQ2 : Hid (queueM S 2 = []) := hq2
      have HL3 : Hid (lostM S 3 = (L : Int)) := hl3
      have HL2 : Hid (lostM S 2 = 0) := hl2
      have M0 : Hid (Mine w wr H S) := MM.out.mine
      clear hq3 hq2 hl3 hl2 hcv hown
      have hstop : ¬ (k < m ∧ k < 400) := hlt
      by_cases hkm2 : k < m
      · have hk400 : ¬ k < 400 := fun h => hlt ⟨hkm2, h⟩
        clear hlt hstop
        go_wp2_with fail
        refine (mineQueue 3 M0.out).mono ?_
        rintro e w5 ⟨q, rfl, ho5, hb5⟩
        rw [HQ3.out] at ho5
        obtain ⟨a5, c5, rfl, -, -, hc5⟩ := Row.form (row_of_own (w := wr) ho5 nilV).1
        have HC5 : Hid (CellsAt w5 a5 (MS.flatMap mailCells)) := hc5
        have M5 : Hid (Mine w w5 H S) := M0.out.below hb5
        have HCV5 : Hid (CellsAt w5 av (MS.flatMap mailCells)) := HCV.out.below hb5
        clear ho5 hc5 hb5
        go_wp2_with fail
        refine (mineQueue 2 M5.out).mono ?_
        rintro e w6 ⟨q, rfl, ho6, hb6⟩
        rw [HQ2.out] at ho6
        obtain ⟨a6, c6, rfl, -, -, -⟩ := Row.form (row_of_own (w := w5) ho6 nilV).1
        have M6 : Hid (Mine w w6 H S) := M5.out.below hb6
        have HC6 : Hid (CellsAt w6 a5 (MS.flatMap mailCells)) := HC5.out.below hb6
        have HCV6 : Hid (CellsAt w6 av (MS.flatMap mailCells)) := HCV5.out.below hb6
        clear ho6 hb6
        go_wp2_with fail
        refine (mineLost 3 M6.out).mono ?_
        rintro e w6 ⟨rfl, rfl⟩
        rw [HL3.out]
        go_wp2_with fail
        refine (mineLost 2 M6.out).mono ?_
        rintro e w6 ⟨rfl, rfl⟩
        rw [HL2.out]
        go_wp2_with fail
        refine (keepSameMails MS a5 av c5 cv _ (by omega) HC6.out HCV6.out).mono ?_
        rintro e w7 ⟨rfl, hb7⟩
        have HB7 : Hid (Below w.heap.size w w7) := (M6.out.below hb7).out
        clear hb7
        go_wp2_with fail
        go_ret
        exact ⟨rfl, HB7.out⟩
      · clear hlt hstop
        go_wp2_with fail
        refine (mineQueue 3 M0.out).mono ?_
        rintro e w5 ⟨q, rfl, ho5, hb5⟩
        rw [HQ3.out] at ho5
        obtain ⟨a5, c5, rfl, -, -, hc5⟩ := Row.form (row_of_own (w := wr) ho5 nilV).1
        have HC5 : Hid (CellsAt w5 a5 (MS.flatMap mailCells)) := hc5
        have M5 : Hid (Mine w w5 H S) := M0.out.below hb5
        have HCV5 : Hid (CellsAt w5 av (MS.flatMap mailCells)) := HCV.out.below hb5
        clear ho5 hc5 hb5
        go_wp2_with fail
        refine (mineQueue 2 M5.out).mono ?_
        rintro e w6 ⟨q, rfl, ho6, hb6⟩
        rw [HQ2.out] at ho6
        obtain ⟨a6, c6, rfl, -, -, -⟩ := Row.form (row_of_own (w := w5) ho6 nilV).1
        have M6 : Hid (Mine w w6 H S) := M5.out.below hb6
        have HC6 : Hid (CellsAt w6 a5 (MS.flatMap mailCells)) := HC5.out.below hb6
        have HCV6 : Hid (CellsAt w6 av (MS.flatMap mailCells)) := HCV5.out.below hb6
        clear ho6 hb6
        go_wp2_with fail
        refine (mineLost 3 M6.out).mono ?_
        rintro e w6 ⟨rfl, rfl⟩
        rw [HL3.out]
        go_wp2_with fail
        refine (mineLost 2 M6.out).mono ?_
        rintro e w6 ⟨rfl, rfl⟩
        rw [HL2.out]
        go_wp2_with fail
        refine (keepSameMails MS a5 av c5 cv _ (by omega) HC6.out HCV6.out).mono ?_
        rintro e w7 ⟨rfl, hb7⟩
        have HB7 : Hid (Below w.heap.size w w7) := (M6.out.below hb7).out
        clear hb7
        go_wp2_with fail
        go_ret
        exact ⟨rfl, HB7.out⟩
open Go.ChangeShapes Go.WideShapes Go.ChangeAt
open Go.ChangeMaps (open_string shut_string)

theorem laidOutK : laidOutB Try.prog = true := by kernel_rfl
theorem arr2o {args : Array Value} {a b : Value} (h : args.toList = [a, b]) : args = #[a, b] := by cases args; simp only at h; rw [h]
theorem ownO : ownKnob Try.prog.godebug = none := by kernel_rfl
theorem cellsIntK : Try.prog.cellsOf 3 = 1 := by kernel_rfl

set_option maxRecDepth 100000 in
/-- A row of numbers, opened. -/
theorem open_nums {H : Type} {enc : TypeId × Value → H} {W : World} {base : Nat} {v : Value} {d : DataW H} {p : List MemPlace} (hval : Value.okWide Try.prog W .any base 22 v) (h : DataW.Trod enc Try.prog W 0 (fun _ => true) true 22 v d p) :
    ∃ ao n cap, ∃ l : List Int, v = .slice ao n cap ∧ l.length = n ∧ IntsAt W ao l ∧ ∀ z ∈ l, -9223372036854775808 ≤ z ∧ z ≤ 9223372036854775807 := by
  obtain ⟨a0, len, cap, rfl⟩ := okWide_slice Try.underlying22 hval
  obtain ⟨fuel, hf⟩ := h
  rcases open_ints Try.underlying22 Try.underlying3 cellsIntK hf with ⟨hcs, -⟩ | ⟨a, len', cap', zs, hcs, -, hl, hm, hzl, -, hcell, hwf⟩
  · simp [Value.cells] at hcs
    obtain ⟨rfl, rfl, rfl⟩ := hcs
    exact ⟨none, 0, 0, [], rfl, rfl, fun j z hz => by simp at hz, fun z hz => by simp at hz⟩
  · simp [Value.cells] at hcs
    obtain ⟨rfl, rfl, rfl⟩ := hcs
    simp only [if_true] at hzl
    obtain ⟨b, off, spot⟩ := a
    refine ⟨some ⟨b, off, spot⟩, len, cap, zs.take len, rfl, by rw [List.length_take]; omega, fun j z hz => ?_, fun z hz => bounds_i64 (hwf z (List.mem_of_mem_take hz))⟩
    have hj : j < len := by
      have := (List.getElem?_eq_some_iff.1 hz).1
      rw [List.length_take] at this; omega
    rw [List.getElem?_take, if_pos hj] at hz
    have hc0 := hcell 0 (by omega)
    have hspot : spot = none := by
      have := World.cell?_spot hc0
      simpa [Addr.add] using this
    subst hspot
    have hc := hcell j (by omega)
    rw [Addr.add_lit, List.getD, hz, Option.getD_some] at hc
    exact ⟨b, off, rfl, hc⟩

set_option maxRecDepth 100000 in
theorem orderLifted (os : Os) (started : os.Started) (H : Type) (enc : TypeId × Value → H) :
    ReturnsInHanded {} Try.checked os 3 .any (Rows.orderSpec.pre6 enc Try.prog Try.f3 Rows.orderRow.domain false) (Rows.orderSpec.post enc Try.prog Try.f3 false true false false) := by
  refine returnsInHanded_of_change (C := Try.checked) ownO started (by kernel_rfl) Try.func3
    (ChangeSpec.witness6 (enc := enc) (C := Try.checked) false ⟨#[], #[.string .empty, .slice none 0 0], []⟩ 8 (by kernel_rfl) (by kernel_rfl) (by kernel_rfl) (by kernel_rfl)) ?_
  intro W base args ds gs before hval0 hW hcnd _
  have hval : ∀ (j : Nat) t v, Try.f3.params[j]? = some t → args[j]? = some v → Value.okWide Try.prog W .any base t v := hval0
  have hW' := hW
  obtain ⟨p, q, hA0, hV, rfl, hfz, hnd⟩ := hW
  have hA : DataW.TrodAll enc Try.prog W 0 (fun _ => true) true Try.f3.params.toList args.toList ds p := hA0
  rw [Try.params3] at hA hval
  obtain ⟨v0, vs0, d0, ds0, p0, q0, hargs, rfl, rfl, h0, r0⟩ := trodAll_cons hA
  obtain ⟨v1, vs1, d1, ds1, p1, q1, rfl, rfl, rfl, h1, r1⟩ := trodAll_cons r0
  obtain ⟨rfl, rfl, rfl⟩ := trodAll_nil r1
  obtain rfl := arr2o hargs
  obtain ⟨rfl, rfl⟩ := trodVars_none hV
  obtain ⟨s, rfl, rfl, rfl, hmax⟩ := open_string Try.underlying9 (hval 0 9 v0 rfl rfl) h0
  obtain ⟨ao, n, cap, l, rfl, hl, hsc, hbd⟩ := open_nums (hval 1 22 v1 rfl rfl) h1
  clear hA0 hval0 hcnd
  simp only [List.append_nil] at hW'
  have hlt : ∀ x ∈ p1, x.block < W.heap.size := fun x hx => hW'.lt x (by simp [hx])
  refine (orderWalk s l ao n cap W hmax hl hsc hbd).mono fun e W' ⟨he, hg⟩ => ?_
  subst he
  exact ⟨_, rfl, _, _, _, [], _, [], hW', trodAll_mk1 (shut_bool Try.underlying4 _), trodAll_cons_mk (shut_string Try.underlying9 hmax) (trodAll_cons_mk (Below.trod laidOutK (by kernel_rfl) (of_decide_eq_true (by kernel_rfl)) h1 hg hlt) trodAll_mk0), rfl, hg.frame _, fun h => by cases h⟩

theorem order_holds : Rows.OrderSaid :=
  OpenClaim.holds_of_wide 3 Try.f3 rfl rfl rfl rfl rfl rfl rfl ⟨rfl, rfl, rfl, rfl, rfl⟩ rfl rfl rfl rfl rfl (by kernel_rfl) Try.func3 (by kernel_rfl)
    (of_decide_eq_true (by kernel_rfl)) (by unfold Func.isWrapper; first | (rw [if_pos (by decide +kernel)]; kernel_rfl) | (rw [if_neg (by decide +kernel)]; exact ⟨rfl, rfl⟩))
    (fun os started H enc _ => orderLifted os started H enc)
end Go.Proofs.Ytmjdndhfmfjbiab

/-
  heraldkeep: messages that are published one by one, some at once, some later.
-/
namespace Go.Proofs.Ytmjdndhfmfjbiab
open Go.RowKit

/-- A message that is to be published, raw. -/
structure LetD where
  delay : Int
  value : Int
  s : ByteArray
def LetsAt (w : World) (ao : Option Addr) (l : List LetD) : Prop := ∀ j y, l[j]? = some y → ∃ g off, ao = some ⟨g, off, none⟩ ∧ w.cell? ⟨g, off + j * 3, none⟩ = some (.int .i64 y.delay) ∧ w.cell? ⟨g, off + j * 3 + 1, none⟩ = some (.int .i64 y.value) ∧ w.cell? ⟨g, off + j * 3 + 2, none⟩ = some (.string y.s)

theorem MineF.lk {w0 w : World} {H : Nat} {F : Nat → Prop} {S : RefS} (h : MineF w0 w H F S) : ∃ fil, Lk S fil (waitingM S) := by
  obtain ⟨R, ⟨x, fil, wait, hb, -⟩, -, -, -⟩ := h
  have := hb.lk
  rw [← hb.lk.waiting] at this
  exact ⟨fil, this⟩

/-- A message that waits. -/
theorem pub_later {S : RefS} {x : ByteArray} {v c : Int} (a : Int) (hx : M.isPathM false x = true) (hv0 : 0 ≤ v) (hv1 : v ≤ 1073741824) (hc0 : 0 < c) (hc1 : c ≤ 1099511627776) (hw : S.wait.length < 64) (hr : (S.done.length : Int) < S.room) :
    doErr S ⟨3, a, v, c, 0, x⟩ = 0 ∧ doAns S ⟨3, a, v, c, 0, x⟩ = S.pub ∧ doS S ⟨3, a, v, c, 0, x⟩ = { S with done := S.done ++ [⟨3, a, v, c, 0, x⟩], pub := S.pub + 1, wait := S.wait ++ [⟨S.pub, x, v, laterM S.time c, 0⟩] } := by
  have hz : wrongM S ⟨3, a, v, c, 0, x⟩ = 0 := by
    have h1 : isTimeM 0 = true := by decide
    have h2 : isTimeM c = true := by simp [isTimeM]; omega
    have e : wrongM S ⟨3, a, v, c, 0, x⟩ = pubErr (M.isPathM false x) v c 0 S.wait.length := by simp [wrongM]
    rw [e, pubErr, hx, if_neg (by simp), if_neg (by omega), if_neg (by omega), h2, if_neg (by simp), h1, if_neg (by simp), if_pos hc0, if_neg (by omega)]
  obtain ⟨q1, q2, q3⟩ := is_done hz (writes_not (by show (3 : Int) ≠ 6; decide)) hr
  have hcne : c ≠ 0 := by omega
  exact ⟨q2, by unfold doAns; rw [q1]; rfl, by rw [q3]; simp [turnM, hcne]⟩

theorem waiting_later {S S1 : RefS} {fil : Nat → List ByteArray} {x : WaitD} (h : Lk S fil (waitingM S)) (hx : x.number = S.pub) (e1 : S1.fil = S.fil) (e2 : S1.wait = S.wait ++ [x]) (e3 : S1.pub = S.pub + 1) : waitingM S1 = insM aheadB x (waitingM S) := by
  have h1 := h.later hx
  have h2 : Lk S1 fil (insM aheadB x (waitingM S)) := h1.other e1 e2 (by rw [e3]; exact Int.le_refl _)
  exact h2.waiting
theorem waiting_same {S S1 : RefS} {fil : Nat → List ByteArray} (h : Lk S fil (waitingM S)) (e1 : S1.fil = S.fil) (e2 : S1.wait = S.wait) (e3 : S.pub ≤ S1.pub) : waitingM S1 = waitingM S := (h.other e1 e2 e3).waiting
theorem waiting_len {S : RefS} {fil : Nat → List ByteArray} (h : Lk S fil (waitingM S)) : (waitingM S).length = S.wait.length := h.waitP.length_eq

/-- Where the publishing stands: the client c takes all. -/
structure PubI (c : Nat) (now : Int) (S : RefS) (k : Nat) (MS : List MailD) (WS : List WaitD) (t : Nat) : Prop where
  time : S.time = now
  pub : S.pub = (k : Int)
  room : S.room = 500
  fit : ∀ x, fitAny (S.fil c) x = true
  wait : waitingM S = WS
  count : MS.length + WS.length = k
  que : (S.que c).map (mailOf now) = MS.take 10
  life : ∀ m ∈ S.que c, m.life = 0
  lost : S.lost c = ((MS.length - 10 : Nat) : Int)
  done : S.done.length ≤ t + k

theorem PubI.start {c : Nat} {now : Int} {S : RefS} {t : Nat} (h1 : S.time = now) (h2 : S.pub = 0) (h3 : S.room = 500) (h4 : ∀ x, fitAny (S.fil c) x = true) (h5 : S.wait = []) (h6 : S.que c = []) (h7 : S.lost c = 0) (h8 : S.done.length ≤ t) : PubI c now S 0 [] [] t :=
  ⟨h1, h2, h3, h4, by unfold waitingM; rw [h5]; rfl, rfl, by rw [h6]; rfl, by rw [h6]; exact fun m hm => by simp at hm, h7, h8⟩

theorem pubI_now {c : Nat} {now : Int} {S : RefS} {k : Nat} {MS : List MailD} {WS : List WaitD} {t : Nat} {fil : Nat → List ByteArray} (h : PubI c now S k MS WS t) (hlk : Lk S fil (waitingM S)) (hc : c < 8) (ht : t + k < 500) {x : ByteArray} {v : Int} (hx : M.isPathM false x = true) (hv0 : 0 ≤ v) (hv1 : v ≤ 1073741824) (a : Int) :
    doErr S ⟨3, a, v, 0, 0, x⟩ = 0 ∧ doAns S ⟨3, a, v, 0, 0, x⟩ = (k : Int) ∧ PubI c now (doS S ⟨3, a, v, 0, 0, x⟩) (k + 1) (MS ++ [⟨(k : Int), x, v, now, 0⟩]) WS t := by
  obtain ⟨p1, p2, p3⟩ := pub_now (S := S) (x := x) (v := v) (life := 0) a hx hv0 hv1 (by omega) (by omega) (by rw [h.room]; have := h.done; omega)
  refine ⟨p1, p2.trans h.pub, ?_⟩
  rw [p3]
  obtain ⟨k1, k2, k3, k4, k5, k6, -⟩ := sendTo_keeps { S with done := S.done ++ [⟨3, a, v, 0, 0, x⟩], pub := S.pub + 1 } ⟨S.pub, x, v, 0, 0⟩ 8
  have q := send_at { S with done := S.done ++ [⟨3, a, v, 0, 0, x⟩], pub := S.pub + 1 } ⟨S.pub, x, v, 0, 0⟩ c hc
  have l := send_lost { S with done := S.done ++ [⟨3, a, v, 0, 0, x⟩], pub := S.pub + 1 } ⟨S.pub, x, v, 0, 0⟩ c hc
  have q' : (sendTo { S with done := S.done ++ [⟨3, a, v, 0, 0, x⟩], pub := S.pub + 1 } ⟨S.pub, x, v, 0, 0⟩ 8).que c = if 10 ≤ (S.que c).length then S.que c else S.que c ++ [⟨S.pub, x, v, S.time, 0⟩] := by
    rw [q]
    show (if fitAny (S.fil c) x = true then (if 10 ≤ (S.que c).length then S.que c else S.que c ++ [sentOf _ _]) else S.que c) = _
    rw [h.fit x, if_pos rfl]; rfl
  have l' : (sendTo { S with done := S.done ++ [⟨3, a, v, 0, 0, x⟩], pub := S.pub + 1 } ⟨S.pub, x, v, 0, 0⟩ 8).lost c = if 10 ≤ (S.que c).length then S.lost c + 1 else S.lost c := by
    rw [l]
    show (if fitAny (S.fil c) x = true then (if 10 ≤ (S.que c).length then S.lost c + 1 else S.lost c) else S.lost c) = _
    rw [h.fit x, if_pos rfl]
  have hql : (S.que c).length = min 10 MS.length := by
    have := congrArg List.length h.que
    rw [List.length_map, List.length_take] at this
    exact this
  generalize sendTo { S with done := S.done ++ [⟨3, a, v, 0, 0, x⟩], pub := S.pub + 1 } ⟨S.pub, x, v, 0, 0⟩ 8 = T at *
  have hm : mailOf now ⟨S.pub, x, v, S.time, 0⟩ = ⟨(k : Int), x, v, now, 0⟩ := by rw [h.pub, h.time]; rfl
  have hcount := h.count
  refine ⟨k2.trans h.time, by rw [k6]; show S.pub + 1 = _; rw [h.pub]; push_cast; rfl, k5.trans h.room, by rw [k1]; exact h.fit, ?_, by rw [List.length_append]; simp; omega, ?_, ?_, ?_, by rw [k3]; have := h.done; simp; omega⟩
  · rw [waiting_same hlk k1 k4 (by rw [k6]; show S.pub ≤ S.pub + 1; omega)]; exact h.wait
  · rw [q']
    by_cases hten : 10 ≤ (S.que c).length
    · rw [if_pos hten, h.que, List.take_append_of_le_length (by omega)]
    · rw [if_neg hten, List.map_append, h.que, List.map_cons, hm, List.map_nil, List.take_of_length_le (by omega), List.take_of_length_le (by simp; omega)]
  · rw [q']
    by_cases hten : 10 ≤ (S.que c).length
    · rw [if_pos hten]; exact h.life
    · rw [if_neg hten]
      intro m hm2
      rcases List.mem_append.1 hm2 with hm2 | hm2
      · exact h.life m hm2
      · rw [List.mem_singleton] at hm2; subst hm2; rfl
  · rw [l', h.lost]
    by_cases hten : 10 ≤ (S.que c).length
    · rw [if_pos hten, List.length_append, List.length_singleton]; omega
    · rw [if_neg hten, List.length_append, List.length_singleton]; omega

theorem pubI_later {c : Nat} {now : Int} {S : RefS} {k : Nat} {MS : List MailD} {WS : List WaitD} {t : Nat} {fil : Nat → List ByteArray} (h : PubI c now S k MS WS t) (hlk : Lk S fil (waitingM S)) (ht : t + k < 500) (hw : WS.length < 64) {x : ByteArray} {v d : Int} (hx : M.isPathM false x = true) (hv0 : 0 ≤ v) (hv1 : v ≤ 1073741824) (hd0 : 0 < d) (hd1 : d ≤ 1099511627776) (a : Int) :
    doErr S ⟨3, a, v, d, 0, x⟩ = 0 ∧ doAns S ⟨3, a, v, d, 0, x⟩ = (k : Int) ∧ PubI c now (doS S ⟨3, a, v, d, 0, x⟩) (k + 1) MS (insM aheadB ⟨(k : Int), x, v, laterM now d, 0⟩ WS) t := by
  have hwl : S.wait.length = WS.length := by rw [← waiting_len hlk, h.wait]
  obtain ⟨p1, p2, p3⟩ := pub_later (S := S) (x := x) (v := v) (c := d) a hx hv0 hv1 hd0 hd1 (by omega) (by rw [h.room]; have := h.done; omega)
  refine ⟨p1, p2.trans h.pub, ?_⟩
  rw [p3]
  have hcount := h.count
  have hlen : (insM aheadB (⟨(k : Int), x, v, laterM now d, 0⟩ : WaitD) WS).length = WS.length + 1 := by rw [(ins_perm aheadB _ WS).length_eq]; rfl
  refine ⟨h.time, by show S.pub + 1 = _; rw [h.pub]; push_cast; rfl, h.room, h.fit, ?_, by omega, h.que, h.life, h.lost, by have := h.done; simp; omega⟩
  rw [waiting_later (S1 := { S with done := S.done ++ [⟨3, a, v, d, 0, x⟩], pub := S.pub + 1, wait := S.wait ++ [⟨S.pub, x, v, laterM S.time d, 0⟩] }) (x := ⟨S.pub, x, v, laterM S.time d, 0⟩) hlk rfl rfl rfl rfl, h.wait, h.pub, h.time]
end Go.Proofs.Ytmjdndhfmfjbiab

namespace Go.Proofs.Ytmjdndhfmfjbiab
open Go.RowKit

theorem typed_apart {w : World} {b1 b2 : Nat} {e1 e2 : TypeId} {s1 s2 n1 n2 : Nat} {v1 v2 : Value} {x1 x2 : List Value} (h1 : w.ownsRow b1 e1 s1 v1 n1 x1) (h2 : w.ownsRow b2 e2 s2 v2 n2 x2) (hne : e1 ≠ e2) : ∀ g, v1.ownBlock = some g → v2.ownBlock ≠ some g := fun _ hg1 hg2 =>
  typed_ne (Row.typed (own_mono h1 (Nat.zero_le _)) hg1) (Row.typed (own_mono h2 (Nat.zero_le _)) hg2) hne rfl

set_option maxRecDepth 100000 in
set_option maxHeartbeats 8000000 in
theorem keepPublished (c : Nat) (hc : c < 8) (n : Nat) (hn : n ≤ 64) (now : Int) (hn0 : 0 ≤ now) (hn1 : now ≤ 1099511627776) (t : Nat) (ht : t ≤ 100) (l : List LetD) (ao : Option Addr) (m cap : Nat) (hl : l.length = m) (w0 w : World) (hsc : LetsAt w0 ao l)
    (hbd : ∀ y ∈ l, (-9223372036854775808 ≤ y.delay ∧ y.delay ≤ 9223372036854775807) ∧ (-9223372036854775808 ≤ y.value ∧ y.value ≤ 9223372036854775807) ∧ y.s.size ≤ maxLen) (H : Nat) (F : Nat → Prop) (S : RefS) (hM : MineF w0 w H F S) (hI : PubI c now S 0 [] [] t) :
    Calls Try.prog 20 #[.pointer (some ⟨H, 0, none⟩), .slice ao m cap, .int .i64 (n : Int), .int .i64 now] w fun e w' => ∃ S1 F1 mv wv MS WS, e = .returned (.tuple #[mv, wv, .bool true]) ∧ (∃ k, k ≤ n ∧ PubI c now S1 k MS WS t) ∧ MineF w0 w' H F1 S1 ∧
      w'.ownsRow w.heap.size 35 5 mv MS.length (MS.flatMap mailCells) ∧ w'.ownsRow w.heap.size 50 5 wv WS.length (WS.flatMap waitCells) ∧ (∀ g, mv.ownBlock = some g → ¬ F1 g) ∧ (∀ g, wv.ownBlock = some g → ¬ F1 g) := by
  obtain ⟨i0, hi, hz0, hz1, hz2⟩ := info_parts infoMail
  have HL : Hid (l.length = m) := hl
  have HSC : Hid (LetsAt w0 ao l) := hsc
  have HBD : Hid (∀ y ∈ l, (-9223372036854775808 ≤ y.delay ∧ y.delay ≤ 9223372036854775807) ∧ (-9223372036854775808 ≤ y.value ∧ y.value ≤ 9223372036854775807) ∧ y.s.size ≤ maxLen) := hbd
  have HM0 : Hid (MineF w0 w H F S) := hM
  have HI0 : Hid (PubI c now S 0 [] [] t) := hI
  clear hl hsc hbd hM hI
  go_enter Try.func20, Try.ntmps20
  go_wp2_with fail
  go_loopw [11, 12, 13] (fun mv wv i wr => ∃ (k : Nat) (S1 : RefS) (F1 : Nat → Prop) (MS : List MailD) (WS : List WaitD), k ≤ m ∧ k ≤ n ∧ i = .int .i64 (k : Int) ∧ PubI c now S1 k MS WS t ∧ MineF w0 wr H F1 S1 ∧ w.heap.size ≤ wr.heap.size ∧
    wr.ownsRow w.heap.size 35 5 mv MS.length (MS.flatMap mailCells) ∧ wr.ownsRow w.heap.size 50 5 wv WS.length (WS.flatMap waitCells) ∧ (∀ g, mv.ownBlock = some g → ¬ F1 g) ∧ (∀ g, wv.ownBlock = some g → ¬ F1 g)) (fun _ _ i _ => n - (intOf i).toNat)
  case atStart => exact ⟨0, S, F, [], [], Nat.zero_le _, Nat.zero_le _, rfl, HI0.out, HM0.out, Nat.le_refl _, World.ownsRow_nil _ _ _ _, World.ownsRow_nil _ _ _ _, fun g hg => by simp [Value.ownBlock] at hg, fun g hg => by simp [Value.ownBlock] at hg⟩
  case round =>
    obtain ⟨k, S1, F1, MS, WS, hkm, hkn, rfl, hI, hM, hsz, hom, how, hapm, hapw⟩ := hrel
    have hcnt := hI.count
    have II : Hid (PubI c now S1 k MS WS t) := hI
    have MM : Hid (MineF w0 wr H F1 S1) := hM
    have APM : Hid _ := hapm
    have APW : Hid _ := hapw
    obtain ⟨fl, hlk⟩ := hM.lk
    have LK : Hid (Lk S1 fl (waitingM S1)) := hlk
    have hbw := hM.mine.out.size
    have hMSl : MS.length ≤ 64 := by omega
    have hWSl : WS.length ≤ 64 := by omega
    have HCNT : Hid (MS.length + WS.length = k) := hcnt
    clear hI hM hapm hapw hlk hcnt
    by_cases hlt : k < m ∧ k < n
    · obtain ⟨hlt1, hlt2⟩ := hlt
      obtain ⟨y, hy⟩ : ∃ y, l[k]? = some y := ⟨_, List.getElem?_eq_getElem (by rw [HL.out]; exact hlt1)⟩
      obtain ⟨⟨yd0, yd1⟩, ⟨yv0, yv1⟩, ys⟩ := HBD.out y (List.mem_of_getElem? hy)
      obtain ⟨gs, off, rfl, e0, e1, e2⟩ := HSC.out k y hy
      have f0 := cell_later MM.out.mine.out e0
      have f1 := cell_later MM.out.mine.out e1
      have f2 := cell_later MM.out.mine.out e2
      obtain ⟨am, cm, rfl, -, -, -⟩ := Row.form (row_of_own (w := w) hom nilV).1
      obtain ⟨aw, cw, rfl, -, -, hcw⟩ := Row.form (row_of_own (w := w) how nilV).1
      have HOM : Hid _ := hom
      have HOW : Hid _ := how
      have HCW : Hid (CellsAt wr aw (WS.flatMap waitCells)) := hcw
      clear hy hom how hcw e0 e1 e2
      go_wp2_with fail
      refine (keepTopic y.s _ ys).mono ?_
      rintro e w2 ⟨⟨x, rfl, hx⟩, hb2⟩
      have HX : Hid (M.isPathM false x = true) := hx
      have hxs : x.size ≤ 1048576 := Nat.le_trans (path15 hx) (by omega)
      have g0 := cell_later hb2 f0
      have g1 := cell_later hb2 f1
      have M2 : Hid (MineF w0 w2 H F1 S1) := MM.out.below hb2
      have HOM2 : Hid _ := own_below HOM.out hb2
      have HOW2 : Hid _ := own_below HOW.out hb2
      have HCW2 : Hid (CellsAt w2 aw (WS.flatMap waitCells)) := HCW.out.below hb2
      have hs2 : wr.heap.size ≤ w2.heap.size := hb2.size
      clear hx hb2 f0 f1 f2
      go_wp2_with fail
      refine (keepPick y.value 1073741825 _ yv0 yv1 (by omega) (by omega)).mono ?_
      rintro e w2 ⟨rfl, rfl⟩
      have hv := pick_bd y.value 1073741825 (by omega)
      generalize pickM y.value 1073741825 = V at *
      go_wp2_with fail
      refine (keepPick y.delay 1099511627777 _ yd0 yd1 (by omega) (by omega)).mono ?_
      rintro e w2 ⟨rfl, rfl⟩
      have hd := pick_bd y.delay 1099511627777 (by omega)
      generalize pickM y.delay 1099511627777 = D at *
      clear g0 g1
      by_cases hD : D = 0
      · subst hD
        obtain ⟨q1, q2, q3⟩ := pubI_now (v := V) II.out LK.out hc (by omega) HX.out (by omega) (by omega) 0
        have Q1 : Hid (doErr S1 ⟨3, 0, V, 0, 0, x⟩ = 0) := q1
        have Q2 : Hid (doAns S1 ⟨3, 0, V, 0, 0, x⟩ = (k : Int)) := q2
        have Q3 : Hid (PubI c now (doS S1 ⟨3, 0, V, 0, 0, x⟩) (k + 1) (MS ++ [⟨(k : Int), x, V, now, 0⟩]) WS t) := q3
        clear q1 q2 q3
        go_wp2_with fail
        refine (mineFPub 0 V 0 0 x M2.out hxs).mono ?_
        rintro e w5 ⟨rfl, F5, hm5, hu5, hF5, hk5⟩
        rw [Q1.out, Q2.out]
        have M5 : Hid (MineF w0 w5 H F5 (doS S1 ⟨3, 0, V, 0, 0, x⟩)) := hm5
        have HOM5 : Hid (w5.ownsRow w.heap.size 35 5 (.slice am MS.length cm) MS.length (MS.flatMap mailCells)) := own_upd HOM2.out hu5 (fun g hg hf => APM.out g hg hf)
        have HOW5 : Hid (w5.ownsRow w.heap.size 50 5 (.slice aw WS.length cw) WS.length (WS.flatMap waitCells)) := own_upd HOW2.out hu5 (fun g hg hf => APW.out g hg hf)
        have APM5 : Hid (∀ g, (Value.slice am MS.length cm).ownBlock = some g → ¬ F5 g) := fun g hg hf => (hk5 g hf).elim (APM.out g hg) (fun h2 => absurd (World.ownsRow.lt HOM2.out g hg).2 (by omega))
        have APW5 : Hid (∀ g, (Value.slice aw WS.length cw).ownBlock = some g → ¬ F5 g) := fun g hg hf => (hk5 g hf).elim (APW.out g hg) (fun h2 => absurd (World.ownsRow.lt HOW2.out g hg).2 (by omega))
        have hs5 : w2.heap.size ≤ w5.heap.size := hu5.size
        clear hm5 hu5 hF5 hk5
        obtain ⟨v6, w6, hrun, hown6, hgrow, -, hat⟩ := run_append_own_at (P := Try.prog) (w5.alloc (.cells (mailCells ⟨(k : Int), x, V, now, 0⟩).toArray 35)) w.heap.size 28 28 35 i0 _ 5 48 Try.underlying28 hi hz0 hz1 hz2 rfl (by omega) _ _ _ (World.ownsRow.alloc HOM5.out _) ⟨w5.heap.size, 0, none⟩ 1 1 (mailCells ⟨(k : Int), x, V, now, 0⟩) rfl (cells_new _ _ _) (mail_one _) (by unfold maxLen; omega) (by omega) (by simp; omega)
        have hu6 : Upd (fun i => (Value.slice am MS.length cm).ownBlock = some i) (w5.alloc (.cells (mailCells ⟨(k : Int), x, V, now, 0⟩).toArray 35)) w6 := (Upd.refl _ _).grown hgrow (fun i e _ => e)
        have hb0 : w0.heap.size ≤ w.heap.size := HM0.out.mine.out.size
        have M6 : Hid (MineF w0 w6 H F5 (doS S1 ⟨3, 0, V, 0, 0, x⟩)) :=
          (M5.out.below (below_one _ _)).upd hu6 (fun g hg => Nat.le_trans hb0 (World.ownsRow.lt HOM5.out g hg).1) (fun g hf hg => APM5.out g hg hf)
        have HOM6 : Hid (w6.ownsRow w.heap.size 35 5 v6 (MS ++ [(⟨(k : Int), x, V, now, 0⟩ : MailD)]).length ((MS ++ [(⟨(k : Int), x, V, now, 0⟩ : MailD)]).flatMap mailCells)) := by
          show World.ownsRow _ _ _ _ _ _ _
          simpa using hown6
        have HOW6 : Hid (w6.ownsRow w.heap.size 50 5 (.slice aw WS.length cw) WS.length (WS.flatMap waitCells)) := own_upd (World.ownsRow.alloc HOW5.out _) hu6 (fun g hg e => typed_apart HOW5.out HOM5.out (by decide) g hg e)
        have APM6 : Hid (∀ g, v6.ownBlock = some g → ¬ F5 g) := fun g hg hf => by
          rcases hat with h | h
          · exact APM5.out g (h.symm.trans hg) hf
          · rw [h] at hg
            simp at hg
            have := M5.out.lt hf
            omega
        have hs6 : w5.heap.size ≤ w6.heap.size := Nat.le_trans (by simp) hu6.size
        clear hown6 hgrow hat hu6
        go_wp2_with (first | (at_builtin; refine wpList_append_run rfl _ _ 28 rfl _ _ _ _ rfl rfl hrun ?_))
        go_wp2_with fail
        go_roundw
        case rel => exact ⟨k + 1, _, F5, _, WS, by omega, by omega, by go_num, Q3.out, M6.out, by omega, HOM6.out, HOW6.out, APM6.out, APW5.out⟩
        case measure => simp [intOf]; omega
      · have hD0 : 0 < D := by omega
        have hDb : (D == 0) = false := by simp; omega
        have hWS : WS.length < 64 := by have := HCNT.out; omega
        obtain ⟨q1, q2, q3⟩ := pubI_later II.out LK.out (by omega) hWS HX.out (by omega) (by omega) hD0 (by omega) 0 (v := V)
        have Q1 : Hid (doErr S1 ⟨3, 0, V, D, 0, x⟩ = 0) := q1
        have Q2 : Hid (doAns S1 ⟨3, 0, V, D, 0, x⟩ = (k : Int)) := q2
        have Q3 : Hid (PubI c now (doS S1 ⟨3, 0, V, D, 0, x⟩) (k + 1) MS (insM aheadB ⟨(k : Int), x, V, laterM now D, 0⟩ WS) t) := q3
        clear q1 q2 q3
        go_wp2_with fail
        refine (mineFPub 0 V D 0 x M2.out hxs).mono ?_
        rintro e w5 ⟨rfl, F5, hm5, hu5, hF5, hk5⟩
        rw [Q1.out, Q2.out]
        have M5 : Hid (MineF w0 w5 H F5 (doS S1 ⟨3, 0, V, D, 0, x⟩)) := hm5
        have HOM5 : Hid (w5.ownsRow w.heap.size 35 5 (.slice am MS.length cm) MS.length (MS.flatMap mailCells)) := own_upd HOM2.out hu5 (fun g hg hf => APM.out g hg hf)
        have HOW5 : Hid (w5.ownsRow w.heap.size 50 5 (.slice aw WS.length cw) WS.length (WS.flatMap waitCells)) := own_upd HOW2.out hu5 (fun g hg hf => APW.out g hg hf)
        have APM5 : Hid (∀ g, (Value.slice am MS.length cm).ownBlock = some g → ¬ F5 g) := fun g hg hf => (hk5 g hf).elim (APM.out g hg) (fun h2 => absurd (World.ownsRow.lt HOM2.out g hg).2 (by omega))
        have hs5 : w2.heap.size ≤ w5.heap.size := hu5.size
        obtain ⟨aw5, cw5, hvw5, -, -, hcw5⟩ := Row.form (row_of_own (w := w) HOW5.out nilV).1
        simp only [Value.slice.injEq, true_and] at hvw5
        obtain ⟨rfl, rfl⟩ := hvw5
        have HCW5 : Hid (CellsAt w5 aw (WS.flatMap waitCells)) := hcw5
        clear hm5 hu5 hF5 hk5 hcw5
        have HPL : Hid (∀ w', CellsAt w' aw (WS.flatMap waitCells) → Calls Try.prog 25 #[.slice aw WS.length cw, .agg #[.int .i64 (k : Int), .string x, .int .i64 V, .int .i64 (laterM now D), .int .i64 0]] w' fun e w6 => ∃ v, e = .returned v ∧
            w6.ownsRow w'.heap.size 50 5 v (insM aheadB ⟨(k : Int), x, V, laterM now D, 0⟩ WS).length ((insM aheadB ⟨(k : Int), x, V, laterM now D, 0⟩ WS).flatMap waitCells) ∧ Below w'.heap.size w' w6) :=
          fun w' h => keepPlaced WS aw cw ⟨(k : Int), x, V, laterM now D, 0⟩ w' (by omega) h
        go_wp2_with fail
        refine (keepLater now D _ hn0 hn1 (by omega) (by omega)).mono ?_
        rintro e w5 ⟨rfl, rfl⟩
        go_wp2_with fail
        refine (HPL.out _ HCW5.out).mono ?_
        rintro e w6 ⟨v6, rfl, ho6, hb6⟩
        have M6 : Hid (MineF w0 w6 H F5 (doS S1 ⟨3, 0, V, D, 0, x⟩)) := M5.out.below hb6
        have HOM6 : Hid (w6.ownsRow w.heap.size 35 5 (.slice am MS.length cm) MS.length (MS.flatMap mailCells)) := own_below HOM5.out hb6
        have HOW6 : Hid (w6.ownsRow w.heap.size 50 5 v6 (insM aheadB ⟨(k : Int), x, V, laterM now D, 0⟩ WS).length ((insM aheadB ⟨(k : Int), x, V, laterM now D, 0⟩ WS).flatMap waitCells)) := own_mono ho6 (by omega)
        have APW6 : Hid (∀ g, v6.ownBlock = some g → ¬ F5 g) := fun g hg hf => by
          have h1 := (World.ownsRow.lt ho6 g hg).1
          have h2 := M5.out.lt hf
          omega
        have hs6 := hb6.size
        clear ho6 hb6
        go_wp2_with fail
        go_roundw
        case rel => exact ⟨k + 1, _, F5, MS, _, by omega, by omega, by go_num, Q3.out, M6.out, by omega, HOM6.out, HOW6.out, APM5.out, APW6.out⟩
        case measure => simp [intOf]; omega
    · by_cases hk2 : k < m
      · have hk3 : ¬ k < n := fun h => hlt ⟨hk2, h⟩
        clear hlt
        have HOM : Hid _ := hom
        have HOW : Hid _ := how
        clear hom how
        go_wp2_with fail
        go_ret3
        exact ⟨S1, F1, _, _, MS, WS, rfl, ⟨k, hkn, II.out⟩, MM.out, HOM.out, HOW.out, APM.out, APW.out⟩
      · clear hlt
        have HOM : Hid _ := hom
        have HOW : Hid _ := how
        clear hom how
        go_wp2_with fail
        go_ret3
        exact ⟨S1, F1, _, _, MS, WS, rfl, ⟨k, hkn, II.out⟩, MM.out, HOM.out, HOW.out, APM.out, APW.out⟩
end Go.Proofs.Ytmjdndhfmfjbiab

/-
  heraldkeep: what waits, without one.
-/
namespace Go.Proofs.Ytmjdndhfmfjbiab
open Go.RowKit

/-- The last of this number among the first k. -/
def lastTo (ws : List WaitD) (n : Int) : Nat → WaitD
  | 0 => nobody
  | k + 1 => match ws[k]? with
    | some y => if y.number == n then y else lastTo ws n k
    | none => lastTo ws n k
theorem last_hit {ws : List WaitD} {n : Int} {k : Nat} {y : WaitD} (h : ws[k]? = some y) (e : (y.number == n) = true) : lastTo ws n (k + 1) = y := by rw [lastTo, h]; simp only [e, if_true]
theorem last_miss {ws : List WaitD} {n : Int} {k : Nat} {y : WaitD} (h : ws[k]? = some y) (e : (y.number == n) = false) : lastTo ws n (k + 1) = lastTo ws n k := by rw [lastTo, h]; simp [e]

theorem results_tct {fn : Func} {a p u : Tmp} {ty : TypeId} (h : fn.results = #[.tmp a, .cell p ty, .tmp u]) (tmps : Array Value) (P : Program) (w : World) :
    (results fn tmps).run P w = ((asAddr (tmps.getD p undef)).run P w).andThen fun b w₁ => ((loadVar ty b).run P w₁).andThen fun v w₂ => .ok (.tuple #[tmps.getD a undef, v, tmps.getD u undef]) w₂ := by
  simp only [results, h]
  simp [Sem.run_bind, Result.andThen]

abbrev WaitObj (y : WaitD) : Obj := .cells (waitCells y).toArray 50 (0, 0)
theorem wait5 {w : World} {g : Nat} {y : WaitD} (h : w.heap[g]? = some (WaitObj y)) : w.cell? ⟨g, 0, none⟩ = some (.int .i64 y.number) ∧ w.cell? ⟨g, 1, none⟩ = some (.string y.topic) ∧ w.cell? ⟨g, 2, none⟩ = some (.int .i64 y.value) ∧ w.cell? ⟨g, 3, none⟩ = some (.int .i64 y.deadline) ∧ w.cell? ⟨g, 4, none⟩ = some (.int .i64 y.life) ∧ ∀ o, w.frozen? ⟨g, o, none⟩ = false :=
  ⟨cell_of_row w g 0 _ _ _ h, cell_of_row w g 1 _ _ _ h, cell_of_row w g 2 _ _ _ h, cell_of_row w g 3 _ _ _ h, cell_of_row w g 4 _ _ _ h, fun o => frozen_of_row w g o _ _ h⟩
theorem set5 {w : World} {g : Nat} {y z : WaitD} (h : w.heap[g]? = some (WaitObj y)) : (((((w.setCell ⟨g, 0, none⟩ (.int .i64 z.number)).setCell ⟨g, 1, none⟩ (.string z.topic)).setCell ⟨g, 2, none⟩ (.int .i64 z.value)).setCell ⟨g, 3, none⟩ (.int .i64 z.deadline)).setCell ⟨g, 4, none⟩ (.int .i64 z.life)).heap[g]? = some (WaitObj z) := by
  rw [heap_setCell_row _ g 4 _ _ _ (heap_setCell_row _ g 3 _ _ _ (heap_setCell_row _ g 2 _ _ _ (heap_setCell_row _ g 1 _ _ _ (heap_setCell_row w g 0 _ _ _ h))))]
  rfl
theorem upd5 (w : World) (g : Nat) (z : WaitD) : Upd (fun k => k = g) w (((((w.setCell ⟨g, 0, none⟩ (.int .i64 z.number)).setCell ⟨g, 1, none⟩ (.string z.topic)).setCell ⟨g, 2, none⟩ (.int .i64 z.value)).setCell ⟨g, 3, none⟩ (.int .i64 z.deadline)).setCell ⟨g, 4, none⟩ (.int .i64 z.life)) :=
  (((((Upd.refl (fun k => k = g) w).setCell (p := ⟨g, 0, none⟩) (fun _ => rfl) _).setCell (p := ⟨g, 1, none⟩) (fun _ => rfl) _).setCell (p := ⟨g, 2, none⟩) (fun _ => rfl) _).setCell (p := ⟨g, 3, none⟩) (fun _ => rfl) _).setCell (p := ⟨g, 4, none⟩) (fun _ => rfl) _

set_option maxRecDepth 100000 in
set_option maxHeartbeats 4000000 in
theorem keepDropped (ws : List WaitD) (ao : Option Addr) (c : Nat) (n : Int) (w : World) (hl : ws.length ≤ 1048576) (h : CellsAt w ao (ws.flatMap waitCells)) :
    Calls Try.prog 21 #[.slice ao ws.length c, .int .i64 n] w fun e w' => ∃ v, e = .returned (.tuple #[v, waitV (lastTo ws n ws.length), .bool (ws.any (fun m => m.number == n))]) ∧
      w'.ownsRow w.heap.size 50 5 v (ws.filter (fun m => m.number != n)).length ((ws.filter (fun m => m.number != n)).flatMap waitCells) ∧ Below w.heap.size w w' := by
  obtain ⟨i0, hi, hz0, hz1, hz2⟩ := info_parts infoWait
  have H : Hid (CellsAt w ao (ws.flatMap waitCells)) := h
  clear h
  go_enter Try.func21, Try.ntmps21
  go_wp2_with fail
  generalize hWA : (w.alloc _).alloc _ = wa
  have hbA : Below w.heap.size w wa := by rw [← hWA]; exact ((Below.refl _ _).alloc (Nat.le_refl _) _).alloc (by simp) _
  have hsA : wa.heap.size = w.heap.size + 2 := by rw [← hWA]; simp
  have hz1' : wa.heap[w.heap.size]? = some (WaitObj nobody) := by rw [← hWA, heap_alloc_old _ _ (by simp)]; exact heap_alloc_new w _
  have hz2' : wa.heap[w.heap.size + 1]? = some (WaitObj nobody) := by
    rw [← hWA]
    have := heap_alloc_new (w.alloc (WaitObj nobody)) (WaitObj nobody)
    rw [show (w.alloc (WaitObj nobody)).heap.size = w.heap.size + 1 from by simp] at this
    exact this
  have HSA : Hid (wa.heap.size = w.heap.size + 2) := hsA
  have Z1 : Hid (wa.heap[w.heap.size]? = some (WaitObj nobody)) := hz1'
  have Z2 : Hid (wa.heap[w.heap.size + 1]? = some (WaitObj nobody)) := hz2'
  have HBA : Hid (Below w.heap.size w wa) := hbA
  clear hWA hbA hsA hz1' hz2'
  go_loopw [7, 9, 10] (fun v was i wr => ∃ k : Nat, k ≤ ws.length ∧ i = .int .i64 (k : Int) ∧ was = .bool ((ws.take k).any (fun m => m.number == n)) ∧ wr.ownsRow wa.heap.size 50 5 v (kept (fun m : WaitD => m.number != n) ws k).length ((kept (fun m : WaitD => m.number != n) ws k).flatMap waitCells) ∧ Below w.heap.size w wr ∧ wa.heap.size ≤ wr.heap.size ∧
    wr.heap[w.heap.size]? = some (WaitObj nobody) ∧ wr.heap[w.heap.size + 1]? = some (WaitObj (lastTo ws n k))) (fun _ _ i _ => ws.length - (intOf i).toNat)
  case atStart => exact ⟨0, Nat.zero_le _, rfl, by simp, World.ownsRow_nil _ _ _ _, HBA.out, Nat.le_refl _, Z1.out, Z2.out⟩
  case round =>
    obtain ⟨k, hk, rfl, rfl, hown, hbr, hsr, hr1, hr2⟩ := hrel
    have hkl := kept_le (fun m : WaitD => m.number != n) ws k
    have HR1 : Hid (wr.heap[w.heap.size]? = some (WaitObj nobody)) := hr1
    have HR2 : Hid (wr.heap[w.heap.size + 1]? = some (WaitObj (lastTo ws n k))) := hr2
    have hA2 : w.heap.size + 2 ≤ wr.heap.size := by rw [← HSA.out]; exact hsr
    clear hr1 hr2
    by_cases hlt : k < ws.length
    · obtain ⟨y, hy⟩ : ∃ y, ws[k]? = some y := ⟨_, List.getElem?_eq_getElem hlt⟩
      obtain ⟨g, rfl, hg, c0, c1, c2, c3, c4⟩ := wait_cells (H.out.below hbr) hy
      have hgw : g < w.heap.size := by
        obtain ⟨g', e, hg', -⟩ := wait_cells H.out hy
        cases e
        exact hg'
      have HT : Hid ((ws.take (k + 1)).any (fun m => m.number == n) = ((ws.take k).any (fun m => m.number == n) || (y.number == n))) := any_take hy
      cases he : (y.number == n)
      · have HK : Hid (kept (fun m : WaitD => m.number != n) ws (k + 1) = kept (fun m : WaitD => m.number != n) ws k ++ [y]) := kept_hit hy (by simp only [bne, he]; rfl)
        have HLT : Hid (lastTo ws n (k + 1) = lastTo ws n k) := last_miss hy he
        have HT2 : Hid ((ws.take (k + 1)).any (fun m => m.number == n) = (ws.take k).any (fun m => m.number == n)) := by show _ = _; rw [HT.out, he, Bool.or_false]
        clear hy
        generalize (ws.take k).any (fun m => m.number == n) = B at *
        go_wp2_with (first | (at_builtin; refine wpList_append_own _ rfl _ _ 44 rfl wa.heap.size 50 i0 _ 5 48 Try.underlying44 hi hz0 hz1 hz2 rfl (by decide) _ _ _ rfl (hown.alloc _) ⟨wr.heap.size, 0, none⟩ 1 1 (waitCells y) rfl rfl (cells_new _ _ _) (wait_one _) (by unfold maxLen; omega) (by omega) (by simp; omega) ?_))
        intro v' w1 hown' hgrow _
        have hb1 : Below wa.heap.size wr w1 := ((Below.refl _ _).alloc (by omega) _).grown hgrow (by simp; omega) (fun j hj => (World.ownsRow.lt hown j hj).1)
        have HO1 : Hid (w1.ownsRow wa.heap.size 50 5 v' (kept (fun m : WaitD => m.number != n) ws k ++ [y]).length ((kept (fun m : WaitD => m.number != n) ws k ++ [y]).flatMap waitCells)) := by
          show World.ownsRow _ _ _ _ _ _ _
          simpa using hown'
        have HB1 : Hid (Below wa.heap.size wr w1) := hb1
        clear hown' hgrow hown hb1
        go_wp2_with fail
        go_roundw
        case rel => exact ⟨k + 1, by omega, by go_num, by rw [HT2.out], by rw [HK.out]; exact HO1.out, hbr.trans (HB1.out.mono (by rw [HSA.out]; omega)), Nat.le_trans hsr HB1.out.size, (HB1.out.block _ (by rw [HSA.out]; omega)).trans HR1.out, by rw [HLT.out]; exact (HB1.out.block _ (by rw [HSA.out]; omega)).trans HR2.out⟩
        case measure => simp [intOf]; omega
      · have HK : Hid (kept (fun m : WaitD => m.number != n) ws (k + 1) = kept (fun m : WaitD => m.number != n) ws k) := kept_miss hy (by simp only [bne, he]; rfl)
        have HLT : Hid (lastTo ws n (k + 1) = y) := last_hit hy he
        have HT2 : Hid ((ws.take (k + 1)).any (fun m => m.number == n) = true) := by show _ = _; rw [HT.out, he, Bool.or_true]
        obtain ⟨z0, z1, z2, z3, z4, zf⟩ := wait5 HR2.out
        have zf0 := zf 0
        have zf1 := zf 1
        have zf2 := zf 2
        have zf3 := zf 3
        have zf4 := zf 4
        have hne : g ≠ w.heap.size + 1 := by omega
        clear hy zf
        generalize (ws.take k).any (fun m => m.number == n) = B at *
        go_wp2_with fail
        go_roundw
        case rel =>
          refine ⟨k + 1, by omega, by go_num, by rw [HT2.out], by rw [HK.out]; exact own_upd hown (upd5 wr (w.heap.size + 1) y) (fun g hg e => by have := (World.ownsRow.lt hown g hg).1; rw [HSA.out] at this; omega), ?_, Nat.le_trans hsr (upd5 wr (w.heap.size + 1) y).size, ?_, by rw [HLT.out]; exact set5 HR2.out⟩
          · exact hbr.trans (below_of_upd (upd5 wr (w.heap.size + 1) y) hbr.size (fun g e => by omega))
          · exact ((upd5 wr (w.heap.size + 1) y).block _ (by omega) (by omega)).trans HR1.out
        case measure => simp [intOf]; omega
    · obtain rfl : k = ws.length := by omega
      have HK : Hid (kept (fun m : WaitD => m.number != n) ws ws.length = ws.filter (fun m : WaitD => m.number != n)) := kept_end _ _ _ (Nat.le_refl _)
      have HT : Hid ((ws.take ws.length).any (fun m => m.number == n) = ws.any (fun m => m.number == n)) := by show _ = _; rw [List.take_length]
      obtain ⟨z0, z1, z2, z3, z4, -⟩ := wait5 HR2.out
      obtain ⟨y0, y1, y2, y3, y4, yf⟩ := wait5 HR1.out
      have yf0 := yf 0
      have yf1 := yf 1
      have yf2 := yf 2
      have yf3 := yf 3
      have yf4 := yf 4
      obtain ⟨a7, c7, rfl, -, -, -⟩ := Row.form (row_of_own (w := wa) hown nilV).1
      generalize hKL : kept (fun m : WaitD => m.number != n) ws ws.length = KL at *
      have HKL : Hid (ws.filter (fun m : WaitD => m.number != n) = KL) := by show _ = _; rw [← HK.out]
      have HOW : Hid (wr.ownsRow wa.heap.size 50 5 (.slice a7 KL.length c7) KL.length (KL.flatMap waitCells)) := hown
      clear hown yf hKL HK
      generalize hXX : lastTo ws n ws.length = X at *
      have HXX : Hid (lastTo ws n ws.length = X) := hXX
      generalize hB : (ws.take ws.length).any (fun m => m.number == n) = B at *
      have HB : Hid (ws.any (fun m => m.number == n) = B) := by show _ = _; rw [← HT.out]
      clear hB hXX
      go_wp2_with fail
      go_region
      all_goals go_wp2_with fail
      all_goals refine bodyPost_ret (v := .tuple #[.slice a7 KL.length c7, waitV X, .bool B]) (by rw [results_tct rfl]; go_simp) rfl ⟨_, by rw [HB.out, HXX.out], ?_, ?_⟩
      all_goals first
        | (rw [HKL.out]; exact own_mono (own_upd HOW.out (upd5 wr w.heap.size X).drew (fun g hg e => by have := (World.ownsRow.lt HOW.out g hg).1; rw [HSA.out] at this; omega)) (by rw [HSA.out]; omega))
        | exact hbr.trans (below_of_upd (upd5 wr w.heap.size X).drew hbr.size (fun g e => by omega))
end Go.Proofs.Ytmjdndhfmfjbiab

/-
  heraldkeep.Moved: what is cancelled, what is moved; the math.
-/
namespace Go.Proofs.Ytmjdndhfmfjbiab
open Go.RowKit

theorem last_any {ws : List WaitD} {n : Int} : ∀ k, k ≤ ws.length → (ws.take k).any (fun m => m.number == n) = true → lastTo ws n k ∈ ws ∧ (lastTo ws n k).number = n
  | 0, _, h => by simp at h
  | k + 1, hk, h => by
    obtain ⟨y, hy⟩ : ∃ y, ws[k]? = some y := ⟨_, List.getElem?_eq_getElem (by omega)⟩
    cases he : (y.number == n)
    · rw [last_miss hy he]
      rw [any_take hy, he, Bool.or_false] at h
      exact last_any k (by omega) h
    · rw [last_hit hy he]
      exact ⟨List.mem_of_getElem? hy, by simpa using he⟩
theorem last_mem {ws : List WaitD} {n : Int} (h : ws.any (fun m => m.number == n) = true) : lastTo ws n ws.length ∈ ws ∧ (lastTo ws n ws.length).number = n :=
  last_any ws.length (Nat.le_refl _) (by rw [List.take_length]; exact h)

theorem waits_any {S : RefS} {fil : Nat → List ByteArray} (h : Lk S fil (waitingM S)) (n : Int) : (findM (fun m : WaitD => m.number == n) S.wait 0 < 0) ↔ (waitingM S).any (fun m => m.number == n) = false := by
  have := h.waits n
  constructor
  · intro hlt; rw [decide_eq_true hlt] at this; simpa using this.symm
  · intro hf; rw [hf] at this; simpa using this

/-- Where the changing stands. -/
structure MovI (now : Int) (S : RefS) (WS : List WaitD) (t : Nat) : Prop where
  time : S.time = now
  room : S.room = 500
  wait : waitingM S = WS
  fit : ∀ x, fitAny (S.fil 1) x = true
  life : ∀ m ∈ S.que 1, m.life = 0
  done : S.done.length ≤ t

theorem PubI.mov {now : Int} {S : RefS} {k : Nat} {MS : List MailD} {WS : List WaitD} {t : Nat} (h : PubI 1 now S k MS WS t) (hk : k ≤ 64) : MovI now S WS (t + 64) :=
  ⟨h.time, h.room, h.wait, h.fit, h.life, by have := h.done; omega⟩

theorem mov_cancel {now : Int} {S : RefS} {WS : List WaitD} {t : Nat} {fil : Nat → List ByteArray} (h : MovI now S WS t) (hlk : Lk S fil (waitingM S)) (ht : t < 500) (a n c d : Int) (s : ByteArray) :
    doErr S ⟨4, a, n, c, d, s⟩ = (if WS.any (fun m => m.number == n) then 0 else 7) ∧ MovI now (doS S ⟨4, a, n, c, d, s⟩) (WS.filter (fun m => m.number != n)) (t + 1) := by
  have hw : wrongM S ⟨4, a, n, c, d, s⟩ = noneErr (findM (fun m => m.number == n) S.wait 0) := by simp [wrongM]
  have hf := waits_any hlk n
  rw [h.wait] at hf
  cases ha : WS.any (fun m => m.number == n)
  · have hz : wrongM S ⟨4, a, n, c, d, s⟩ = 7 := by rw [hw, noneErr, if_pos (hf.2 ha)]
    have e := is_wrong hz (by omega)
    refine ⟨by rw [e]; rfl, ?_⟩
    rw [(not_done (by rw [e]; omega)).2.1, List.filter_eq_self.2 (fun j hj => by
      have := List.any_eq_false.1 ha j hj
      simpa using this)]
    exact ⟨h.time, h.room, h.wait, h.fit, h.life, Nat.le_succ_of_le h.done⟩
  · have hz : wrongM S ⟨4, a, n, c, d, s⟩ = 0 := by
      rw [hw, noneErr, if_neg]
      intro hlt
      have := hf.1 hlt
      rw [ha] at this
      cases this
    obtain ⟨-, q2, q3⟩ := is_done hz (writes_not (by show (4 : Int) ≠ 6; decide)) (by rw [h.room]; have := h.done; omega)
    refine ⟨by rw [q2]; rfl, ?_⟩
    rw [q3]
    have e : turnM { S with done := S.done ++ [⟨4, a, n, c, d, s⟩] } ⟨4, a, n, c, d, s⟩ = { S with done := S.done ++ [⟨4, a, n, c, d, s⟩], wait := S.wait.filter (fun m => m.number != n) } := by simp [turnM]
    rw [e]
    have h1 : Lk { S with done := S.done ++ [⟨4, a, n, c, d, s⟩], wait := S.wait.filter (fun m => m.number != n) } fil ((waitingM S).filter (fun m => m.number != n)) := (hlk.cancel n).other rfl rfl (Int.le_refl _)
    exact ⟨h.time, h.room, by rw [h1.waiting, h.wait], h.fit, h.life, by have := h.done; simp; omega⟩

theorem mov_move {now : Int} {S : RefS} {WS : List WaitD} {t : Nat} {fil : Nat → List ByteArray} (h : MovI now S WS t) (hlk : Lk S fil (waitingM S)) (ht : t < 500) (a n c d : Int) (s : ByteArray) (hc0 : 0 < c) (hc1 : c ≤ 1099511627776) :
    doErr S ⟨5, a, n, c, d, s⟩ = (if WS.any (fun m => m.number == n) then 0 else 7) ∧
      MovI now (doS S ⟨5, a, n, c, d, s⟩) (if WS.any (fun m => m.number == n) then insM aheadB { lastTo WS n WS.length with deadline := laterM now c } (WS.filter (fun m => m.number != n)) else WS.filter (fun m => m.number != n)) (t + 1) := by
  have hw : wrongM S ⟨5, a, n, c, d, s⟩ = moveErr (findM (fun m => m.number == n) S.wait 0) c := by simp [wrongM]
  have hf := waits_any hlk n
  rw [h.wait] at hf
  cases ha : WS.any (fun m => m.number == n)
  · have hz : wrongM S ⟨5, a, n, c, d, s⟩ = 7 := by rw [hw, moveErr, if_pos (hf.2 ha)]
    have e := is_wrong hz (by omega)
    refine ⟨by rw [e]; rfl, ?_⟩
    rw [(not_done (by rw [e]; omega)).2.1, List.filter_eq_self.2 (fun j hj => by
      have := List.any_eq_false.1 ha j hj
      simpa using this)]
    exact ⟨h.time, h.room, h.wait, h.fit, h.life, Nat.le_succ_of_le h.done⟩
  · have hz : wrongM S ⟨5, a, n, c, d, s⟩ = 0 := by
      rw [hw, moveErr, if_neg, if_neg (by omega), if_neg (by omega)]
      intro hlt
      have := hf.1 hlt
      rw [ha] at this
      cases this
    obtain ⟨-, q2, q3⟩ := is_done hz (writes_not (by show (5 : Int) ≠ 6; decide)) (by rw [h.room]; have := h.done; omega)
    refine ⟨by rw [q2]; rfl, ?_⟩
    rw [q3]
    have e : turnM { S with done := S.done ++ [⟨5, a, n, c, d, s⟩] } ⟨5, a, n, c, d, s⟩ = { S with done := S.done ++ [⟨5, a, n, c, d, s⟩], wait := moveL S.wait n (laterM S.time c) } := by simp [turnM]
    rw [e]
    obtain ⟨m1, m2⟩ := last_mem ha
    have h1 : Lk { S with done := S.done ++ [⟨5, a, n, c, d, s⟩], wait := moveL S.wait n (laterM S.time c) } fil (insM aheadB { lastTo WS n WS.length with deadline := laterM S.time c } ((waitingM S).filter (fun m => m.number != n))) :=
      (hlk.move (dl := laterM S.time c) (by rw [h.wait]; exact m1) m2).other rfl rfl (Int.le_refl _)
    refine ⟨h.time, h.room, ?_, h.fit, h.life, by have := h.done; simp; omega⟩
    rw [h1.waiting, h.wait, h.time]
    rfl

/-- A client that takes all: what is sent is in its queue, or lost. -/
theorem sendAll_count (D : List WaitD) : ∀ (T : RefS) (c : Nat), c < 8 → (∀ x, fitAny (T.fil c) x = true) → (((sendAll T D).que c).length : Int) + (sendAll T D).lost c = ((T.que c).length : Int) + T.lost c + (D.length : Int) := by
  induction D with
  | nil => intro T c _ _; simp [sendAll]
  | cons m D ih =>
    intro T c hc hfit
    rw [sendAll_cons, ih (sendTo T m 8) c hc (by rw [(sendTo_keeps T m 8).1]; exact hfit), send_at T m c hc, send_lost T m c hc, hfit m.topic, List.length_cons]
    simp only [if_true]
    split
    · push_cast; omega
    · rw [List.length_append, List.length_singleton]; push_cast; omega
end Go.Proofs.Ytmjdndhfmfjbiab

namespace Go.Proofs.Ytmjdndhfmfjbiab
open Go.RowKit

/-- The filter that fits all. -/
theorem fit_hash (x : ByteArray) : fitAny [⟨#[35]⟩] x = true := by
  unfold fitAny
  rw [List.any_cons, M.along_L, M.words_L]
  have e : M.splitL (M.L ⟨#[35]⟩) = [[35]] := by decide
  rw [e]
  cases (M.wordsM x).map M.L with
  | nil => rfl
  | cons b t => rfl

theorem alive_all {t : Int} {l : List SentD} (h : ∀ m ∈ l, m.life = 0) : l.filter (aliveB t) = l := List.filter_eq_self.2 (fun m hm => by
  unfold aliveB
  rw [h m hm]; rfl)

/-- The clock has come to its end: all that waits is sent. -/
theorem mov_end {now : Int} {S : RefS} {WS : List WaitD} {t : Nat} {fil : Nat → List ByteArray} (h : MovI now S WS t) (hlk : Lk S fil (waitingM S)) (hin : Inv S) (ht : t < 500) (hnow : now < 1099511627776) (a c d : Int) (s : ByteArray) :
    doErr S ⟨6, a, 1099511627776, c, d, s⟩ = 0 ∧ waitingM (doS S ⟨6, a, 1099511627776, c, d, s⟩) = [] ∧
      (((doS S ⟨6, a, 1099511627776, c, d, s⟩).que 1).length : Int) + (doS S ⟨6, a, 1099511627776, c, d, s⟩).lost 1 = ((S.que 1).length : Int) + S.lost 1 + (WS.length : Int) := by
  have hz : wrongM S ⟨6, a, 1099511627776, c, d, s⟩ = 0 := by
    have htm : isTimeM 1099511627776 = true := by decide
    simp [wrongM, tickErr, htm]
  have hwb : writesB S ⟨6, a, 1099511627776, c, d, s⟩ = true := by simp [writesB, h.time]; omega
  obtain ⟨-, q2, q3⟩ := is_done hz hwb (by rw [h.room]; have := h.done; omega)
  have e : turnM { S with done := S.done ++ [⟨6, a, 1099511627776, c, d, s⟩] } ⟨6, a, 1099511627776, c, d, s⟩ = tickM { S with done := S.done ++ [⟨6, a, 1099511627776, c, d, s⟩] } 1099511627776 := by simp [turnM]
  obtain ⟨g1, g2, g3, g4, g5, g6, g7, g8⟩ := aged_keeps { S with done := S.done ++ [⟨6, a, 1099511627776, c, d, s⟩] } 1099511627776 8
  obtain ⟨W, hW1, hW2⟩ := hlk.ticked (T := agedTo { S with done := S.done ++ [⟨6, a, 1099511627776, c, d, s⟩] } 1099511627776 8) 1099511627776 g4
  have hdue : ∀ m ∈ waitingM S, dueB 1099511627776 m = true := fun m hm => by
    have := (hin.wait.2 m (hlk.waitP.mem_iff.1 hm)).2.2.2.2
    simp [dueB]; exact this
  rw [List.filter_eq_self.2 hdue] at hW1
  have hnil : (waitingM S).filter (fun x => !dueB 1099511627776 x) = [] := List.filter_eq_nil_iff.2 (fun m hm => by rw [hdue m hm]; decide)
  rw [hnil] at hW2
  have hW : W = [] := List.Perm.nil_eq hW2 |>.symm
  subst hW
  have hS : doS S ⟨6, a, 1099511627776, c, d, s⟩ = waited (sendAll (agedTo { S with done := S.done ++ [⟨6, a, 1099511627776, c, d, s⟩] } 1099511627776 8) (waitingM S)) [] := by rw [q3, e, tickM]; exact hW1
  refine ⟨q2, by rw [hS]; rfl, ?_⟩
  rw [hS]
  have hc := sendAll_count (waitingM S) (agedTo { S with done := S.done ++ [⟨6, a, 1099511627776, c, d, s⟩] } 1099511627776 8) 1 (by omega) (by rw [g1]; exact h.fit)
  have hq : (agedTo { S with done := S.done ++ [⟨6, a, 1099511627776, c, d, s⟩] } 1099511627776 8).que 1 = S.que 1 := by
    rw [g8, if_pos (by omega)]; exact alive_all h.life
  rw [hq, g7, h.wait] at hc
  rw [h.wait]
  exact hc
end Go.Proofs.Ytmjdndhfmfjbiab

namespace Go.Proofs.Ytmjdndhfmfjbiab
open Go.RowKit

structure ChgD where
  number : Int
  delay : Int
def ChgsAt (w : World) (ao : Option Addr) (l : List ChgD) : Prop := ∀ j y, l[j]? = some y → ∃ g off, ao = some ⟨g, off, none⟩ ∧ w.cell? ⟨g, off + j * 2, none⟩ = some (.int .i64 y.number) ∧ w.cell? ⟨g, off + j * 2 + 1, none⟩ = some (.int .i64 y.delay)

theorem sub_hash {S : RefS} (hf : S.fil 1 = []) (hr : (S.done.length : Int) < S.room) (b c d : Int) : doErr S ⟨1, 1, b, c, d, ⟨#[35]⟩⟩ = 0 ∧ doS S ⟨1, 1, b, c, d, ⟨#[35]⟩⟩ = { S with done := S.done ++ [⟨1, 1, b, c, d, ⟨#[35]⟩⟩], fil := setAt S.fil 1 [⟨#[35]⟩] } := by
  have hk : knownB 1 = true := by decide
  have hz : wrongM S ⟨1, 1, b, c, d, ⟨#[35]⟩⟩ = 0 := by simp [wrongM, hk, hash_path, hf, findM, subErr]
  obtain ⟨-, q2, q3⟩ := is_done hz (writes_not (by show (1 : Int) ≠ 6; decide)) hr
  exact ⟨q2, by rw [q3]; simp [turnM, hf]⟩

theorem mov_start {now : Int} (h0 : 0 ≤ now) (h1 : now ≤ 1099511627776) : doErr (refNew 500) ⟨6, 0, now, 0, 0, ⟨#[]⟩⟩ = 0 ∧ doErr (doS (refNew 500) ⟨6, 0, now, 0, 0, ⟨#[]⟩⟩) ⟨1, 1, 0, 0, 0, ⟨#[35]⟩⟩ = 0 ∧
    PubI 1 now (doS (doS (refNew 500) ⟨6, 0, now, 0, 0, ⟨#[]⟩⟩) ⟨1, 1, 0, 0, 0, ⟨#[35]⟩⟩) 0 [] [] 2 := by
  obtain ⟨S1, e1, e2, C1, g1, g2, g3, g4, g5, g6⟩ := tick_calm (S := refNew 500) (n := 0) (b := now) 0 0 0 ⟨#[]⟩ ⟨rfl, Nat.le_refl _⟩ h0 h1 (by show ((0 : Nat) : Int) < 500; omega)
  have hr : S1.room = 500 := g4
  have hf : S1.fil 1 = [] := by rw [g2]; rfl
  obtain ⟨p1, p2⟩ := sub_hash hf (by rw [hr]; have := C1.done; omega) 0 0 0
  rw [e1]
  refine ⟨e2, p1, ?_⟩
  rw [p2]
  refine PubI.start ?_ g3 hr (fun x => ?_) C1.wait ?_ (by show S1.lost 1 = 0; rw [g5]; rfl) (by have := C1.done; simp; omega)
  · show S1.time = now
    rw [g1]
    show (if (0 : Int) < now then now else 0) = now
    split <;> omega
  · show fitAny (setAt S1.fil 1 [⟨#[35]⟩] 1) x = true
    rw [setAt_same]; exact fit_hash x
  · show S1.que 1 = []
    rw [g6 1 (by omega)]
    show (if (0 : Int) < now then List.filter _ [] else []) = []
    split <;> rfl

set_option maxRecDepth 100000 in
set_option maxHeartbeats 8000000 in
theorem movedWalk (start : Int) (l : List LetD) (ao : Option Addr) (m cap : Nat) (ch : List ChgD) (bo : Option Addr) (p cap2 : Nat) (w : World) (h0 : -9223372036854775808 ≤ start) (h1 : start ≤ 9223372036854775807) (hl : l.length = m) (hsc : LetsAt w ao l)
    (hbd : ∀ y ∈ l, (-9223372036854775808 ≤ y.delay ∧ y.delay ≤ 9223372036854775807) ∧ (-9223372036854775808 ≤ y.value ∧ y.value ≤ 9223372036854775807) ∧ y.s.size ≤ maxLen)
    (hl2 : ch.length = p) (hsc2 : ChgsAt w bo ch) (hbd2 : ∀ y ∈ ch, (-9223372036854775808 ≤ y.number ∧ y.number ≤ 9223372036854775807) ∧ (-9223372036854775808 ≤ y.delay ∧ y.delay ≤ 9223372036854775807)) :
    Calls Try.prog 4 #[.int .i64 start, .slice ao m cap, .slice bo p cap2] w fun e w' => e = .returned (.bool true) ∧ Below w.heap.size w w' := by
  have HL2 : Hid (ch.length = p) := hl2
  have HSC2 : Hid (ChgsAt w bo ch) := hsc2
  have HBD2 : Hid (∀ y ∈ ch, (-9223372036854775808 ≤ y.number ∧ y.number ≤ 9223372036854775807) ∧ (-9223372036854775808 ≤ y.delay ∧ y.delay ≤ 9223372036854775807)) := hbd2
  have HARG : Hid (l.length = m ∧ LetsAt w ao l ∧ ∀ y ∈ l, (-9223372036854775808 ≤ y.delay ∧ y.delay ≤ 9223372036854775807) ∧ (-9223372036854775808 ≤ y.value ∧ y.value ≤ 9223372036854775807) ∧ y.s.size ≤ maxLen) := ⟨hl, hsc, hbd⟩
  clear hl2 hsc2 hbd2 hl hsc hbd
  go_enter Try.func4, Try.ntmps4
  go_wp2_with fail
  refine (mineOpened 500 w (by omega) (by omega)).mono ?_
  rintro e w1 ⟨H, rfl, hm1⟩
  have M1 : Hid (Mine w w1 H (refNew 500)) := hm1
  clear hm1
  go_wp2_with fail
  refine (keepPick start 1099511627776 _ h0 h1 (by omega) (by omega)).mono ?_
  rintro e w1 ⟨rfl, rfl⟩
  have hnow := pick_bd start 1099511627776 (by omega)
  generalize pickM start 1099511627776 = now at *
  obtain ⟨s1, s2, s3⟩ := mov_start (now := now) (by omega) (by omega)
  have P1 : Hid (doErr (refNew 500) ⟨6, 0, now, 0, 0, ⟨#[]⟩⟩ = 0) := s1
  have P2 : Hid (doErr (doS (refNew 500) ⟨6, 0, now, 0, 0, ⟨#[]⟩⟩) ⟨1, 1, 0, 0, 0, ⟨#[35]⟩⟩ = 0) := s2
  have P3 : Hid (PubI 1 now (doS (doS (refNew 500) ⟨6, 0, now, 0, 0, ⟨#[]⟩⟩) ⟨1, 1, 0, 0, 0, ⟨#[35]⟩⟩) 0 [] [] 2) := s3
  clear s1 s2 s3
  go_wp2_with fail
  refine (mineTick 0 now 0 0 ⟨#[]⟩ M1.out (Nat.zero_le _)).mono ?_
  rintro e w2 ⟨rfl, hm2⟩
  rw [P1.out]
  have M2 : Hid (Mine w w2 H (doS (refNew 500) ⟨6, 0, now, 0, 0, ⟨#[]⟩⟩)) := hm2
  clear hm2
  go_wp2_with fail
  refine (mineSub 1 0 0 0 ⟨#[35]⟩ M2.out (by show 1 ≤ _; omega)).mono ?_
  rintro e w3 ⟨rfl, hm3⟩
  rw [P2.out]
  obtain ⟨F3, hm3⟩ := hm3.mineF
  have M3 : Hid (MineF w w3 H F3 (doS (doS (refNew 500) ⟨6, 0, now, 0, 0, ⟨#[]⟩⟩) ⟨1, 1, 0, 0, 0, ⟨#[35]⟩⟩)) := hm3
  clear hm3
  go_wp2_with fail
  refine (keepPublished 1 (by omega) 64 (by omega) now (by omega) (by omega) 2 (by omega) l ao m cap HARG.out.1 w w3 HARG.out.2.1 HARG.out.2.2 H F3 _ M3.out P3.out).mono ?_
  rintro e w4 ⟨S4, F4, mv, wv, MS, WS4, rfl, ⟨k4, hk4, hI4⟩, hm4, -, how4, -, hapw4⟩
  have I4 : Hid (MovI now S4 WS4 66) := hI4.mov hk4
  have M4 : Hid (MineF w w4 H F4 S4) := hm4
  have O4 : Hid (w4.ownsRow w.heap.size 50 5 wv WS4.length (WS4.flatMap waitCells)) := own_mono how4 M3.out.mine.out.size
  have A4 : Hid (∀ g, wv.ownBlock = some g → ¬ F4 g) := hapw4
  clear hI4 hm4 how4 hapw4
  go_wp2_with fail
  go_loopw [9, 12, 14] (fun e v i wr => ∃ (k : Nat) (S : RefS) (F : Nat → Prop) (WS : List WaitD), k ≤ p ∧ k ≤ 300 ∧ i = .int .i64 (k : Int) ∧ (∃ z, e = .int .i64 z) ∧ MovI now S WS (66 + k) ∧ MineF w wr H F S ∧ wr.ownsRow w.heap.size 50 5 v WS.length (WS.flatMap waitCells) ∧ ∀ g, v.ownBlock = some g → ¬ F g) (fun _ _ i _ => 300 - (intOf i).toNat)
  case atStart => exact ⟨0, S4, F4, WS4, Nat.zero_le _, by omega, rfl, ⟨0, rfl⟩, I4.out, M4.out, O4.out, A4.out⟩
  case round =>
    obtain ⟨k, S, F, WS, hkp, hk3, rfl, ⟨z0, rfl⟩, hI, hM, hown, hap⟩ := hrel
    have II : Hid (MovI now S WS (66 + k)) := hI
    have MM : Hid (MineF w wr H F S) := hM
    have HAP : Hid _ := hap
    obtain ⟨fl, hlk⟩ := hM.lk
    have LK : Hid (Lk S fl (waitingM S)) := hlk
    have hwl : WS.length ≤ 64 := by rw [← hI.wait, waiting_len hlk]; exact hM.mine.good.inv.wait.1
    have hbw := hM.mine.out.size
    obtain ⟨av, cv, rfl, -, -, hcv⟩ := Row.form (row_of_own (w := w) hown nilV).1
    have HCV : Hid (CellsAt wr av (WS.flatMap waitCells)) := hcv
    have HOW : Hid (wr.ownsRow w.heap.size 50 5 (.slice av WS.length cv) WS.length (WS.flatMap waitCells)) := hown
    clear hI hM hap hlk hcv hown
    by_cases hlt : k < p ∧ k < 300
    · obtain ⟨hlt1, hlt2⟩ := hlt
      obtain ⟨y, hy⟩ : ∃ y, ch[k]? = some y := ⟨_, List.getElem?_eq_getElem (by rw [HL2.out]; exact hlt1)⟩
      obtain ⟨⟨yn0, yn1⟩, yd0, yd1⟩ := HBD2.out y (List.mem_of_getElem? hy)
      obtain ⟨gs, off, rfl, e0, e1⟩ := HSC2.out k y hy
      have f0 := cell_later MM.out.mine.out e0
      have f1 := cell_later MM.out.mine.out e1
      clear hy e0 e1
      go_wp2_with fail
      refine (keepPick y.number 70 _ yn0 yn1 (by omega) (by omega)).mono ?_
      rintro e wr ⟨rfl, rfl⟩
      have hK := pick_bd y.number 70 (by omega)
      generalize pickM y.number 70 = K at *
      go_wp2_with fail
      refine (keepPick y.delay 1099511627777 _ yd0 yd1 (by omega) (by omega)).mono ?_
      rintro e wr ⟨rfl, rfl⟩
      have hD := pick_bd y.delay 1099511627777 (by omega)
      generalize pickM y.delay 1099511627777 = D at *
      clear f0 f1
      go_wp2_with fail
      refine (keepDropped WS av cv K _ (by omega) HCV.out).mono ?_
      rintro e w5 ⟨v5, rfl, ho5, hb5⟩
      have M5 : Hid (MineF w w5 H F S) := MM.out.below hb5
      have HO5 : Hid (w5.ownsRow wr.heap.size 50 5 v5 (WS.filter (fun m => m.number != K)).length ((WS.filter (fun m => m.number != K)).flatMap waitCells)) := ho5
      have hs5 := hb5.size
      clear ho5 hb5
      generalize hX : lastTo WS K WS.length = X at *
      have HXX : Hid (lastTo WS K WS.length = X) := hX
      clear hX
      cases hany : WS.any (fun m => m.number == K)
      · have HANY : Hid (WS.any (fun m => m.number == K) = false) := hany
        clear hany
        by_cases hDz : D = 0
        · subst hDz
          obtain ⟨q1, q2⟩ := mov_cancel II.out LK.out (by omega) 0 K 0 0 ⟨#[]⟩
          have Q1 : Hid (doErr S ⟨4, 0, K, 0, 0, ⟨#[]⟩⟩ = _) := q1
          have Q2 : Hid (MovI now (doS S ⟨4, 0, K, 0, 0, ⟨#[]⟩⟩) (WS.filter (fun m => m.number != K)) (66 + k + 1)) := q2
          clear q1 q2
          go_wp2_with fail
          refine (mineFCancel 0 K 0 0 ⟨#[]⟩ (M5.out.below (below_one _ _)) (Nat.zero_le _)).mono ?_
          rintro e w6 ⟨rfl, F6, hm6, hu6, hF6, hk6⟩
          rw [Q1.out, HANY.out]
          have M6 : Hid (MineF w w6 H F6 (doS S ⟨4, 0, K, 0, 0, ⟨#[]⟩⟩)) := hm6
          have HO6 : Hid (w6.ownsRow w.heap.size 50 5 v5 (WS.filter (fun m => m.number != K)).length ((WS.filter (fun m => m.number != K)).flatMap waitCells)) :=
            own_mono (own_upd (World.ownsRow.alloc HO5.out _) hu6 (fun g hg hf => by have h1 := (World.ownsRow.lt HO5.out g hg).1; have h2 := MM.out.lt hf; omega)) hbw
          have AP6 : Hid (∀ g, v5.ownBlock = some g → ¬ F6 g) := fun g hg hf => by
            obtain ⟨h1, h3⟩ := World.ownsRow.lt HO5.out g hg
            rcases hk6 g hf with h2 | h2
            · have := MM.out.lt h2; omega
            · simp at h2; omega
          clear hm6 hu6 hF6 hk6
          go_wp2_with fail
          go_roundw
          case rel => exact ⟨k + 1, _, F6, _, by omega, by omega, by go_num, ⟨_, rfl⟩, Q2.out, M6.out, HO6.out, AP6.out⟩
          case measure => simp [intOf]; omega
        · have hD0 : 0 < D := by omega
          have hDb : (D == 0) = false := by simp; omega
          obtain ⟨q1, q2⟩ := mov_move II.out LK.out (by omega) 0 K D 0 ⟨#[]⟩ hD0 (by omega)
          have Q1 : Hid (doErr S ⟨5, 0, K, D, 0, ⟨#[]⟩⟩ = _) := q1
          rw [HANY.out] at q2
          have Q2 : Hid (MovI now (doS S ⟨5, 0, K, D, 0, ⟨#[]⟩⟩) _ (66 + k + 1)) := q2
          clear q1 q2
          go_wp2_with fail
          refine (mineFMove 0 K D 0 ⟨#[]⟩ (M5.out.below (below_one _ _)) (Nat.zero_le _)).mono ?_
          rintro e w6 ⟨rfl, F6, hm6, hu6, hF6, hk6⟩
          rw [Q1.out, HANY.out]
          have M6 : Hid (MineF w w6 H F6 (doS S ⟨5, 0, K, D, 0, ⟨#[]⟩⟩)) := hm6
          have HO6 : Hid (w6.ownsRow wr.heap.size 50 5 v5 (WS.filter (fun m => m.number != K)).length ((WS.filter (fun m => m.number != K)).flatMap waitCells)) :=
            own_upd (World.ownsRow.alloc HO5.out _) hu6 (fun g hg hf => by have h1 := (World.ownsRow.lt HO5.out g hg).1; have h2 := MM.out.lt hf; omega)
          have AP6 : Hid (∀ g, v5.ownBlock = some g → ¬ F6 g) := fun g hg hf => by
            obtain ⟨h1, h3⟩ := World.ownsRow.lt HO5.out g hg
            rcases hk6 g hf with h2 | h2
            · have := MM.out.lt h2; omega
            · simp at h2; omega
          have hnx : ¬ F w5.heap.size := fun hf => by have := MM.out.lt hf; omega
          have hx6 : w6.heap[w5.heap.size]? = some (WaitObj X) := (hu6.block _ (by simp) hnx).trans (heap_alloc_new w5 _)
          have hnx6 : ¬ F6 w5.heap.size := fun hf => by
            rcases hk6 _ hf with h2 | h2
            · exact hnx h2
            · simp at h2; omega
          have hs6 : w5.heap.size < w6.heap.size := Nat.lt_of_lt_of_le (by simp) hu6.size
          obtain ⟨x0, x1, x2, x3, x4, xf⟩ := wait5 hx6
          have xf3 := xf 3
          have HNX6 : Hid (¬ F6 w5.heap.size) := hnx6
          clear hm6 hu6 hF6 hk6 hx6 hnx hnx6 xf
          go_wp2_with fail
          refine (keepLater now D _ (by omega) (by omega) (by omega) (by omega)).mono ?_
          rintro e w6 ⟨rfl, rfl⟩
          have hu7 : Upd (fun g => g = w5.heap.size) w6 (w6.setCell ⟨w5.heap.size, 3, none⟩ (.int .i64 (laterM now D))) := (Upd.refl (fun g => g = w5.heap.size) w6).setCell (p := ⟨w5.heap.size, 3, none⟩) (fun _ => rfl) _
          have M7 : Hid (MineF w (w6.setCell ⟨w5.heap.size, 3, none⟩ (.int .i64 (laterM now D))) H F6 (doS S ⟨5, 0, K, D, 0, ⟨#[]⟩⟩)) := M6.out.upd hu7 (fun g e => by omega) (fun g hf e => by subst e; exact HNX6.out hf)
          have HO7 : Hid ((w6.setCell ⟨w5.heap.size, 3, none⟩ (.int .i64 (laterM now D))).ownsRow wr.heap.size 50 5 v5 (WS.filter (fun m => m.number != K)).length ((WS.filter (fun m => m.number != K)).flatMap waitCells)) := own_upd HO6.out hu7 (fun g hg e => by have := (World.ownsRow.lt HO5.out g hg).2; omega)
          clear hu7
          go_wp2_with fail
          go_roundw
          case rel => exact ⟨k + 1, _, F6, _, by omega, by omega, by go_num, ⟨_, rfl⟩, Q2.out, M7.out, own_mono HO7.out hbw, AP6.out⟩
          case measure => simp [intOf]; omega
      · have HANY : Hid (WS.any (fun m => m.number == K) = true) := hany
        clear hany
        by_cases hDz : D = 0
        · subst hDz
          obtain ⟨q1, q2⟩ := mov_cancel II.out LK.out (by omega) 0 K 0 0 ⟨#[]⟩
          have Q1 : Hid (doErr S ⟨4, 0, K, 0, 0, ⟨#[]⟩⟩ = _) := q1
          have Q2 : Hid (MovI now (doS S ⟨4, 0, K, 0, 0, ⟨#[]⟩⟩) (WS.filter (fun m => m.number != K)) (66 + k + 1)) := q2
          clear q1 q2
          go_wp2_with fail
          refine (mineFCancel 0 K 0 0 ⟨#[]⟩ (M5.out.below (below_one _ _)) (Nat.zero_le _)).mono ?_
          rintro e w6 ⟨rfl, F6, hm6, hu6, hF6, hk6⟩
          rw [Q1.out, HANY.out]
          have M6 : Hid (MineF w w6 H F6 (doS S ⟨4, 0, K, 0, 0, ⟨#[]⟩⟩)) := hm6
          have HO6 : Hid (w6.ownsRow w.heap.size 50 5 v5 (WS.filter (fun m => m.number != K)).length ((WS.filter (fun m => m.number != K)).flatMap waitCells)) :=
            own_mono (own_upd (World.ownsRow.alloc HO5.out _) hu6 (fun g hg hf => by have h1 := (World.ownsRow.lt HO5.out g hg).1; have h2 := MM.out.lt hf; omega)) hbw
          have AP6 : Hid (∀ g, v5.ownBlock = some g → ¬ F6 g) := fun g hg hf => by
            obtain ⟨h1, h3⟩ := World.ownsRow.lt HO5.out g hg
            rcases hk6 g hf with h2 | h2
            · have := MM.out.lt h2; omega
            · simp at h2; omega
          clear hm6 hu6 hF6 hk6
          go_wp2_with fail
          go_roundw
          case rel => exact ⟨k + 1, _, F6, _, by omega, by omega, by go_num, ⟨_, rfl⟩, Q2.out, M6.out, HO6.out, AP6.out⟩
          case measure => simp [intOf]; omega
        · have hD0 : 0 < D := by omega
          have hDb : (D == 0) = false := by simp; omega
          obtain ⟨q1, q2⟩ := mov_move II.out LK.out (by omega) 0 K D 0 ⟨#[]⟩ hD0 (by omega)
          have Q1 : Hid (doErr S ⟨5, 0, K, D, 0, ⟨#[]⟩⟩ = _) := q1
          rw [HANY.out] at q2
          have Q2 : Hid (MovI now (doS S ⟨5, 0, K, D, 0, ⟨#[]⟩⟩) _ (66 + k + 1)) := q2
          clear q1 q2
          go_wp2_with fail
          refine (mineFMove 0 K D 0 ⟨#[]⟩ (M5.out.below (below_one _ _)) (Nat.zero_le _)).mono ?_
          rintro e w6 ⟨rfl, F6, hm6, hu6, hF6, hk6⟩
          rw [Q1.out, HANY.out]
          have M6 : Hid (MineF w w6 H F6 (doS S ⟨5, 0, K, D, 0, ⟨#[]⟩⟩)) := hm6
          have HO6 : Hid (w6.ownsRow wr.heap.size 50 5 v5 (WS.filter (fun m => m.number != K)).length ((WS.filter (fun m => m.number != K)).flatMap waitCells)) :=
            own_upd (World.ownsRow.alloc HO5.out _) hu6 (fun g hg hf => by have h1 := (World.ownsRow.lt HO5.out g hg).1; have h2 := MM.out.lt hf; omega)
          have AP6 : Hid (∀ g, v5.ownBlock = some g → ¬ F6 g) := fun g hg hf => by
            obtain ⟨h1, h3⟩ := World.ownsRow.lt HO5.out g hg
            rcases hk6 g hf with h2 | h2
            · have := MM.out.lt h2; omega
            · simp at h2; omega
          have hnx : ¬ F w5.heap.size := fun hf => by have := MM.out.lt hf; omega
          have hx6 : w6.heap[w5.heap.size]? = some (WaitObj X) := (hu6.block _ (by simp) hnx).trans (heap_alloc_new w5 _)
          have hnx6 : ¬ F6 w5.heap.size := fun hf => by
            rcases hk6 _ hf with h2 | h2
            · exact hnx h2
            · simp at h2; omega
          have hs6 : w5.heap.size < w6.heap.size := Nat.lt_of_lt_of_le (by simp) hu6.size
          obtain ⟨x0, x1, x2, x3, x4, xf⟩ := wait5 hx6
          have xf3 := xf 3
          have HNX6 : Hid (¬ F6 w5.heap.size) := hnx6
          clear hm6 hu6 hF6 hk6 hx6 hnx hnx6 xf
          go_wp2_with fail
          refine (keepLater now D _ (by omega) (by omega) (by omega) (by omega)).mono ?_
          rintro e w6 ⟨rfl, rfl⟩
          have hu7 : Upd (fun g => g = w5.heap.size) w6 (w6.setCell ⟨w5.heap.size, 3, none⟩ (.int .i64 (laterM now D))) := (Upd.refl (fun g => g = w5.heap.size) w6).setCell (p := ⟨w5.heap.size, 3, none⟩) (fun _ => rfl) _
          have M7 : Hid (MineF w (w6.setCell ⟨w5.heap.size, 3, none⟩ (.int .i64 (laterM now D))) H F6 (doS S ⟨5, 0, K, D, 0, ⟨#[]⟩⟩)) := M6.out.upd hu7 (fun g e => by omega) (fun g hf e => by subst e; exact HNX6.out hf)
          have HO7 : Hid ((w6.setCell ⟨w5.heap.size, 3, none⟩ (.int .i64 (laterM now D))).ownsRow wr.heap.size 50 5 v5 (WS.filter (fun m => m.number != K)).length ((WS.filter (fun m => m.number != K)).flatMap waitCells)) := own_upd HO6.out hu7 (fun g hg e => by have := (World.ownsRow.lt HO5.out g hg).2; omega)
          clear hu7
          obtain ⟨a7, c7, rfl, -, -, hc7⟩ := Row.form (row_of_own (w := wr) HO7.out nilV).1
          have HC7 : Hid (CellsAt (w6.setCell ⟨w5.heap.size, 3, none⟩ (.int .i64 (laterM now D))) a7 ((WS.filter (fun m => m.number != K)).flatMap waitCells)) := hc7
          have hfl : (WS.filter (fun m => m.number != K)).length ≤ 64 := Nat.le_trans (List.length_filter_le _ _) hwl
          clear hc7
          generalize hFW : WS.filter (fun m => m.number != K) = FW at *
          have HFW : Hid (WS.filter (fun m => m.number != K) = FW) := hFW
          clear hFW
          have Q3 : Hid (MovI now (doS S ⟨5, 0, K, D, 0, ⟨#[]⟩⟩) (insM aheadB { X with deadline := laterM now D } FW) (66 + k + 1)) := by
            have h1 := Q2.out
            simp only [if_true, HXX.out] at h1
            exact h1
          have HPL : Hid (∀ w', CellsAt w' a7 (FW.flatMap waitCells) → Calls Try.prog 25 #[.slice a7 FW.length c7, .agg #[.int .i64 X.number, .string X.topic, .int .i64 X.value, .int .i64 (laterM now D), .int .i64 X.life]] w' fun e w8 => ∃ v, e = .returned v ∧
              w8.ownsRow w'.heap.size 50 5 v (insM aheadB { X with deadline := laterM now D } FW).length ((insM aheadB { X with deadline := laterM now D } FW).flatMap waitCells) ∧ Below w'.heap.size w' w8) :=
            fun w' h => keepPlaced FW a7 c7 { X with deadline := laterM now D } w' (by omega) h
          go_wp2_with fail
          refine (HPL.out _ HC7.out).mono ?_
          rintro e w8 ⟨v8, rfl, ho8, hb8⟩
          have M8 : Hid (MineF w w8 H F6 (doS S ⟨5, 0, K, D, 0, ⟨#[]⟩⟩)) := M7.out.below hb8
          have hsz7 : w.heap.size ≤ (w6.setCell ⟨w5.heap.size, 3, none⟩ (.int .i64 (laterM now D))).heap.size := M7.out.mine.out.size
          have HO8 : Hid (w8.ownsRow w.heap.size 50 5 v8 (insM aheadB { X with deadline := laterM now D } FW).length ((insM aheadB { X with deadline := laterM now D } FW).flatMap waitCells)) := own_mono ho8 hsz7
          have AP8 : Hid (∀ g, v8.ownBlock = some g → ¬ F6 g) := fun g hg hf => by
            have h1 := (World.ownsRow.lt ho8 g hg).1
            have h2 := M7.out.lt hf
            omega
          clear ho8 hb8 hsz7
          go_wp2_with fail
          go_roundw
          case rel => exact ⟨k + 1, _, F6, _, by omega, by omega, by go_num, ⟨_, rfl⟩, Q3.out, M8.out, HO8.out, AP8.out⟩
          case measure => simp [intOf]; omega
    · have hin := MM.out.mine.good.inv
      obtain ⟨x1, x2, x3⟩ := mov_end II.out LK.out hin (by omega) (by omega) 0 0 0 ⟨#[]⟩
      have hin2 := (MM.out.mine.good.does (o := ⟨6, 0, 1099511627776, 0, 0, ⟨#[]⟩⟩) ⟨⟨by show (1 : Int) ≤ 6; omega, by show (6 : Int) ≤ 7; omega⟩, Nat.zero_le _⟩).inv
      have hql1 := (hin.que 1 (by omega)).1
      have hql2 := (hin2.que 1 (by omega)).1
      have hlo1 := hin.small (a := 1) (by omega)
      have hlo2 := hin2.small (a := 1) (by omega)
      have HWT : Hid (waitingM S = WS) := II.out.wait
      have HE1 : Hid (doErr S ⟨6, 0, 1099511627776, 0, 0, ⟨#[]⟩⟩ = 0) := x1
      have HE2 : Hid (waitingM (doS S ⟨6, 0, 1099511627776, 0, 0, ⟨#[]⟩⟩) = []) := x2
      have hl1 : (queueM S 1).length = (S.que 1).length := by
        have e : queueM S 1 = (S.que 1).map (mailOf S.time) := by unfold queueM; rfl
        rw [e, List.length_map]
      have hl2' : (queueM (doS S ⟨6, 0, 1099511627776, 0, 0, ⟨#[]⟩⟩) 1).length = ((doS S ⟨6, 0, 1099511627776, 0, 0, ⟨#[]⟩⟩).que 1).length := by
        have e : queueM (doS S ⟨6, 0, 1099511627776, 0, 0, ⟨#[]⟩⟩) 1 = ((doS S ⟨6, 0, 1099511627776, 0, 0, ⟨#[]⟩⟩).que 1).map (mailOf (doS S ⟨6, 0, 1099511627776, 0, 0, ⟨#[]⟩⟩).time) := by unfold queueM; rfl
        rw [e, List.length_map]
      rw [← hl1] at hql1 x3
      rw [← hl2'] at hql2 x3
      obtain ⟨Q1, hQ1⟩ : ∃ Q1, queueM S 1 = Q1 := ⟨_, rfl⟩
      obtain ⟨Q2, hQ2⟩ : ∃ Q2, queueM (doS S ⟨6, 0, 1099511627776, 0, 0, ⟨#[]⟩⟩) 1 = Q2 := ⟨_, rfl⟩
      obtain ⟨L1, hL1⟩ : ∃ L1, S.lost 1 = L1 := ⟨_, rfl⟩
      obtain ⟨L2, hL2⟩ : ∃ L2, (doS S ⟨6, 0, 1099511627776, 0, 0, ⟨#[]⟩⟩).lost 1 = L2 := ⟨_, rfl⟩
      rw [hQ1] at hql1 x3
      rw [hQ2] at hql2 x3
      rw [hL1] at hlo1 x3
      rw [hL2] at hlo2 x3
      have HQ1 : Hid (queueM S 1 = Q1) := hQ1
      have HQ2 : Hid (queueM (doS S ⟨6, 0, 1099511627776, 0, 0, ⟨#[]⟩⟩) 1 = Q2) := hQ2
      have HLO : Hid (lostM S 1 = L1) := by show lostM S 1 = L1; rw [← hL1]; rfl
      have HLO2 : Hid (lostM (doS S ⟨6, 0, 1099511627776, 0, 0, ⟨#[]⟩⟩) 1 = L2) := by show lostM _ 1 = L2; rw [← hL2]; rfl
      have M0 : Hid (Mine w wr H S) := MM.out.mine
      clear hin hin2 x1 x2 hl1 hl2' hQ1 hQ2 hL1 hL2
      by_cases hkp2 : k < p
      · have hk300 : ¬ k < 300 := fun h => hlt ⟨hkp2, h⟩
        clear hlt
        go_wp2_with fail
        refine (mineWaiting M0.out).mono ?_
        rintro e w5 ⟨q, rfl, ho5, hb5⟩
        rw [HWT.out] at ho5
        obtain ⟨a5, c5, rfl, -, -, hc5⟩ := Row.form (row_of_own (w := wr) ho5 nilV).1
        have HC5 : Hid (CellsAt w5 a5 (WS.flatMap waitCells)) := hc5
        have M5 : Hid (Mine w w5 H S) := M0.out.below hb5
        have HCV5 : Hid (CellsAt w5 av (WS.flatMap waitCells)) := HCV.out.below hb5
        clear ho5 hc5 hb5
        go_wp2_with fail
        refine (keepSameWaits WS a5 av c5 cv _ (by omega) HC5.out HCV5.out).mono ?_
        rintro e w6 ⟨rfl, hb6⟩
        have M6 : Hid (Mine w w6 H S) := M5.out.below hb6
        clear hb6
        go_wp2_with fail
        refine (mineQueue 1 M6.out).mono ?_
        rintro e w7 ⟨q, rfl, ho7, hb7⟩
        rw [HQ1.out] at ho7
        obtain ⟨a7, c7, rfl, -, -, -⟩ := Row.form (row_of_own (w := w6) ho7 nilV).1
        have M7 : Hid (Mine w w7 H S) := M6.out.below hb7
        clear ho7 hb7
        go_wp2_with fail
        refine (mineLost 1 M7.out).mono ?_
        rintro e w7 ⟨rfl, rfl⟩
        rw [HLO.out]
        go_wp2_with fail
        refine (mineTick 0 1099511627776 0 0 ⟨#[]⟩ M7.out (Nat.zero_le _)).mono ?_
        rintro e w8 ⟨rfl, hm8⟩
        rw [HE1.out]
        have M8 : Hid (Mine w w8 H (doS S ⟨6, 0, 1099511627776, 0, 0, ⟨#[]⟩⟩)) := hm8
        clear hm8
        go_wp2_with fail
        refine (mineWaiting M8.out).mono ?_
        rintro e w9 ⟨q, rfl, ho9, hb9⟩
        rw [HE2.out] at ho9
        obtain ⟨a9, c9, rfl, -, -, -⟩ := Row.form (row_of_own (w := w8) ho9 nilV).1
        have M9 : Hid (Mine w w9 H (doS S ⟨6, 0, 1099511627776, 0, 0, ⟨#[]⟩⟩)) := M8.out.below hb9
        clear ho9 hb9
        go_wp2_with fail
        refine (mineQueue 1 M9.out).mono ?_
        rintro e w10 ⟨q, rfl, ho10, hb10⟩
        rw [HQ2.out] at ho10
        obtain ⟨a10, c10, rfl, -, -, -⟩ := Row.form (row_of_own (w := w9) ho10 nilV).1
        have M10 : Hid (Mine w w10 H (doS S ⟨6, 0, 1099511627776, 0, 0, ⟨#[]⟩⟩)) := M9.out.below hb10
        clear ho10 hb10
        go_wp2_with fail
        refine (mineLost 1 M10.out).mono ?_
        rintro e w10 ⟨rfl, rfl⟩
        rw [HLO2.out]
        have HBW : Hid (Below w.heap.size w w10) := M10.out.out
        go_wp2_with fail
        go_ret
        exact ⟨ret_bool' (by simp), HBW.out⟩
      · clear hlt
        go_wp2_with fail
        refine (mineWaiting M0.out).mono ?_
        rintro e w5 ⟨q, rfl, ho5, hb5⟩
        rw [HWT.out] at ho5
        obtain ⟨a5, c5, rfl, -, -, hc5⟩ := Row.form (row_of_own (w := wr) ho5 nilV).1
        have HC5 : Hid (CellsAt w5 a5 (WS.flatMap waitCells)) := hc5
        have M5 : Hid (Mine w w5 H S) := M0.out.below hb5
        have HCV5 : Hid (CellsAt w5 av (WS.flatMap waitCells)) := HCV.out.below hb5
        clear ho5 hc5 hb5
        go_wp2_with fail
        refine (keepSameWaits WS a5 av c5 cv _ (by omega) HC5.out HCV5.out).mono ?_
        rintro e w6 ⟨rfl, hb6⟩
        have M6 : Hid (Mine w w6 H S) := M5.out.below hb6
        clear hb6
        go_wp2_with fail
        refine (mineQueue 1 M6.out).mono ?_
        rintro e w7 ⟨q, rfl, ho7, hb7⟩
        rw [HQ1.out] at ho7
        obtain ⟨a7, c7, rfl, -, -, -⟩ := Row.form (row_of_own (w := w6) ho7 nilV).1
        have M7 : Hid (Mine w w7 H S) := M6.out.below hb7
        clear ho7 hb7
        go_wp2_with fail
        refine (mineLost 1 M7.out).mono ?_
        rintro e w7 ⟨rfl, rfl⟩
        rw [HLO.out]
        go_wp2_with fail
        refine (mineTick 0 1099511627776 0 0 ⟨#[]⟩ M7.out (Nat.zero_le _)).mono ?_
        rintro e w8 ⟨rfl, hm8⟩
        rw [HE1.out]
        have M8 : Hid (Mine w w8 H (doS S ⟨6, 0, 1099511627776, 0, 0, ⟨#[]⟩⟩)) := hm8
        clear hm8
        go_wp2_with fail
        refine (mineWaiting M8.out).mono ?_
        rintro e w9 ⟨q, rfl, ho9, hb9⟩
        rw [HE2.out] at ho9
        obtain ⟨a9, c9, rfl, -, -, -⟩ := Row.form (row_of_own (w := w8) ho9 nilV).1
        have M9 : Hid (Mine w w9 H (doS S ⟨6, 0, 1099511627776, 0, 0, ⟨#[]⟩⟩)) := M8.out.below hb9
        clear ho9 hb9
        go_wp2_with fail
        refine (mineQueue 1 M9.out).mono ?_
        rintro e w10 ⟨q, rfl, ho10, hb10⟩
        rw [HQ2.out] at ho10
        obtain ⟨a10, c10, rfl, -, -, -⟩ := Row.form (row_of_own (w := w9) ho10 nilV).1
        have M10 : Hid (Mine w w10 H (doS S ⟨6, 0, 1099511627776, 0, 0, ⟨#[]⟩⟩)) := M9.out.below hb10
        clear ho10 hb10
        go_wp2_with fail
        refine (mineLost 1 M10.out).mono ?_
        rintro e w10 ⟨rfl, rfl⟩
        rw [HLO2.out]
        have HBW : Hid (Below w.heap.size w w10) := M10.out.out
        go_wp2_with fail
        go_ret
        exact ⟨ret_bool' (by simp), HBW.out⟩
end Go.Proofs.Ytmjdndhfmfjbiab

namespace Go.Proofs.Ytmjdndhfmfjbiab
open Go.RowKit
open Go.Deep Go.ChangeShapes Go.WideShapes Go.ChangeAt
open Go.ChangeMaps (open_string shut_string)

theorem cellsStrK : Try.prog.cellsOf 9 = 1 := by kernel_rfl
theorem cellsLetK : Try.prog.cellsOf 110 = 3 := by kernel_rfl
theorem cellsChgK : Try.prog.cellsOf 48 = 2 := by kernel_rfl
def LetOk (y : LetD) : Prop := (-9223372036854775808 ≤ y.delay ∧ y.delay ≤ 9223372036854775807) ∧ (-9223372036854775808 ≤ y.value ∧ y.value ≤ 9223372036854775807) ∧ y.s.size ≤ maxLen
def ChgOk (y : ChgD) : Prop := (-9223372036854775808 ≤ y.number ∧ y.number ≤ 9223372036854775807) ∧ (-9223372036854775808 ≤ y.delay ∧ y.delay ≤ 9223372036854775807)

set_option maxRecDepth 100000 in
theorem open_let {H : Type} {enc : TypeId × Value → H} {W : World} {base : Nat} {spare : Nat → Bool} {held : Bool} {fuel : Nat} {cs : List Value} {x : DataW H × List MemPlace} (h : DataW.trod enc Try.prog W base spare held fuel 110 cs = some x) :
    ∃ y : LetD, cs = [.int .i64 y.delay, .int .i64 y.value, .string y.s] ∧ LetOk y := by
  obtain ⟨xs, n, -, hx, hl, hlen, hf⟩ := DataW.trod_struct Try.underlying110 h
  rw [cellsLetK] at hl
  match cs, hl with
  | [v0, v1, v2], _ =>
    match xs, hlen with
    | [y0, y1, y2], _ =>
      have f0 : DataW.trod enc Try.prog W base spare held n 3 (([v0, v1, v2].drop 0).take (Try.prog.cellsOf 3)) = some y0 := hf 0 _ rfl
      have f1 : DataW.trod enc Try.prog W base spare held n 3 (([v0, v1, v2].drop 1).take (Try.prog.cellsOf 3)) = some y1 := hf 1 _ rfl
      have f2 : DataW.trod enc Try.prog W base spare held n 9 (([v0, v1, v2].drop 2).take (Try.prog.cellsOf 9)) = some y2 := hf 2 _ rfl
      rw [cellsIntK] at f0 f1
      rw [cellsStrK] at f2
      simp only [List.drop_zero, List.drop_succ_cons, List.take_succ_cons, List.take_zero] at f0 f1 f2
      obtain ⟨n0, e0, -, w0⟩ := DataW.trod_int Try.underlying3 f0
      obtain ⟨n1, e1, -, w1⟩ := DataW.trod_int Try.underlying3 f1
      obtain ⟨s2, e2, -, w2⟩ := DataW.trod_string Try.underlying9 f2
      simp only [List.cons.injEq, and_true] at e0 e1 e2
      subst e0 e1 e2
      exact ⟨⟨n0, n1, s2⟩, rfl, bounds_i64 w0, bounds_i64 w1, w2⟩

set_option maxRecDepth 100000 in
theorem open_chg {H : Type} {enc : TypeId × Value → H} {W : World} {base : Nat} {spare : Nat → Bool} {held : Bool} {fuel : Nat} {cs : List Value} {x : DataW H × List MemPlace} (h : DataW.trod enc Try.prog W base spare held fuel 48 cs = some x) :
    ∃ y : ChgD, cs = [.int .i64 y.number, .int .i64 y.delay] ∧ ChgOk y := by
  obtain ⟨xs, n, -, hx, hl, hlen, hf⟩ := DataW.trod_struct Try.underlying48 h
  rw [cellsChgK] at hl
  match cs, hl with
  | [v0, v1], _ =>
    match xs, hlen with
    | [y0, y1], _ =>
      have f0 : DataW.trod enc Try.prog W base spare held n 3 (([v0, v1].drop 0).take (Try.prog.cellsOf 3)) = some y0 := hf 0 _ rfl
      have f1 : DataW.trod enc Try.prog W base spare held n 3 (([v0, v1].drop 1).take (Try.prog.cellsOf 3)) = some y1 := hf 1 _ rfl
      rw [cellsIntK] at f0 f1
      simp only [List.drop_zero, List.drop_succ_cons, List.take_succ_cons, List.take_zero] at f0 f1
      obtain ⟨n0, e0, -, w0⟩ := DataW.trod_int Try.underlying3 f0
      obtain ⟨n1, e1, -, w1⟩ := DataW.trod_int Try.underlying3 f1
      simp only [List.cons.injEq, and_true] at e0 e1
      subst e0 e1
      exact ⟨⟨n0, n1⟩, rfl, bounds_i64 w0, bounds_i64 w1⟩

set_option maxRecDepth 100000 in
theorem open_lets {H : Type} {enc : TypeId × Value → H} {W : World} {base : Nat} {v : Value} {d : DataW H} {p : List MemPlace} (hval : Value.okWide Try.prog W .any base 40 v) (h : DataW.Trod enc Try.prog W 0 (fun _ => true) true 40 v d p) :
    ∃ ao n cap, ∃ l : List LetD, v = .slice ao n cap ∧ l.length = n ∧ LetsAt W ao l ∧ ∀ o ∈ l, LetOk o := by
  obtain ⟨a0, len, cap, rfl⟩ := okWide_slice Try.underlying40 hval
  obtain ⟨fuel, hf⟩ := h
  rcases open_slice Try.underlying40 hf with ⟨hcs, hx⟩ | ⟨a, len', cap', m, n, D, Pl, hcs, -, hl, hm, hmm, hx, hel⟩
  · simp [Value.cells] at hcs
    obtain ⟨rfl, rfl, rfl⟩ := hcs
    exact ⟨none, 0, 0, [], rfl, rfl, fun j o ho => by simp at ho, fun o ho => by simp at ho⟩
  · simp [Value.cells] at hcs
    obtain ⟨rfl, rfl, rfl⟩ := hcs
    simp only [if_true] at hmm
    subst hmm
    obtain ⟨b, off, spot⟩ := a
    haveI : Inhabited LetD := ⟨⟨0, 0, ⟨#[]⟩⟩⟩
    obtain ⟨f, hfo⟩ := choose_lt (α := LetD) (n := len) (p := fun i o => W.cells? 0 ((⟨b, off, spot⟩ : Addr).add (i * 3)) 3 = some ([.int .i64 o.delay, .int .i64 o.value, .string o.s]) ∧ LetOk o) (fun i hi => by
      obtain ⟨cs', h1, h2⟩ := hel i (by omega)
      rw [cellsLetK] at h1
      obtain ⟨o, rfl, ho⟩ := open_let h2
      exact ⟨o, h1, ho⟩)
    refine ⟨some ⟨b, off, spot⟩, len, m, (List.range len).map f, rfl, by simp, fun j o ho => ?_, fun o ho => ?_⟩
    · obtain ⟨hj, rfl⟩ := List.getElem?_eq_some_iff.1 ho
      simp only [List.length_map, List.length_range] at hj
      simp only [List.getElem_map, List.getElem_range]
      obtain ⟨h1, -⟩ := hfo j hj
      obtain ⟨-, -, hcell⟩ := World.cells?_some h1
      obtain ⟨h01, -⟩ := hfo 0 (by omega)
      obtain ⟨-, -, hcell0⟩ := World.cells?_some h01
      have hspot : spot = none := by
        have := World.cell?_spot (hcell0 0 (by omega))
        simpa [Addr.add] using this
      subst hspot
      refine ⟨b, off, rfl, ?_⟩
      rw [Addr.add_lit] at hcell
      have c0 := hcell 0 (by omega)
      have c1 := hcell 1 (by omega)
      have c2 := hcell 2 (by omega)
      rw [Addr.add_lit] at c0 c1 c2
      exact ⟨c0, c1, c2⟩
    · obtain ⟨i, hi, rfl⟩ := List.mem_map.1 ho
      exact (hfo i (List.mem_range.1 hi)).2

set_option maxRecDepth 100000 in
theorem open_chgs {H : Type} {enc : TypeId × Value → H} {W : World} {base : Nat} {v : Value} {d : DataW H} {p : List MemPlace} (hval : Value.okWide Try.prog W .any base 41 v) (h : DataW.Trod enc Try.prog W 0 (fun _ => true) true 41 v d p) :
    ∃ ao n cap, ∃ l : List ChgD, v = .slice ao n cap ∧ l.length = n ∧ ChgsAt W ao l ∧ ∀ o ∈ l, ChgOk o := by
  obtain ⟨a0, len, cap, rfl⟩ := okWide_slice Try.underlying41 hval
  obtain ⟨fuel, hf⟩ := h
  rcases open_slice Try.underlying41 hf with ⟨hcs, hx⟩ | ⟨a, len', cap', m, n, D, Pl, hcs, -, hl, hm, hmm, hx, hel⟩
  · simp [Value.cells] at hcs
    obtain ⟨rfl, rfl, rfl⟩ := hcs
    exact ⟨none, 0, 0, [], rfl, rfl, fun j o ho => by simp at ho, fun o ho => by simp at ho⟩
  · simp [Value.cells] at hcs
    obtain ⟨rfl, rfl, rfl⟩ := hcs
    simp only [if_true] at hmm
    subst hmm
    obtain ⟨b, off, spot⟩ := a
    haveI : Inhabited ChgD := ⟨⟨0, 0⟩⟩
    obtain ⟨f, hfo⟩ := choose_lt (α := ChgD) (n := len) (p := fun i o => W.cells? 0 ((⟨b, off, spot⟩ : Addr).add (i * 2)) 2 = some ([.int .i64 o.number, .int .i64 o.delay]) ∧ ChgOk o) (fun i hi => by
      obtain ⟨cs', h1, h2⟩ := hel i (by omega)
      rw [cellsChgK] at h1
      obtain ⟨o, rfl, ho⟩ := open_chg h2
      exact ⟨o, h1, ho⟩)
    refine ⟨some ⟨b, off, spot⟩, len, m, (List.range len).map f, rfl, by simp, fun j o ho => ?_, fun o ho => ?_⟩
    · obtain ⟨hj, rfl⟩ := List.getElem?_eq_some_iff.1 ho
      simp only [List.length_map, List.length_range] at hj
      simp only [List.getElem_map, List.getElem_range]
      obtain ⟨h1, -⟩ := hfo j hj
      obtain ⟨-, -, hcell⟩ := World.cells?_some h1
      obtain ⟨h01, -⟩ := hfo 0 (by omega)
      obtain ⟨-, -, hcell0⟩ := World.cells?_some h01
      have hspot : spot = none := by
        have := World.cell?_spot (hcell0 0 (by omega))
        simpa [Addr.add] using this
      subst hspot
      refine ⟨b, off, rfl, ?_⟩
      rw [Addr.add_lit] at hcell
      have c0 := hcell 0 (by omega)
      have c1 := hcell 1 (by omega)
      rw [Addr.add_lit] at c0 c1
      exact ⟨c0, c1⟩
    · obtain ⟨i, hi, rfl⟩ := List.mem_map.1 ho
      exact (hfo i (List.mem_range.1 hi)).2

theorem arr3o {args : Array Value} {a b c : Value} (h : args.toList = [a, b, c]) : args = #[a, b, c] := by cases args; simp only at h; rw [h]

set_option maxRecDepth 100000 in
theorem movedLifted (os : Os) (started : os.Started) (H : Type) (enc : TypeId × Value → H) :
    ReturnsInHanded {} Try.checked os 4 .any (Rows.movedSpec.pre6 enc Try.prog Try.f4 Rows.movedRow.domain false) (Rows.movedSpec.post enc Try.prog Try.f4 false true false false) := by
  refine returnsInHanded_of_change (C := Try.checked) ownO started (by kernel_rfl) Try.func4
    (ChangeSpec.witness6 (enc := enc) (C := Try.checked) false ⟨#[], #[.int .i64 0, .slice none 0 0, .slice none 0 0], []⟩ 8 (by kernel_rfl) (by kernel_rfl) (by kernel_rfl) (by kernel_rfl)) ?_
  intro W base args ds gs before hval0 hW hcnd _
  have hval : ∀ (j : Nat) t v, Try.f4.params[j]? = some t → args[j]? = some v → Value.okWide Try.prog W .any base t v := hval0
  have hW' := hW
  obtain ⟨p, q, hA0, hV, rfl, hfz, hnd⟩ := hW
  have hA : DataW.TrodAll enc Try.prog W 0 (fun _ => true) true Try.f4.params.toList args.toList ds p := hA0
  rw [Try.params4] at hA hval
  obtain ⟨v0, vs0, d0, ds0, p0, q0, hargs, rfl, rfl, h0, r0⟩ := trodAll_cons hA
  obtain ⟨v1, vs1, d1, ds1, p1, q1, rfl, rfl, rfl, h1, r1⟩ := trodAll_cons r0
  obtain ⟨v2, vs2, d2, ds2, p2, q2, rfl, rfl, rfl, h2, r2⟩ := trodAll_cons r1
  obtain ⟨rfl, rfl, rfl⟩ := trodAll_nil r2
  obtain rfl := arr3o hargs
  obtain ⟨rfl, rfl⟩ := trodVars_none hV
  obtain ⟨n0, rfl, rfl, rfl, w0⟩ := open_int Try.underlying3 (hval 0 3 v0 rfl rfl) h0
  obtain ⟨ao, n, cap, l, rfl, hl, hsc, hbd⟩ := open_lets (hval 1 40 v1 rfl rfl) h1
  obtain ⟨bo, m, cap2, ch, rfl, hl2, hsc2, hbd2⟩ := open_chgs (hval 2 41 v2 rfl rfl) h2
  clear hA0 hval0 hcnd
  simp only [List.append_nil] at hW'
  have hlt1 : ∀ x ∈ p1, x.block < W.heap.size := fun x hx => hW'.lt x (by simp [hx])
  have hlt2 : ∀ x ∈ p2, x.block < W.heap.size := fun x hx => hW'.lt x (by simp [hx])
  refine (movedWalk n0 l ao n cap ch bo m cap2 W (bounds_i64 w0).1 (bounds_i64 w0).2 hl hsc hbd hl2 hsc2 hbd2).mono fun e W' ⟨he, hg⟩ => ?_
  subst he
  exact ⟨_, rfl, _, _, _, [], _, [], hW', trodAll_mk1 (shut_bool Try.underlying4 _), trodAll_cons_mk (shut_int Try.underlying3 w0) (trodAll_cons_mk (Below.trod laidOutK (by kernel_rfl) (of_decide_eq_true (by kernel_rfl)) h1 hg hlt1) (trodAll_cons_mk (Below.trod laidOutK (by kernel_rfl) (of_decide_eq_true (by kernel_rfl)) h2 hg hlt2) trodAll_mk0)), rfl, hg.frame _, fun h => by cases h⟩

theorem moved_holds : Rows.MovedSaid :=
  OpenClaim.holds_of_wide 4 Try.f4 rfl rfl rfl rfl rfl rfl rfl ⟨rfl, rfl, rfl, rfl, rfl⟩ rfl rfl rfl rfl rfl (by kernel_rfl) Try.func4 (by kernel_rfl)
    (of_decide_eq_true (by kernel_rfl)) (by unfold Func.isWrapper; first | (rw [if_pos (by decide +kernel)]; kernel_rfl) | (rw [if_neg (by decide +kernel)]; exact ⟨rfl, rfl⟩))
    (fun os started H enc _ => movedLifted os started H enc)
end Go.Proofs.Ytmjdndhfmfjbiab
