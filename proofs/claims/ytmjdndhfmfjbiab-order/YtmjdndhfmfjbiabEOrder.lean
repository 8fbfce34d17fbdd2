import Derived.Test.YtmjdndhfmfjbiabM10
import Derived.Deep.RegionWith
import Derived.ProofKit
import Derived.OpenShut
import Derived.JoinedCond
import Derived.ChangeSlices
import Derived.Deep.Slices
namespace Go.Proofs.Ytmjdndhfmfjbiab
open Go.RowKit

set_option maxRecDepth 100000 in
set_option maxHeartbeats 1000000 in
theorem keepPlaced (ws : List WaitD) (ao : Option Addr) (c : Nat) (x : WaitD) (w : World) (hl : ws.length ≤ 1048576) (h : CellsAt w ao (ws.flatMap waitCells)) :
    Calls Try.prog 25 #[.slice ao ws.length c, waitV x] w fun e w' => ∃ v, e = .returned v ∧
      w'.ownsRow w.heap.size 50 5 v (insM aheadB x ws).length ((insM aheadB x ws).flatMap waitCells) ∧ Below w.heap.size w w' := by
  obtain ⟨i0, hi, hz0, hz1, hz2⟩ := info_parts infoWait
  have H : Hid (CellsAt w ao (ws.flatMap waitCells)) := h
  clear h
  go_enter Try.func25, Try.ntmps25
  go_wp2_with fail
  generalize hWA : w.alloc _ = wa
  have hbA : Below w.heap.size w wa := by rw [← hWA]; exact below_one _ _
  have hsA : w.heap.size < wa.heap.size := by rw [← hWA]; simp
  have h0 : wa.cell? ⟨w.heap.size, 0, none⟩ = some (.int .i64 x.number) := by rw [← hWA]; simp
  have h1 : wa.cell? ⟨w.heap.size, 1, none⟩ = some (.string x.topic) := by rw [← hWA]; simp
  have h2 : wa.cell? ⟨w.heap.size, 2, none⟩ = some (.int .i64 x.value) := by rw [← hWA]; simp
  have h3 : wa.cell? ⟨w.heap.size, 3, none⟩ = some (.int .i64 x.deadline) := by rw [← hWA]; simp
  have h4 : wa.cell? ⟨w.heap.size, 4, none⟩ = some (.int .i64 x.life) := by rw [← hWA]; simp
  have HA : Hid (CellsAt wa ao (ws.flatMap waitCells)) := H.out.below hbA
  clear hWA H
  go_loopw [5, 6, 7] (fun v p i wr => ∃ k : Nat, k ≤ ws.length ∧ i = .int .i64 k ∧ p = .bool (insTo aheadB x ws k).2 ∧ wr.ownsRow wa.heap.size 50 5 v (insTo aheadB x ws k).1.length ((insTo aheadB x ws k).1.flatMap waitCells) ∧ Below wa.heap.size wa wr) (fun _ _ i _ => ws.length - (intOf i).toNat)
  case atStart => exact ⟨0, Nat.zero_le _, rfl, rfl, World.ownsRow_nil _ _ _ _, Below.refl _ _⟩
  case round =>
    obtain ⟨k, hk, rfl, rfl, hown, hbr⟩ := hrel
    have hkl := (insTo_len aheadB x ws k).1
    have hsz := hbr.size
    have r0 := cell_later hbr h0
    have r1 := cell_later hbr h1
    have r2 := cell_later hbr h2
    have r3 := cell_later hbr h3
    have r4 := cell_later hbr h4
    by_cases hlt : k < ws.length
    · obtain ⟨y, hy⟩ : ∃ y, ws[k]? = some y := ⟨_, List.getElem?_eq_getElem hlt⟩
      obtain ⟨g, rfl, hg, c0, c1, c2, c3, c4⟩ := wait_cells (HA.out.below hbr) hy
      have HST : Hid (insTo aheadB x ws (k + 1) = if !(insTo aheadB x ws k).2 && aheadB x y then ((insTo aheadB x ws k).1 ++ [x] ++ [y], true) else ((insTo aheadB x ws k).1 ++ [y], (insTo aheadB x ws k).2)) := insTo_step hy
      have YY : Hid (ws[k]? = some y) := hy
      clear hy
      generalize hT : insTo aheadB x ws k = T at *
      obtain ⟨T1, T2⟩ := T
      clear hT
      simp only at hown hkl
      cases T2
      · cases hah : aheadB x y
        · have HK : Hid (insTo aheadB x ws (k + 1) = (T1 ++ [y], false)) := by show _ = _; rw [HST.out, hah]; rfl
          have HAH : Hid (aheadB x y = false) := hah
          clear hah
          go_wp2_with fail
          go_region_with (go_at_call 66; refine (keepAhead x y _).mono ?_; rintro e w2 ⟨rfl, hb2⟩; rw [HAH.out])
          all_goals have b2 : Below wr.heap.size wr w2 := below_drew.trans (hb2.mono (Nat.le_refl _))
          all_goals have hown2 := own_below hown b2
          all_goals have hbr2 : Below wa.heap.size wa w2 := hbr.trans (b2.mono hbr.size)
          all_goals have d0 := cell_later b2 c0
          all_goals have d1 := cell_later b2 c1
          all_goals have d2 := cell_later b2 c2
          all_goals have d3 := cell_later b2 c3
          all_goals have d4 := cell_later b2 c4
          all_goals have s0 := cell_later b2 r0
          all_goals have s1 := cell_later b2 r1
          all_goals have s2 := cell_later b2 r2
          all_goals have s3 := cell_later b2 r3
          all_goals have s4 := cell_later b2 r4
          all_goals have hs2 := b2.size
          all_goals have hg2 : g < w2.heap.size := by omega
          all_goals clear hb2 b2 hown
          all_goals go_wp2_with (first | (at_builtin; refine wpList_append_own _ rfl _ _ 44 rfl wa.heap.size 50 i0 _ 5 48 Try.underlying44 hi hz0 hz1 hz2 rfl (by decide) _ _ _ rfl (hown2.alloc _) ⟨w2.heap.size, 0, none⟩ 1 1 (waitCells y) rfl rfl (cells_new _ _ _) (wait_one _) (by unfold maxLen; omega) (by omega) (by simp; omega) ?_))
          all_goals intro v' w3 hown' hgrow _
          all_goals have R := grow_row hown2 hbr2 hown' hgrow
          all_goals clear hown' hgrow hown2
          all_goals go_wp2_with fail
          all_goals go_roundw
          all_goals first
            | (case rel => exact ⟨k + 1, by omega, by go_num, by rw [HK.out], by rw [HK.out]; exact R.1, R.2⟩)
            | (case measure => simp [intOf]; omega)
            | skip
        · have HK : Hid (insTo aheadB x ws (k + 1) = (T1 ++ [x] ++ [y], true)) := by show _ = _; rw [HST.out, hah]; rfl
          have HAH : Hid (aheadB x y = true) := hah
          clear hah
          go_wp2_with fail
          go_region_with (go_at_call 66; refine (keepAhead x y _).mono ?_; rintro e w2 ⟨rfl, hb2⟩; rw [HAH.out])
          all_goals have b2 : Below wr.heap.size wr w2 := below_drew.trans (hb2.mono (Nat.le_refl _))
          all_goals have hown2 := own_below hown b2
          all_goals have hbr2 : Below wa.heap.size wa w2 := hbr.trans (b2.mono hbr.size)
          all_goals have d0 := cell_later b2 c0
          all_goals have d1 := cell_later b2 c1
          all_goals have d2 := cell_later b2 c2
          all_goals have d3 := cell_later b2 c3
          all_goals have d4 := cell_later b2 c4
          all_goals have s0 := cell_later b2 r0
          all_goals have s1 := cell_later b2 r1
          all_goals have s2 := cell_later b2 r2
          all_goals have s3 := cell_later b2 r3
          all_goals have s4 := cell_later b2 r4
          all_goals have hs2 := b2.size
          all_goals have hg2 : g < w2.heap.size := by omega
          all_goals clear hb2 b2 hown
          all_goals go_wp2_with (first | (at_builtin; refine wpList_append_own _ rfl _ _ 44 rfl wa.heap.size 50 i0 _ 5 48 Try.underlying44 hi hz0 hz1 hz2 rfl (by decide) _ _ _ rfl (hown2.alloc _) ⟨w2.heap.size, 0, none⟩ 1 1 (waitCells x) rfl rfl (cells_new _ _ _) (wait_one _) (by unfold maxLen; omega) (by omega) (by simp; omega) ?_))
          all_goals intro v' w3 hown' hgrow _
          all_goals have R := grow_row hown2 hbr2 hown' hgrow
          all_goals obtain ⟨T3, hT3⟩ : ∃ T3, T1 ++ [x] = T3 := ⟨_, rfl⟩
          all_goals have HK2 : Hid (insTo aheadB x ws (k + 1) = (T3 ++ [y], true)) := (by show _ = _; rw [HK.out, hT3])
          all_goals have hl3 : T3.length ≤ k + 2 := (by rw [← hT3]; simp; omega)
          all_goals have hown3 := R.1
          all_goals have hbr3 := R.2
          all_goals rw [hT3] at hown3
          all_goals have hwy : CellsAt w3 (some ⟨g, 0, none⟩) (ws.flatMap waitCells) := HA.out.below hbr3
          all_goals obtain ⟨g', eg, hg3, f0, f1, f2, f3, f4⟩ := wait_cells hwy YY.out
          all_goals simp only [Option.some.injEq, Addr.mk.injEq, and_true] at eg
          all_goals subst eg
          all_goals have hs3 := hbr3.size
          all_goals clear hown' hgrow hown2 R hT3 hwy
          all_goals go_wp2_with (first | (at_builtin; refine wpList_append_own _ rfl _ _ 44 rfl wa.heap.size 50 i0 _ 5 48 Try.underlying44 hi hz0 hz1 hz2 rfl (by decide) _ _ _ rfl (hown3.alloc _) ⟨w3.heap.size, 0, none⟩ 1 1 (waitCells y) rfl rfl (cells_new _ _ _) (wait_one _) (by unfold maxLen; omega) (by omega) (by simp; omega) ?_))
          all_goals intro v4 w4 hown4 hgrow4 _
          all_goals have R4 := grow_row hown3 hbr3 hown4 hgrow4
          all_goals clear hown4 hgrow4 hown3
          all_goals go_wp2_with fail
          all_goals go_roundw
          all_goals first
            | (case rel => exact ⟨k + 1, by omega, by go_num, by rw [HK2.out], by rw [HK2.out]; exact R4.1, R4.2⟩)
            | (case measure => simp [intOf]; omega)
            | skip
      · cases hah : aheadB x y
        · have HK : Hid (insTo aheadB x ws (k + 1) = (T1 ++ [y], true)) := by show _ = _; rw [HST.out, hah]; rfl
          have HAH : Hid (aheadB x y = false) := hah
          clear hah
          go_wp2_with fail
          go_region_with (go_at_call 66; refine (keepAhead x y _).mono ?_; rintro e w2 ⟨rfl, hb2⟩; rw [HAH.out])
          all_goals have b2 : Below wr.heap.size wr w2 := below_drew.trans (hb2.mono (Nat.le_refl _))
          all_goals have hown2 := own_below hown b2
          all_goals have hbr2 : Below wa.heap.size wa w2 := hbr.trans (b2.mono hbr.size)
          all_goals have d0 := cell_later b2 c0
          all_goals have d1 := cell_later b2 c1
          all_goals have d2 := cell_later b2 c2
          all_goals have d3 := cell_later b2 c3
          all_goals have d4 := cell_later b2 c4
          all_goals have s0 := cell_later b2 r0
          all_goals have s1 := cell_later b2 r1
          all_goals have s2 := cell_later b2 r2
          all_goals have s3 := cell_later b2 r3
          all_goals have s4 := cell_later b2 r4
          all_goals have hs2 := b2.size
          all_goals have hg2 : g < w2.heap.size := by omega
          all_goals clear hb2 b2 hown
          all_goals go_wp2_with (first | (at_builtin; refine wpList_append_own _ rfl _ _ 44 rfl wa.heap.size 50 i0 _ 5 48 Try.underlying44 hi hz0 hz1 hz2 rfl (by decide) _ _ _ rfl (hown2.alloc _) ⟨w2.heap.size, 0, none⟩ 1 1 (waitCells y) rfl rfl (cells_new _ _ _) (wait_one _) (by unfold maxLen; omega) (by omega) (by simp; omega) ?_))
          all_goals intro v' w3 hown' hgrow _
          all_goals have R := grow_row hown2 hbr2 hown' hgrow
          all_goals clear hown' hgrow hown2
          all_goals go_wp2_with fail
          all_goals go_roundw
          all_goals first
            | (case rel => exact ⟨k + 1, by omega, by go_num, by rw [HK.out], by rw [HK.out]; exact R.1, R.2⟩)
            | (case measure => simp [intOf]; omega)
            | skip
        · have HK : Hid (insTo aheadB x ws (k + 1) = (T1 ++ [y], true)) := by show _ = _; rw [HST.out, hah]; rfl
          have HAH : Hid (aheadB x y = true) := hah
          clear hah
          go_wp2_with fail
          go_region_with (go_at_call 66; refine (keepAhead x y _).mono ?_; rintro e w2 ⟨rfl, hb2⟩; rw [HAH.out])
          all_goals have b2 : Below wr.heap.size wr w2 := below_drew.trans (hb2.mono (Nat.le_refl _))
          all_goals have hown2 := own_below hown b2
          all_goals have hbr2 : Below wa.heap.size wa w2 := hbr.trans (b2.mono hbr.size)
          all_goals have d0 := cell_later b2 c0
          all_goals have d1 := cell_later b2 c1
          all_goals have d2 := cell_later b2 c2
          all_goals have d3 := cell_later b2 c3
          all_goals have d4 := cell_later b2 c4
          all_goals have s0 := cell_later b2 r0
          all_goals have s1 := cell_later b2 r1
          all_goals have s2 := cell_later b2 r2
          all_goals have s3 := cell_later b2 r3
          all_goals have s4 := cell_later b2 r4
          all_goals have hs2 := b2.size
          all_goals have hg2 : g < w2.heap.size := by omega
          all_goals clear hb2 b2 hown
          all_goals go_wp2_with (first | (at_builtin; refine wpList_append_own _ rfl _ _ 44 rfl wa.heap.size 50 i0 _ 5 48 Try.underlying44 hi hz0 hz1 hz2 rfl (by decide) _ _ _ rfl (hown2.alloc _) ⟨w2.heap.size, 0, none⟩ 1 1 (waitCells y) rfl rfl (cells_new _ _ _) (wait_one _) (by unfold maxLen; omega) (by omega) (by simp; omega) ?_))
          all_goals intro v' w3 hown' hgrow _
          all_goals have R := grow_row hown2 hbr2 hown' hgrow
          all_goals clear hown' hgrow hown2
          all_goals go_wp2_with fail
          all_goals go_roundw
          all_goals first
            | (case rel => exact ⟨k + 1, by omega, by go_num, by rw [HK.out], by rw [HK.out]; exact R.1, R.2⟩)
            | (case measure => simp [intOf]; omega)
            | skip
    · obtain rfl : k = ws.length := by omega
      have HEND : Hid (insM aheadB x ws = if (insTo aheadB x ws ws.length).2 then (insTo aheadB x ws ws.length).1 else (insTo aheadB x ws ws.length).1 ++ [x]) := insTo_end aheadB x ws
      generalize hT : insTo aheadB x ws ws.length = T at *
      obtain ⟨T1, T2⟩ := T
      clear hT
      simp only at hown hkl
      cases T2
      · have HE : Hid (insM aheadB x ws = T1 ++ [x]) := HEND.out
        clear HEND
        go_wp2_with (first | (at_builtin; refine wpList_append_own _ rfl _ _ 44 rfl wa.heap.size 50 i0 _ 5 48 Try.underlying44 hi hz0 hz1 hz2 rfl (by decide) _ _ _ rfl (hown.alloc _) ⟨wr.heap.size, 0, none⟩ 1 1 (waitCells x) rfl rfl (cells_new _ _ _) (wait_one _) (by unfold maxLen; omega) (by omega) (by simp; omega) ?_))
        intro v' w1 hown' hgrow _
        have R := grow_row hown hbr hown' hgrow
        clear hown' hgrow hown
        go_wp2_with fail
        go_ret
        exact ⟨_, rfl, by rw [HE.out]; exact own_mono R.1 (by omega), hbA.trans (R.2.mono hbA.size)⟩
      · have HE : Hid (insM aheadB x ws = T1) := HEND.out
        clear HEND
        go_wp2_with fail
        go_ret
        exact ⟨_, rfl, by rw [HE.out]; exact own_mono hown (by omega), hbA.trans (hbr.mono hbA.size)⟩
end Go.Proofs.Ytmjdndhfmfjbiab

namespace Go.Proofs.Ytmjdndhfmfjbiab
open Go.RowKit

set_option maxRecDepth 100000 in
set_option maxHeartbeats 1000000 in
theorem keepWithout (ms : List MailD) (ao : Option Addr) (c : Nat) (n : Int) (w : World) (hl : ms.length ≤ 1048576) (h : CellsAt w ao (ms.flatMap mailCells)) :
    Calls Try.prog 12 #[.slice ao ms.length c, .int .i64 n] w fun e w' => ∃ v, e = .returned (.tuple #[v, .bool (ms.any (fun m => m.number == n))]) ∧
      w'.ownsRow w.heap.size 35 5 v (ms.filter (fun m => m.number != n)).length ((ms.filter (fun m => m.number != n)).flatMap mailCells) ∧ Below w.heap.size w w' := by
  obtain ⟨i0, hi, hz0, hz1, hz2⟩ := info_parts infoMail
  have H : Hid (CellsAt w ao (ms.flatMap mailCells)) := h
  clear h
  go_enter Try.func12, Try.ntmps12
  go_wp2_with fail
  go_loopw [6, 7, 8] (fun v b i wr => ∃ k : Nat, k ≤ ms.length ∧ i = .int .i64 k ∧ b = .bool ((ms.take k).any (fun m => m.number == n)) ∧ wr.ownsRow w.heap.size 35 5 v (kept (fun m : MailD => m.number != n) ms k).length ((kept (fun m : MailD => m.number != n) ms k).flatMap mailCells) ∧ Below w.heap.size w wr) (fun _ _ i _ => ms.length - (intOf i).toNat)
  case atStart => exact ⟨0, Nat.zero_le _, rfl, by simp, World.ownsRow_nil _ _ _ _, Below.refl _ _⟩
  case round =>
    obtain ⟨k, hk, rfl, rfl, hown, hbr⟩ := hrel
    have hkl := kept_le (fun m : MailD => m.number != n) ms k
    have hsz := hbr.size
    by_cases hlt : k < ms.length
    · obtain ⟨y, hy⟩ : ∃ y, ms[k]? = some y := ⟨_, List.getElem?_eq_getElem hlt⟩
      obtain ⟨g, rfl, hg, c0, c1, c2, c3, c4⟩ := mail_cells (H.out.below hbr) hy
      cases he : (y.number == n)
      · have HK : Hid (kept (fun m : MailD => m.number != n) ms (k + 1) = kept (fun m : MailD => m.number != n) ms k ++ [y]) := kept_hit hy (by simp only [bne, he]; rfl)
        have HB : Hid ((ms.take (k + 1)).any (fun m => m.number == n) = (ms.take k).any (fun m => m.number == n)) := by show _ = _; rw [any_take hy, he, Bool.or_false]
        clear hy
        go_wp2_with (first | (at_builtin; refine wpList_append_own _ rfl _ _ 28 rfl w.heap.size 35 i0 _ 5 48 Try.underlying28 hi hz0 hz1 hz2 rfl (by decide) _ _ _ rfl (hown.alloc _) ⟨wr.heap.size, 0, none⟩ 1 1 (mailCells y) rfl rfl (cells_new _ _ _) (mail_one _) (by unfold maxLen; omega) (by omega) (by simp; omega) ?_))
        intro v' w1 hown' hgrow _
        have R := grow_row hown hbr hown' hgrow
        clear hown' hgrow hown
        go_wp2_with fail
        go_roundw
        case rel => exact ⟨k + 1, by omega, by go_num, by rw [HB.out], by rw [HK.out]; exact R.1, R.2⟩
        case measure => simp [intOf]; omega
      · have HK : Hid (kept (fun m : MailD => m.number != n) ms (k + 1) = kept (fun m : MailD => m.number != n) ms k) := kept_miss hy (by simp only [bne, he]; rfl)
        have HB : Hid ((ms.take (k + 1)).any (fun m => m.number == n) = true) := by show _ = _; rw [any_take hy, he, Bool.or_true]
        clear hy
        go_wp2_with fail
        go_roundw
        case rel => exact ⟨k + 1, by omega, by go_num, by rw [HB.out], by rw [HK.out]; exact hown, hbr⟩
        case measure => simp [intOf]; omega
    · have HK : Hid (kept (fun m : MailD => m.number != n) ms k = ms.filter (fun m : MailD => m.number != n)) := kept_end _ _ _ (by omega)
      have HB : Hid ((ms.take k).any (fun m => m.number == n) = ms.any (fun m => m.number == n)) := by show _ = _; rw [List.take_of_length_le (by omega)]
      go_wp2_with fail
      go_ret2
      exact ⟨_, by rw [← HB.out]; rfl, by rw [← HK.out]; exact hown, hbr⟩
end Go.Proofs.Ytmjdndhfmfjbiab

namespace Go.Proofs.Ytmjdndhfmfjbiab
open Go.RowKit

theorem fit_self (x : ByteArray) : fitAny [x] x = true := by
  unfold fitAny
  rw [List.any_cons, M.along_L, M.along_self]; rfl
theorem topic_filter {x : ByteArray} (h : M.isPathM false x = true) : M.isPathM true x = true := by
  rw [M.isPath_L] at h ⊢
  exact M.path_wild h

/-- A client subscribes, with nothing done before. -/
theorem sub_first {x : ByteArray} (hx : M.isPathM true x = true) (n : Nat) (hn : n < 8) (room : Int) (hr : 0 < room) (b c d : Int) :
    doErr (refNew room) ⟨1, n, b, c, d, x⟩ = 0 ∧ doS (refNew room) ⟨1, n, b, c, d, x⟩ = { refNew room with done := [⟨1, n, b, c, d, x⟩], fil := setAt (fun _ => []) n [x] } := by
  have hk : knownB (n : Int) = true := by simp [knownB]; omega
  have hz : wrongM (refNew room) ⟨1, n, b, c, d, x⟩ = 0 := by simp [wrongM, hk, hx, refNew, findM, subErr]
  obtain ⟨-, q2, q3⟩ := is_done hz (writes_not (by show (1 : Int) ≠ 6; decide)) (by show ((0 : Nat) : Int) < room; omega)
  exact ⟨q2, by rw [q3]; simp [turnM, refNew]⟩

/-- A message is sent at once. -/
theorem pub_now {S : RefS} {x : ByteArray} {v life : Int} (a : Int) (hx : M.isPathM false x = true) (hv0 : 0 ≤ v) (hv1 : v ≤ 1073741824) (hl0 : 0 ≤ life) (hl1 : life ≤ 1099511627776) (hr : (S.done.length : Int) < S.room) :
    doErr S ⟨3, a, v, 0, life, x⟩ = 0 ∧ doAns S ⟨3, a, v, 0, life, x⟩ = S.pub ∧ doS S ⟨3, a, v, 0, life, x⟩ = sendTo { S with done := S.done ++ [⟨3, a, v, 0, life, x⟩], pub := S.pub + 1 } ⟨S.pub, x, v, 0, life⟩ 8 := by
  have hz : wrongM S ⟨3, a, v, 0, life, x⟩ = 0 := by
    have h1 : isTimeM 0 = true := by decide
    have h2 : isTimeM life = true := by simp [isTimeM]; omega
    simp [wrongM, pubErr, hx, h1, h2]
    omega
  obtain ⟨q1, q2, q3⟩ := is_done hz (writes_not (by show (3 : Int) ≠ 6; decide)) hr
  exact ⟨q2, by unfold doAns; rw [q1]; rfl, by rw [q3]; simp [turnM]⟩

/-- What one client has of a message that is sent. -/
theorem send_at (S : RefS) (m : WaitD) (n : Nat) (hn : n < 8) : (sendTo S m 8).que n = if fitAny (S.fil n) m.topic then (if 10 ≤ (S.que n).length then S.que n else S.que n ++ [sentOf S m]) else S.que n := by
  have keep : ∀ k, n < k → (sendTo S m k).que n = (sendTo S m (n + 1)).que n := by
    intro k
    induction k with
    | zero => intro h; omega
    | succ k ih =>
      intro h
      by_cases e : k = n
      · subst e; rfl
      · rw [sendTo, ((sendOne_keeps (sendTo S m k) m k).2.2.2.2.2.2 n (by omega)).2, ih (by omega)]
  rw [keep 8 hn, sendTo]
  obtain ⟨k1, k2, -, -, -, -, k7⟩ := sendTo_keeps S m n
  have hq := (k7 n (Nat.le_refl _)).2
  unfold sendOne
  rw [k1]
  split
  · rw [hq]
    split
    · exact hq
    · show setAt (sendTo S m n).que n _ n = _
      rw [setAt_same]
      unfold sentOf
      rw [k2]
  · exact hq

theorem send_lost (S : RefS) (m : WaitD) (n : Nat) (hn : n < 8) : (sendTo S m 8).lost n = if fitAny (S.fil n) m.topic then (if 10 ≤ (S.que n).length then S.lost n + 1 else S.lost n) else S.lost n := by
  have keep : ∀ k, n < k → (sendTo S m k).lost n = (sendTo S m (n + 1)).lost n := by
    intro k
    induction k with
    | zero => intro h; omega
    | succ k ih =>
      intro h
      by_cases e : k = n
      · subst e; rfl
      · rw [sendTo, ((sendOne_keeps (sendTo S m k) m k).2.2.2.2.2.2 n (by omega)).1, ih (by omega)]
  rw [keep 8 hn, sendTo]
  obtain ⟨k1, k2, -, -, -, -, k7⟩ := sendTo_keeps S m n
  obtain ⟨hl, hq⟩ := k7 n (Nat.le_refl _)
  unfold sendOne
  rw [k1]
  split
  · rw [hq]
    split
    · show setAt (sendTo S m n).lost n _ n = _
      rw [setAt_same, hl]
    · exact hl
  · exact hl
end Go.Proofs.Ytmjdndhfmfjbiab

/-
  heraldkeep: a broker of one's own, and its blocks.
-/
namespace Go.Proofs.Ytmjdndhfmfjbiab
open Go.RowKit

/-- A broker that was made since, and the blocks that it takes up. -/
def MineF (w0 w : World) (H : Nat) (F : Nat → Prop) (S : RefS) : Prop := ∃ R, PRc w H F S R ∧ (∀ k, F k → w0.heap.size ≤ k) ∧ Below w0.heap.size w0 w ∧ Good S
theorem MineF.mine {w0 w : World} {H : Nat} {F : Nat → Prop} {S : RefS} (h : MineF w0 w H F S) : Mine w0 w H S := by
  obtain ⟨R, hp, hF, hb, hg⟩ := h
  exact ⟨F, R, hp, hF, hb, hg⟩
theorem Mine.mineF {w0 w : World} {H : Nat} {S : RefS} (h : Mine w0 w H S) : ∃ F, MineF w0 w H F S := by
  obtain ⟨F, R, hp, hF, hb, hg⟩ := h
  exact ⟨F, R, hp, hF, hb, hg⟩
theorem MineF.below {w0 w w1 : World} {H : Nat} {F : Nat → Prop} {S : RefS} (h : MineF w0 w H F S) (hb : Below w.heap.size w w1) : MineF w0 w1 H F S := by
  obtain ⟨R, hp, hF, hbw, hg⟩ := h
  exact ⟨R, hp.below hb, hF, hbw.trans (hb.mono hbw.size), hg⟩
theorem MineF.upd {P : Nat → Prop} {w0 w w1 : World} {H : Nat} {F : Nat → Prop} {S : RefS} (h : MineF w0 w H F S) (hu : Upd P w w1) (h0 : ∀ k, P k → w0.heap.size ≤ k) (hs : ∀ k, F k → ¬ P k) : MineF w0 w1 H F S := by
  obtain ⟨R, ⟨x, fil, wait, hb, hF1⟩, hF, hbw, hg⟩ := h
  exact ⟨R, ⟨x, fil, wait, hb.upd hu (fun i hi => hs i ((hF1 i).2 hi)), hF1⟩, hF, hbw.trans (below_of_upd hu hbw.size h0), hg⟩
theorem MineF.lt {w0 w : World} {H : Nat} {F : Nat → Prop} {S : RefS} {k : Nat} (h : MineF w0 w H F S) (hk : F k) : k < w.heap.size := by
  obtain ⟨R, hp, -, -, -⟩ := h
  exact hp.lt hk
/-- What an operation on it leaves. -/
def MineStep (w0 w : World) (H : Nat) (F : Nat → Prop) (S1 : RefS) (w1 : World) : Prop := ∃ F1, MineF w0 w1 H F1 S1 ∧ Upd F w w1 ∧ (∀ k, F k → w0.heap.size ≤ k) ∧ ∀ k, F1 k → F k ∨ w.heap.size ≤ k
theorem MineF.step {w0 w w1 : World} {H : Nat} {F : Nat → Prop} {S1 : RefS} {R : List ByteArray} (hF : ∀ k, F k → w0.heap.size ≤ k) (hbw : Below w0.heap.size w0 w) (hg : Good S1) (ho : Outcome PRc w H F R S1 w1) : MineStep w0 w H F S1 w1 := by
  obtain ⟨F1, R1, hp, hu, hk⟩ := ho
  refine ⟨F1, ⟨R ++ R1, hp, fun k h => ?_, hbw.trans (below_of_upd hu hbw.size hF), hg⟩, hu, hF, hk⟩
  rcases hk k h with h1 | h1
  · exact hF k h1
  · exact Nat.le_trans hbw.size h1

theorem mineFSub {w0 w : World} {H : Nat} {F : Nat → Prop} {S : RefS} (a b c d : Int) (s : ByteArray) (h : MineF w0 w H F S) (hs : s.size ≤ 1048576) :
    Calls Try.prog 11 #[.pointer (some ⟨H, 0, none⟩), .int .i64 a, .string s] w fun e w' => e = .returned (.int .i64 (doErr S ⟨1, a, b, c, d, s⟩)) ∧ MineStep w0 w H F (doS S ⟨1, a, b, c, d, s⟩) w' := by
  obtain ⟨R, hp, hF, hbw, hg⟩ := h
  refine (hrSubscribe a b c d s hp hg hs).mono ?_
  rintro e w1 ⟨rfl, ho⟩
  exact ⟨rfl, MineF.step hF hbw (hg.does ⟨⟨by show (1 : Int) ≤ 1; omega, by show (1 : Int) ≤ 7; omega⟩, hs⟩) ho⟩

theorem mineFUnsub {w0 w : World} {H : Nat} {F : Nat → Prop} {S : RefS} (a b c d : Int) (s : ByteArray) (h : MineF w0 w H F S) (hs : s.size ≤ 1048576) :
    Calls Try.prog 73 #[.pointer (some ⟨H, 0, none⟩), .int .i64 a, .string s] w fun e w' => e = .returned (.int .i64 (doErr S ⟨2, a, b, c, d, s⟩)) ∧ MineStep w0 w H F (doS S ⟨2, a, b, c, d, s⟩) w' := by
  obtain ⟨R, hp, hF, hbw, hg⟩ := h
  refine (hrUnsubscribe a b c d s hp hg hs).mono ?_
  rintro e w1 ⟨rfl, ho⟩
  exact ⟨rfl, MineF.step hF hbw (hg.does ⟨⟨by show (1 : Int) ≤ 2; omega, by show (2 : Int) ≤ 7; omega⟩, hs⟩) ho⟩

theorem mineFCancel {w0 w : World} {H : Nat} {F : Nat → Prop} {S : RefS} (a b c d : Int) (s : ByteArray) (h : MineF w0 w H F S) (hs : s.size ≤ 1048576) :
    Calls Try.prog 22 #[.pointer (some ⟨H, 0, none⟩), .int .i64 b] w fun e w' => e = .returned (.int .i64 (doErr S ⟨4, a, b, c, d, s⟩)) ∧ MineStep w0 w H F (doS S ⟨4, a, b, c, d, s⟩) w' := by
  obtain ⟨R, hp, hF, hbw, hg⟩ := h
  refine (hrCancel a b c d s hp hg).mono ?_
  rintro e w1 ⟨rfl, ho⟩
  exact ⟨rfl, MineF.step hF hbw (hg.does ⟨⟨by show (1 : Int) ≤ 4; omega, by show (4 : Int) ≤ 7; omega⟩, hs⟩) ho⟩

theorem mineFMove {w0 w : World} {H : Nat} {F : Nat → Prop} {S : RefS} (a b c d : Int) (s : ByteArray) (h : MineF w0 w H F S) (hs : s.size ≤ 1048576) :
    Calls Try.prog 23 #[.pointer (some ⟨H, 0, none⟩), .int .i64 b, .int .i64 c] w fun e w' => e = .returned (.int .i64 (doErr S ⟨5, a, b, c, d, s⟩)) ∧ MineStep w0 w H F (doS S ⟨5, a, b, c, d, s⟩) w' := by
  obtain ⟨R, hp, hF, hbw, hg⟩ := h
  refine (hrMove a b c d s hp hg).mono ?_
  rintro e w1 ⟨rfl, ho⟩
  exact ⟨rfl, MineF.step hF hbw (hg.does ⟨⟨by show (1 : Int) ≤ 5; omega, by show (5 : Int) ≤ 7; omega⟩, hs⟩) ho⟩

theorem mineFTick {w0 w : World} {H : Nat} {F : Nat → Prop} {S : RefS} (a b c d : Int) (s : ByteArray) (h : MineF w0 w H F S) (hs : s.size ≤ 1048576) :
    Calls Try.prog 19 #[.pointer (some ⟨H, 0, none⟩), .int .i64 b] w fun e w' => e = .returned (.int .i64 (doErr S ⟨6, a, b, c, d, s⟩)) ∧ MineStep w0 w H F (doS S ⟨6, a, b, c, d, s⟩) w' := by
  obtain ⟨R, hp, hF, hbw, hg⟩ := h
  refine (hrTick a b c d s hp hg).mono ?_
  rintro e w1 ⟨rfl, ho⟩
  exact ⟨rfl, MineF.step hF hbw (hg.does ⟨⟨by show (1 : Int) ≤ 6; omega, by show (6 : Int) ≤ 7; omega⟩, hs⟩) ho⟩

theorem mineFAck {w0 w : World} {H : Nat} {F : Nat → Prop} {S : RefS} (a b c d : Int) (s : ByteArray) (h : MineF w0 w H F S) (hs : s.size ≤ 1048576) :
    Calls Try.prog 13 #[.pointer (some ⟨H, 0, none⟩), .int .i64 a, .int .i64 b] w fun e w' => e = .returned (.int .i64 (doErr S ⟨7, a, b, c, d, s⟩)) ∧ MineStep w0 w H F (doS S ⟨7, a, b, c, d, s⟩) w' := by
  obtain ⟨R, hp, hF, hbw, hg⟩ := h
  refine (hrAck a b c d s hp hg).mono ?_
  rintro e w1 ⟨rfl, ho⟩
  exact ⟨rfl, MineF.step hF hbw (hg.does ⟨⟨by show (1 : Int) ≤ 7; omega, by show (7 : Int) ≤ 7; omega⟩, hs⟩) ho⟩

theorem mineFPub {w0 w : World} {H : Nat} {F : Nat → Prop} {S : RefS} (a b c d : Int) (s : ByteArray) (h : MineF w0 w H F S) (hs : s.size ≤ 1048576) :
    Calls Try.prog 14 #[.pointer (some ⟨H, 0, none⟩), .string s, .int .i64 b, .int .i64 c, .int .i64 d] w fun e w' => e = .returned (.tuple #[.int .i64 (doAns S ⟨3, a, b, c, d, s⟩), .int .i64 (doErr S ⟨3, a, b, c, d, s⟩)]) ∧ MineStep w0 w H F (doS S ⟨3, a, b, c, d, s⟩) w' := by
  obtain ⟨R, hp, hF, hbw, hg⟩ := h
  refine (hrPublish a b c d s hp hg hs).mono ?_
  rintro e w1 ⟨rfl, ho⟩
  exact ⟨rfl, MineF.step hF hbw (hg.does ⟨⟨by show (1 : Int) ≤ 3; omega, by show (3 : Int) ≤ 7; omega⟩, hs⟩) ho⟩
end Go.Proofs.Ytmjdndhfmfjbiab

namespace Go.Proofs.Ytmjdndhfmfjbiab
open Go.RowKit

def sentX (x : ByteArray) (k : Int) : SentD := ⟨k, x, k, 0, 0⟩
def mailX (x : ByteArray) (k : Int) : MailD := ⟨k, x, k, 0, 0⟩

/-- What a client has that took all of it. -/
structure OrderI (x : ByteArray) (S : RefS) (n lost : Nat) (ns : List Int) (t : Nat) : Prop where
  time : S.time = 0
  wait : S.wait = []
  pub : S.pub = (n : Int)
  room : S.room = 500
  fit : fitAny (S.fil 3) x = true
  fil2 : S.fil 2 = []
  que2 : S.que 2 = []
  lost2 : S.lost 2 = 0
  lost3 : S.lost 3 = (lost : Int)
  que3 : S.que 3 = ns.map (sentX x)
  few : ns.length ≤ 10
  done : S.done.length ≤ t

theorem order_any (x : ByteArray) (ns : List Int) (k : Int) : (ns.map (sentX x)).any (fun m => m.number == k) = ns.any (fun j => j == k) := by rw [List.any_map]; rfl
theorem order_anyM (x : ByteArray) (ns : List Int) (k : Int) : (ns.map (mailX x)).any (fun m => m.number == k) = ns.any (fun j => j == k) := by rw [List.any_map]; rfl
theorem order_filter (x : ByteArray) (ns : List Int) (k : Int) : (ns.map (sentX x)).filter (fun m => m.number != k) = (ns.filter (fun j => j != k)).map (sentX x) := by rw [List.filter_map]; rfl
theorem order_filterM (x : ByteArray) (ns : List Int) (k : Int) : (ns.map (mailX x)).filter (fun m => m.number != k) = (ns.filter (fun j => j != k)).map (mailX x) := by rw [List.filter_map]; rfl

theorem order_ack {x : ByteArray} {S : RefS} {n lost : Nat} {ns : List Int} {t : Nat} (h : OrderI x S n lost ns t) (ht : t < 500) (k b c : Int) (s : ByteArray) :
    doErr S ⟨7, 3, k, b, c, s⟩ = (if ns.any (fun j => j == k) then 0 else 7) ∧ OrderI x (doS S ⟨7, 3, k, b, c, s⟩) n lost (ns.filter (fun j => j != k)) (t + 1) := by
  have hk3 : knownB 3 = true := by decide
  have hw : wrongM S ⟨7, 3, k, b, c, s⟩ = noneErr (findM (fun m => m.number == k) (S.que 3) 0) := by simp [wrongM, hk3]
  have hf := any_findL (fun m : SentD => m.number == k) (S.que 3)
  rw [h.que3, order_any] at hf
  cases ha : ns.any (fun j => j == k)
  · have hlt := hf.2 ha
    have hz : wrongM S ⟨7, 3, k, b, c, s⟩ = 7 := by rw [hw, h.que3, noneErr, if_pos hlt]
    have e := is_wrong hz (by omega)
    refine ⟨by rw [e]; rfl, ?_⟩
    rw [(not_done (by rw [e]; omega)).2.1]
    have hfl : ns.filter (fun j => j != k) = ns := List.filter_eq_self.2 (fun j hj => by
      have := List.any_eq_false.1 ha j hj
      simpa using this)
    rw [hfl]
    exact ⟨h.time, h.wait, h.pub, h.room, h.fit, h.fil2, h.que2, h.lost2, h.lost3, h.que3, h.few, Nat.le_succ_of_le h.done⟩
  · have hz : wrongM S ⟨7, 3, k, b, c, s⟩ = 0 := by
      rw [hw, h.que3, noneErr, if_neg]
      intro hlt
      have := hf.1 hlt
      rw [ha] at this
      cases this
    obtain ⟨-, q2, q3⟩ := is_done hz (writes_not (by show (7 : Int) ≠ 6; decide)) (by rw [h.room]; have := h.done; omega)
    refine ⟨by rw [q2]; rfl, ?_⟩
    rw [q3]
    have e : turnM { S with done := S.done ++ [⟨7, 3, k, b, c, s⟩] } ⟨7, 3, k, b, c, s⟩ = { S with done := S.done ++ [⟨7, 3, k, b, c, s⟩], que := setAt S.que 3 ((S.que 3).filter (fun m => m.number != k)) } := by simp [turnM]
    rw [e]
    refine ⟨h.time, h.wait, h.pub, h.room, h.fit, h.fil2, ?_, h.lost2, h.lost3, ?_, Nat.le_trans (List.length_filter_le _ _) h.few, ?_⟩
    · show setAt S.que 3 ((S.que 3).filter (fun m => m.number != k)) 2 = []
      rw [setAt_other _ _ _ _ (by omega)]; exact h.que2
    · show setAt S.que 3 ((S.que 3).filter (fun m => m.number != k)) 3 = (ns.filter (fun j => j != k)).map (sentX x)
      rw [setAt_same, h.que3, order_filter]
    · have := h.done
      simp
      omega

theorem order_pub {x : ByteArray} {S : RefS} {n lost : Nat} {ns : List Int} {t : Nat} (h : OrderI x S n lost ns t) (ht : t < 500) (hn : n ≤ 500) (hx : M.isPathM false x = true) (a : Int) :
    doErr S ⟨3, a, (n : Int), 0, 0, x⟩ = 0 ∧ doAns S ⟨3, a, (n : Int), 0, 0, x⟩ = (n : Int) ∧
      OrderI x (doS S ⟨3, a, (n : Int), 0, 0, x⟩) (n + 1) (if ns.length < 10 then lost else lost + 1) (if ns.length < 10 then ns ++ [(n : Int)] else ns) (t + 1) := by
  obtain ⟨p1, p2, p3⟩ := pub_now (S := S) (x := x) (v := (n : Int)) (life := 0) a hx (by omega) (by omega) (by omega) (by omega) (by rw [h.room]; have := h.done; omega)
  refine ⟨p1, p2.trans h.pub, ?_⟩
  rw [p3]
  obtain ⟨k1, k2, k3, k4, k5, k6, -⟩ := sendTo_keeps { S with done := S.done ++ [⟨3, a, (n : Int), 0, 0, x⟩], pub := S.pub + 1 } ⟨S.pub, x, (n : Int), 0, 0⟩ 8
  have q2 := send_at { S with done := S.done ++ [⟨3, a, (n : Int), 0, 0, x⟩], pub := S.pub + 1 } ⟨S.pub, x, (n : Int), 0, 0⟩ 2 (by omega)
  have q3 := send_at { S with done := S.done ++ [⟨3, a, (n : Int), 0, 0, x⟩], pub := S.pub + 1 } ⟨S.pub, x, (n : Int), 0, 0⟩ 3 (by omega)
  have l2 := send_lost { S with done := S.done ++ [⟨3, a, (n : Int), 0, 0, x⟩], pub := S.pub + 1 } ⟨S.pub, x, (n : Int), 0, 0⟩ 2 (by omega)
  have l3 := send_lost { S with done := S.done ++ [⟨3, a, (n : Int), 0, 0, x⟩], pub := S.pub + 1 } ⟨S.pub, x, (n : Int), 0, 0⟩ 3 (by omega)
  have f2 : fitAny (S.fil 2) x = false := by rw [h.fil2]; rfl
  have hso : sentOf { S with done := S.done ++ [⟨3, a, (n : Int), 0, 0, x⟩], pub := S.pub + 1 } ⟨S.pub, x, (n : Int), 0, 0⟩ = sentX x (n : Int) := by
    show (⟨S.pub, x, (n : Int), S.time, 0⟩ : SentD) = _
    rw [h.pub, h.time]; rfl
  have q2' : (sendTo { S with done := S.done ++ [⟨3, a, (n : Int), 0, 0, x⟩], pub := S.pub + 1 } ⟨S.pub, x, (n : Int), 0, 0⟩ 8).que 2 = [] := by
    rw [q2]
    show (if fitAny (S.fil 2) x = true then _ else S.que 2) = _
    rw [f2]; exact h.que2
  have l2' : (sendTo { S with done := S.done ++ [⟨3, a, (n : Int), 0, 0, x⟩], pub := S.pub + 1 } ⟨S.pub, x, (n : Int), 0, 0⟩ 8).lost 2 = 0 := by
    rw [l2]
    show (if fitAny (S.fil 2) x = true then _ else S.lost 2) = _
    rw [f2]; exact h.lost2
  have hql : (S.que 3).length = ns.length := by rw [h.que3, List.length_map]
  by_cases hl : ns.length < 10
  · rw [if_pos hl, if_pos hl]
    refine ⟨k2.trans h.time, k4.trans h.wait, by rw [k6]; show S.pub + 1 = _; rw [h.pub]; push_cast; rfl, k5.trans h.room, by rw [k1]; exact h.fit, by rw [k1]; exact h.fil2, q2', l2', ?_, ?_, by simp; omega, by rw [k3]; have := h.done; simp; omega⟩
    · rw [l3]
      show (if fitAny (S.fil 3) x = true then (if 10 ≤ (S.que 3).length then S.lost 3 + 1 else S.lost 3) else S.lost 3) = _
      rw [h.fit, if_pos rfl, if_neg (by omega)]; exact h.lost3
    · rw [q3]
      show (if fitAny (S.fil 3) x = true then (if 10 ≤ (S.que 3).length then S.que 3 else S.que 3 ++ [sentOf _ _]) else S.que 3) = _
      rw [h.fit, if_pos rfl, if_neg (by omega), hso, h.que3, List.map_append]; rfl
  · rw [if_neg hl, if_neg hl]
    refine ⟨k2.trans h.time, k4.trans h.wait, by rw [k6]; show S.pub + 1 = _; rw [h.pub]; push_cast; rfl, k5.trans h.room, by rw [k1]; exact h.fit, by rw [k1]; exact h.fil2, q2', l2', ?_, ?_, h.few, by rw [k3]; have := h.done; simp; omega⟩
    · rw [l3]
      show (if fitAny (S.fil 3) x = true then (if 10 ≤ (S.que 3).length then S.lost 3 + 1 else S.lost 3) else S.lost 3) = _
      rw [h.fit, if_pos rfl, if_pos (by omega), h.lost3]; push_cast; rfl
    · rw [q3]
      show (if fitAny (S.fil 3) x = true then (if 10 ≤ (S.que 3).length then S.que 3 else S.que 3 ++ [sentOf _ _]) else S.que 3) = _
      rw [h.fit, if_pos rfl, if_pos (by omega), h.que3]

def IntsAt (w : World) (ao : Option Addr) (l : List Int) : Prop := ∀ j z, l[j]? = some z → ∃ g off, ao = some ⟨g, off, none⟩ ∧ w.cell? ⟨g, off + j, none⟩ = some (.int .i64 z)

theorem hash_not {x : ByteArray} (hx : M.isPathM false x = true) : (x.toList == (⟨#[35]⟩ : ByteArray).toList) = false := by
  cases h : (x.toList == (⟨#[35]⟩ : ByteArray).toList) with
  | false => rfl
  | true =>
    rw [beq_iff_eq, ByteArray.toList_eq, ByteArray.toList_eq] at h
    rw [M.isPath_L] at hx
    have : M.L x = [35] := h
    rw [this] at hx
    exact absurd hx (by decide)

/-- Behind both subscriptions. -/
theorem order_start {x : ByteArray} (hx : M.isPathM false x = true) : doErr (refNew 500) ⟨1, 3, 0, 0, 0, x⟩ = 0 ∧ doErr (doS (refNew 500) ⟨1, 3, 0, 0, 0, x⟩) ⟨1, 3, 0, 0, 0, ⟨#[35]⟩⟩ = 0 ∧
    OrderI x (doS (doS (refNew 500) ⟨1, 3, 0, 0, 0, x⟩) ⟨1, 3, 0, 0, 0, ⟨#[35]⟩⟩) 0 0 [] 2 := by
  obtain ⟨p1, p2⟩ := sub_first (topic_filter hx) 3 (by omega) 500 (by omega) 0 0 0
  have p1' : doErr (refNew 500) ⟨1, 3, 0, 0, 0, x⟩ = 0 := p1
  have p2' : doS (refNew 500) ⟨1, 3, 0, 0, 0, x⟩ = { refNew 500 with done := [⟨1, 3, 0, 0, 0, x⟩], fil := setAt (fun _ => []) 3 [x] } := p2
  refine ⟨p1', ?_⟩
  rw [p2']
  have hk3 : knownB 3 = true := by decide
  have hh : M.isPathM true ⟨#[35]⟩ = true := hash_path
  have hf3 : (setAt (fun _ => ([] : List ByteArray)) 3 [x]) 3 = [x] := setAt_same _ _ _
  have hz : wrongM ({ refNew 500 with done := [⟨1, 3, 0, 0, 0, x⟩], fil := setAt (fun _ => []) 3 [x] } : RefS) ⟨1, 3, 0, 0, 0, ⟨#[35]⟩⟩ = 0 := by
    have e : findM (fun f => f.toList == (⟨#[35]⟩ : ByteArray).toList) [x] 0 = -1 := by
      rw [findM, hash_not hx]; rfl
    show (if (1 : Int) = 1 then (if knownB 3 = false then 2 else if M.isPathM true ⟨#[35]⟩ = false then 4 else subErr (findM (fun f => f.toList == (⟨#[35]⟩ : ByteArray).toList) ((setAt (fun _ => ([] : List ByteArray)) 3 [x]) 3) 0) ((setAt (fun _ => ([] : List ByteArray)) 3 [x]) 3).length) else _) = 0
    rw [if_pos rfl, hk3, hh, hf3, e]
    simp [subErr]
  obtain ⟨-, q2, q3⟩ := is_done hz (writes_not (by show (1 : Int) ≠ 6; decide)) (by show ((1 : Nat) : Int) < 500; omega)
  refine ⟨q2, ?_⟩
  rw [q3]
  have e : turnM ({ ({ refNew 500 with done := [⟨1, 3, 0, 0, 0, x⟩], fil := setAt (fun _ => []) 3 [x] } : RefS) with done := [⟨1, 3, 0, 0, 0, x⟩] ++ [⟨1, 3, 0, 0, 0, ⟨#[35]⟩⟩] } : RefS) ⟨1, 3, 0, 0, 0, ⟨#[35]⟩⟩ =
      { refNew 500 with done := [⟨1, 3, 0, 0, 0, x⟩] ++ [⟨1, 3, 0, 0, 0, ⟨#[35]⟩⟩], fil := setAt (setAt (fun _ => []) 3 [x]) 3 ((setAt (fun _ => []) 3 [x]) 3 ++ [⟨#[35]⟩]) } := by simp [turnM, refNew]
  have e2 := e
  refine (show OrderI x _ 0 0 [] 2 from ?_)
  rw [show turnM _ _ = _ from e2]
  refine ⟨rfl, rfl, rfl, rfl, ?_, ?_, rfl, rfl, rfl, rfl, by simp, by simp⟩
  · show fitAny (setAt (setAt (fun _ => []) 3 [x]) 3 ((setAt (fun _ => []) 3 [x]) 3 ++ [⟨#[35]⟩]) 3) x = true
    rw [setAt_same, hf3]
    unfold fitAny
    rw [List.cons_append, List.any_cons, M.along_L, M.along_self]; rfl
  · show setAt (setAt (fun _ => ([] : List ByteArray)) 3 [x]) 3 ((setAt (fun _ => ([] : List ByteArray)) 3 [x]) 3 ++ [⟨#[35]⟩]) 2 = []
    rw [setAt_other _ _ _ _ (by omega), setAt_other _ _ _ _ (by omega)]

theorem mail_sent (x : ByteArray) (ns : List Int) : (ns.map (sentX x)).map (mailOf 0) = ns.map (mailX x) := by
  rw [List.map_map]
  rfl

end Go.Proofs.Ytmjdndhfmfjbiab

namespace Go.Proofs.Ytmjdndhfmfjbiab
open Go.RowKit

set_option maxRecDepth 100000 in
set_option maxHeartbeats 8000000 in
theorem orderWalk (s : ByteArray) (l : List Int) (ao : Option Addr) (m cap : Nat) (w : World) (hs : s.size ≤ maxLen) (hl : l.length = m) (hsc : IntsAt w ao l) (hbd : ∀ z ∈ l, -9223372036854775808 ≤ z ∧ z ≤ 9223372036854775807) :
    Calls Try.prog 3 #[.string s, .slice ao m cap] w fun e w' => e = .returned (.bool true) ∧ Below w.heap.size w w' := by
  obtain ⟨i0, hi, hz0, hz1, hz2⟩ := info_parts infoMail
  have HL : Hid (l.length = m) := hl
  have HSC : Hid (IntsAt w ao l) := hsc
  have HBD : Hid (∀ z ∈ l, -9223372036854775808 ≤ z ∧ z ≤ 9223372036854775807) := hbd
  clear hl hsc hbd
  go_enter Try.func3, Try.ntmps3
  go_wp2_with fail
  refine (mineOpened 500 w (by omega) (by omega)).mono ?_
  rintro e w1 ⟨H, rfl, hm1⟩
  have M1 : Hid (Mine w w1 H (refNew 500)) := hm1
  clear hm1
  go_wp2_with fail
  refine (keepTopic s _ hs).mono ?_
  rintro e w2 ⟨⟨x, rfl, hx⟩, hb2⟩
  have HX : Hid (M.isPathM false x = true) := hx
  have hxs : x.size ≤ 1048576 := Nat.le_trans (path15 hx) (by omega)
  have M2 : Hid (Mine w w2 H (refNew 500)) := M1.out.below hb2
  obtain ⟨p1, p2, p3⟩ := order_start hx
  have P1 : Hid (doErr (refNew 500) ⟨1, 3, 0, 0, 0, x⟩ = 0) := p1
  have P2 : Hid (doErr (doS (refNew 500) ⟨1, 3, 0, 0, 0, x⟩) ⟨1, 3, 0, 0, 0, ⟨#[35]⟩⟩ = 0) := p2
  have P3 : Hid (OrderI x (doS (doS (refNew 500) ⟨1, 3, 0, 0, 0, x⟩) ⟨1, 3, 0, 0, 0, ⟨#[35]⟩⟩) 0 0 [] 2) := p3
  clear hx hb2 p1 p2 p3
  go_wp2_with fail
  refine (mineSub 3 0 0 0 x M2.out hxs).mono ?_
  rintro e w3 ⟨rfl, hm3⟩
  rw [P1.out]
  have M3 : Hid (Mine w w3 H (doS (refNew 500) ⟨1, 3, 0, 0, 0, x⟩)) := hm3
  clear hm3
  go_wp2_with fail
  refine (mineSub 3 0 0 0 ⟨#[35]⟩ M3.out (by show 1 ≤ _; omega)).mono ?_
  rintro e w4 ⟨rfl, hm4⟩
  rw [P2.out]
  obtain ⟨F4, hm4⟩ := hm4.mineF
  have M4 : Hid (MineF w w4 H F4 (doS (doS (refNew 500) ⟨1, 3, 0, 0, 0, x⟩) ⟨1, 3, 0, 0, 0, ⟨#[35]⟩⟩)) := hm4
  clear hm4
  go_wp2_with fail
  go_loopw [7, 9, 10, 11, 12] (fun e v n lo i wr => ∃ (k N L : Nat) (S : RefS) (F : Nat → Prop) (ns : List Int), k ≤ m ∧ k ≤ 400 ∧ i = .int .i64 (k : Int) ∧ n = .int .i64 (N : Int) ∧ lo = .int .i64 (L : Int) ∧ (∃ z, e = .int .i64 z) ∧ N ≤ k ∧ L ≤ k ∧ OrderI x S N L ns (2 + k) ∧ MineF w wr H F S ∧
    wr.ownsRow w.heap.size 35 5 v (ns.map (mailX x)).length ((ns.map (mailX x)).flatMap mailCells) ∧ ∀ g, v.ownBlock = some g → ¬ F g) (fun _ _ _ _ i _ => 400 - (intOf i).toNat)
  case atStart => exact ⟨0, 0, 0, _, F4, [], Nat.zero_le _, by omega, rfl, rfl, rfl, ⟨0, rfl⟩, Nat.le_refl _, Nat.le_refl _, P3.out, M4.out, World.ownsRow_nil _ _ _ _, fun g hg => by simp [Value.ownBlock] at hg⟩
  case round =>
    obtain ⟨k, N, L, S, F, ns, hkm, hk4, rfl, rfl, rfl, ⟨z0, rfl⟩, hN, hL, hI, hM, hown, hap⟩ := hrel
    have OI : Hid (OrderI x S N L ns (2 + k)) := hI
    have MM : Hid (MineF w wr H F S) := hM
    have HAP : Hid _ := hap
    have hnl : (ns.map (mailX x)).length ≤ 10 := by rw [List.length_map]; exact hI.few
    have hsz := hM.mine.out.size
    have HNL : Hid (ns.length = (ns.map (mailX x)).length) := by show _ = _; rw [List.length_map]
    clear hI hM hap
    generalize hMS : ns.map (mailX x) = MS at *
    have HMS : Hid (ns.map (mailX x) = MS) := hMS
    clear hMS
    by_cases hlt : k < m ∧ k < 400
    · obtain ⟨hlt1, hlt2⟩ := hlt
      obtain ⟨z, hz⟩ : ∃ z, l[k]? = some z := ⟨_, List.getElem?_eq_getElem (by rw [HL.out]; exact hlt1)⟩
      obtain ⟨zb0, zb1⟩ := HBD.out z (List.mem_of_getElem? hz)
      obtain ⟨gs, off, rfl, hcs⟩ := HSC.out k z hz
      have hcz := cell_later MM.out.mine.out hcs
      clear hz hcs
      by_cases hpos : 0 ≤ z
      · obtain ⟨av, cv, rfl, -, -, hcv⟩ := Row.form (row_of_own (w := w) hown nilV).1
        have HCV : Hid (CellsAt wr av (MS.flatMap mailCells)) := hcv
        obtain ⟨q1, q2⟩ := order_ack OI.out (by omega) (z % 40) 0 0 ⟨#[]⟩
        have Q1 : Hid (doErr S ⟨7, 3, z % 40, 0, 0, ⟨#[]⟩⟩ = (if ns.any (fun j => j == z % 40) then 0 else 7)) := q1
        have Q2 : Hid (OrderI x (doS S ⟨7, 3, z % 40, 0, 0, ⟨#[]⟩⟩) N L (ns.filter (fun j => j != z % 40)) (2 + k + 1)) := q2
        have HAN : Hid (MS.any (fun m => m.number == z % 40) = ns.any (fun j => j == z % 40)) := by show _ = _; rw [← HMS.out]; exact order_anyM _ _ _
        have HFI : Hid (MS.filter (fun m => m.number != z % 40) = (ns.filter (fun j => j != z % 40)).map (mailX x)) := by show _ = _; rw [← HMS.out]; exact order_filterM _ _ _
        clear q1 q2 hcv hown
        cases hany : ns.any (fun j => j == z % 40)
        all_goals
          have HANY : Hid (ns.any (fun j => j == z % 40) = _) := hany
          clear hany
          go_wp2_with fail
          refine (keepWithout MS av cv (z % 40) _ (by omega) HCV.out).mono ?_
          rintro e w5 ⟨v5, rfl, ho5, hb5⟩
          rw [HAN.out, HANY.out]
          rw [HFI.out] at ho5
          have M5 : Hid (MineF w w5 H F S) := MM.out.below hb5
          have HO5 : Hid _ := ho5
          clear ho5 hb5
          go_wp2_with fail
          refine (mineFAck 3 (z % 40) 0 0 ⟨#[]⟩ M5.out (Nat.zero_le _)).mono ?_
          rintro e w6 ⟨rfl, F6, hm6, hu6, hF6, hk6⟩
          rw [Q1.out, HANY.out]
          have M6 : Hid (MineF w w6 H F6 (doS S ⟨7, 3, z % 40, 0, 0, ⟨#[]⟩⟩)) := hm6
          have HO6 : Hid (w6.ownsRow w.heap.size 35 5 v5 ((ns.filter (fun j => j != z % 40)).map (mailX x)).length (((ns.filter (fun j => j != z % 40)).map (mailX x)).flatMap mailCells)) :=
            own_mono (own_upd HO5.out hu6 (fun g hg hf => by have h1 := (World.ownsRow.lt HO5.out g hg).1; have h2 := MM.out.lt hf; omega)) hsz
          have AP6 : Hid (∀ g, v5.ownBlock = some g → ¬ F6 g) := fun g hg hf => by
            obtain ⟨h1, h3⟩ := World.ownsRow.lt HO5.out g hg
            rcases hk6 g hf with h2 | h2
            · have := MM.out.lt h2; omega
            · omega
          clear hm6 hu6 hF6 hk6
          go_wp2_with fail
          go_roundw
          case rel => exact ⟨k + 1, N, L, _, F6, _, by omega, by omega, by go_num, rfl, rfl, ⟨_, rfl⟩, by omega, by omega, Q2.out, M6.out, HO6.out, AP6.out⟩
          case measure => simp [intOf]; omega
      · obtain ⟨av, cv, rfl, -, -, -⟩ := Row.form (row_of_own (w := w) hown nilV).1
        obtain ⟨q1, q2, q3⟩ := order_pub OI.out (by omega) (by omega) HX.out 0
        have Q1 : Hid (doErr S ⟨3, 0, (N : Int), 0, 0, x⟩ = 0) := q1
        have Q2 : Hid (doAns S ⟨3, 0, (N : Int), 0, 0, x⟩ = (N : Int)) := q2
        have Q3 : Hid (OrderI x (doS S ⟨3, 0, (N : Int), 0, 0, x⟩) (N + 1) (if ns.length < 10 then L else L + 1) (if ns.length < 10 then ns ++ [(N : Int)] else ns) (2 + k + 1)) := q3
        have HOW : Hid _ := hown
        clear q1 q2 q3 hown
        go_wp2_with fail
        refine (mineFPub 0 (N : Int) 0 0 x MM.out hxs).mono ?_
        rintro e w5 ⟨rfl, F5, hm5, hu5, hF5, hk5⟩
        rw [Q1.out, Q2.out]
        have M5 : Hid (MineF w w5 H F5 (doS S ⟨3, 0, (N : Int), 0, 0, x⟩)) := hm5
        have HO5 : Hid (w5.ownsRow w.heap.size 35 5 (.slice av MS.length cv) MS.length (MS.flatMap mailCells)) := own_upd HOW.out hu5 (fun g hg hf => HAP.out g hg hf)
        have AP5 : Hid (∀ g, (Value.slice av MS.length cv).ownBlock = some g → ¬ F5 g) := fun g hg hf => by
          rcases hk5 g hf with h2 | h2
          · exact HAP.out g hg h2
          · have := (World.ownsRow.lt HOW.out g hg).2; omega
        have hs5 : wr.heap.size ≤ w5.heap.size := hu5.size
        clear hm5 hu5 hF5 hk5
        by_cases hten : MS.length < 10
        · have Q4 : Hid (OrderI x (doS S ⟨3, 0, (N : Int), 0, 0, x⟩) (N + 1) L (ns ++ [(N : Int)]) (2 + k + 1)) := by
            have h1 := Q3.out
            rw [if_pos (by rw [HNL.out]; exact hten), if_pos (by rw [HNL.out]; exact hten)] at h1
            exact h1
          obtain ⟨v6, w6, hrun, hown6, hgrow, -, hat⟩ := run_append_own_at (P := Try.prog) (w5.alloc (.cells (mailCells ⟨(N : Int), x, (N : Int), 0, 0⟩).toArray 35)) w.heap.size 28 28 35 i0 _ 5 48 Try.underlying28 hi hz0 hz1 hz2 rfl (by omega) _ _ _ (World.ownsRow.alloc HO5.out _) ⟨w5.heap.size, 0, none⟩ 1 1 (mailCells ⟨(N : Int), x, (N : Int), 0, 0⟩) rfl (cells_new _ _ _) (mail_one _) (by unfold maxLen; omega) (by omega) (by simp; omega)
          have M6 : Hid (MineF w w6 H F5 (doS S ⟨3, 0, (N : Int), 0, 0, x⟩)) :=
            (M5.out.below (below_one _ _)).upd (P := fun i => (Value.slice av MS.length cv).ownBlock = some i) ((Upd.refl _ _).grown hgrow (fun i e _ => e)) (fun g hg => (World.ownsRow.lt HO5.out g hg).1) (fun g hf hg => AP5.out g hg hf)
          have HO6 : Hid (w6.ownsRow w.heap.size 35 5 v6 ((ns ++ [(N : Int)]).map (mailX x)).length (((ns ++ [(N : Int)]).map (mailX x)).flatMap mailCells)) := by
            show World.ownsRow _ _ _ _ _ _ _
            rw [List.map_append, HMS.out]
            simpa [mailX] using hown6
          have AP6 : Hid (∀ g, v6.ownBlock = some g → ¬ F5 g) := fun g hg hf => by
            rcases hat with h | h
            · exact AP5.out g (h.symm.trans hg) hf
            · rw [h] at hg
              simp at hg
              have := M5.out.lt hf
              omega
          clear hown6 hgrow hat
          go_wp2_with (first | (at_builtin; refine wpList_append_run rfl _ _ 28 rfl _ _ _ _ rfl rfl hrun ?_))
          go_wp2_with fail
          go_roundw
          case rel => exact ⟨k + 1, N + 1, L, _, F5, _, by omega, by omega, by go_num, by go_num, rfl, ⟨_, rfl⟩, by omega, by omega, Q4.out, M6.out, HO6.out, AP6.out⟩
          case measure => simp [intOf]; omega
        · have Q4 : Hid (OrderI x (doS S ⟨3, 0, (N : Int), 0, 0, x⟩) (N + 1) (L + 1) ns (2 + k + 1)) := by
            have h1 := Q3.out
            rw [if_neg (by rw [HNL.out]; exact hten), if_neg (by rw [HNL.out]; exact hten)] at h1
            exact h1
          go_wp2_with fail
          go_roundw
          case rel => exact ⟨k + 1, N + 1, L + 1, _, F5, ns, by omega, by omega, by go_num, by go_num, by go_num, ⟨_, rfl⟩, by omega, by omega, Q4.out, M5.out, by rw [HMS.out]; exact HO5.out, AP5.out⟩
          case measure => simp [intOf]; omega
    · obtain ⟨av, cv, rfl, -, -, hcv⟩ := Row.form (row_of_own (w := w) hown nilV).1
      have HCV : Hid (CellsAt wr av (MS.flatMap mailCells)) := hcv
      have hq3 : queueM S 3 = MS := by
        have e : queueM S 3 = (S.que 3).map (mailOf S.time) := by unfold queueM; rfl
        rw [e, OI.out.que3, OI.out.time, mail_sent, HMS.out]
      have hq2 : queueM S 2 = [] := by
        have e : queueM S 2 = (S.que 2).map (mailOf S.time) := by unfold queueM; rfl
        rw [e, OI.out.que2]; rfl
      have hl3 : lostM S 3 = (L : Int) := by
        have e : lostM S 3 = S.lost 3 := by unfold lostM; rfl
        rw [e]; exact OI.out.lost3
      have hl2 : lostM S 2 = 0 := by
        have e : lostM S 2 = S.lost 2 := by unfold lostM; rfl
        rw [e]; exact OI.out.lost2
      have HQ3 : Hid (queueM S 3 = MS) := hq3
      have HQ2 : Hid (queueM S 2 = []) := hq2
      have HL3 : Hid (lostM S 3 = (L : Int)) := hl3
      have HL2 : Hid (lostM S 2 = 0) := hl2
      have M0 : Hid (Mine w wr H S) := MM.out.mine
      clear hq3 hq2 hl3 hl2 hcv hown
      have hstop : ¬ (k < m ∧ k < 400) := hlt
      by_cases hkm2 : k < m
      · have hk400 : ¬ k < 400 := fun h => hlt ⟨hkm2, h⟩
        clear hlt hstop
        go_wp2_with fail
        refine (mineQueue 3 M0.out).mono ?_
        rintro e w5 ⟨q, rfl, ho5, hb5⟩
        rw [HQ3.out] at ho5
        obtain ⟨a5, c5, rfl, -, -, hc5⟩ := Row.form (row_of_own (w := wr) ho5 nilV).1
        have HC5 : Hid (CellsAt w5 a5 (MS.flatMap mailCells)) := hc5
        have M5 : Hid (Mine w w5 H S) := M0.out.below hb5
        have HCV5 : Hid (CellsAt w5 av (MS.flatMap mailCells)) := HCV.out.below hb5
        clear ho5 hc5 hb5
        go_wp2_with fail
        refine (mineQueue 2 M5.out).mono ?_
        rintro e w6 ⟨q, rfl, ho6, hb6⟩
        rw [HQ2.out] at ho6
        obtain ⟨a6, c6, rfl, -, -, -⟩ := Row.form (row_of_own (w := w5) ho6 nilV).1
        have M6 : Hid (Mine w w6 H S) := M5.out.below hb6
        have HC6 : Hid (CellsAt w6 a5 (MS.flatMap mailCells)) := HC5.out.below hb6
        have HCV6 : Hid (CellsAt w6 av (MS.flatMap mailCells)) := HCV5.out.below hb6
        clear ho6 hb6
        go_wp2_with fail
        refine (mineLost 3 M6.out).mono ?_
        rintro e w6 ⟨rfl, rfl⟩
        rw [HL3.out]
        go_wp2_with fail
        refine (mineLost 2 M6.out).mono ?_
        rintro e w6 ⟨rfl, rfl⟩
        rw [HL2.out]
        go_wp2_with fail
        refine (keepSameMails MS a5 av c5 cv _ (by omega) HC6.out HCV6.out).mono ?_
        rintro e w7 ⟨rfl, hb7⟩
        have HB7 : Hid (Below w.heap.size w w7) := (M6.out.below hb7).out
        clear hb7
        go_wp2_with fail
        go_ret
        exact ⟨rfl, HB7.out⟩
      · clear hlt hstop
        go_wp2_with fail
        refine (mineQueue 3 M0.out).mono ?_
        rintro e w5 ⟨q, rfl, ho5, hb5⟩
        rw [HQ3.out] at ho5
        obtain ⟨a5, c5, rfl, -, -, hc5⟩ := Row.form (row_of_own (w := wr) ho5 nilV).1
        have HC5 : Hid (CellsAt w5 a5 (MS.flatMap mailCells)) := hc5
        have M5 : Hid (Mine w w5 H S) := M0.out.below hb5
        have HCV5 : Hid (CellsAt w5 av (MS.flatMap mailCells)) := HCV.out.below hb5
        clear ho5 hc5 hb5
        go_wp2_with fail
        refine (mineQueue 2 M5.out).mono ?_
        rintro e w6 ⟨q, rfl, ho6, hb6⟩
        rw [HQ2.out] at ho6
        obtain ⟨a6, c6, rfl, -, -, -⟩ := Row.form (row_of_own (w := w5) ho6 nilV).1
        have M6 : Hid (Mine w w6 H S) := M5.out.below hb6
        have HC6 : Hid (CellsAt w6 a5 (MS.flatMap mailCells)) := HC5.out.below hb6
        have HCV6 : Hid (CellsAt w6 av (MS.flatMap mailCells)) := HCV5.out.below hb6
        clear ho6 hb6
        go_wp2_with fail
        refine (mineLost 3 M6.out).mono ?_
        rintro e w6 ⟨rfl, rfl⟩
        rw [HL3.out]
        go_wp2_with fail
        refine (mineLost 2 M6.out).mono ?_
        rintro e w6 ⟨rfl, rfl⟩
        rw [HL2.out]
        go_wp2_with fail
        refine (keepSameMails MS a5 av c5 cv _ (by omega) HC6.out HCV6.out).mono ?_
        rintro e w7 ⟨rfl, hb7⟩
        have HB7 : Hid (Below w.heap.size w w7) := (M6.out.below hb7).out
        clear hb7
        go_wp2_with fail
        go_ret
        exact ⟨rfl, HB7.out⟩
open Go.ChangeShapes Go.WideShapes Go.ChangeAt
open Go.ChangeMaps (open_string shut_string)

theorem laidOutK : laidOutB Try.prog = true := by kernel_rfl
theorem arr2o {args : Array Value} {a b : Value} (h : args.toList = [a, b]) : args = #[a, b] := by cases args; simp only at h; rw [h]
theorem ownO : ownKnob Try.prog.godebug = none := by kernel_rfl
theorem cellsIntK : Try.prog.cellsOf 3 = 1 := by kernel_rfl

set_option maxRecDepth 100000 in
/-- A row of numbers, opened. -/
theorem open_nums {H : Type} {enc : TypeId × Value → H} {W : World} {base : Nat} {v : Value} {d : DataW H} {p : List MemPlace} (hval : Value.okWide Try.prog W .any base 22 v) (h : DataW.Trod enc Try.prog W 0 (fun _ => true) true 22 v d p) :
    ∃ ao n cap, ∃ l : List Int, v = .slice ao n cap ∧ l.length = n ∧ IntsAt W ao l ∧ ∀ z ∈ l, -9223372036854775808 ≤ z ∧ z ≤ 9223372036854775807 := by
  obtain ⟨a0, len, cap, rfl⟩ := okWide_slice Try.underlying22 hval
  obtain ⟨fuel, hf⟩ := h
  rcases open_ints Try.underlying22 Try.underlying3 cellsIntK hf with ⟨hcs, -⟩ | ⟨a, len', cap', zs, hcs, -, hl, hm, hzl, -, hcell, hwf⟩
  · simp [Value.cells] at hcs
    obtain ⟨rfl, rfl, rfl⟩ := hcs
    exact ⟨none, 0, 0, [], rfl, rfl, fun j z hz => by simp at hz, fun z hz => by simp at hz⟩
  · simp [Value.cells] at hcs
    obtain ⟨rfl, rfl, rfl⟩ := hcs
    simp only [if_true] at hzl
    obtain ⟨b, off, spot⟩ := a
    refine ⟨some ⟨b, off, spot⟩, len, cap, zs.take len, rfl, by rw [List.length_take]; omega, fun j z hz => ?_, fun z hz => bounds_i64 (hwf z (List.mem_of_mem_take hz))⟩
    have hj : j < len := by
      have := (List.getElem?_eq_some_iff.1 hz).1
      rw [List.length_take] at this; omega
    rw [List.getElem?_take, if_pos hj] at hz
    have hc0 := hcell 0 (by omega)
    have hspot : spot = none := by
      have := World.cell?_spot hc0
      simpa [Addr.add] using this
    subst hspot
    have hc := hcell j (by omega)
    rw [Addr.add_lit, List.getD, hz, Option.getD_some] at hc
    exact ⟨b, off, rfl, hc⟩

set_option maxRecDepth 100000 in
theorem orderLifted (os : Os) (started : os.Started) (H : Type) (enc : TypeId × Value → H) :
    ReturnsInHanded {} Try.checked os 3 .any (Rows.orderSpec.pre6 enc Try.prog Try.f3 Rows.orderRow.domain false) (Rows.orderSpec.post enc Try.prog Try.f3 false true false false) := by
  refine returnsInHanded_of_change (C := Try.checked) ownO started (by kernel_rfl) Try.func3
    (ChangeSpec.witness6 (enc := enc) (C := Try.checked) false ⟨#[], #[.string .empty, .slice none 0 0], []⟩ 8 (by kernel_rfl) (by kernel_rfl) (by kernel_rfl) (by kernel_rfl)) ?_
  intro W base args ds gs before hval0 hW hcnd _
  have hval : ∀ (j : Nat) t v, Try.f3.params[j]? = some t → args[j]? = some v → Value.okWide Try.prog W .any base t v := hval0
  have hW' := hW
  obtain ⟨p, q, hA0, hV, rfl, hfz, hnd⟩ := hW
  have hA : DataW.TrodAll enc Try.prog W 0 (fun _ => true) true Try.f3.params.toList args.toList ds p := hA0
  rw [Try.params3] at hA hval
  obtain ⟨v0, vs0, d0, ds0, p0, q0, hargs, rfl, rfl, h0, r0⟩ := trodAll_cons hA
  obtain ⟨v1, vs1, d1, ds1, p1, q1, rfl, rfl, rfl, h1, r1⟩ := trodAll_cons r0
  obtain ⟨rfl, rfl, rfl⟩ := trodAll_nil r1
  obtain rfl := arr2o hargs
  obtain ⟨rfl, rfl⟩ := trodVars_none hV
  obtain ⟨s, rfl, rfl, rfl, hmax⟩ := open_string Try.underlying9 (hval 0 9 v0 rfl rfl) h0
  obtain ⟨ao, n, cap, l, rfl, hl, hsc, hbd⟩ := open_nums (hval 1 22 v1 rfl rfl) h1
  clear hA0 hval0 hcnd
  simp only [List.append_nil] at hW'
  have hlt : ∀ x ∈ p1, x.block < W.heap.size := fun x hx => hW'.lt x (by simp [hx])
  refine (orderWalk s l ao n cap W hmax hl hsc hbd).mono fun e W' ⟨he, hg⟩ => ?_
  subst he
  exact ⟨_, rfl, _, _, _, [], _, [], hW', trodAll_mk1 (shut_bool Try.underlying4 _), trodAll_cons_mk (shut_string Try.underlying9 hmax) (trodAll_cons_mk (Below.trod laidOutK (by kernel_rfl) (of_decide_eq_true (by kernel_rfl)) h1 hg hlt) trodAll_mk0), rfl, hg.frame _, fun h => by cases h⟩

theorem order_holds : Rows.OrderSaid :=
  OpenClaim.holds_of_wide 3 Try.f3 rfl rfl rfl rfl rfl rfl rfl ⟨rfl, rfl, rfl, rfl, rfl⟩ rfl rfl rfl rfl rfl (by kernel_rfl) Try.func3 (by kernel_rfl)
    (of_decide_eq_true (by kernel_rfl)) (by unfold Func.isWrapper; first | (rw [if_pos (by decide +kernel)]; kernel_rfl) | (rw [if_neg (by decide +kernel)]; exact ⟨rfl, rfl⟩))
    (fun os started H enc _ => orderLifted os started H enc)
end Go.Proofs.Ytmjdndhfmfjbiab
