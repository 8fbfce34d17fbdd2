import Derived.Test.YtmjdndhfmfjbiaaGreatM01
import Derived.Test.YtmjdndhfmfjbiaaGreatM26
import Derived.Deep.RegionWith
import Derived.Test.YtmjdndhfmfjbiaaGreatM22
import Derived.Test.YtmjdndhfmfjbiaaGreatM23
import Derived.Lib.AppendStr
namespace Go.Proofs.YtmjdndhfmfjbiaaGreat
open Go.RowKit

set_option maxHeartbeats 400000 in
theorem topIsWild (x : ByteArray) (last : Bool) (w : World) :
    Calls Tryz.prog 119 #[.string x, .bool last] w fun e w' => e = .returned (.bool ((x.toList == [43]) || ((x.toList == [35]) && last))) ∧ w' = w := by
  cases h43 : (x.toList == [43])
  · cases h35 : (x.toList == [35])
    all_goals
      go_enter Tryz.func119, Tryz.ntmps119
      go_wp2
      go_ret
      exact ⟨by simp, rfl⟩
  · go_enter Tryz.func119, Tryz.ntmps119
    go_wp2
    go_ret
    exact ⟨by simp, rfl⟩

set_option maxRecDepth 100000 in
set_option maxHeartbeats 1000000 in
theorem topIsPath (s : ByteArray) (wild : Bool) (w : World) (hs : s.size ≤ maxLen) :
    Calls Tryz.prog 109 #[.string s, .bool wild] w fun e w' => e = .returned (.bool (M.isPathM wild s)) ∧ Below w.heap.size w w' := by
  unfold maxLen at hs
  by_cases h15 : s.size ≤ 15
  · go_enter Tryz.func109, Tryz.ntmps109
    go_wp2_with fail
    refine (topWordsE s _ (by omega)).mono ?_
    rintro e w1 ⟨g, c, rfl, a1, a2, a3, a4⟩
    have hmem := M.words_mem s
    have hlen := M.wordsM_len s
    have HG : Hid (M.partsM wild (M.wordsM s) = true → M.isPathM wild s = (decide (s.size ≤ 15) && decide ((M.wordsM s).length ≤ 4))) := M.isPathM_good
    have HB : Hid (M.partsM wild (M.wordsM s) = false → M.isPathM wild s = false) := M.isPathM_bad
    have HL4 : Hid (¬ (M.wordsM s).length ≤ 4 → M.isPathM wild s = false) := fun h => by simp [M.isPathM, h]
    generalize hws : M.wordsM s = ws at *
    clear hws
    have A3 : Hid _ := a3
    have HM : Hid _ := hmem
    clear a3 hmem
    by_cases h4 : ws.length ≤ 4
    · go_wp2_with fail
      go_loop [6] (fun i => ∃ k : Nat, k ≤ ws.length ∧ i = .int .i64 k ∧ M.partsM wild ws = M.partsM wild (ws.drop k)) (fun i => ws.length - (intOf i).toNat)
      case atStart => exact ⟨0, Nat.zero_le _, rfl, rfl⟩
      case round =>
        obtain ⟨k, hk, rfl, hl⟩ := hrel
        have HL : Hid _ := hl
        clear hl
        by_cases hlt : k < ws.length
        · obtain ⟨x, hx⟩ : ∃ x, ws[k]? = some x := ⟨_, List.getElem?_eq_getElem hlt⟩
          have HP : Hid _ := M.parts_drop wild ws k x hx
          have HX : x.size ≤ maxLen := by
            have := HM.out x (List.mem_of_getElem? hx)
            unfold maxLen; omega
          obtain ⟨b, o, e, hc⟩ := A3.out k x hx
          simp only [Option.some.injEq, Addr.mk.injEq] at e
          obtain ⟨rfl, rfl, -⟩ := e
          simp only [Nat.zero_add] at hc
          clear hx
          cases hlast : ((k : Int) == (ws.length : Int) - 1)
          all_goals
            rw [hlast] at HP
            cases hw : M.isWordM x
            all_goals
              cases wild
              · go_wp2_with (first | (go_at_call 118; refine (topIsWord x _ HX).mono ?_; rintro e w2 ⟨rfl, rfl⟩) | (go_at_call 119; refine (topIsWild x _ _).mono ?_; rintro e w2 ⟨rfl, rfl⟩))
                first
                  | (go_ret; exact ⟨ret_bool (HB.out (by rw [HL.out, HP.out]; simp [M.partM, hw])).symm, a4⟩)
                  | (go_round
                     case rel => exact ⟨k + 1, by omega, by go_num, by rw [HL.out, HP.out]; simp [M.partM, hw]⟩
                     case measure => simp [intOf]; omega)
              · cases h43 : (x.toList == [43])
                all_goals
                  cases h35 : (x.toList == [35])
                  all_goals
                    go_wp2_with (first | (go_at_call 118; refine (topIsWord x _ HX).mono ?_; rintro e w2 ⟨rfl, rfl⟩) | (go_at_call 119; refine (topIsWild x _ _).mono ?_; rintro e w2 ⟨rfl, rfl⟩))
                    first
                      | (go_ret; exact ⟨ret_bool (HB.out (by rw [HL.out, HP.out]; simp [M.partM, hw, h43, h35])).symm, a4⟩)
                      | (go_round
                         case rel => exact ⟨k + 1, by omega, by go_num, by rw [HL.out, HP.out]; simp [M.partM, hw, h43, h35]⟩
                         case measure => simp [intOf]; omega)
        · have HE : Hid (M.isPathM wild s = (decide (s.size ≤ 15) && decide (ws.length ≤ 4))) := HG.out (by rw [HL.out]; exact M.parts_end _ _ _ (by omega))
          go_wp2_with fail
          go_ret
          exact ⟨ret_bool (by rw [HE.out]; simp [h15, h4]), a4⟩
    · go_wp2_with fail
      go_ret
      exact ⟨ret_bool (HL4.out h4).symm, a4⟩
  · have HE : Hid (M.isPathM wild s = false) := by simp [M.isPathM, Hid, h15]
    go_enter Tryz.func109, Tryz.ntmps109
    go_wp2_with fail
    go_ret
    exact ⟨ret_bool HE.out.symm, Below.refl _ _⟩
end Go.Proofs.YtmjdndhfmfjbiaaGreat

namespace Go.Proofs.YtmjdndhfmfjbiaaGreat
open Go.RowKit

theorem along_nil (f t : List ByteArray) (k : Nat) (hf : f.length ≤ k) (hk : k ≤ t.length) (hk2 : k ≤ f.length) : M.alongM (f.drop k) (t.drop k) = ((f.length : Int) == (t.length : Int)) := by
  rw [List.drop_of_length_le hf, M.alongM, Bool.eq_iff_iff]
  simp
  omega
theorem along_short (f t : List ByteArray) (k : Nat) (x : ByteArray) (h : f[k]? = some x) (ht : t.length ≤ k) : M.alongM (f.drop k) (t.drop k) = (x.toList == [35]) := by
  obtain ⟨hk, rfl⟩ := List.getElem?_eq_some_iff.1 h
  rw [List.drop_of_length_le ht, List.drop_eq_getElem_cons hk, M.alongM]
theorem along_step (f t : List ByteArray) (k : Nat) (x y : ByteArray) (h : f[k]? = some x) (ht : t[k]? = some y) :
    M.alongM (f.drop k) (t.drop k) = ((x.toList == [35]) || (((x.toList == [43]) || (x.toList == y.toList)) && M.alongM (f.drop (k + 1)) (t.drop (k + 1)))) := by
  obtain ⟨hk, rfl⟩ := List.getElem?_eq_some_iff.1 h
  obtain ⟨hk', rfl⟩ := List.getElem?_eq_some_iff.1 ht
  rw [List.drop_eq_getElem_cons hk, List.drop_eq_getElem_cons hk', M.alongM]

theorem strs_cell {w : World} {g : Nat} {xs : List ByteArray} (h : StrsAt w (some ⟨g, 0, none⟩) xs) {k : Nat} {x : ByteArray} (hx : xs[k]? = some x) : w.cell? ⟨g, k, none⟩ = some (.string x) := by
  obtain ⟨b, o, e, hc⟩ := h k x hx
  simp only [Option.some.injEq, Addr.mk.injEq] at e
  obtain ⟨rfl, rfl, -⟩ := e
  simpa using hc

set_option maxRecDepth 100000 in
set_option maxHeartbeats 1000000 in
theorem topFits (f t : ByteArray) (w : World) (hf : f.size ≤ 1048576) (ht : t.size ≤ 1048576) :
    Calls Tryz.prog 120 #[.string f, .string t] w fun e w' => e = .returned (.bool (M.alongM (M.wordsM f) (M.wordsM t))) ∧ Below w.heap.size w w' := by
  go_enter Tryz.func120, Tryz.ntmps120
  go_wp2_with fail
  refine (topWordsE f _ hf).mono ?_
  rintro e w1 ⟨g1, c1, rfl, a1, a2, a3, a4⟩
  go_wp2_with fail
  refine (topWordsE t _ ht).mono ?_
  rintro e w2 ⟨g2, c2, rfl, b1, b2, b3, b4⟩
  have hl1 := M.wordsM_len f
  have hl2 := M.wordsM_len t
  have HBel : Hid (Below w.heap.size w w2) := a4.trans (b4.mono a4.size)
  have A3 : Hid _ := a3.below b4
  have B3 : Hid _ := b3
  clear a3 b3 a4 b4
  generalize hfs : M.wordsM f = fs at *
  generalize hts : M.wordsM t = ts at *
  have HV : Hid (M.alongM (M.wordsM f) (M.wordsM t) = M.alongM fs ts) := by subst hfs hts; exact rfl
  clear hfs hts
  go_wp2_with fail
  go_loopw [7] (fun i wr => ∃ k : Nat, k ≤ fs.length ∧ k ≤ ts.length ∧ i = .int .i64 k ∧ M.alongM fs ts = M.alongM (fs.drop k) (ts.drop k) ∧ ∃ n, wr = w2.drewN n) (fun i _ => fs.length - (intOf i).toNat)
  case atStart => exact ⟨0, Nat.zero_le _, Nat.zero_le _, rfl, rfl, 0, rfl⟩
  case round =>
    obtain ⟨k, hk, hk2, rfl, hl, n, rfl⟩ := hrel
    have HL : Hid _ := hl
    clear hl
    by_cases hlt : k < fs.length
    · obtain ⟨x, hx⟩ : ∃ x, fs[k]? = some x := ⟨_, List.getElem?_eq_getElem hlt⟩
      have hc : w2.cell? ⟨g1, k, none⟩ = some (.string x) := strs_cell A3.out hx
      by_cases hlt2 : k < ts.length
      · obtain ⟨y, hy⟩ : ∃ y, ts[k]? = some y := ⟨_, List.getElem?_eq_getElem hlt2⟩
        have hd : w2.cell? ⟨g2, k, none⟩ = some (.string y) := strs_cell B3.out hy
        have HS : Hid _ := along_step fs ts k x y hx hy
        clear hx hy
        cases h35 : (x.toList == [35])
        · cases h43 : (x.toList == [43])
          · cases heq : (x.toList == y.toList)
            · go_wp2_with fail
              go_quiet (fail)
              go_wp2_with fail
              go_ret
              exact ⟨ret_bool (by rw [HV.out, HL.out, HS.out]; simp [h35, h43, heq]), HBel.out.trans ⟨rfl, rfl, rfl, Nat.le_refl _, fun _ _ => rfl⟩⟩
            · go_wp2_with fail
              go_quiet (fail)
              go_wp2_with fail
              go_roundw
              case rel => exact ⟨k + 1, by omega, by omega, by go_num, by rw [HL.out, HS.out]; simp [h35, h43, heq], _, rfl⟩
              case measure => simp [intOf]; omega
          · go_wp2_with fail
            go_quiet (fail)
            go_wp2_with fail
            go_roundw
            case rel => exact ⟨k + 1, by omega, by omega, by go_num, by rw [HL.out, HS.out]; simp [h35, h43], _, rfl⟩
            case measure => simp [intOf]; omega
        · go_wp2_with fail
          go_ret
          exact ⟨ret_bool (by rw [HV.out, HL.out, HS.out]; simp [h35]), HBel.out.trans ⟨rfl, rfl, rfl, Nat.le_refl _, fun _ _ => rfl⟩⟩
      · have HS : Hid _ := along_short fs ts k x hx (by omega)
        clear hx
        cases h35 : (x.toList == [35])
        all_goals
          go_wp2_with fail
          go_ret
          exact ⟨ret_bool (by rw [HV.out, HL.out, HS.out]; simp [h35]), HBel.out.trans ⟨rfl, rfl, rfl, Nat.le_refl _, fun _ _ => rfl⟩⟩
    · have HS : Hid _ := along_nil fs ts k (by omega) hk2 hk
      go_wp2_with fail
      go_ret
      exact ⟨ret_bool (by rw [HV.out, HL.out, HS.out]), HBel.out.trans ⟨rfl, rfl, rfl, Nat.le_refl _, fun _ _ => rfl⟩⟩
end Go.Proofs.YtmjdndhfmfjbiaaGreat

/-
  The program's own queues.
-/
namespace Go.Proofs.YtmjdndhfmfjbiaaGreat
open Go.RowKit

/-- A message as the program keeps it. -/
def msgCells (x : SentD) : List Value := [.int .i64 x.number, .string x.topic, .int .i64 x.value, .int .i64 x.life, .int .i64 x.sentAt]
abbrev msgV (x : SentD) : Value := .agg #[.int .i64 x.number, .string x.topic, .int .i64 x.value, .int .i64 x.life, .int .i64 x.sentAt]
theorem msg_len (x : SentD) : (msgCells x).length = 5 := rfl
theorem msg_one (x : SentD) : ∀ u ∈ msgCells x, u.oneCell' = true := by
  intro u hu
  simp only [msgCells, List.mem_cons, List.not_mem_nil, or_false] at hu
  rcases hu with rfl | rfl | rfl | rfl | rfl <;> rfl
theorem infoMsg : (Tryz.prog.info? 117).map (fun i => (i.zero, i.size, i.bytes)) = some (some (.agg #[.int .i64 0, .string ⟨#[]⟩, .int .i64 0, .int .i64 0, .int .i64 0]), 5, 48) := by kernel_rfl
theorem msg_cells {w : World} {ao : Option Addr} {l : List SentD} (h : CellsAt w ao (l.flatMap msgCells)) {k : Nat} {x : SentD} (hx : l[k]? = some x) :
    ∃ g, ao = some ⟨g, 0, none⟩ ∧ g < w.heap.size ∧ w.cell? ⟨g, k * 5, none⟩ = some (.int .i64 x.number) ∧ w.cell? ⟨g, k * 5 + 1, none⟩ = some (.string x.topic) ∧ w.cell? ⟨g, k * 5 + 2, none⟩ = some (.int .i64 x.value) ∧
      w.cell? ⟨g, k * 5 + 3, none⟩ = some (.int .i64 x.life) ∧ w.cell? ⟨g, k * 5 + 4, none⟩ = some (.int .i64 x.sentAt) := by
  have key : ∀ j u, j < 5 → (msgCells x)[j]? = some u → ∃ g, ao = some ⟨g, 0, none⟩ ∧ w.cell? ⟨g, k * 5 + j, none⟩ = some u := fun j u hj hu => h _ u ((flat_get msgCells 5 msg_len l k j x hx hj).trans hu)
  obtain ⟨g, rfl, c0⟩ := key 0 _ (by omega) rfl
  obtain ⟨g1, e1, c1⟩ := key 1 _ (by omega) rfl
  obtain ⟨g2, e2, c2⟩ := key 2 _ (by omega) rfl
  obtain ⟨g3, e3, c3⟩ := key 3 _ (by omega) rfl
  obtain ⟨g4, e4, c4⟩ := key 4 _ (by omega) rfl
  cases e1
  cases e2
  cases e3
  cases e4
  exact ⟨g, rfl, World.block_lt_of_cell? _ _ c0, c0, c1, c2, c3, c4⟩

set_option maxRecDepth 100000 in
set_option maxHeartbeats 1000000 in
theorem hrHasMessage (qs : List SentD) (ao : Option Addr) (c : Nat) (n : Int) (w : World) (hl : qs.length ≤ 1048576) (h : CellsAt w ao (qs.flatMap msgCells)) :
    Calls Tryz.prog 93 #[.slice ao qs.length c, .int .i64 n] w fun e w' => e = .returned (.bool (qs.any (fun m => m.number == n))) ∧ w' = w := by
  have H : Hid (CellsAt w ao (qs.flatMap msgCells)) := h
  clear h
  go_enter Tryz.func93, Tryz.ntmps93
  go_wp2_with fail
  go_loop [5] (fun i => ∃ k : Nat, k ≤ qs.length ∧ i = .int .i64 k ∧ (qs.take k).any (fun m => m.number == n) = false) (fun i => qs.length - (intOf i).toNat)
  case atStart => exact ⟨0, Nat.zero_le _, rfl, by simp⟩
  case round =>
    obtain ⟨k, hk, rfl, ha⟩ := hrel
    have HA : Hid ((qs.take k).any (fun m => m.number == n) = false) := ha
    clear ha
    by_cases hlt : k < qs.length
    · obtain ⟨y, hy⟩ : ∃ y, qs[k]? = some y := ⟨_, List.getElem?_eq_getElem hlt⟩
      obtain ⟨g, rfl, hg, c0, c1, c2, c3, c4⟩ := msg_cells H.out hy
      cases he : (y.number == n)
      · have HS : Hid ((qs.take (k + 1)).any (fun m => m.number == n) = false) := by show _ = _; rw [any_take hy, HA.out, he]; rfl
        clear hy
        go_wp2_with fail
        go_round
        case rel => exact ⟨k + 1, by omega, by go_num, HS.out⟩
        case measure => simp [intOf]; omega
      · have HS : Hid (qs.any (fun m => m.number == n) = true) := List.any_eq_true.2 ⟨y, List.mem_of_getElem? hy, he⟩
        clear hy
        go_wp2_with fail
        go_ret
        exact ⟨ret_bool' HS.out.symm, rfl⟩
    · have HS : Hid (qs.any (fun m => m.number == n) = false) := by
        have := HA.out
        rw [List.take_of_length_le (by omega)] at this
        exact this
      go_wp2_with fail
      go_ret
      exact ⟨ret_bool' HS.out.symm, rfl⟩

set_option maxRecDepth 100000 in
set_option maxHeartbeats 1000000 in
theorem hrWithoutMessage (qs : List SentD) (ao : Option Addr) (c : Nat) (n : Int) (w : World) (hl : qs.length ≤ 1048576) (h : CellsAt w ao (qs.flatMap msgCells)) :
    Calls Tryz.prog 94 #[.slice ao qs.length c, .int .i64 n] w fun e w' => ∃ v, e = .returned v ∧
      w'.ownsRow w.heap.size 117 5 v (qs.filter (fun m => m.number != n)).length ((qs.filter (fun m => m.number != n)).flatMap msgCells) ∧ Below w.heap.size w w' := by
  obtain ⟨i0, hi, hz0, hz1, hz2⟩ := info_parts infoMsg
  have H : Hid (CellsAt w ao (qs.flatMap msgCells)) := h
  clear h
  go_enter Tryz.func94, Tryz.ntmps94
  go_wp2_with fail
  go_loopw [5, 6] (fun v i wr => ∃ k : Nat, k ≤ qs.length ∧ i = .int .i64 k ∧ wr.ownsRow w.heap.size 117 5 v (kept (fun m : SentD => m.number != n) qs k).length ((kept (fun m : SentD => m.number != n) qs k).flatMap msgCells) ∧ Below w.heap.size w wr) (fun _ i _ => qs.length - (intOf i).toNat)
  case atStart => exact ⟨0, Nat.zero_le _, rfl, World.ownsRow_nil _ _ _ _, Below.refl _ _⟩
  case round =>
    obtain ⟨k, hk, rfl, hown, hbr⟩ := hrel
    have hkl := kept_le (fun m : SentD => m.number != n) qs k
    have hsz := hbr.size
    by_cases hlt : k < qs.length
    · obtain ⟨y, hy⟩ : ∃ y, qs[k]? = some y := ⟨_, List.getElem?_eq_getElem hlt⟩
      obtain ⟨g, rfl, hg, c0, c1, c2, c3, c4⟩ := msg_cells (H.out.below hbr) hy
      cases hne : (y.number != n)
      · have HK : Hid (kept (fun m : SentD => m.number != n) qs (k + 1) = kept (fun m : SentD => m.number != n) qs k) := kept_miss hy hne
        clear hy
        go_wp2_with fail
        go_roundw
        case rel => exact ⟨k + 1, by omega, by go_num, by rw [HK.out]; exact hown, hbr⟩
        case measure => simp [intOf]; omega
      · have HK : Hid (kept (fun m : SentD => m.number != n) qs (k + 1) = kept (fun m : SentD => m.number != n) qs k ++ [y]) := kept_hit hy hne
        clear hy
        go_wp2_with (first | (at_builtin; refine wpList_append_own _ rfl _ _ 52 rfl w.heap.size 117 i0 _ 5 48 Tryz.underlying52 hi hz0 hz1 hz2 rfl (by decide) _ _ _ rfl (hown.alloc _) ⟨wr.heap.size, 0, none⟩ 1 1 (msgCells y) rfl rfl (cells_new _ _ _) (msg_one _) (by unfold maxLen; omega) (by omega) (by simp; omega) ?_))
        intro v' w1 hown' hgrow _
        have R := grow_row hown hbr hown' hgrow
        clear hown' hgrow hown
        go_wp2_with fail
        go_roundw
        case rel => exact ⟨k + 1, by omega, by go_num, by rw [HK.out]; exact R.1, R.2⟩
        case measure => simp [intOf]; omega
    · have HK : Hid (kept (fun m : SentD => m.number != n) qs k = qs.filter (fun m : SentD => m.number != n)) := kept_end _ _ _ (by omega)
      go_wp2_with fail
      go_ret
      exact ⟨_, rfl, by rw [← HK.out]; exact hown, hbr⟩

/-- Is it over? -/
def overB (t : Int) (m : SentD) : Bool := decide (0 < m.life) && decide (m.life ≤ t - m.sentAt)

set_option maxRecDepth 100000 in
theorem hrIsOver (m : SentD) (t : Int) (w : World) (h0 : 0 ≤ t) (h1 : t ≤ 1099511627776) (h2 : 0 ≤ m.sentAt) (h3 : m.sentAt ≤ 1099511627776) :
    Calls Tryz.prog 121 #[msgV m, .int .i64 t] w fun e w' => e = .returned (.bool (overB t m)) ∧ Below w.heap.size w w' := by
  obtain ⟨mn, mt, mv, ms, ml⟩ := m
  simp only at h2 h3
  have one : ∀ o1 : Obj, Below w.heap.size w (w.alloc o1) := fun o1 => below_one _ _
  have TW : Hid (∀ o1 : Obj, Below w.heap.size w (w.alloc o1)) := one
  clear one
  by_cases hp : 0 < ml
  · have HE : Hid (overB t ⟨mn, mt, mv, ms, ml⟩ = decide (ml ≤ t - ms)) := by simp [Hid, overB, hp]
    go_enter Tryz.func121, Tryz.ntmps121
    go_wp2_with fail
    go_ret
    exact ⟨ret_bool' HE.out.symm, TW.out _⟩
  · have HE : Hid (overB t ⟨mn, mt, mv, ms, ml⟩ = false) := by simp [Hid, overB, hp]
    go_enter Tryz.func121, Tryz.ntmps121
    go_wp2_with fail
    go_ret
    exact ⟨ret_bool' HE.out.symm, TW.out _⟩

set_option maxRecDepth 100000 in
theorem hrLeft (m : SentD) (t : Int) (w : World) (h0 : 0 ≤ t) (h1 : t ≤ 1099511627776) (h2 : 0 ≤ m.sentAt) (h3 : m.sentAt ≤ 1099511627776) (h4 : 0 ≤ m.life) (h5 : m.life ≤ 1099511627776) :
    Calls Tryz.prog 75 #[msgV m, .int .i64 t] w fun e w' => e = .returned (.int .i64 (leftM t m)) ∧ Below w.heap.size w w' := by
  obtain ⟨mn, mt, mv, ms, ml⟩ := m
  simp only at h2 h3 h4 h5
  have one : ∀ o1 : Obj, Below w.heap.size w (w.alloc o1) := fun o1 => below_one _ _
  have TW : Hid (∀ o1 : Obj, Below w.heap.size w (w.alloc o1)) := one
  clear one
  by_cases hp : ml = 0
  · subst hp
    have HE : Hid (leftM t ⟨mn, mt, mv, ms, 0⟩ = 0) := by simp [Hid, leftM]
    go_enter Tryz.func75, Tryz.ntmps75
    go_wp2_with fail
    go_ret
    exact ⟨ret_int HE.out.symm, TW.out _⟩
  · have HE : Hid (leftM t ⟨mn, mt, mv, ms, ml⟩ = ml - t + ms) := by
      have : 0 < ml := by omega
      simp only [Hid, leftM, this, if_true]
      omega
    have hne : (ml == 0) = false := by simp [hp]
    go_enter Tryz.func75, Tryz.ntmps75
    go_wp2_with fail
    go_ret
    exact ⟨ret_int HE.out.symm, TW.out _⟩
end Go.Proofs.YtmjdndhfmfjbiaaGreat

namespace Go.Proofs.YtmjdndhfmfjbiaaGreat
open Go.RowKit

set_option maxRecDepth 100000 in
set_option maxHeartbeats 1000000 in
theorem hrWithoutOver (qs : List SentD) (ao : Option Addr) (c : Nat) (t : Int) (w : World) (hl : qs.length ≤ 1048576) (h : CellsAt w ao (qs.flatMap msgCells)) (h0 : 0 ≤ t) (h1 : t ≤ 1099511627776) (hq : ∀ m ∈ qs, 0 ≤ m.sentAt ∧ m.sentAt ≤ 1099511627776) :
    Calls Tryz.prog 113 #[.slice ao qs.length c, .int .i64 t] w fun e w' => ∃ v, e = .returned v ∧
      w'.ownsRow w.heap.size 117 5 v (qs.filter (fun m => !overB t m)).length ((qs.filter (fun m => !overB t m)).flatMap msgCells) ∧ Below w.heap.size w w' := by
  obtain ⟨i0, hi, hz0, hz1, hz2⟩ := info_parts infoMsg
  have H : Hid (CellsAt w ao (qs.flatMap msgCells)) := h
  have HQ : Hid (∀ m ∈ qs, 0 ≤ m.sentAt ∧ m.sentAt ≤ 1099511627776) := hq
  clear h hq
  go_enter Tryz.func113, Tryz.ntmps113
  go_wp2_with fail
  go_loopw [5, 6] (fun v i wr => ∃ k : Nat, k ≤ qs.length ∧ i = .int .i64 k ∧ wr.ownsRow w.heap.size 117 5 v (kept (fun m : SentD => !overB t m) qs k).length ((kept (fun m : SentD => !overB t m) qs k).flatMap msgCells) ∧ Below w.heap.size w wr) (fun _ i _ => qs.length - (intOf i).toNat)
  case atStart => exact ⟨0, Nat.zero_le _, rfl, World.ownsRow_nil _ _ _ _, Below.refl _ _⟩
  case round =>
    obtain ⟨k, hk, rfl, hown, hbr⟩ := hrel
    have hkl := kept_le (fun m : SentD => !overB t m) qs k
    have hsz := hbr.size
    by_cases hlt : k < qs.length
    · obtain ⟨y, hy⟩ : ∃ y, qs[k]? = some y := ⟨_, List.getElem?_eq_getElem hlt⟩
      obtain ⟨g, rfl, hg, c0, c1, c2, c3, c4⟩ := msg_cells (H.out.below hbr) hy
      obtain ⟨q0, q1⟩ := HQ.out y (List.mem_of_getElem? hy)
      have YY : Hid (qs[k]? = some y) := hy
      clear hy
      go_wp2_with fail
      refine (hrIsOver y t _ h0 h1 q0 q1).mono ?_
      rintro e w2 ⟨rfl, b2⟩
      have hown2 := own_below hown b2
      have hbr2 : Below w.heap.size w w2 := hbr.trans (b2.mono hbr.size)
      have d0 := cell_later b2 c0
      have d1 := cell_later b2 c1
      have d2 := cell_later b2 c2
      have d3 := cell_later b2 c3
      have d4 := cell_later b2 c4
      have hs2 := hbr2.size
      have hg2 : g < w2.heap.size := by have := b2.size; omega
      clear b2 hown hbr
      cases hov : overB t y
      · have HK : Hid (kept (fun m : SentD => !overB t m) qs (k + 1) = kept (fun m : SentD => !overB t m) qs k ++ [y]) := kept_hit YY.out (by simp only [hov]; rfl)
        clear hov
        go_wp2_with (first | (at_builtin; refine wpList_append_own _ rfl _ _ 52 rfl w.heap.size 117 i0 _ 5 48 Tryz.underlying52 hi hz0 hz1 hz2 rfl (by decide) _ _ _ rfl (hown2.alloc _) ⟨w2.heap.size, 0, none⟩ 1 1 (msgCells y) rfl rfl (cells_new _ _ _) (msg_one _) (by unfold maxLen; omega) (by omega) (by simp; omega) ?_))
        intro v' w1 hown' hgrow _
        have R := grow_row hown2 hbr2 hown' hgrow
        clear hown' hgrow hown2
        go_wp2_with fail
        go_roundw
        case rel => exact ⟨k + 1, by omega, by go_num, by rw [HK.out]; exact R.1, R.2⟩
        case measure => simp [intOf]; omega
      · have HK : Hid (kept (fun m : SentD => !overB t m) qs (k + 1) = kept (fun m : SentD => !overB t m) qs k) := kept_miss YY.out (by simp only [hov]; rfl)
        clear hov
        go_wp2_with fail
        go_roundw
        case rel => exact ⟨k + 1, by omega, by go_num, by rw [HK.out]; exact hown2, hbr2⟩
        case measure => simp [intOf]; omega
    · have HK : Hid (kept (fun m : SentD => !overB t m) qs k = qs.filter (fun m : SentD => !overB t m)) := kept_end _ _ _ (by omega)
      go_wp2_with fail
      go_ret
      exact ⟨_, rfl, by rw [← HK.out]; exact hown, hbr⟩

set_option maxRecDepth 100000 in
set_option maxHeartbeats 1000000 in
theorem hrFitsOne (fs : List ByteArray) (ao : Option Addr) (c : Nat) (s : ByteArray) (w : World) (hl : fs.length ≤ 1048576) (h : CellsAt w ao (fs.map Value.string)) (hf : ∀ f ∈ fs, f.size ≤ 1048576) (hs : s.size ≤ 1048576) :
    Calls Tryz.prog 110 #[.slice ao fs.length c, .string s] w fun e w' => e = .returned (.bool (fitAny fs s)) ∧ Below w.heap.size w w' := by
  have H : Hid (CellsAt w ao (fs.map Value.string)) := h
  have HF : Hid (∀ f ∈ fs, f.size ≤ 1048576) := hf
  clear h hf
  go_enter Tryz.func110, Tryz.ntmps110
  go_wp2_with fail
  go_loopw [5] (fun i wr => ∃ k : Nat, k ≤ fs.length ∧ i = .int .i64 k ∧ (fs.take k).any (fun f => M.alongM (M.wordsM f) (M.wordsM s)) = false ∧ Below w.heap.size w wr) (fun i _ => fs.length - (intOf i).toNat)
  case atStart => exact ⟨0, Nat.zero_le _, rfl, by simp, Below.refl _ _⟩
  case round =>
    obtain ⟨k, hk, rfl, ha, hbr⟩ := hrel
    have HA : Hid ((fs.take k).any (fun f => M.alongM (M.wordsM f) (M.wordsM s)) = false) := ha
    clear ha
    by_cases hlt : k < fs.length
    · obtain ⟨f, hf⟩ : ∃ f, fs[k]? = some f := ⟨_, List.getElem?_eq_getElem hlt⟩
      obtain ⟨g, rfl, hc⟩ := H.out.below hbr k _ (strs_get hf)
      have hfs := HF.out f (List.mem_of_getElem? hf)
      have FF : Hid (fs[k]? = some f) := hf
      clear hf
      go_wp2_with fail
      refine (topFits f s _ hfs hs).mono ?_
      rintro e w2 ⟨rfl, b2⟩
      have hbr2 : Below w.heap.size w w2 := hbr.trans (b2.mono hbr.size)
      clear b2 hbr
      cases he : M.alongM (M.wordsM f) (M.wordsM s)
      · have HS : Hid ((fs.take (k + 1)).any (fun f => M.alongM (M.wordsM f) (M.wordsM s)) = false) := by show _ = _; rw [any_take FF.out, HA.out, he]; rfl
        clear he
        go_wp2_with fail
        go_roundw
        case rel => exact ⟨k + 1, by omega, by go_num, HS.out, hbr2⟩
        case measure => simp [intOf]; omega
      · have HS : Hid (fitAny fs s = true) := List.any_eq_true.2 ⟨f, List.mem_of_getElem? FF.out, he⟩
        clear he
        go_wp2_with fail
        go_ret
        exact ⟨ret_bool' HS.out.symm, hbr2⟩
    · have HS : Hid (fitAny fs s = false) := by
        have := HA.out
        rw [List.take_of_length_le (by omega)] at this
        exact this
      go_wp2_with fail
      go_ret
      exact ⟨ret_bool' HS.out.symm, hbr⟩

set_option maxRecDepth 100000 in
set_option maxHeartbeats 1000000 in
theorem hrShownQueue (qs : List SentD) (ao : Option Addr) (c : Nat) (t : Int) (w : World) (hl : qs.length ≤ 1048576) (h : CellsAt w ao (qs.flatMap msgCells)) (h0 : 0 ≤ t) (h1 : t ≤ 1099511627776) (hq : ∀ m ∈ qs, 0 ≤ m.sentAt ∧ m.sentAt ≤ 1099511627776 ∧ 0 ≤ m.life ∧ m.life ≤ 1099511627776) :
    Calls Tryz.prog 56 #[.slice ao qs.length c, .int .i64 t] w fun e w' => ∃ v, e = .returned v ∧
      w'.ownsRow w.heap.size 76 5 v (qs.map (mailOf t)).length ((qs.map (mailOf t)).flatMap mailCells) ∧ Below w.heap.size w w' := by
  obtain ⟨i0, hi, hz0, hz1, hz2⟩ := info_parts infoMail
  have H : Hid (CellsAt w ao (qs.flatMap msgCells)) := h
  have HQ : Hid (∀ m ∈ qs, 0 ≤ m.sentAt ∧ m.sentAt ≤ 1099511627776 ∧ 0 ≤ m.life ∧ m.life ≤ 1099511627776) := hq
  clear h hq
  go_enter Tryz.func56, Tryz.ntmps56
  go_wp2_with fail
  go_loopw [5, 6] (fun v i wr => ∃ k : Nat, k ≤ qs.length ∧ i = .int .i64 k ∧ wr.ownsRow w.heap.size 76 5 v ((qs.take k).map (mailOf t)).length (((qs.take k).map (mailOf t)).flatMap mailCells) ∧ Below w.heap.size w wr) (fun _ i _ => qs.length - (intOf i).toNat)
  case atStart => exact ⟨0, Nat.zero_le _, rfl, World.ownsRow_nil _ _ _ _, Below.refl _ _⟩
  case round =>
    obtain ⟨k, hk, rfl, hown, hbr⟩ := hrel
    have hsz := hbr.size
    have htl : ((qs.take k).map (mailOf t)).length ≤ 1048576 := by rw [List.length_map, List.length_take]; omega
    by_cases hlt : k < qs.length
    · obtain ⟨y, hy⟩ : ∃ y, qs[k]? = some y := ⟨_, List.getElem?_eq_getElem hlt⟩
      obtain ⟨g, rfl, hg, c0, c1, c2, c3, c4⟩ := msg_cells (H.out.below hbr) hy
      obtain ⟨q0, q1, q2, q3⟩ := HQ.out y (List.mem_of_getElem? hy)
      have HK : Hid ((qs.take (k + 1)).map (mailOf t) = (qs.take k).map (mailOf t) ++ [mailOf t y]) := map_hit _ hy
      have HM : Hid (mailOf t y = ⟨y.number, y.topic, y.value, y.sentAt, leftM t y⟩) := rfl
      clear hy
      generalize hT : (qs.take k).map (mailOf t) = T at *
      clear hT
      go_wp2_with fail
      generalize hWA : wr.alloc _ = wm
      have bm : Below wr.heap.size wr wm := by rw [← hWA]; exact below_one _ _
      have hsm : wr.heap.size < wm.heap.size := by rw [← hWA]; simp
      have e0 : wm.cell? ⟨wr.heap.size, 0, none⟩ = some (.int .i64 y.number) := by rw [← hWA]; simp
      have e1 : wm.cell? ⟨wr.heap.size, 1, none⟩ = some (.string y.topic) := by rw [← hWA]; simp
      have e2 : wm.cell? ⟨wr.heap.size, 2, none⟩ = some (.int .i64 y.value) := by rw [← hWA]; simp
      have e4 : wm.cell? ⟨wr.heap.size, 4, none⟩ = some (.int .i64 y.sentAt) := by rw [← hWA]; simp
      clear hWA
      refine (hrLeft y t _ h0 h1 q0 q1 q2 q3).mono ?_
      rintro e w2 ⟨rfl, b2⟩
      have d0 := cell_later b2 e0
      have d1 := cell_later b2 e1
      have d2 := cell_later b2 e2
      have d4 := cell_later b2 e4
      have br2 : Below wr.heap.size wr w2 := bm.trans (b2.mono bm.size)
      have hown2 := own_below hown br2
      have hbr2 : Below w.heap.size w w2 := hbr.trans (br2.mono hbr.size)
      have hs2 := b2.size
      have hsw2 := hbr2.size
      have hm2 : wr.heap.size < w2.heap.size := by omega
      clear b2 bm br2 hown hbr e0 e1 e2 e4
      go_wp2_with (first | (at_builtin; refine wpList_append_own _ rfl _ _ 72 rfl w.heap.size 76 i0 _ 5 48 Tryz.underlying72 hi hz0 hz1 hz2 rfl (by decide) _ _ _ rfl (hown2.alloc _) ⟨w2.heap.size, 0, none⟩ 1 1 (mailCells ⟨y.number, y.topic, y.value, y.sentAt, leftM t y⟩) rfl rfl (cells_new _ _ _) (mail_one _) (by unfold maxLen; omega) (by omega) (by simp; omega) ?_))
      intro v' w3 hown' hgrow _
      have R := grow_row hown2 hbr2 hown' hgrow
      clear hown' hgrow hown2
      go_wp2_with fail
      go_roundw
      case rel => exact ⟨k + 1, by omega, by go_num, by rw [HK.out, HM.out]; exact R.1, R.2⟩
      case measure => simp [intOf]; omega
    · have HK : Hid ((qs.take k).map (mailOf t) = qs.map (mailOf t)) := by show _ = _; rw [List.take_of_length_le (by omega)]
      go_wp2_with fail
      go_ret
      exact ⟨_, rfl, by rw [HK.out] at hown; exact hown, hbr⟩
end Go.Proofs.YtmjdndhfmfjbiaaGreat

/-
  THE BROKER, as it lies: its block, its lists, the bytes of its disk.
-/
namespace Go.Proofs.YtmjdndhfmfjbiaaGreat
open Go.RowKit

structure HAt (w : World) (B : Nat) (x : RefV) (S : RefS) : Prop where
  obj : ∃ cur, w.heap[B]? = some (.cells cur 58 (0, 0))
  room : w.cell? ⟨B, 0, none⟩ = some (.int .i64 S.room)
  done : w.cell? ⟨B, 1, none⟩ = some x.doneV
  time : w.cell? ⟨B, 2, none⟩ = some (.int .i64 S.time)
  pub : w.cell? ⟨B, 3, none⟩ = some (.int .i64 S.pub)
  fil : ∀ a, a < 8 → w.cell? ⟨B, 4 + a * 3, none⟩ = some (x.filV a)
  que : ∀ a, a < 8 → w.cell? ⟨B, 4 + a * 3 + 1, none⟩ = some (x.queV a)
  lost : ∀ a, a < 8 → w.cell? ⟨B, 4 + a * 3 + 2, none⟩ = some (.int .i64 (S.lost a))
  wait : w.cell? ⟨B, 28, none⟩ = some x.waitV

theorem HAt.lt {w : World} {B : Nat} {x : RefV} {S : RefS} (h : HAt w B x S) : B < w.heap.size := World.block_lt_of_cell? _ _ h.room
theorem HAt.free {w : World} {B : Nat} {x : RefV} {S : RefS} (h : HAt w B x S) (o : Nat) : w.frozen? ⟨B, o, none⟩ = false := by
  obtain ⟨cur, hc⟩ := h.obj
  exact frozen_of_row w B o cur _ hc

theorem HAt.upd {P : Nat → Prop} {w w1 : World} {B : Nat} {x : RefV} {S : RefS} (h : HAt w B x S) (k : Upd P w w1) (hs : ¬ P B) : HAt w1 B x S :=
  ⟨by rw [k.block B h.lt hs]; exact h.obj, k.cell h.room hs, k.cell h.done hs, k.cell h.time hs, k.cell h.pub hs, fun a ha => k.cell (h.fil a ha) hs, fun a ha => k.cell (h.que a ha) hs, fun a ha => k.cell (h.lost a ha) hs, k.cell h.wait hs⟩

/-- The broker lies there, whole. -/
structure HRep (w : World) (B : Nat) (x : RefV) (S : RefS) (D : ByteArray) : Prop where
  cells : HAt w B x S
  done : Row w 5 1 x.doneV D.size (Lib.strCells D)
  fil : ∀ a, a < 8 → Row w 9 1 (x.filV a) (S.fil a).length ((S.fil a).map Value.string)
  que : ∀ a, a < 8 → Row w 117 5 (x.queV a) (S.que a).length ((S.que a).flatMap msgCells)
  wait : Row w 80 5 x.waitV S.wait.length (S.wait.flatMap waitCells)
  filApart : ∀ a b, a < 8 → b < 8 → a ≠ b → Apart (x.filV a) (x.filV b)
  queApart : ∀ a b, a < 8 → b < 8 → a ≠ b → Apart (x.queV a) (x.queV b)

/-- The blocks that it takes up. -/
def HFP (B : Nat) (x : RefV) (k : Nat) : Prop :=
  k = B ∨ x.doneV.ownBlock = some k ∨ x.waitV.ownBlock = some k ∨ ∃ a, a < 8 ∧ ((x.filV a).ownBlock = some k ∨ (x.queV a).ownBlock = some k)

theorem HRep.lt {w : World} {B : Nat} {x : RefV} {S : RefS} {D : ByteArray} (h : HRep w B x S D) {k : Nat} (hk : HFP B x k) : k < w.heap.size := by
  rcases hk with rfl | hk | hk | ⟨a, ha, hk | hk⟩
  · exact h.cells.lt
  · exact h.done.lt hk
  · exact h.wait.lt hk
  · exact (h.fil a ha).lt hk
  · exact (h.que a ha).lt hk

/-- It stays while nothing of it is touched. -/
theorem HRep.upd {P : Nat → Prop} {w w1 : World} {B : Nat} {x : RefV} {S : RefS} {D : ByteArray} (h : HRep w B x S D) (k : Upd P w w1) (hs : ∀ i, HFP B x i → ¬ P i) : HRep w1 B x S D :=
  ⟨h.cells.upd k (hs B (.inl rfl)), h.done.upd k fun g hg => hs g (.inr (.inl hg)), fun a ha => (h.fil a ha).upd k fun g hg => hs g (.inr (.inr (.inr ⟨a, ha, .inl hg⟩))),
    fun a ha => (h.que a ha).upd k fun g hg => hs g (.inr (.inr (.inr ⟨a, ha, .inr hg⟩))), h.wait.upd k fun g hg => hs g (.inr (.inr (.inl hg))), h.filApart, h.queApart⟩

theorem HRep.below {w w1 : World} {B : Nat} {x : RefV} {S : RefS} {D : ByteArray} (h : HRep w B x S D) (k : Below w.heap.size w w1) : HRep w1 B x S D :=
  h.upd (P := fun _ => False) (Upd.of_below k) (fun _ _ f => f)

/-- A step: the world lies there anew; only its own blocks were touched, and it takes up those and new ones. -/
def HStep (w : World) (B : Nat) (x : RefV) (w1 : World) (S1 : RefS) (D : ByteArray) : Prop :=
  ∃ x1, HRep w1 B x1 S1 D ∧ Upd (HFP B x) w w1 ∧ ∀ k, HFP B x1 k → HFP B x k ∨ w.heap.size ≤ k

theorem HStep.refl {w : World} {B : Nat} {x : RefV} {S : RefS} {D : ByteArray} (h : HRep w B x S D) : HStep w B x w S D := ⟨x, h, Upd.refl _ _, fun _ hk => .inl hk⟩

theorem HStep.then {w w1 w2 : World} {B : Nat} {x x1 : RefV} {S2 : RefS} {D : ByteArray} (hu : Upd (HFP B x) w w1) (hf : ∀ k, HFP B x1 k → HFP B x k ∨ w.heap.size ≤ k) (h2 : HStep w1 B x1 w2 S2 D) : HStep w B x w2 S2 D := by
  obtain ⟨x2, r, u, f⟩ := h2
  refine ⟨x2, r, hu.trans u (fun i hi t => ?_), fun k hk => ?_⟩
  · rcases hf i t with a | a
    · exact a
    · omega
  · rcases f k hk with a | a
    · exact hf k a
    · exact .inr (Nat.le_trans hu.size a)

theorem HStep.below {w w1 w2 : World} {B : Nat} {x : RefV} {S1 : RefS} {D : ByteArray} (h : HStep w B x w1 S1 D) (k : Below w1.heap.size w1 w2) : HStep w B x w2 S1 D := by
  obtain ⟨x1, r, u, f⟩ := h
  exact ⟨x1, r.below k, u.below k, f⟩

theorem HAt.store {w : World} {B : Nat} {x x1 : RefV} {S S1 : RefS} (h : HAt w B x S) (o : Nat) (v : Value) {old : Value} (ho : w.cell? ⟨B, o, none⟩ = some old)
    (e0 : (if o = 0 then some v else some (.int .i64 S.room)) = some (.int .i64 S1.room)) (e1 : (if o = 1 then v else x.doneV) = x1.doneV) (e2 : (if o = 2 then v else .int .i64 S.time) = .int .i64 S1.time)
    (e3 : (if o = 3 then v else .int .i64 S.pub) = .int .i64 S1.pub) (e4 : ∀ a, a < 8 → (if o = 4 + a * 3 then v else x.filV a) = x1.filV a) (e5 : ∀ a, a < 8 → (if o = 4 + a * 3 + 1 then v else x.queV a) = x1.queV a)
    (e6 : ∀ a, a < 8 → (if o = 4 + a * 3 + 2 then v else .int .i64 (S.lost a)) = .int .i64 (S1.lost a)) (e7 : (if o = 28 then v else x.waitV) = x1.waitV) : HAt (w.setCell ⟨B, o, none⟩ v) B x1 S1 := by
  have key : ∀ p u, w.cell? ⟨B, p, none⟩ = some u → (w.setCell ⟨B, o, none⟩ v).cell? ⟨B, p, none⟩ = some (if o = p then v else u) := by
    intro p u hp
    by_cases hop : o = p
    · subst hop
      rw [if_pos rfl]; exact World.cell?_setCell_same _ _ _ ho
    · rw [if_neg hop, World.cell?_setCell_other _ _ _ _ (by simp)]; exact hp
  refine ⟨?_, ?_, ?_, ?_, ?_, ?_, ?_, ?_, ?_⟩
  · obtain ⟨cur, hc⟩ := h.obj
    exact ⟨_, heap_setCell_row w B o cur _ v hc⟩
  · rw [key 0 _ h.room, ← e0]; split <;> rfl
  · rw [key 1 _ h.done, ← e1]
  · rw [key 2 _ h.time, ← e2]
  · rw [key 3 _ h.pub, ← e3]
  · intro a ha; rw [key _ _ (h.fil a ha), ← e4 a ha]
  · intro a ha; rw [key _ _ (h.que a ha), ← e5 a ha]
  · intro a ha; rw [key _ _ (h.lost a ha), ← e6 a ha]
  · rw [key 28 _ h.wait, ← e7]

/-- Storing into the broker's own block touches no row of it. -/
theorem Row.hstore {w : World} {B o : Nat} {u : Value} {e : TypeId} {size : Nat} {v : Value} {n : Nat} {xs : List Value} (h : Row w e size v n xs) (hb : ∃ cur, w.heap[B]? = some (.cells cur 58 (0, 0))) (hne : 58 ≠ e) : Row (w.setCell ⟨B, o, none⟩ u) e size v n xs :=
  h.upd (S := fun k => k = B) ((Upd.refl (fun k => k = B) w).setCell (p := ⟨B, o, none⟩) (fun _ => rfl) u) fun g hg hgb => by
    subst hgb
    exact typed_ne hb (h.typed hg) hne rfl

/-- The blocks of the broker's lists are apart by what they hold. -/
theorem HRep.apart {w : World} {B : Nat} {x : RefV} {S : RefS} {D : ByteArray} (h : HRep w B x S D) :
    (∀ g, x.doneV.ownBlock = some g → g ≠ B) ∧ (∀ g, x.waitV.ownBlock = some g → g ≠ B) ∧ (∀ a g, a < 8 → (x.filV a).ownBlock = some g → g ≠ B) ∧ (∀ a g, a < 8 → (x.queV a).ownBlock = some g → g ≠ B) ∧
    Apart x.doneV x.waitV ∧ (∀ a, a < 8 → Apart x.doneV (x.filV a)) ∧ (∀ a, a < 8 → Apart x.doneV (x.queV a)) ∧ (∀ a, a < 8 → Apart x.waitV (x.filV a)) ∧ (∀ a, a < 8 → Apart x.waitV (x.queV a)) ∧
    (∀ a b, a < 8 → b < 8 → Apart (x.filV a) (x.queV b)) :=
  ⟨fun _ hg => typed_ne (h.done.typed hg) h.cells.obj (by decide), fun _ hg => typed_ne (h.wait.typed hg) h.cells.obj (by decide), fun a _ ha hg => typed_ne ((h.fil a ha).typed hg) h.cells.obj (by decide), fun a _ ha hg => typed_ne ((h.que a ha).typed hg) h.cells.obj (by decide),
    fun _ hu hv => typed_ne (h.done.typed hu) (h.wait.typed hv) (by decide) rfl, fun a ha _ hu hv => typed_ne (h.done.typed hu) ((h.fil a ha).typed hv) (by decide) rfl,
    fun a ha _ hu hv => typed_ne (h.done.typed hu) ((h.que a ha).typed hv) (by decide) rfl, fun a ha _ hu hv => typed_ne (h.wait.typed hu) ((h.fil a ha).typed hv) (by decide) rfl,
    fun a ha _ hu hv => typed_ne (h.wait.typed hu) ((h.que a ha).typed hv) (by decide) rfl, fun a b ha hb _ hu hv => typed_ne ((h.fil a ha).typed hu) ((h.que b hb).typed hv) (by decide) rfl⟩

/-- One list is turned: a client's filters. -/
theorem HRep.setFil {w w1 : World} {B : Nat} {x : RefV} {S : RefS} {D : ByteArray} (h : HRep w B x S D) {a : Nat} (ha : a < 8) {v : Value} {l : List ByteArray}
    (u : Upd (fun k => (x.filV a).ownBlock = some k) w w1) (r : Row w1 9 1 v l.length (l.map Value.string)) (f : Fresh w (x.filV a) v) :
    HStep w B x (w1.setCell ⟨B, 4 + a * 3, none⟩ v) { S with fil := setAt S.fil a l } D := by
  obtain ⟨p1, p2, p3, p4, p5, p6, p7, p8, p9, p10⟩ := h.apart
  have hc := h.cells.upd u (fun e => p3 a B ha e rfl)
  refine ⟨{ x with filV := setAt x.filV a v }, ⟨?_, ?_, ?_, ?_, ?_, ?_, ?_⟩, ?_, ?_⟩
  · refine hc.store (4 + a * 3) v (hc.fil a ha) ?_ ?_ ?_ ?_ ?_ ?_ ?_ ?_
    · rw [if_neg (by omega)]
    · rw [if_neg (by omega)]
    · rw [if_neg (by omega)]
    · rw [if_neg (by omega)]
    · intro b _; simp only [setAt]; by_cases e : b = a
      · rw [if_pos (by omega), if_pos e]
      · rw [if_neg (by omega), if_neg e]
    · intro b _; rw [if_neg (by omega)]
    · intro b _; rw [if_neg (by omega)]
    · rw [if_neg (by omega)]
  · exact (h.done.upd u fun g hg e => p6 a ha g hg e).hstore hc.obj (by decide)
  · intro b hb
    simp only [setAt]
    by_cases e : b = a
    · simp only [if_pos e]; exact r.hstore hc.obj (by decide)
    · simp only [if_neg e]
      exact ((h.fil b hb).upd u fun g hg e2 => h.filApart b a hb ha e g hg e2).hstore hc.obj (by decide)
  · exact fun b hb => ((h.que b hb).upd u fun g hg e => p10 a b ha hb g e hg).hstore hc.obj (by decide)
  · exact (h.wait.upd u fun g hg e => p8 a ha g hg e).hstore hc.obj (by decide)
  · intro b c hb hc' hne
    simp only [setAt]
    by_cases e : b = a
    · rw [if_pos e, if_neg (by omega)]
      exact f.apart (h.filApart a c ha hc' (by omega)) (fun g hg => (h.fil c hc').lt hg)
    · by_cases e2 : c = a
      · rw [if_neg e, if_pos e2]
        exact (f.apart (h.filApart a b ha hb (by omega)) (fun g hg => (h.fil b hb).lt hg)).symm
      · rw [if_neg e, if_neg e2]; exact h.filApart b c hb hc' hne
  · exact h.queApart
  · exact (u.mono fun k hk => .inr (.inr (.inr ⟨a, ha, .inl hk⟩))).setCell (p := ⟨B, 4 + a * 3, none⟩) (fun _ => .inl rfl) v
  · rintro k (rfl | hk | hk | ⟨b, hb, hk | hk⟩)
    · exact .inl (.inl rfl)
    · exact .inl (.inr (.inl hk))
    · exact .inl (.inr (.inr (.inl hk)))
    · simp only [setAt] at hk
      by_cases e : b = a
      · rw [if_pos e] at hk
        rcases f k hk with o | o
        · exact .inl (.inr (.inr (.inr ⟨a, ha, .inl o⟩)))
        · exact .inr o
      · rw [if_neg e] at hk
        exact .inl (.inr (.inr (.inr ⟨b, hb, .inl hk⟩)))
    · exact .inl (.inr (.inr (.inr ⟨b, hb, .inr hk⟩)))

theorem HRep.setQue {w w1 : World} {B : Nat} {x : RefV} {S : RefS} {D : ByteArray} (h : HRep w B x S D) {a : Nat} (ha : a < 8) {v : Value} {l : List SentD}
    (u : Upd (fun k => (x.queV a).ownBlock = some k) w w1) (r : Row w1 117 5 v l.length (l.flatMap msgCells)) (f : Fresh w (x.queV a) v) :
    HStep w B x (w1.setCell ⟨B, 4 + a * 3 + 1, none⟩ v) { S with que := setAt S.que a l } D := by
  obtain ⟨p1, p2, p3, p4, p5, p6, p7, p8, p9, p10⟩ := h.apart
  have hc := h.cells.upd u (fun e => p4 a B ha e rfl)
  refine ⟨{ x with queV := setAt x.queV a v }, ⟨?_, ?_, ?_, ?_, ?_, ?_, ?_⟩, ?_, ?_⟩
  · refine hc.store (4 + a * 3 + 1) v (hc.que a ha) ?_ ?_ ?_ ?_ ?_ ?_ ?_ ?_
    · rw [if_neg (by omega)]
    · rw [if_neg (by omega)]
    · rw [if_neg (by omega)]
    · rw [if_neg (by omega)]
    · intro b _; rw [if_neg (by omega)]
    · intro b _; simp only [setAt]; by_cases e : b = a
      · rw [if_pos (by omega), if_pos e]
      · rw [if_neg (by omega), if_neg e]
    · intro b _; rw [if_neg (by omega)]
    · rw [if_neg (by omega)]
  · exact (h.done.upd u fun g hg e => p7 a ha g hg e).hstore hc.obj (by decide)
  · exact fun b hb => ((h.fil b hb).upd u fun g hg e => p10 b a hb ha g hg e).hstore hc.obj (by decide)
  · intro b hb
    simp only [setAt]
    by_cases e : b = a
    · simp only [if_pos e]; exact r.hstore hc.obj (by decide)
    · simp only [if_neg e]
      exact ((h.que b hb).upd u fun g hg e2 => h.queApart b a hb ha e g hg e2).hstore hc.obj (by decide)
  · exact (h.wait.upd u fun g hg e => p9 a ha g hg e).hstore hc.obj (by decide)
  · exact h.filApart
  · intro b c hb hc' hne
    simp only [setAt]
    by_cases e : b = a
    · rw [if_pos e, if_neg (by omega)]
      exact f.apart (h.queApart a c ha hc' (by omega)) (fun g hg => (h.que c hc').lt hg)
    · by_cases e2 : c = a
      · rw [if_neg e, if_pos e2]
        exact (f.apart (h.queApart a b ha hb (by omega)) (fun g hg => (h.que b hb).lt hg)).symm
      · rw [if_neg e, if_neg e2]; exact h.queApart b c hb hc' hne
  · exact (u.mono fun k hk => .inr (.inr (.inr ⟨a, ha, .inr hk⟩))).setCell (p := ⟨B, 4 + a * 3 + 1, none⟩) (fun _ => .inl rfl) v
  · rintro k (rfl | hk | hk | ⟨b, hb, hk | hk⟩)
    · exact .inl (.inl rfl)
    · exact .inl (.inr (.inl hk))
    · exact .inl (.inr (.inr (.inl hk)))
    · exact .inl (.inr (.inr (.inr ⟨b, hb, .inl hk⟩)))
    · simp only [setAt] at hk
      by_cases e : b = a
      · rw [if_pos e] at hk
        rcases f k hk with o | o
        · exact .inl (.inr (.inr (.inr ⟨a, ha, .inr o⟩)))
        · exact .inr o
      · rw [if_neg e] at hk
        exact .inl (.inr (.inr (.inr ⟨b, hb, .inr hk⟩)))

theorem HRep.setDone {w w1 : World} {B : Nat} {x : RefV} {S : RefS} {D : ByteArray} (h : HRep w B x S D) {v : Value} {D1 : ByteArray}
    (u : Upd (fun k => x.doneV.ownBlock = some k) w w1) (r : Row w1 5 1 v D1.size (Lib.strCells D1)) (f : Fresh w x.doneV v) :
    HStep w B x (w1.setCell ⟨B, 1, none⟩ v) S D1 := by
  obtain ⟨p1, p2, p3, p4, p5, p6, p7, p8, p9, p10⟩ := h.apart
  have hc := h.cells.upd u (fun e => p1 B e rfl)
  refine ⟨{ x with doneV := v }, ⟨?_, ?_, ?_, ?_, ?_, h.filApart, h.queApart⟩, ?_, ?_⟩
  · refine hc.store 1 v hc.done ?_ ?_ ?_ ?_ ?_ ?_ ?_ ?_
    · rw [if_neg (by omega)]
    · rw [if_pos rfl]
    · rw [if_neg (by omega)]
    · rw [if_neg (by omega)]
    · intro b _; rw [if_neg (by omega)]
    · intro b _; rw [if_neg (by omega)]
    · intro b _; rw [if_neg (by omega)]
    · rw [if_neg (by omega)]
  · exact r.hstore hc.obj (by decide)
  · exact fun b hb => ((h.fil b hb).upd u fun g hg e => p6 b hb g e hg).hstore hc.obj (by decide)
  · exact fun b hb => ((h.que b hb).upd u fun g hg e => p7 b hb g e hg).hstore hc.obj (by decide)
  · exact (h.wait.upd u fun g hg e => p5 g e hg).hstore hc.obj (by decide)
  · exact (u.mono fun k hk => .inr (.inl hk)).setCell (p := ⟨B, 1, none⟩) (fun _ => .inl rfl) v
  · rintro k (rfl | hk | hk | ⟨b, hb, hk | hk⟩)
    · exact .inl (.inl rfl)
    · rcases f k hk with o | o
      · exact .inl (.inr (.inl o))
      · exact .inr o
    · exact .inl (.inr (.inr (.inl hk)))
    · exact .inl (.inr (.inr (.inr ⟨b, hb, .inl hk⟩)))
    · exact .inl (.inr (.inr (.inr ⟨b, hb, .inr hk⟩)))

theorem HRep.setWait {w w1 : World} {B : Nat} {x : RefV} {S : RefS} {D : ByteArray} (h : HRep w B x S D) {v : Value} {l : List WaitD}
    (u : Upd (fun k => x.waitV.ownBlock = some k) w w1) (r : Row w1 80 5 v l.length (l.flatMap waitCells)) (f : Fresh w x.waitV v) :
    HStep w B x (w1.setCell ⟨B, 28, none⟩ v) { S with wait := l } D := by
  obtain ⟨p1, p2, p3, p4, p5, p6, p7, p8, p9, p10⟩ := h.apart
  have hc := h.cells.upd u (fun e => p2 B e rfl)
  refine ⟨{ x with waitV := v }, ⟨?_, ?_, ?_, ?_, ?_, h.filApart, h.queApart⟩, ?_, ?_⟩
  · refine hc.store 28 v hc.wait ?_ ?_ ?_ ?_ ?_ ?_ ?_ ?_
    · rw [if_neg (by omega)]
    · rw [if_neg (by omega)]
    · rw [if_neg (by omega)]
    · rw [if_neg (by omega)]
    · intro b _; rw [if_neg (by omega)]
    · intro b _; rw [if_neg (by omega)]
    · intro b _; rw [if_neg (by omega)]
    · rw [if_pos rfl]
  · exact (h.done.upd u fun g hg e => p5 g hg e).hstore hc.obj (by decide)
  · exact fun b hb => ((h.fil b hb).upd u fun g hg e => p8 b hb g e hg).hstore hc.obj (by decide)
  · exact fun b hb => ((h.que b hb).upd u fun g hg e => p9 b hb g e hg).hstore hc.obj (by decide)
  · exact r.hstore hc.obj (by decide)
  · exact (u.mono fun k hk => .inr (.inr (.inl hk))).setCell (p := ⟨B, 28, none⟩) (fun _ => .inl rfl) v
  · rintro k (rfl | hk | hk | ⟨b, hb, hk | hk⟩)
    · exact .inl (.inl rfl)
    · exact .inl (.inr (.inl hk))
    · rcases f k hk with o | o
      · exact .inl (.inr (.inr (.inl o)))
      · exact .inr o
    · exact .inl (.inr (.inr (.inr ⟨b, hb, .inl hk⟩)))
    · exact .inl (.inr (.inr (.inr ⟨b, hb, .inr hk⟩)))

/-- A number of it is turned. -/
theorem HRep.setNum {w : World} {B : Nat} {x : RefV} {S S1 : RefS} {D : ByteArray} (h : HRep w B x S D) (o : Nat) (n : Int) (hc : HAt (w.setCell ⟨B, o, none⟩ (.int .i64 n)) B x S1)
    (e2 : S1.fil = S.fil) (e3 : S1.que = S.que) (e4 : S1.wait = S.wait) : HStep w B x (w.setCell ⟨B, o, none⟩ (.int .i64 n)) S1 D :=
  ⟨x, ⟨hc, h.done.hstore h.cells.obj (by decide), fun a ha => by rw [e2]; exact (h.fil a ha).hstore h.cells.obj (by decide), fun a ha => by rw [e3]; exact (h.que a ha).hstore h.cells.obj (by decide),
    by rw [e4]; exact h.wait.hstore h.cells.obj (by decide), h.filApart, h.queApart⟩, (Upd.refl _ _).setCell (p := ⟨B, o, none⟩) (fun _ => .inl rfl) _, fun _ hk => .inl hk⟩

theorem HRep.setTime {w : World} {B : Nat} {x : RefV} {S : RefS} {D : ByteArray} (h : HRep w B x S D) (n : Int) : HStep w B x (w.setCell ⟨B, 2, none⟩ (.int .i64 n)) { S with time := n } D :=
  h.setNum 2 n (h.cells.store 2 _ h.cells.time (by rw [if_neg (by omega)]) (by rw [if_neg (by omega)]) (by rw [if_pos rfl]) (by rw [if_neg (by omega)]) (fun b _ => by rw [if_neg (by omega)]) (fun b _ => by rw [if_neg (by omega)]) (fun b _ => by rw [if_neg (by omega)]) (by rw [if_neg (by omega)])) rfl rfl rfl
theorem HRep.setPub {w : World} {B : Nat} {x : RefV} {S : RefS} {D : ByteArray} (h : HRep w B x S D) (n : Int) : HStep w B x (w.setCell ⟨B, 3, none⟩ (.int .i64 n)) { S with pub := n } D :=
  h.setNum 3 n (h.cells.store 3 _ h.cells.pub (by rw [if_neg (by omega)]) (by rw [if_neg (by omega)]) (by rw [if_neg (by omega)]) (by rw [if_pos rfl]) (fun b _ => by rw [if_neg (by omega)]) (fun b _ => by rw [if_neg (by omega)]) (fun b _ => by rw [if_neg (by omega)]) (by rw [if_neg (by omega)])) rfl rfl rfl
theorem HRep.setRoom {w : World} {B : Nat} {x : RefV} {S : RefS} {D : ByteArray} (h : HRep w B x S D) (n : Int) : HStep w B x (w.setCell ⟨B, 0, none⟩ (.int .i64 n)) { S with room := n } D :=
  h.setNum 0 n (h.cells.store 0 _ h.cells.room (by rw [if_pos rfl]) (by rw [if_neg (by omega)]) (by rw [if_neg (by omega)]) (by rw [if_neg (by omega)]) (fun b _ => by rw [if_neg (by omega)]) (fun b _ => by rw [if_neg (by omega)]) (fun b _ => by rw [if_neg (by omega)]) (by rw [if_neg (by omega)])) rfl rfl rfl
theorem HRep.setLost {w : World} {B : Nat} {x : RefV} {S : RefS} {D : ByteArray} (h : HRep w B x S D) {a : Nat} (ha : a < 8) (n : Int) : HStep w B x (w.setCell ⟨B, 4 + a * 3 + 2, none⟩ (.int .i64 n)) { S with lost := setAt S.lost a n } D :=
  h.setNum _ n (h.cells.store _ _ (h.cells.lost a ha) (by rw [if_neg (by omega)]) (by rw [if_neg (by omega)]) (by rw [if_neg (by omega)]) (by rw [if_neg (by omega)]) (fun b _ => by rw [if_neg (by omega)]) (fun b _ => by rw [if_neg (by omega)])
    (fun b _ => by
      simp only [setAt]
      by_cases e : b = a
      · rw [if_pos (by omega), if_pos e]
      · rw [if_neg (by omega), if_neg e]) (by rw [if_neg (by omega)])) rfl rfl rfl
end Go.Proofs.YtmjdndhfmfjbiaaGreat
