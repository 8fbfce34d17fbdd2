import Derived.Test.YtmjdndhfmfjbiabM03
import Derived.Laws.ResultCell
import Derived.Test.YtmjdndhfmfjbiabM02
namespace Go.Proofs.Ytmjdndhfmfjbiab
open Go.RowKit

/-- What stands in a text. -/
def rawR (t : ByteArray) : RecD := givenM (decM t)
def isRec (t : ByteArray) : Bool := (rawR t).call != 0 && (encM (rawR t)).toList == t.toList

theorem val_le2 (s : ByteArray) (h : s.size ≤ 6) : 0 ≤ valA s ∧ valA s ≤ 281474976710656 := by
  have h1 := val_bd s.data.toList
  have h2 : s.data.toList.length ≤ 6 := by rw [← ba_size]; exact h
  have h3 : (256 : Nat) ^ s.data.toList.length ≤ 256 ^ 6 := Nat.pow_le_pow_right (by omega) h2
  have h4 : ((256 ^ s.data.toList.length : Nat) : Int) = (256 : Int) ^ s.data.toList.length := by simp [Int.natCast_pow]
  have h5 : (256 : Nat) ^ 6 = 281474976710656 := by decide
  unfold valA
  omega
theorem ext_size (t : ByteArray) (a b : Nat) : (t.extract a b).size ≤ b - a := by rw [ba_size, ba_extract, List.length_drop, List.length_take]; omega
theorem unfill_size (s : ByteArray) : (unfillM s).size ≤ s.size := by rw [unfillM, ba_size, ba_extract, List.length_drop, List.length_take, ← ba_size]; omega
theorem given_small {r : RecD} (h : Small r) : Small (givenM r) := by
  have z : (0 : Int) ≤ 0 ∧ (0 : Int) ≤ 4611686018427387904 := by omega
  have zt : (⟨#[]⟩ : ByteArray).size ≤ 15 := Nat.zero_le _
  unfold givenM
  split
  · exact ⟨⟨by show (0 : Int) ≤ 1; omega, by show (1 : Int) ≤ _; omega⟩, h.client, h.text, z, z, z, z, z⟩
  split
  · exact ⟨⟨by show (0 : Int) ≤ 2; omega, by show (2 : Int) ≤ _; omega⟩, h.client, h.text, z, z, z, z, z⟩
  split
  · exact ⟨⟨by show (0 : Int) ≤ 3; omega, by show (3 : Int) ≤ _; omega⟩, z, h.text, z, h.value, h.delay, h.life, z⟩
  split
  · exact ⟨⟨by show (0 : Int) ≤ 4; omega, by show (4 : Int) ≤ _; omega⟩, z, zt, h.number, z, z, z, z⟩
  split
  · exact ⟨⟨by show (0 : Int) ≤ 5; omega, by show (5 : Int) ≤ _; omega⟩, z, zt, h.number, z, h.delay, z, z⟩
  split
  · exact ⟨⟨by show (0 : Int) ≤ 6; omega, by show (6 : Int) ≤ _; omega⟩, z, zt, z, z, z, z, h.to⟩
  split
  · exact ⟨⟨by show (0 : Int) ≤ 7; omega, by show (7 : Int) ≤ _; omega⟩, h.client, zt, h.number, z, z, z, z⟩
  · exact ⟨z, z, zt, z, z, z, z, z⟩
theorem raw_small (t : ByteArray) : Small (rawR t) := by
  have big : ∀ a b, b - a ≤ 6 → 0 ≤ valA (t.extract a b) ∧ valA (t.extract a b) ≤ 4611686018427387904 := fun a b h => by
    have h1 := val_le2 (t.extract a b) (Nat.le_trans (ext_size t a b) h)
    omega
  have hx : (unfillM (t.extract 2 17)).size ≤ 15 := Nat.le_trans (unfill_size _) (ext_size t 2 17)
  have b0 := big 0 1 (by omega)
  have b1 := big 1 2 (by omega)
  have b3 := big 17 19 (by omega)
  have b4 := big 19 23 (by omega)
  have b5 := big 23 29 (by omega)
  have b6 := big 29 35 (by omega)
  have b7 := big 35 41 (by omega)
  unfold rawR
  refine given_small ?_
  unfold decM
  generalize valA (t.extract 0 1) = v0 at *
  generalize valA (t.extract 1 2) = v1 at *
  generalize valA (t.extract 17 19) = v3 at *
  generalize valA (t.extract 19 23) = v4 at *
  generalize valA (t.extract 23 29) = v5 at *
  generalize valA (t.extract 29 35) = v6 at *
  generalize valA (t.extract 35 41) = v7 at *
  exact ⟨b0, b1, hx, b3, b4, b5, b6, b7⟩

/-- What Read answers. -/
def readV (t : ByteArray) : Value := .tuple #[recV (if isRec t then rawR t else nilRec), .bool (isRec t)]
theorem readV_not {t : ByteArray} (h : isRec t = false) : readV t = .tuple #[recV nilRec, .bool false] := by unfold readV; rw [h]; rfl
theorem readV_is {t : ByteArray} (h : isRec t = true) : readV t = .tuple #[recV (rawR t), .bool true] := by unfold readV; rw [h]; rfl
theorem below8 {B g : Nat} {w w2 : World} (h : Below B w w2) (hg : B ≤ g) (a0 a1 a2 a3 a4 a5 a6 a7 : Value) : Below B w ((((((((w2.setCell ⟨g, 0, none⟩ a0).setCell ⟨g, 1, none⟩ a1).setCell ⟨g, 2, none⟩ a2).setCell ⟨g, 3, none⟩ a3).setCell ⟨g, 4, none⟩ a4).setCell ⟨g, 5, none⟩ a5).setCell ⟨g, 6, none⟩ a6).setCell ⟨g, 7, none⟩ a7) :=
  (((((((h.setCell (p := ⟨g, 0, none⟩) hg a0).setCell (p := ⟨g, 1, none⟩) hg a1).setCell (p := ⟨g, 2, none⟩) hg a2).setCell (p := ⟨g, 3, none⟩) hg a3).setCell (p := ⟨g, 4, none⟩) hg a4).setCell (p := ⟨g, 5, none⟩) hg a5).setCell (p := ⟨g, 6, none⟩) hg a6).setCell (p := ⟨g, 7, none⟩) hg a7
def ZeroAt (w : World) (g : Nat) : Prop := w.heap[g]? = some (.cells #[.int .i64 0, .int .i64 0, .string ⟨#[]⟩, .int .i64 0, .int .i64 0, .int .i64 0, .int .i64 0, .int .i64 0] 102 (0, 0))
theorem zero8 {w : World} {g : Nat} (h : ZeroAt w g) : w.cell? ⟨g, 0, none⟩ = some (.int .i64 0) ∧ w.cell? ⟨g, 1, none⟩ = some (.int .i64 0) ∧ w.cell? ⟨g, 2, none⟩ = some (.string ⟨#[]⟩) ∧ w.cell? ⟨g, 3, none⟩ = some (.int .i64 0) ∧ w.cell? ⟨g, 4, none⟩ = some (.int .i64 0) ∧
    w.cell? ⟨g, 5, none⟩ = some (.int .i64 0) ∧ w.cell? ⟨g, 6, none⟩ = some (.int .i64 0) ∧ w.cell? ⟨g, 7, none⟩ = some (.int .i64 0) ∧ ∀ o, w.frozen? ⟨g, o, none⟩ = false :=
  ⟨cell_of_row w g 0 _ _ _ h, cell_of_row w g 1 _ _ _ h, cell_of_row w g 2 _ _ _ h, cell_of_row w g 3 _ _ _ h, cell_of_row w g 4 _ _ _ h, cell_of_row w g 5 _ _ _ h, cell_of_row w g 6 _ _ _ h, cell_of_row w g 7 _ _ _ h, fun o => frozen_of_row w g o _ _ h⟩

set_option maxRecDepth 100000 in
set_option maxHeartbeats 2000000 in
theorem recRead (t : ByteArray) (w : World) (ht : t.size = 42) : Calls Try.prog 83 #[.string t] w fun e w' => e = .returned (readV t) ∧ Below w.heap.size w w' := by
  go_enter Try.func83, Try.ntmps83
  go_wp2_with fail
  refine (recNumberOf (t.extract 0 1) _ (Nat.le_trans (ext_size _ _ _) (by omega))).mono ?_
  rintro e w1 ⟨rfl, rfl⟩
  go_wp2_with fail
  refine (recNumberOf (t.extract 1 2) _ (Nat.le_trans (ext_size _ _ _) (by omega))).mono ?_
  rintro e w1 ⟨rfl, rfl⟩
  go_wp2_with fail
  refine (recUnfilled (t.extract 2 17) _ (Nat.le_trans (ext_size _ _ _) (by omega))).mono ?_
  rintro e w1 ⟨rfl, rfl⟩
  go_wp2_with fail
  refine (recNumberOf (t.extract 17 19) _ (Nat.le_trans (ext_size _ _ _) (by omega))).mono ?_
  rintro e w1 ⟨rfl, rfl⟩
  go_wp2_with fail
  refine (recNumberOf (t.extract 19 23) _ (Nat.le_trans (ext_size _ _ _) (by omega))).mono ?_
  rintro e w1 ⟨rfl, rfl⟩
  go_wp2_with fail
  refine (recNumberOf (t.extract 23 29) _ (Nat.le_trans (ext_size _ _ _) (by omega))).mono ?_
  rintro e w1 ⟨rfl, rfl⟩
  go_wp2_with fail
  refine (recNumberOf (t.extract 29 35) _ (Nat.le_trans (ext_size _ _ _) (by omega))).mono ?_
  rintro e w1 ⟨rfl, rfl⟩
  go_wp2_with fail
  refine (recNumberOf (t.extract 35 41) _ (Nat.le_trans (ext_size _ _ _) (by omega))).mono ?_
  rintro e w1 ⟨rfl, rfl⟩
  go_wp2_with fail
  generalize hWA : (w.alloc _).alloc _ = wa
  have hbA : Below w.heap.size w wa := by rw [← hWA]; exact ((Below.refl _ _).alloc (Nat.le_refl _) _).alloc (by simp) _
  have hsA : w.heap.size < wa.heap.size := by rw [← hWA]; simp; omega
  have HZ : Hid (ZeroAt wa w.heap.size) := by
    show _ = _
    rw [← hWA, heap_alloc_old _ _ (by simp)]
    exact heap_alloc_new w _
  clear hWA
  refine (recGiven (decM t) _).mono ?_
  rintro e w1 ⟨rfl, hb1⟩
  have HR : Hid (givenM (decM t) = rawR t) := rfl
  rw [HR.out]
  have HB1 : Hid (Below w.heap.size w w1) := hbA.trans (hb1.mono hbA.size)
  have HZ1 : Hid (ZeroAt w1 w.heap.size) := (hb1.block _ hsA).trans HZ.out
  have hs1 : w.heap.size < w1.heap.size := Nat.lt_of_lt_of_le hsA hb1.size
  have hsm := raw_small t
  have HSM : Hid (Small (rawR t)) := hsm
  have HIS : Hid (isRec t = ((rawR t).call != 0 && (encM (rawR t)).toList == t.toList)) := rfl
  clear hb1 HZ hsA hbA hsm
  clear HR
  have HRD : Hid (∀ r, rawR t = r → isRec t = true → readV t = .tuple #[recV r, .bool true]) := fun r e h => by rw [readV_is h, e]
  generalize rawR t = r at *
  cases hc : (r.call == 0)
  · go_wp2_with fail
    refine (recWrite r _ HSM.out).mono ?_
    rintro e w2 ⟨rfl, hb2⟩
    have HB2 : Hid (Below w.heap.size w w2) := (HB1.out.alloc (by omega) _).trans (hb2.mono (by simp; omega))
    have HZ2 : Hid (ZeroAt w2 w.heap.size) := (hb2.block _ (by simp; omega)).trans ((heap_alloc_old w1 _ hs1).trans HZ1.out)
    have hr0 := cell_later hb2 (cells_new w1 [.int .i64 r.call, .int .i64 r.client, .string r.text, .int .i64 r.number, .int .i64 r.value, .int .i64 r.delay, .int .i64 r.life, .int .i64 r.to] 102 0 _ rfl)
    have hr1 := cell_later hb2 (cells_new w1 [.int .i64 r.call, .int .i64 r.client, .string r.text, .int .i64 r.number, .int .i64 r.value, .int .i64 r.delay, .int .i64 r.life, .int .i64 r.to] 102 1 _ rfl)
    have hr2 := cell_later hb2 (cells_new w1 [.int .i64 r.call, .int .i64 r.client, .string r.text, .int .i64 r.number, .int .i64 r.value, .int .i64 r.delay, .int .i64 r.life, .int .i64 r.to] 102 2 _ rfl)
    have hr3 := cell_later hb2 (cells_new w1 [.int .i64 r.call, .int .i64 r.client, .string r.text, .int .i64 r.number, .int .i64 r.value, .int .i64 r.delay, .int .i64 r.life, .int .i64 r.to] 102 3 _ rfl)
    have hr4 := cell_later hb2 (cells_new w1 [.int .i64 r.call, .int .i64 r.client, .string r.text, .int .i64 r.number, .int .i64 r.value, .int .i64 r.delay, .int .i64 r.life, .int .i64 r.to] 102 4 _ rfl)
    have hr5 := cell_later hb2 (cells_new w1 [.int .i64 r.call, .int .i64 r.client, .string r.text, .int .i64 r.number, .int .i64 r.value, .int .i64 r.delay, .int .i64 r.life, .int .i64 r.to] 102 5 _ rfl)
    have hr6 := cell_later hb2 (cells_new w1 [.int .i64 r.call, .int .i64 r.client, .string r.text, .int .i64 r.number, .int .i64 r.value, .int .i64 r.delay, .int .i64 r.life, .int .i64 r.to] 102 6 _ rfl)
    have hr7 := cell_later hb2 (cells_new w1 [.int .i64 r.call, .int .i64 r.client, .string r.text, .int .i64 r.number, .int .i64 r.value, .int .i64 r.delay, .int .i64 r.life, .int .i64 r.to] 102 7 _ rfl)
    simp only [Addr.add_lit, Nat.zero_add] at hr0 hr1 hr2 hr3 hr4 hr5 hr6 hr7
    obtain ⟨z0, z1, z2, z3, z4, z5, z6, z7, zf⟩ := zero8 HZ2.out
    have zf0 := zf 0
    have zf1 := zf 1
    have zf2 := zf 2
    have zf3 := zf 3
    have zf4 := zf 4
    have zf5 := zf 5
    have zf6 := zf 6
    have zf7 := zf 7
    have hne : w1.heap.size ≠ w.heap.size := by omega
    clear hb2 zf
    cases he : ((encM r).toList == t.toList)
    · have HI : Hid (isRec t = false) := by show _ = _; rw [HIS.out, he, Bool.and_false]
      go_wp2_with fail
      refine bodyPost_ret (v := .tuple #[recV nilRec, .bool false]) (by rw [results_cell_tmp rfl]; go_simp; exact ⟨rfl, rfl, rfl, rfl, rfl, rfl, rfl, rfl⟩) rfl ⟨by rw [readV_not HI.out], below8 HB2.out (Nat.le_refl _) _ _ _ _ _ _ _ _⟩
    · have HI : Hid (isRec t = true) := by show _ = _; rw [HIS.out, he, bne, hc]; rfl
      go_wp2_with fail
      refine bodyPost_ret (v := .tuple #[recV r, .bool true]) (by rw [results_cell_tmp rfl]; go_simp) rfl ⟨by rw [HRD.out r rfl HI.out], below8 HB2.out (Nat.le_refl _) _ _ _ _ _ _ _ _⟩
  · have HI : Hid (isRec t = false) := by show _ = _; rw [HIS.out]; simp only [bne, hc]; rfl
    obtain ⟨z0, z1, z2, z3, z4, z5, z6, z7, zf⟩ := zero8 HZ1.out
    have zf0 := zf 0
    have zf1 := zf 1
    have zf2 := zf 2
    have zf3 := zf 3
    have zf4 := zf 4
    have zf5 := zf 5
    have zf6 := zf 6
    have zf7 := zf 7
    clear zf
    go_wp2_with fail
    refine bodyPost_ret (v := .tuple #[recV nilRec, .bool false]) (by rw [results_cell_tmp rfl]; go_simp; exact ⟨rfl, rfl, rfl, rfl, rfl, rfl, rfl, rfl⟩) rfl ⟨by rw [readV_not HI.out], (below8 HB1.out (Nat.le_refl _) _ _ _ _ _ _ _ _).alloc (by simp; omega) _⟩
end Go.Proofs.Ytmjdndhfmfjbiab

/-
  The program's own lists of filters.
-/
namespace Go.Proofs.Ytmjdndhfmfjbiab
open Go.RowKit

theorem any_take {α : Type} {p : α → Bool} {l : List α} {k : Nat} {x : α} (hx : l[k]? = some x) : (l.take (k + 1)).any p = ((l.take k).any p || p x) := any_step p l k x hx

set_option maxRecDepth 100000 in
set_option maxHeartbeats 1000000 in
theorem hrHasFilter (fs : List ByteArray) (ao : Option Addr) (c : Nat) (s : ByteArray) (w : World) (hl : fs.length ≤ 1048576) (h : CellsAt w ao (fs.map Value.string)) :
    Calls Try.prog 48 #[.slice ao fs.length c, .string s] w fun e w' => e = .returned (.bool (fs.any (fun f => f.toList == s.toList))) ∧ w' = w := by
  have H : Hid (CellsAt w ao (fs.map Value.string)) := h
  clear h
  go_enter Try.func48, Try.ntmps48
  go_wp2_with fail
  go_loop [5] (fun i => ∃ k : Nat, k ≤ fs.length ∧ i = .int .i64 k ∧ (fs.take k).any (fun f => f.toList == s.toList) = false) (fun i => fs.length - (intOf i).toNat)
  case atStart => exact ⟨0, Nat.zero_le _, rfl, by simp⟩
  case round =>
    obtain ⟨k, hk, rfl, ha⟩ := hrel
    have HA : Hid ((fs.take k).any (fun f => f.toList == s.toList) = false) := ha
    clear ha
    by_cases hlt : k < fs.length
    · obtain ⟨f, hf⟩ : ∃ f, fs[k]? = some f := ⟨_, List.getElem?_eq_getElem hlt⟩
      obtain ⟨g, rfl, hc⟩ := H.out k _ (strs_get hf)
      cases he : (f.toList == s.toList)
      · have HS : Hid ((fs.take (k + 1)).any (fun f => f.toList == s.toList) = false) := by show _ = _; rw [any_take hf, HA.out, he]; rfl
        clear hf
        go_wp2_with fail
        go_round
        case rel => exact ⟨k + 1, by omega, by go_num, HS.out⟩
        case measure => simp [intOf]; omega
      · have HS : Hid (fs.any (fun f => f.toList == s.toList) = true) := List.any_eq_true.2 ⟨f, List.mem_of_getElem? hf, he⟩
        clear hf
        go_wp2_with fail
        go_ret
        exact ⟨ret_bool' HS.out.symm, rfl⟩
    · have HS : Hid (fs.any (fun f => f.toList == s.toList) = false) := by
        have := HA.out
        rw [List.take_of_length_le (by omega)] at this
        exact this
      go_wp2_with fail
      go_ret
      exact ⟨ret_bool' HS.out.symm, rfl⟩

set_option maxRecDepth 100000 in
set_option maxHeartbeats 1000000 in
theorem hrWithoutFilter (fs : List ByteArray) (ao : Option Addr) (c : Nat) (s : ByteArray) (w : World) (hl : fs.length ≤ 1048576) (h : CellsAt w ao (fs.map Value.string)) :
    Calls Try.prog 85 #[.slice ao fs.length c, .string s] w fun e w' => ∃ v, e = .returned v ∧
      w'.ownsRow w.heap.size 9 1 v (fs.filter (fun f => !(f.toList == s.toList))).length ((fs.filter (fun f => !(f.toList == s.toList))).flatMap (fun f => [Value.string f])) ∧ Below w.heap.size w w' := by
  obtain ⟨i0, hi, hz0, hz1, hz2⟩ := info_parts infoStr
  have H : Hid (CellsAt w ao (fs.map Value.string)) := h
  clear h
  go_enter Try.func85, Try.ntmps85
  go_wp2_with fail
  go_loopw [5, 6] (fun v i wr => ∃ k : Nat, k ≤ fs.length ∧ i = .int .i64 k ∧ wr.ownsRow w.heap.size 9 1 v (kept (fun f : ByteArray => !(f.toList == s.toList)) fs k).length ((kept (fun f : ByteArray => !(f.toList == s.toList)) fs k).flatMap (fun f => [Value.string f])) ∧ Below w.heap.size w wr) (fun _ i _ => fs.length - (intOf i).toNat)
  case atStart => exact ⟨0, Nat.zero_le _, rfl, World.ownsRow_nil _ _ _ _, Below.refl _ _⟩
  case round =>
    obtain ⟨k, hk, rfl, hown, hbr⟩ := hrel
    have hkl := kept_le (fun f : ByteArray => !(f.toList == s.toList)) fs k
    have hsz := hbr.size
    by_cases hlt : k < fs.length
    · obtain ⟨y, hy⟩ : ∃ y, fs[k]? = some y := ⟨_, List.getElem?_eq_getElem hlt⟩
      obtain ⟨g, rfl, hc⟩ := H.out.below hbr k _ (strs_get hy)
      cases hne : (y.toList == s.toList)
      · have HK : Hid (kept (fun f : ByteArray => !(f.toList == s.toList)) fs (k + 1) = kept (fun f : ByteArray => !(f.toList == s.toList)) fs k ++ [y]) := kept_hit hy (by simp only [hne]; rfl)
        clear hy
        go_wp2_with (first | (at_builtin; refine wpList_append_own _ rfl _ _ 86 rfl w.heap.size 9 i0 _ 1 16 Try.underlying86 hi hz0 hz1 hz2 rfl (by decide) _ _ _ rfl (hown.alloc _) ⟨wr.heap.size, 0, none⟩ 1 1 [.string y] rfl rfl (cells_new _ _ _) (by simp [Value.oneCell']) (by unfold maxLen; omega) (by omega) (by simp; omega) ?_))
        intro v' w1 hown' hgrow _
        have R := grow_row (f := fun f => [Value.string f]) hown hbr hown' hgrow
        clear hown' hgrow hown
        go_wp2_with fail
        go_roundw
        case rel => exact ⟨k + 1, by omega, by go_num, by rw [HK.out]; exact R.1, R.2⟩
        case measure => simp [intOf]; omega
      · have HK : Hid (kept (fun f : ByteArray => !(f.toList == s.toList)) fs (k + 1) = kept (fun f : ByteArray => !(f.toList == s.toList)) fs k) := kept_miss hy (by simp only [hne]; rfl)
        clear hy
        go_wp2_with fail
        go_roundw
        case rel => exact ⟨k + 1, by omega, by go_num, by rw [HK.out]; exact hown, hbr⟩
        case measure => simp [intOf]; omega
    · have HK : Hid (kept (fun f : ByteArray => !(f.toList == s.toList)) fs k = fs.filter (fun f : ByteArray => !(f.toList == s.toList))) := kept_end _ _ _ (by omega)
      go_wp2_with fail
      go_ret
      exact ⟨_, rfl, by rw [← HK.out]; exact hown, hbr⟩

set_option maxRecDepth 100000 in
set_option maxHeartbeats 1000000 in
theorem hrCopyFilters (fs : List ByteArray) (ao : Option Addr) (c : Nat) (w : World) (hl : fs.length ≤ 1048576) (h : CellsAt w ao (fs.map Value.string)) :
    Calls Try.prog 75 #[.slice ao fs.length c] w fun e w' => ∃ v, e = .returned v ∧ w'.ownsRow w.heap.size 9 1 v fs.length (fs.flatMap (fun f => [Value.string f])) ∧ Below w.heap.size w w' := by
  obtain ⟨i0, hi, hz0, hz1, hz2⟩ := info_parts infoStr
  have H : Hid (CellsAt w ao (fs.map Value.string)) := h
  clear h
  go_enter Try.func75, Try.ntmps75
  go_wp2_with fail
  go_loopw [3, 4] (fun v i wr => ∃ k : Nat, k ≤ fs.length ∧ i = .int .i64 k ∧ wr.ownsRow w.heap.size 9 1 v (fs.take k).length ((fs.take k).flatMap (fun f => [Value.string f])) ∧ Below w.heap.size w wr) (fun _ i _ => fs.length - (intOf i).toNat)
  case atStart => exact ⟨0, Nat.zero_le _, rfl, World.ownsRow_nil _ _ _ _, Below.refl _ _⟩
  case round =>
    obtain ⟨k, hk, rfl, hown, hbr⟩ := hrel
    have hsz := hbr.size
    have htl : (fs.take k).length ≤ 1048576 := by rw [List.length_take]; omega
    by_cases hlt : k < fs.length
    · obtain ⟨y, hy⟩ : ∃ y, fs[k]? = some y := ⟨_, List.getElem?_eq_getElem hlt⟩
      obtain ⟨g, rfl, hc⟩ := H.out.below hbr k _ (strs_get hy)
      have HK : Hid (fs.take (k + 1) = fs.take k ++ [y]) := by show _ = _; rw [List.take_add_one, hy]; rfl
      clear hy
      generalize hT : fs.take k = T at *
      clear hT
      go_wp2_with (first | (at_builtin; refine wpList_append_own _ rfl _ _ 86 rfl w.heap.size 9 i0 _ 1 16 Try.underlying86 hi hz0 hz1 hz2 rfl (by decide) _ _ _ rfl (hown.alloc _) ⟨wr.heap.size, 0, none⟩ 1 1 [.string y] rfl rfl (cells_new _ _ _) (by simp [Value.oneCell']) (by unfold maxLen; omega) (by omega) (by simp; omega) ?_))
      intro v' w1 hown' hgrow _
      have R := grow_row (f := fun f => [Value.string f]) hown hbr hown' hgrow
      clear hown' hgrow hown
      go_wp2_with fail
      go_roundw
      case rel => exact ⟨k + 1, by omega, by go_num, by rw [HK.out]; exact R.1, R.2⟩
      case measure => simp [intOf]; omega
    · have HK : Hid (fs.take k = fs) := List.take_of_length_le (by omega)
      go_wp2_with fail
      go_ret
      exact ⟨_, rfl, by rw [HK.out] at hown; exact hown, hbr⟩

set_option maxRecDepth 100000 in
set_option maxHeartbeats 1000000 in
theorem hrCopyText (s : ByteArray) (w : World) : Calls Try.prog 50 #[.string s] w fun e w' => e = .returned (.string s) ∧ Below w.heap.size w w' := by
  obtain ⟨cap, w1, hcv, b1, hs1, hcap, hby⟩ := bytes_of w s
  have hback : (convert 63 9 (.slice (some ⟨w.heap.size, 0, none⟩) s.size cap)).run Try.prog w1 = .ok (.string s) w1 := by
    have h := run_convert_bytes_back (P := Try.prog) w1 63 9 5 ⟨w.heap.size, 0, none⟩ cap s.data.toList Try.underlying63 Try.underlying5 Try.underlying9 (fun j hj => by
      have hj' : j < s.size := by rw [Array.length_toList] at hj; exact hj
      rw [Addr.add_lit, Nat.zero_add, (hby j hj').1, getElem!_pos s j hj']
      rfl)
    have e : s.data.toList.length = s.size := by rw [Array.length_toList]; rfl
    rw [e] at h
    rw [h]
  have HB : Hid (Below w.heap.size w w1) := b1
  clear b1 hby
  go_enter Try.func50, Try.ntmps50
  go_wp2_with fail
  go_ret
  exact ⟨rfl, HB.out⟩
end Go.Proofs.Ytmjdndhfmfjbiab

namespace Go.Proofs.Ytmjdndhfmfjbiab
open Go.RowKit

theorem sing_flat (l : List ByteArray) (x : ByteArray) : (l ++ [x]).flatMap (fun f => [Value.string f]) = l.flatMap (fun f => [Value.string f]) ++ [Value.string x] := by simp

set_option maxRecDepth 100000 in
set_option maxHeartbeats 1000000 in
theorem hrWithFilter (fs : List ByteArray) (ao : Option Addr) (c : Nat) (s : ByteArray) (w : World) (hl : fs.length ≤ 1048576) (h : CellsAt w ao (fs.map Value.string)) :
    Calls Try.prog 51 #[.slice ao fs.length c, .string s] w fun e w' => ∃ v, e = .returned v ∧
      w'.ownsRow w.heap.size 9 1 v (insM ltB s fs).length ((insM ltB s fs).flatMap (fun f => [Value.string f])) ∧ Below w.heap.size w w' := by
  obtain ⟨i0, hi, hz0, hz1, hz2⟩ := info_parts infoStr
  have H : Hid (CellsAt w ao (fs.map Value.string)) := h
  clear h
  go_enter Try.func51, Try.ntmps51
  go_wp2_with fail
  go_loopw [5, 6, 7] (fun v p i wr => ∃ k : Nat, k ≤ fs.length ∧ i = .int .i64 k ∧ p = .bool (insTo ltB s fs k).2 ∧ wr.ownsRow w.heap.size 9 1 v (insTo ltB s fs k).1.length ((insTo ltB s fs k).1.flatMap (fun f => [Value.string f])) ∧ Below w.heap.size w wr) (fun _ _ i _ => fs.length - (intOf i).toNat)
  case atStart => exact ⟨0, Nat.zero_le _, rfl, rfl, World.ownsRow_nil _ _ _ _, Below.refl _ _⟩
  case round =>
    obtain ⟨k, hk, rfl, rfl, hown, hbr⟩ := hrel
    have hkl := (insTo_len ltB s fs k).1
    have hsz := hbr.size
    by_cases hlt : k < fs.length
    · obtain ⟨y, hy⟩ : ∃ y, fs[k]? = some y := ⟨_, List.getElem?_eq_getElem hlt⟩
      obtain ⟨g, rfl, hc0⟩ := H.out k _ (strs_get hy)
      have hc := cell_later hbr hc0
      have C0 : Hid (w.cell? ⟨g, k, none⟩ = some (.string y)) := hc0
      clear hc0
      have HST : Hid (insTo ltB s fs (k + 1) = if !(insTo ltB s fs k).2 && ltB s y then ((insTo ltB s fs k).1 ++ [s] ++ [y], true) else ((insTo ltB s fs k).1 ++ [y], (insTo ltB s fs k).2)) := insTo_step hy
      clear hy
      generalize hT : insTo ltB s fs k = T at *
      obtain ⟨T1, T2⟩ := T
      clear hT
      simp only at hown hkl
      cases T2
      · cases hlt' : ltB s y
        · have HK : Hid (insTo ltB s fs (k + 1) = (T1 ++ [y], false)) := by show _ = _; rw [HST.out, hlt']; rfl
          have hbl : Op.bytesLess s.toList y.toList = false := hlt'
          clear hlt'
          go_wp2_with (first | (at_builtin; refine wpList_append_own _ rfl _ _ 86 rfl w.heap.size 9 i0 _ 1 16 Try.underlying86 hi hz0 hz1 hz2 rfl (by decide) _ _ _ rfl (hown.alloc _) ⟨wr.heap.size, 0, none⟩ 1 1 [.string y] rfl rfl (cells_new _ _ _) (by simp [Value.oneCell']) (by unfold maxLen; omega) (by omega) (by simp; omega) ?_))
          intro v' w1 hown' hgrow _
          have R := grow_row (f := fun f => [Value.string f]) hown hbr hown' hgrow
          clear hown' hgrow hown
          go_wp2_with fail
          go_roundw
          case rel => exact ⟨k + 1, by omega, by go_num, by rw [HK.out], by rw [HK.out]; exact R.1, R.2⟩
          case measure => simp [intOf]; omega
        · have HK : Hid (insTo ltB s fs (k + 1) = (T1 ++ [s] ++ [y], true)) := by show _ = _; rw [HST.out, hlt']; rfl
          have hbl : Op.bytesLess s.toList y.toList = true := hlt'
          clear hlt'
          go_wp2_with (first | (at_builtin; refine wpList_append_own _ rfl _ _ 86 rfl w.heap.size 9 i0 _ 1 16 Try.underlying86 hi hz0 hz1 hz2 rfl (by decide) _ _ _ rfl (hown.alloc _) ⟨wr.heap.size, 0, none⟩ 1 1 [.string s] rfl rfl (cells_new _ _ _) (by simp [Value.oneCell']) (by unfold maxLen; omega) (by omega) (by simp; omega) ?_))
          intro v' w1 hown' hgrow _
          have R := grow_row (f := fun f => [Value.string f]) hown hbr hown' hgrow
          have hown1 := R.1
          have hbr1 := R.2
          have hsz1 := hbr1.size
          have hc1 := cell_later hbr1 C0.out
          obtain ⟨T3, hT3⟩ : ∃ T3, T1 ++ [s] = T3 := ⟨_, rfl⟩
          have HK2 : Hid (insTo ltB s fs (k + 1) = (T3 ++ [y], true)) := by show _ = _; rw [HK.out, hT3]
          have hl3 : T3.length ≤ k + 2 := by rw [← hT3]; simp; omega
          rw [hT3] at hown1
          clear hown' hgrow hown R hc hT3
          go_wp2_with (first | (at_builtin; refine wpList_append_own _ rfl _ _ 86 rfl w.heap.size 9 i0 _ 1 16 Try.underlying86 hi hz0 hz1 hz2 rfl (by decide) _ _ _ rfl (hown1.alloc _) ⟨w1.heap.size, 0, none⟩ 1 1 [.string y] rfl rfl (cells_new _ _ _) (by simp [Value.oneCell']) (by unfold maxLen; omega) (by omega) (by simp; omega) ?_))
          intro v2 w2 hown2 hgrow2 _
          have R2 := grow_row (f := fun f => [Value.string f]) hown1 hbr1 hown2 hgrow2
          clear hown2 hgrow2 hown1
          go_wp2_with fail
          go_roundw
          case rel => exact ⟨k + 1, by omega, by go_num, by rw [HK2.out], by rw [HK2.out]; exact R2.1, R2.2⟩
          case measure => simp [intOf]; omega
      · have HK : Hid (insTo ltB s fs (k + 1) = (T1 ++ [y], true)) := by show _ = _; rw [HST.out]; rfl
        go_wp2_with (first | (at_builtin; refine wpList_append_own _ rfl _ _ 86 rfl w.heap.size 9 i0 _ 1 16 Try.underlying86 hi hz0 hz1 hz2 rfl (by decide) _ _ _ rfl (hown.alloc _) ⟨wr.heap.size, 0, none⟩ 1 1 [.string y] rfl rfl (cells_new _ _ _) (by simp [Value.oneCell']) (by unfold maxLen; omega) (by omega) (by simp; omega) ?_))
        intro v' w1 hown' hgrow _
        have R := grow_row (f := fun f => [Value.string f]) hown hbr hown' hgrow
        clear hown' hgrow hown
        go_wp2_with fail
        go_roundw
        case rel => exact ⟨k + 1, by omega, by go_num, by rw [HK.out], by rw [HK.out]; exact R.1, R.2⟩
        case measure => simp [intOf]; omega
    · obtain rfl : k = fs.length := by omega
      have HEND : Hid (insM ltB s fs = if (insTo ltB s fs fs.length).2 then (insTo ltB s fs fs.length).1 else (insTo ltB s fs fs.length).1 ++ [s]) := insTo_end ltB s fs
      generalize hT : insTo ltB s fs fs.length = T at *
      obtain ⟨T1, T2⟩ := T
      clear hT
      simp only at hown hkl
      cases T2
      · have HE : Hid (insM ltB s fs = T1 ++ [s]) := HEND.out
        clear HEND
        go_wp2_with (first | (at_builtin; refine wpList_append_own _ rfl _ _ 86 rfl w.heap.size 9 i0 _ 1 16 Try.underlying86 hi hz0 hz1 hz2 rfl (by decide) _ _ _ rfl (hown.alloc _) ⟨wr.heap.size, 0, none⟩ 1 1 [.string s] rfl rfl (cells_new _ _ _) (by simp [Value.oneCell']) (by unfold maxLen; omega) (by omega) (by simp; omega) ?_))
        intro v' w1 hown' hgrow _
        have R := grow_row (f := fun f => [Value.string f]) hown hbr hown' hgrow
        clear hown' hgrow hown
        go_wp2_with fail
        go_ret
        exact ⟨_, rfl, by rw [HE.out]; exact R.1, R.2⟩
      · have HE : Hid (insM ltB s fs = T1) := HEND.out
        clear HEND
        go_wp2_with fail
        go_ret
        exact ⟨_, rfl, by rw [HE.out]; exact hown, hbr⟩
end Go.Proofs.Ytmjdndhfmfjbiab

/-
  The program's own list of messages that wait.
-/
namespace Go.Proofs.Ytmjdndhfmfjbiab
open Go.RowKit

abbrev waitV (x : WaitD) : Value := .agg #[.int .i64 x.number, .string x.topic, .int .i64 x.value, .int .i64 x.deadline, .int .i64 x.life]

set_option maxRecDepth 100000 in
theorem hrDeadlineOf (t d : Int) (w : World) (h0 : 0 ≤ t) (h1 : t ≤ 1099511627776) (h2 : 0 ≤ d) (h3 : d ≤ 1099511627776) :
    Calls Try.prog 59 #[.int .i64 t, .int .i64 d] w fun e w' => e = .returned (.int .i64 (laterM t d)) ∧ w' = w := by
  by_cases hgt : 1099511627776 < t + d
  · have HE : Hid (laterM t d = 1099511627776) := if_pos hgt
    go_enter Try.func59, Try.ntmps59
    go_wp2_with fail
    go_ret
    exact ⟨ret_int HE.out.symm, rfl⟩
  · have HE : Hid (laterM t d = t + d) := if_neg hgt
    go_enter Try.func59, Try.ntmps59
    go_wp2_with fail
    go_ret
    exact ⟨ret_int HE.out.symm, rfl⟩

set_option maxRecDepth 100000 in
theorem hrIsAhead (x y : WaitD) (w : World) : Calls Try.prog 80 #[waitV x, waitV y] w fun e w' => e = .returned (.bool (aheadB x y)) ∧ Below w.heap.size w w' := by
  obtain ⟨xn, xt, xv, xd, xl⟩ := x
  obtain ⟨yn, yt, yv, yd, yl⟩ := y
  have two : ∀ o1 o2 : Obj, Below w.heap.size w ((w.alloc o1).alloc o2) := fun o1 o2 => ((Below.refl _ _).alloc (Nat.le_refl _) _).alloc (by simp) _
  have TW : Hid (∀ o1 o2 : Obj, Below w.heap.size w ((w.alloc o1).alloc o2)) := two
  clear two
  by_cases hd : xd = yd
  · subst hd
    have HE : Hid (aheadB ⟨xn, xt, xv, xd, xl⟩ ⟨yn, yt, yv, xd, yl⟩ = decide (xn < yn)) := by simp [Hid, aheadB]
    go_enter Try.func80, Try.ntmps80
    go_wp2_with fail
    go_ret
    exact ⟨ret_bool' HE.out.symm, TW.out _ _⟩
  · have HE : Hid (aheadB ⟨xn, xt, xv, xd, xl⟩ ⟨yn, yt, yv, yd, yl⟩ = decide (xd < yd)) := by simp [Hid, aheadB, hd]
    have hd' : (xd != yd) = true := by simp [hd]
    go_enter Try.func80, Try.ntmps80
    go_wp2_with fail
    go_ret
    exact ⟨ret_bool' HE.out.symm, TW.out _ _⟩

set_option maxRecDepth 100000 in
set_option maxHeartbeats 1000000 in
theorem hrWithoutWaiting (ws : List WaitD) (ao : Option Addr) (c : Nat) (n : Int) (w : World) (hl : ws.length ≤ 1048576) (h : CellsAt w ao (ws.flatMap waitCells)) :
    Calls Try.prog 65 #[.slice ao ws.length c, .int .i64 n] w fun e w' => ∃ v, e = .returned v ∧
      w'.ownsRow w.heap.size 50 5 v (ws.filter (fun m => m.number != n)).length ((ws.filter (fun m => m.number != n)).flatMap waitCells) ∧ Below w.heap.size w w' := by
  obtain ⟨i0, hi, hz0, hz1, hz2⟩ := info_parts infoWait
  have H : Hid (CellsAt w ao (ws.flatMap waitCells)) := h
  clear h
  go_enter Try.func65, Try.ntmps65
  go_wp2_with fail
  go_loopw [5, 6] (fun v i wr => ∃ k : Nat, k ≤ ws.length ∧ i = .int .i64 k ∧ wr.ownsRow w.heap.size 50 5 v (kept (fun m : WaitD => m.number != n) ws k).length ((kept (fun m : WaitD => m.number != n) ws k).flatMap waitCells) ∧ Below w.heap.size w wr) (fun _ i _ => ws.length - (intOf i).toNat)
  case atStart => exact ⟨0, Nat.zero_le _, rfl, World.ownsRow_nil _ _ _ _, Below.refl _ _⟩
  case round =>
    obtain ⟨k, hk, rfl, hown, hbr⟩ := hrel
    have hkl := kept_le (fun m : WaitD => m.number != n) ws k
    have hsz := hbr.size
    by_cases hlt : k < ws.length
    · obtain ⟨y, hy⟩ : ∃ y, ws[k]? = some y := ⟨_, List.getElem?_eq_getElem hlt⟩
      obtain ⟨g, rfl, hg, c0, c1, c2, c3, c4⟩ := wait_cells (H.out.below hbr) hy
      cases hne : (y.number != n)
      · have HK : Hid (kept (fun m : WaitD => m.number != n) ws (k + 1) = kept (fun m : WaitD => m.number != n) ws k) := kept_miss hy hne
        clear hy
        go_wp2_with fail
        go_roundw
        case rel => exact ⟨k + 1, by omega, by go_num, by rw [HK.out]; exact hown, hbr⟩
        case measure => simp [intOf]; omega
      · have HK : Hid (kept (fun m : WaitD => m.number != n) ws (k + 1) = kept (fun m : WaitD => m.number != n) ws k ++ [y]) := kept_hit hy hne
        clear hy
        go_wp2_with (first | (at_builtin; refine wpList_append_own _ rfl _ _ 44 rfl w.heap.size 50 i0 _ 5 48 Try.underlying44 hi hz0 hz1 hz2 rfl (by decide) _ _ _ rfl (hown.alloc _) ⟨wr.heap.size, 0, none⟩ 1 1 (waitCells y) rfl rfl (cells_new _ _ _) (wait_one _) (by unfold maxLen; omega) (by omega) (by simp; omega) ?_))
        intro v' w1 hown' hgrow _
        have R := grow_row hown hbr hown' hgrow
        clear hown' hgrow hown
        go_wp2_with fail
        go_roundw
        case rel => exact ⟨k + 1, by omega, by go_num, by rw [HK.out]; exact R.1, R.2⟩
        case measure => simp [intOf]; omega
    · have HK : Hid (kept (fun m : WaitD => m.number != n) ws k = ws.filter (fun m : WaitD => m.number != n)) := kept_end _ _ _ (by omega)
      go_wp2_with fail
      go_ret
      exact ⟨_, rfl, by rw [← HK.out]; exact hown, hbr⟩

set_option maxRecDepth 100000 in
set_option maxHeartbeats 1000000 in
theorem hrCopyWaiting (ws : List WaitD) (ao : Option Addr) (c : Nat) (w : World) (hl : ws.length ≤ 1048576) (h : CellsAt w ao (ws.flatMap waitCells)) :
    Calls Try.prog 67 #[.slice ao ws.length c] w fun e w' => ∃ v, e = .returned v ∧ w'.ownsRow w.heap.size 50 5 v ws.length (ws.flatMap waitCells) ∧ Below w.heap.size w w' := by
  obtain ⟨i0, hi, hz0, hz1, hz2⟩ := info_parts infoWait
  have H : Hid (CellsAt w ao (ws.flatMap waitCells)) := h
  clear h
  go_enter Try.func67, Try.ntmps67
  go_wp2_with fail
  go_loopw [3, 4] (fun v i wr => ∃ k : Nat, k ≤ ws.length ∧ i = .int .i64 k ∧ wr.ownsRow w.heap.size 50 5 v (ws.take k).length ((ws.take k).flatMap waitCells) ∧ Below w.heap.size w wr) (fun _ i _ => ws.length - (intOf i).toNat)
  case atStart => exact ⟨0, Nat.zero_le _, rfl, World.ownsRow_nil _ _ _ _, Below.refl _ _⟩
  case round =>
    obtain ⟨k, hk, rfl, hown, hbr⟩ := hrel
    have hsz := hbr.size
    have htl : (ws.take k).length ≤ 1048576 := by rw [List.length_take]; omega
    by_cases hlt : k < ws.length
    · obtain ⟨y, hy⟩ : ∃ y, ws[k]? = some y := ⟨_, List.getElem?_eq_getElem hlt⟩
      obtain ⟨g, rfl, hg, c0, c1, c2, c3, c4⟩ := wait_cells (H.out.below hbr) hy
      have HK : Hid (ws.take (k + 1) = ws.take k ++ [y]) := by show _ = _; rw [List.take_add_one, hy]; rfl
      clear hy
      generalize hT : ws.take k = T at *
      clear hT
      go_wp2_with (first | (at_builtin; refine wpList_append_own _ rfl _ _ 44 rfl w.heap.size 50 i0 _ 5 48 Try.underlying44 hi hz0 hz1 hz2 rfl (by decide) _ _ _ rfl (hown.alloc _) ⟨wr.heap.size, 0, none⟩ 1 1 (waitCells y) rfl rfl (cells_new _ _ _) (wait_one _) (by unfold maxLen; omega) (by omega) (by simp; omega) ?_))
      intro v' w1 hown' hgrow _
      have R := grow_row hown hbr hown' hgrow
      clear hown' hgrow hown
      go_wp2_with fail
      go_roundw
      case rel => exact ⟨k + 1, by omega, by go_num, by rw [HK.out]; exact R.1, R.2⟩
      case measure => simp [intOf]; omega
    · have HK : Hid (ws.take k = ws) := List.take_of_length_le (by omega)
      go_wp2_with fail
      go_ret
      exact ⟨_, rfl, by rw [HK.out] at hown; exact hown, hbr⟩

def nobody : WaitD := ⟨0, ⟨#[]⟩, 0, 0, 0⟩
/-- The first of this Number. -/
def theOne (ws : List WaitD) (n : Int) : WaitD × Bool := match ws.find? (fun m => m.number == n) with
  | some m => (m, true)
  | none => (nobody, false)

set_option maxRecDepth 100000 in
set_option maxHeartbeats 1000000 in
theorem hrFindWaiting (ws : List WaitD) (ao : Option Addr) (c : Nat) (n : Int) (w : World) (hl : ws.length ≤ 1048576) (h : CellsAt w ao (ws.flatMap waitCells)) :
    Calls Try.prog 64 #[.slice ao ws.length c, .int .i64 n] w fun e w' => e = .returned (.tuple #[waitV (theOne ws n).1, .bool (theOne ws n).2]) ∧ Below w.heap.size w w' := by
  have H : Hid (CellsAt w ao (ws.flatMap waitCells)) := h
  clear h
  go_enter Try.func64, Try.ntmps64
  go_wp2_with fail
  have hb0 : Below w.heap.size w (w.alloc (.cells #[.int .i64 0, .string ⟨#[]⟩, .int .i64 0, .int .i64 0, .int .i64 0] 50)) := below_one _ _
  have HB0 : Hid (Below w.heap.size w (w.alloc (.cells #[.int .i64 0, .string ⟨#[]⟩, .int .i64 0, .int .i64 0, .int .i64 0] 50))) := hb0
  go_loop [6] (fun i => ∃ k : Nat, k ≤ ws.length ∧ i = .int .i64 k ∧ ∀ m ∈ ws.take k, (m.number == n) = false) (fun i => ws.length - (intOf i).toNat)
  case atStart => exact ⟨0, Nat.zero_le _, rfl, fun m hm => by simp at hm⟩
  case round =>
    obtain ⟨k, hk, rfl, hno⟩ := hrel
    have HNO : Hid (∀ m ∈ ws.take k, (m.number == n) = false) := hno
    clear hno
    by_cases hlt : k < ws.length
    · obtain ⟨y, hy⟩ : ∃ y, ws[k]? = some y := ⟨_, List.getElem?_eq_getElem hlt⟩
      obtain ⟨g, rfl, hg, c0, c1, c2, c3, c4⟩ := wait_cells (H.out.below hb0) hy
      have hgw : g < w.heap.size := by
        obtain ⟨g', e, hg', -⟩ := wait_cells H.out hy
        cases e
        exact hg'
      cases he : (y.number == n)
      · have HS : Hid (∀ m ∈ ws.take (k + 1), (m.number == n) = false) := by
          intro m hm
          rw [List.take_add_one, hy] at hm
          rcases List.mem_append.1 hm with hm | hm
          · exact HNO.out m hm
          · simp at hm; subst hm; exact he
        clear hy
        go_wp2_with fail
        go_round
        case rel => exact ⟨k + 1, by omega, by go_num, HS.out⟩
        case measure => simp [intOf]; omega
      · have HS : Hid (theOne ws n = (y, true)) := by
          have hfd : ws.find? (fun m => m.number == n) = some y := by
            rw [List.find?_eq_some_iff_getElem]
            obtain ⟨hl', rfl⟩ := List.getElem?_eq_some_iff.1 hy
            refine ⟨he, k, hl', rfl, fun j hj => ?_⟩
            have := HNO.out ws[j] (List.mem_take_iff_getElem.2 ⟨j, by omega, rfl⟩)
            simp [this]
          simp [Hid, theOne, hfd]
        clear hy
        go_wp2_with fail
        exact bodyPost_ret (v := .tuple #[waitV y, .bool true]) (by rw [results_cell_tmp rfl]; go_simp) rfl ⟨by rw [HS.out], below_one _ _⟩
    · have HS : Hid (theOne ws n = (nobody, false)) := by
        have hfd : ws.find? (fun m => m.number == n) = none := by
          rw [List.find?_eq_none]
          intro m hm
          have := HNO.out m (by rw [List.take_of_length_le (by omega)]; exact hm)
          simp [this]
        simp [Hid, theOne, hfd]
      go_wp2_with fail
      exact bodyPost_ret (v := .tuple #[waitV nobody, .bool false]) (by rw [results_cell_tmp rfl]; go_simp; exact ⟨rfl, rfl, rfl, rfl, rfl⟩) rfl ⟨by rw [HS.out], below_one _ _⟩
end Go.Proofs.Ytmjdndhfmfjbiab
