import Derived.Test.YtmjdndhfmfjbiaaGreatM19
import Derived.Deep.DrawnRows
namespace Go.Proofs.YtmjdndhfmfjbiaaGreat
open Go.RowKit
attribute [local go_sem ↓] Go.wp_at_zero Go.wp_at_succ appSem_eq

theorem Next.then {P : Prog} {w w1 w2 : World} {G : Nat} {c c1 : Nat → Nat} {b : Nat} {S1 : RefS} (he : Ext w c c1) (hu : Upd (fun k => c k ≠ 0) w w1) (h : Next P w1 G c1 b S1 w2) : Next P w G c b S1 w2 := by
  obtain ⟨c2, v, x, F, R, ends, hw, he2, hup⟩ := h
  refine ⟨c2, v, x, F, R, ends, hw, he.trans hu.size he2, hu.trans hup (fun k hk e => ?_)⟩
  rw [he k hk] at e
  exact e

theorem cells6s {w w1 : World} {k a b c d : Int} {s : ByteArray} {t : TypeId} (hb : Below (w.alloc (.cells #[.int .i64 k, .int .i64 a, .int .i64 b, .int .i64 c, .int .i64 d, .string s] t)).heap.size (w.alloc (.cells #[.int .i64 k, .int .i64 a, .int .i64 b, .int .i64 c, .int .i64 d, .string s] t)) w1) :
    w1.cell? ⟨w.heap.size, 0, none⟩ = some (.int .i64 k) ∧ w1.cell? ⟨w.heap.size, 1, none⟩ = some (.int .i64 a) ∧ w1.cell? ⟨w.heap.size, 2, none⟩ = some (.int .i64 b) ∧ w1.cell? ⟨w.heap.size, 3, none⟩ = some (.int .i64 c) ∧ w1.cell? ⟨w.heap.size, 4, none⟩ = some (.int .i64 d) ∧ w1.cell? ⟨w.heap.size, 5, none⟩ = some (.string s) :=
  ⟨cell_later hb (by simp), cell_later hb (by simp), cell_later hb (by simp), cell_later hb (by simp), cell_later hb (by simp), cell_later hb (by simp)⟩

set_option maxRecDepth 100000 in
set_option maxHeartbeats 1000000 in
theorem lawStep (P : Prog) (w : World) (G : Nat) (c : Nat → Nat) (b : Nat) (v : GameV) (S : RefS) (x : RefV) (F : Nat → Prop) (R : List ByteArray) (ends : List Int) (o : OpD) (hg : Whole P w G c b v S x F R ends) (ho : Sane o) (hk : 1 ≤ o.kind ∧ o.kind ≤ 9) :
    Calls Tryz.prog 15 #[.pointer (some ⟨G, 0, none⟩), opV o] w fun e w' => e = .returned (.bool true) ∧ ∃ S1, Next P w G c b S1 w' := by
  obtain ⟨kk, oa, ob, oc, od, os⟩ := o
  have HO : Hid (Sane ⟨kk, oa, ob, oc, od, os⟩) := ho
  have HG : Hid (Whole P w G c b v S x F R ends) := hg
  have hGl := hg.core.lies.lt
  simp only at hk
  have hbA : Below w.heap.size w (w.alloc (.cells #[.int .i64 kk, .int .i64 oa, .int .i64 ob, .int .i64 oc, .int .i64 od, .string os] 33)) := below_one _ _
  have HBA : Hid (Below w.heap.size w (w.alloc (.cells #[.int .i64 kk, .int .i64 oa, .int .i64 ob, .int .i64 oc, .int .i64 od, .string os] 33))) := hbA
  have HGA : Hid (Whole P (w.alloc (.cells #[.int .i64 kk, .int .i64 oa, .int .i64 ob, .int .i64 oc, .int .i64 od, .string os] 33)) G (clean w c) b v S x F R ends) := hg.cleaned hbA
  clear hg ho hbA
  by_cases h8 : kk = 8
  · subst h8
    go_enter Tryz.func15, Tryz.ntmps15
    go_wp2_with fail
    refine (lawCut P _ G (clean w c) b v S x F R ends ⟨8, oa, ob, oc, od, os⟩ HGA.out HO.out).mono ?_
    rintro e w1 ⟨rfl, S1, h1⟩
    have H1 : Hid (Next P w G c b S1 w1) := next_clean HBA.out h1
    clear h1
    go_wp2_with fail
    go_ret
    exact ⟨rfl, S1, H1.out⟩
  · by_cases h9 : kk = 9
    · subst h9
      go_enter Tryz.func15, Tryz.ntmps15
      go_wp2_with fail
      refine (lawTurn P _ G (clean w c) b v S x F R ends ⟨9, oa, ob, oc, od, os⟩ HGA.out HO.out).mono ?_
      rintro e w1 ⟨rfl, S1, h1⟩
      have H1 : Hid (Next P w G c b S1 w1) := next_clean HBA.out h1
      clear h1
      go_wp2_with fail
      go_ret
      exact ⟨rfl, S1, H1.out⟩
    · have n8 : (kk == 8) = false := by simp; omega
      have n9 : (kk == 9) = false := by simp; omega
      have HF : Hid (Fine ⟨kk, oa, ob, oc, od, os⟩) := ⟨⟨hk.1, by show kk ≤ 7; omega⟩, HO.out.s⟩
      clear h8 h9
      go_enter Tryz.func15, Tryz.ntmps15
      go_wp2_with fail
      refine (lawOperates P _ G (clean w c) b v S x F R ends ⟨kk, oa, ob, oc, od, os⟩ HGA.out HF.out).mono ?_
      rintro e w1 ⟨rfl, S1, h1⟩
      have H1 : Hid (Next P w G c b S1 w1) := next_clean HBA.out h1
      clear h1
      go_wp2_with fail
      go_ret
      exact ⟨rfl, S1, H1.out⟩

set_option maxRecDepth 100000 in
set_option maxHeartbeats 1000000 in
theorem lawBeginBad (P : Prog) (room : Int) (w : World) (hr : room < 0 ∨ 500 < room) :
    Calls Tryz.prog 12 #[.int .i64 room] w fun e w' => e = .returned (.tuple #[.pointer none, .bool true]) ∧ Below w.heap.size w w' := by
  have HR : Hid (room < 0 ∨ 500 < room) := hr
  clear hr
  by_cases h0 : room < 0
  · go_enter Tryz.func12, Tryz.ntmps12
    go_wp2_with fail
    refine (P.newBad _ _ room HR.out).mono ?_
    rintro e w1 ⟨rfl, hb1⟩
    go_wp2_with fail
    refine (lawNum _ _).mono ?_
    rintro e w2 ⟨rfl, rfl⟩
    go_wp2_with fail
    go_ret2
    exact ⟨rfl, hb1⟩
  · have h5 : 500 < room := by have := HR.out; omega
    go_enter Tryz.func12, Tryz.ntmps12
    go_wp2_with fail
    refine (P.newBad _ _ room HR.out).mono ?_
    rintro e w1 ⟨rfl, hb1⟩
    go_wp2_with fail
    refine (lawNum _ _).mono ?_
    rintro e w2 ⟨rfl, rfl⟩
    go_wp2_with fail
    go_ret2
    exact ⟨rfl, hb1⟩

def gameCells (H B : Nat) : List Value := [.pointer (some ⟨H, 0, none⟩), .pointer (some ⟨B, 0, none⟩), .slice none 0 0, .string ⟨#[]⟩, .slice none 0 0, .slice none 0 0, .slice none 0 0, .slice none 0 0, .slice none 0 0, .slice none 0 0]
def gameNew (H B : Nat) : GameV := ⟨H, B, nilV, ⟨#[]⟩, nilV, nilV, nilV, nilV, nilV, nilV⟩
theorem game_new (w : World) (H B : Nat) : GameAt (w.alloc (.cells (gameCells H B).toArray 47)) w.heap.size (gameNew H B) := by
  have key : ∀ j u, (gameCells H B)[j]? = some u → (w.alloc (.cells (gameCells H B).toArray 47)).cell? ⟨w.heap.size, j, none⟩ = some u := fun j u hj => by
    have := cells_new w (gameCells H B) 47 j u hj
    rwa [Addr.add_lit, Nat.zero_add] at this
  exact ⟨⟨_, heap_alloc_new w _⟩, key 0 _ rfl, key 1 _ rfl, key 2 _ rfl, key 3 _ rfl, key 4 _ rfl, key 5 _ rfl, key 6 _ rfl, key 7 _ rfl, key 8 _ rfl, key 9 _ rfl⟩
theorem lists_nil (w : World) (c : Nat → Nat) (sl : TypeId) (f : Int → List Value) (ca cb b : Nat) : Lists w c sl f ca cb nilV nilV b [] [] :=
  ⟨Row.nil w sl 1, Row.nil w sl 1, Nat.zero_le _, rfl, fun k u h => by simp at h, fun k u h => by simp at h, fun g e => by simp [nilV, Value.ownBlock] at e, fun g e => by simp [nilV, Value.ownBlock] at e⟩

theorem whole_new {P : Prog} {w w2 w3 : World} {H : Nat} {F : Nat → Prop} {room : Int} (h0 : 0 ≤ room) (h1 : room ≤ 500) (b1 : Below w.heap.size w w2) (hp : P.PR w2 H F (refNew room) []) (hf : ∀ k, F k → w.heap.size ≤ k) (hr : Rep w3 w2.heap.size refNewV (refNew room)) (b3 : Below w2.heap.size w2 w3) :
    ∃ a4 c4 w4, (appSem #[42, 42] 42 #[.slice none 0 0, .slice (some ⟨w3.heap.size + 1, 0, none⟩) 1 1]).run Tryz.prog ((w3.alloc (.cells (gameCells H w2.heap.size).toArray 47)).alloc (.cells #[.int .i64 0] 3)) = .ok (.slice a4 1 c4) w4 ∧
      w4.cell? ⟨w3.heap.size, 2, none⟩ = some (.slice none 0 0) ∧ w4.frozen? ⟨w3.heap.size, 2, none⟩ = false ∧
      ∃ c, (∃ v x F R ends, Whole P (w4.setCell ⟨w3.heap.size, 2, none⟩ (.slice a4 1 c4)) w3.heap.size c 0 v (refNew room) x F R ends) ∧ (∀ k, k < w.heap.size → c k = 0) ∧ Below w.heap.size w (w4.setCell ⟨w3.heap.size, 2, none⟩ (.slice a4 1 c4)) := by
  have hs1 := b1.size
  have hs3 := b3.size
  have hB3 := hr.cells.lt
  obtain ⟨a4, c4, w4, x4, r4, k4⟩ := app_more 42 3 (.int .i64 0) 1 8 Tryz.underlying42 infoInt rfl (by omega) ((w3.alloc (.cells (gameCells H w2.heap.size).toArray 47)).alloc (.cells #[.int .i64 0] 3)) none 0 0 [] [.int .i64 0] (Row.nil _ _ _) ⟨w3.heap.size + 1, 0, none⟩ 1 1 (by omega) rfl (by
    have := cells_new (w3.alloc (.cells (gameCells H w2.heap.size).toArray 47)) [.int .i64 0] 3
    rwa [size_alloc] at this) (by simp [Value.oneCell']) (by omega) (by omega)
  simp only [Nat.zero_add, List.nil_append] at x4 r4
  obtain ⟨rfl, hb4⟩ : a4 = some ⟨w3.heap.size + 2, 0, none⟩ ∧ Below (w3.heap.size + 2) ((w3.alloc (.cells (gameCells H w2.heap.size).toArray 47)).alloc (.cells #[.int .i64 0] 3)) w4 := by
    rcases k4 with ⟨rfl, rfl, -⟩ | ⟨rfl, h⟩
    · obtain ⟨ao, cc, hv, -, -, hc⟩ := r4.form
      simp only [Value.slice.injEq, true_and] at hv
      obtain ⟨rfl, -⟩ := hv
      obtain ⟨g, e, -⟩ := hc 0 _ rfl
      cases e
    · exact ⟨by simp, by simpa using h⟩
  generalize hwg : w3.alloc (.cells (gameCells H w2.heap.size).toArray 47) = wg at *
  have hsg : wg.heap.size = w3.heap.size + 1 := by rw [← hwg]; simp
  have lg : GameAt wg w3.heap.size (gameNew H w2.heap.size) := by rw [← hwg]; exact game_new _ _ _
  have bg : Below w3.heap.size w3 wg := by rw [← hwg]; exact below_one _ _
  have bg4 : Below wg.heap.size wg w4 := (below_one wg (.cells #[.int .i64 0] 3)).trans (hb4.mono (by omega))
  have l4 := lg.upd (P := fun _ => False) (Upd.of_below bg4) (fun f => f)
  have s4 := bg4.size
  have u5 := upd_set w4 w3.heap.size 2 (.slice (some ⟨w3.heap.size + 2, 0, none⟩) 1 c4)
  have l5 := l4.store (v1 := { gameNew H w2.heap.size with endsV := .slice (some ⟨w3.heap.size + 2, 0, none⟩) 1 c4 }) 2 (.slice (some ⟨w3.heap.size + 2, 0, none⟩) 1 c4) l4.ends rfl rfl rfl rfl rfl rfl rfl rfl rfl rfl
  have b34 : Below w3.heap.size w3 w4 := bg.trans (bg4.mono bg.size)
  have b24 : Below w2.heap.size w2 w4 := b3.trans (b34.mono hs3)
  have b04 : Below w.heap.size w w4 := b1.trans (b24.mono hs1)
  refine ⟨_, c4, w4, x4, l4.ends, l4.free 2, fun k => if k < w.heap.size then 0 else if k < w2.heap.size then 1 else if k < w3.heap.size then 2 else if k = w3.heap.size then 3 else 4, ⟨{ gameNew H w2.heap.size with endsV := .slice (some ⟨w3.heap.size + 2, 0, none⟩) 1 c4 }, refNewV, F, [], [0], ⟨⟨l5, ?_, ?_, good_new h0 h1, ?_, rfl, rfl, ?_, ⟨0, rfl⟩, ?_, ?_, ?_, ?_⟩, ⟨[], [], lists_nil _ _ _ _ _ _ _⟩, ⟨[], [], lists_nil _ _ _ _ _ _ _⟩, ⟨[], [], lists_nil _ _ _ _ _ _ _⟩⟩⟩, fun k hk => if_pos hk, b04.trans (below_of_upd u5 b04.size (fun k e => by omega))⟩
  · exact P.upd (P.upd (Q := fun _ => False) hp (Upd.of_below b24) (fun _ _ f => f)) u5 (fun k e q => by have := P.lt hp e; omega)
  · exact (hr.below b34).upd u5 (fun k e q => by have := hr.lt e; omega)
  · exact r4.upd u5 (fun k e q => by simp [Value.ownBlock] at e; omega)
  · intro n e he
    cases n with
    | zero => simp at he; exact .inr (by rw [← he]; rfl)
    | succ n => simp at he
  · intro k e
    have k1 := hf k e
    have k2 := P.lt hp e
    show (if k < w.heap.size then 0 else _) = 1
    rw [if_neg (by omega), if_pos k2]
  · intro k e
    have k1 : k = w2.heap.size := refFP_new e
    show (if k < w.heap.size then 0 else _) = 2
    rw [if_neg (by omega), if_neg (by omega), if_pos (by omega)]
  · show (if w3.heap.size < w.heap.size then 0 else _) = 3
    rw [if_neg (by omega), if_neg (by omega), if_neg (by omega), if_pos rfl]
  · intro k e
    simp [Value.ownBlock] at e
    show (if k < w.heap.size then 0 else _) = 4
    rw [if_neg (by omega), if_neg (by omega), if_neg (by omega), if_neg (by omega)]

set_option maxRecDepth 100000 in
set_option maxHeartbeats 1000000 in
theorem lawBegin (P : Prog) (room : Int) (w : World) (h0 : 0 ≤ room) (h1 : room ≤ 500) :
    Calls Tryz.prog 12 #[.int .i64 room] w fun e w' => ∃ G c, e = .returned (.tuple #[.pointer (some ⟨G, 0, none⟩), .bool true]) ∧ (∃ v x F R ends, Whole P w' G c 0 v (refNew room) x F R ends) ∧ (∀ k, k < w.heap.size → c k = 0) ∧ Below w.heap.size w w' := by
  go_enter Tryz.func12, Tryz.ntmps12
  go_wp2_with fail
  refine (P.new0 _ room h0 h1).mono ?_
  rintro e w1 ⟨H, F, rfl, hp1, hf1, hb1⟩
  have HP1 : Hid (P.PR w1 H F (refNew room) [] ∧ (∀ k, F k → w.heap.size ≤ k)) := ⟨hp1, hf1⟩
  clear hp1 hf1
  go_wp2_with fail
  refine (lawNum _ _).mono ?_
  rintro e w2 ⟨rfl, rfl⟩
  go_wp2_with fail
  refine (refBegin room _).mono ?_
  rintro e w3 ⟨rfl, hr3, hb3⟩
  have HR3 : Hid (Rep w3 w2.heap.size refNewV (refNew room)) := hr3
  have hx3 := hr3.cells.lt
  clear hr3
  obtain ⟨a4, c4, w4, x4, e4, z4, cN, hN, hcN, hbN⟩ := whole_new h0 h1 hb1 HP1.out.1 HP1.out.2 HR3.out hb3
  simp only [gameCells] at x4
  have HN : Hid ((∃ v x F R ends, Whole P (w4.setCell ⟨w3.heap.size, 2, none⟩ (.slice a4 1 c4)) w3.heap.size cN 0 v (refNew room) x F R ends) ∧ (∀ k, k < w.heap.size → cN k = 0) ∧ Below w.heap.size w (w4.setCell ⟨w3.heap.size, 2, none⟩ (.slice a4 1 c4))) := ⟨hN, hcN, hbN⟩
  clear hN hcN hbN
  go_wp2_with fail
  go_ret2
  exact ⟨w3.heap.size, cN, rfl, HN.out⟩
end Go.Proofs.YtmjdndhfmfjbiaaGreat

namespace Go.Proofs.YtmjdndhfmfjbiaaGreat
open Go.RowKit

theorem Next.more {P : Prog} {w w1 : World} {G : Nat} {c : Nat → Nat} {b b1 : Nat} {S1 : RefS} (h : Next P w G c b S1 w1) (hb : b ≤ b1) : Next P w G c b1 S1 w1 := by
  obtain ⟨c2, v, x, F, R, ends, hw, he2, hup⟩ := h
  obtain ⟨T, TT, hT⟩ := hw.texts
  obtain ⟨M, MM, hM⟩ := hw.mails
  obtain ⟨U, UU, hU⟩ := hw.waits
  exact ⟨c2, v, x, F, R, ends, ⟨hw.core, ⟨T, TT, hT.more hb⟩, ⟨M, MM, hM.more hb⟩, ⟨U, UU, hU.more hb⟩⟩, he2, hup⟩
theorem Next.upd {P : Prog} {w w1 : World} {G : Nat} {c : Nat → Nat} {b : Nat} {S1 : RefS} (h : Next P w G c b S1 w1) : Upd (fun k => c k ≠ 0) w w1 := by
  obtain ⟨c2, v, x, F, R, ends, hw, he2, hup⟩ := h
  exact hup

set_option maxRecDepth 100000 in
set_option maxHeartbeats 2000000 in
theorem looks000 (P : Prog) (w : World) (G : Nat) (c : Nat → Nat) (b : Nat) (v : GameV) (S : RefS) (x : RefV) (F : Nat → Prop) (R : List ByteArray) (ends : List Int) (cut turn : Bool) (hg : Whole P w G c b v S x F R ends) (hb : b ≤ 90000000) :
    Calls Tryz.prog 14 #[.pointer (some ⟨G, 0, none⟩), aimV ⟨false, false, false, cut, turn⟩] w fun e w' => e = .returned (.bool true) ∧ Next P w G c (b + 21) S w' := by
  have hGl := hg.core.lies.lt
  have hbA : Below w.heap.size w (w.alloc (.cells #[.bool false, .bool false, .bool false, .bool cut, .bool turn] 24)) := below_one _ _
  have HBA : Hid (Below w.heap.size w (w.alloc (.cells #[.bool false, .bool false, .bool false, .bool cut, .bool turn] 24))) := hbA
  have HGA : Hid (Whole P (w.alloc (.cells #[.bool false, .bool false, .bool false, .bool cut, .bool turn] 24)) G (clean w c) b v S x F R ends) := hg.cleaned hbA
  have HN : Hid (∀ w2, Next P (w.alloc (.cells #[.bool false, .bool false, .bool false, .bool cut, .bool turn] 24)) G (clean w c) (b + 21) S w2 → Next P w G c (b + 21) S w2) := fun w2 h => next_clean hbA h
  have aS0 : (w.alloc (.cells #[.bool false, .bool false, .bool false, .bool cut, .bool turn] 24)).cell? ⟨w.heap.size, 0, none⟩ = some (.bool false) := by simp
  have aW0 : (w.alloc (.cells #[.bool false, .bool false, .bool false, .bool cut, .bool turn] 24)).cell? ⟨w.heap.size, 1, none⟩ = some (.bool false) := by simp
  have ASW : Hid (∀ w2, Upd (fun k => clean w c k ≠ 0) (w.alloc (.cells #[.bool false, .bool false, .bool false, .bool cut, .bool turn] 24)) w2 → w2.cell? ⟨w.heap.size, 0, none⟩ = some (.bool false) ∧ w2.cell? ⟨w.heap.size, 1, none⟩ = some (.bool false) ∧ w.heap.size < w2.heap.size) := fun w2 hu =>
    ⟨hu.cell aS0 (by simp [clean_new w c (Nat.le_refl _)]), hu.cell aW0 (by simp [clean_new w c (Nat.le_refl _)]), by have := hu.size; simp at this; omega⟩
  clear hg hbA aS0 aW0
  go_enter Tryz.func14, Tryz.ntmps14
  go_wp2_with fail
  generalize hWA : w.alloc _ = wa at *
  clear hWA
  have HN0 : Hid (Next P wa G (clean w c) (b + 2 * 0) S wa) := ⟨clean w c, v, x, F, R, ends, HGA.out, Ext.refl _ _, Upd.refl _ _⟩
  go_loopw [5, 6] (fun ok k wr => ∃ j : Nat, j ≤ 10 ∧ ok = .bool true ∧ k = .int .i64 ((j : Int) - 1) ∧ Next P wa G (clean w c) (b + 2 * j) S wr) (fun _ k _ => (9 - intOf k).toNat)
  case atStart => exact ⟨0, by omega, rfl, rfl, HN0.out⟩
  case round =>
    obtain ⟨j, hj, rfl, rfl, c1, v1, x1, F1, R1, ends1, hw1, he1, hu1⟩ := hrel
    have HW1 : Hid (Whole P wr G c1 (b + 2 * j) v1 S x1 F1 R1 ends1) := hw1
    have HE1 : Hid (Ext wa (clean w c) c1) := he1
    have HU1 : Hid (Upd (fun k => clean w c k ≠ 0) wa wr) := hu1
    obtain ⟨aS, aW, aL⟩ := ASW.out wr hu1
    clear hw1 he1 hu1
    by_cases hlt : j < 10
    · go_wp2_with fail
      refine (lawFilters P _ G c1 (b + 2 * j) v1 S x1 F1 R1 ends1 ((j : Int) - 1) HW1.out (by omega)).mono ?_
      rintro e w2 ⟨rfl, h2⟩
      have N2 : Hid (Next P wa G (clean w c) (b + 2 * j + 1) S w2) := Next.then HE1.out HU1.out h2
      clear h2
      have N3 : Hid (Next P wa G (clean w c) (b + 2 * (j + 1)) S w2) := N2.out.more (by omega)
      obtain ⟨aS2, aW2, aL2⟩ := ASW.out w2 N2.out.upd
      clear N2
      go_wp2_with fail
      go_roundw
      case rel => exact ⟨j + 1, by omega, rfl, by go_num, N3.out⟩
      case measure => simp [intOf]; omega
    · obtain rfl : j = 10 := by omega
      have hk0 := HW1.out.core.lies.h
      have hk1 := HW1.out.core.lies.w'
      go_wp2_with fail
      refine (lawKept P _ G c1 (b + 2 * 10) v1 S x1 F1 R1 ends1 HW1.out (by omega)).mono ?_
      rintro e w7 ⟨rfl, hb7⟩
      have HF : Hid (Next P w G c (b + 21) S w7) := HN.out w7 (Next.more ⟨c1, v1, x1, F1, R1, ends1, HW1.out.below hb7, HE1.out, HU1.out.below hb7⟩ (by omega))
      clear hb7
      go_wp2_with fail
      go_ret
      exact ⟨rfl, HF.out⟩

set_option maxRecDepth 100000 in
set_option maxHeartbeats 2000000 in
theorem looks100 (P : Prog) (w : World) (G : Nat) (c : Nat → Nat) (b : Nat) (v : GameV) (S : RefS) (x : RefV) (F : Nat → Prop) (R : List ByteArray) (ends : List Int) (cut turn : Bool) (hg : Whole P w G c b v S x F R ends) (hb : b ≤ 90000000) :
    Calls Tryz.prog 14 #[.pointer (some ⟨G, 0, none⟩), aimV ⟨true, false, false, cut, turn⟩] w fun e w' => e = .returned (.bool true) ∧ Next P w G c (b + 21) S w' := by
  have hGl := hg.core.lies.lt
  have hbA : Below w.heap.size w (w.alloc (.cells #[.bool true, .bool false, .bool false, .bool cut, .bool turn] 24)) := below_one _ _
  have HBA : Hid (Below w.heap.size w (w.alloc (.cells #[.bool true, .bool false, .bool false, .bool cut, .bool turn] 24))) := hbA
  have HGA : Hid (Whole P (w.alloc (.cells #[.bool true, .bool false, .bool false, .bool cut, .bool turn] 24)) G (clean w c) b v S x F R ends) := hg.cleaned hbA
  have HN : Hid (∀ w2, Next P (w.alloc (.cells #[.bool true, .bool false, .bool false, .bool cut, .bool turn] 24)) G (clean w c) (b + 21) S w2 → Next P w G c (b + 21) S w2) := fun w2 h => next_clean hbA h
  have aS0 : (w.alloc (.cells #[.bool true, .bool false, .bool false, .bool cut, .bool turn] 24)).cell? ⟨w.heap.size, 0, none⟩ = some (.bool true) := by simp
  have aW0 : (w.alloc (.cells #[.bool true, .bool false, .bool false, .bool cut, .bool turn] 24)).cell? ⟨w.heap.size, 1, none⟩ = some (.bool false) := by simp
  have ASW : Hid (∀ w2, Upd (fun k => clean w c k ≠ 0) (w.alloc (.cells #[.bool true, .bool false, .bool false, .bool cut, .bool turn] 24)) w2 → w2.cell? ⟨w.heap.size, 0, none⟩ = some (.bool true) ∧ w2.cell? ⟨w.heap.size, 1, none⟩ = some (.bool false) ∧ w.heap.size < w2.heap.size) := fun w2 hu =>
    ⟨hu.cell aS0 (by simp [clean_new w c (Nat.le_refl _)]), hu.cell aW0 (by simp [clean_new w c (Nat.le_refl _)]), by have := hu.size; simp at this; omega⟩
  clear hg hbA aS0 aW0
  go_enter Tryz.func14, Tryz.ntmps14
  go_wp2_with fail
  generalize hWA : w.alloc _ = wa at *
  clear hWA
  have HN0 : Hid (Next P wa G (clean w c) (b + 2 * 0) S wa) := ⟨clean w c, v, x, F, R, ends, HGA.out, Ext.refl _ _, Upd.refl _ _⟩
  go_loopw [5, 6] (fun ok k wr => ∃ j : Nat, j ≤ 10 ∧ ok = .bool true ∧ k = .int .i64 ((j : Int) - 1) ∧ Next P wa G (clean w c) (b + 2 * j) S wr) (fun _ k _ => (9 - intOf k).toNat)
  case atStart => exact ⟨0, by omega, rfl, rfl, HN0.out⟩
  case round =>
    obtain ⟨j, hj, rfl, rfl, c1, v1, x1, F1, R1, ends1, hw1, he1, hu1⟩ := hrel
    have HW1 : Hid (Whole P wr G c1 (b + 2 * j) v1 S x1 F1 R1 ends1) := hw1
    have HE1 : Hid (Ext wa (clean w c) c1) := he1
    have HU1 : Hid (Upd (fun k => clean w c k ≠ 0) wa wr) := hu1
    obtain ⟨aS, aW, aL⟩ := ASW.out wr hu1
    clear hw1 he1 hu1
    by_cases hlt : j < 10
    · go_wp2_with fail
      refine (lawFilters P _ G c1 (b + 2 * j) v1 S x1 F1 R1 ends1 ((j : Int) - 1) HW1.out (by omega)).mono ?_
      rintro e w2 ⟨rfl, h2⟩
      have N2 : Hid (Next P wa G (clean w c) (b + 2 * j + 1) S w2) := Next.then HE1.out HU1.out h2
      clear h2
      obtain ⟨c2, v2, x2, F2, R2, ends2, hw2, he2, hu2⟩ := N2.out
      have HW2 : Hid (Whole P w2 G c2 (b + 2 * j + 1) v2 S x2 F2 R2 ends2) := hw2
      have HE2 : Hid (Ext wa (clean w c) c2) := he2
      have HU2 : Hid (Upd (fun k => clean w c k ≠ 0) wa w2) := hu2
      obtain ⟨aS2, aW2, aL2⟩ := ASW.out w2 hu2
      clear hw2 he2 hu2 N2
      go_wp2_with fail
      refine (lawQueue P _ G c2 (b + 2 * j + 1) v2 S x2 F2 R2 ends2 ((j : Int) - 1) HW2.out (by omega)).mono ?_
      rintro e w3 ⟨rfl, h3⟩
      have N3 : Hid (Next P wa G (clean w c) (b + 2 * (j + 1)) S w3) := Next.then HE2.out HU2.out h3
      clear h3
      go_wp2_with fail
      go_roundw
      case rel => exact ⟨j + 1, by omega, rfl, by go_num, N3.out⟩
      case measure => simp [intOf]; omega
    · obtain rfl : j = 10 := by omega
      have hk0 := HW1.out.core.lies.h
      have hk1 := HW1.out.core.lies.w'
      go_wp2_with fail
      refine (P.time HW1.out.core.pr HW1.out.core.good).mono ?_
      rintro e w4 ⟨rfl, hb4⟩
      have hk14 := cell_later hb4 hk1
      have HW4 : Hid (Whole P w4 G c1 (b + 2 * 10) v1 S x1 F1 R1 ends1) := HW1.out.below hb4
      have HU4 : Hid (Upd (fun k => clean w c k ≠ 0) wa w4) := HU1.out.below hb4
      obtain ⟨aS4, aW4, aL4⟩ := ASW.out w4 HU4.out
      clear hb4
      go_wp2_with fail
      refine (refTime v1.wB x1 S _ HW4.out.core.rep).mono ?_
      rintro e w5 ⟨rfl, rfl⟩
      go_wp2_with fail
      refine (lawKept P _ G c1 (b + 2 * 10) v1 S x1 F1 R1 ends1 HW4.out (by omega)).mono ?_
      rintro e w7 ⟨rfl, hb7⟩
      have HF : Hid (Next P w G c (b + 21) S w7) := HN.out w7 (Next.more ⟨c1, v1, x1, F1, R1, ends1, HW4.out.below hb7, HE1.out, HU4.out.below hb7⟩ (by omega))
      clear hb7
      go_wp2_with fail
      go_ret
      exact ⟨rfl, HF.out⟩

set_option maxRecDepth 100000 in
set_option maxHeartbeats 2000000 in
theorem looks110 (P : Prog) (w : World) (G : Nat) (c : Nat → Nat) (b : Nat) (v : GameV) (S : RefS) (x : RefV) (F : Nat → Prop) (R : List ByteArray) (ends : List Int) (cut turn : Bool) (hg : Whole P w G c b v S x F R ends) (hb : b ≤ 90000000) :
    Calls Tryz.prog 14 #[.pointer (some ⟨G, 0, none⟩), aimV ⟨true, true, false, cut, turn⟩] w fun e w' => e = .returned (.bool true) ∧ Next P w G c (b + 21) S w' := by
  have hGl := hg.core.lies.lt
  have hbA : Below w.heap.size w (w.alloc (.cells #[.bool true, .bool true, .bool false, .bool cut, .bool turn] 24)) := below_one _ _
  have HBA : Hid (Below w.heap.size w (w.alloc (.cells #[.bool true, .bool true, .bool false, .bool cut, .bool turn] 24))) := hbA
  have HGA : Hid (Whole P (w.alloc (.cells #[.bool true, .bool true, .bool false, .bool cut, .bool turn] 24)) G (clean w c) b v S x F R ends) := hg.cleaned hbA
  have HN : Hid (∀ w2, Next P (w.alloc (.cells #[.bool true, .bool true, .bool false, .bool cut, .bool turn] 24)) G (clean w c) (b + 21) S w2 → Next P w G c (b + 21) S w2) := fun w2 h => next_clean hbA h
  have aS0 : (w.alloc (.cells #[.bool true, .bool true, .bool false, .bool cut, .bool turn] 24)).cell? ⟨w.heap.size, 0, none⟩ = some (.bool true) := by simp
  have aW0 : (w.alloc (.cells #[.bool true, .bool true, .bool false, .bool cut, .bool turn] 24)).cell? ⟨w.heap.size, 1, none⟩ = some (.bool true) := by simp
  have ASW : Hid (∀ w2, Upd (fun k => clean w c k ≠ 0) (w.alloc (.cells #[.bool true, .bool true, .bool false, .bool cut, .bool turn] 24)) w2 → w2.cell? ⟨w.heap.size, 0, none⟩ = some (.bool true) ∧ w2.cell? ⟨w.heap.size, 1, none⟩ = some (.bool true) ∧ w.heap.size < w2.heap.size) := fun w2 hu =>
    ⟨hu.cell aS0 (by simp [clean_new w c (Nat.le_refl _)]), hu.cell aW0 (by simp [clean_new w c (Nat.le_refl _)]), by have := hu.size; simp at this; omega⟩
  clear hg hbA aS0 aW0
  go_enter Tryz.func14, Tryz.ntmps14
  go_wp2_with fail
  generalize hWA : w.alloc _ = wa at *
  clear hWA
  have HN0 : Hid (Next P wa G (clean w c) (b + 2 * 0) S wa) := ⟨clean w c, v, x, F, R, ends, HGA.out, Ext.refl _ _, Upd.refl _ _⟩
  go_loopw [5, 6] (fun ok k wr => ∃ j : Nat, j ≤ 10 ∧ ok = .bool true ∧ k = .int .i64 ((j : Int) - 1) ∧ Next P wa G (clean w c) (b + 2 * j) S wr) (fun _ k _ => (9 - intOf k).toNat)
  case atStart => exact ⟨0, by omega, rfl, rfl, HN0.out⟩
  case round =>
    obtain ⟨j, hj, rfl, rfl, c1, v1, x1, F1, R1, ends1, hw1, he1, hu1⟩ := hrel
    have HW1 : Hid (Whole P wr G c1 (b + 2 * j) v1 S x1 F1 R1 ends1) := hw1
    have HE1 : Hid (Ext wa (clean w c) c1) := he1
    have HU1 : Hid (Upd (fun k => clean w c k ≠ 0) wa wr) := hu1
    obtain ⟨aS, aW, aL⟩ := ASW.out wr hu1
    clear hw1 he1 hu1
    by_cases hlt : j < 10
    · go_wp2_with fail
      refine (lawFilters P _ G c1 (b + 2 * j) v1 S x1 F1 R1 ends1 ((j : Int) - 1) HW1.out (by omega)).mono ?_
      rintro e w2 ⟨rfl, h2⟩
      have N2 : Hid (Next P wa G (clean w c) (b + 2 * j + 1) S w2) := Next.then HE1.out HU1.out h2
      clear h2
      obtain ⟨c2, v2, x2, F2, R2, ends2, hw2, he2, hu2⟩ := N2.out
      have HW2 : Hid (Whole P w2 G c2 (b + 2 * j + 1) v2 S x2 F2 R2 ends2) := hw2
      have HE2 : Hid (Ext wa (clean w c) c2) := he2
      have HU2 : Hid (Upd (fun k => clean w c k ≠ 0) wa w2) := hu2
      obtain ⟨aS2, aW2, aL2⟩ := ASW.out w2 hu2
      clear hw2 he2 hu2 N2
      go_wp2_with fail
      refine (lawQueue P _ G c2 (b + 2 * j + 1) v2 S x2 F2 R2 ends2 ((j : Int) - 1) HW2.out (by omega)).mono ?_
      rintro e w3 ⟨rfl, h3⟩
      have N3 : Hid (Next P wa G (clean w c) (b + 2 * (j + 1)) S w3) := Next.then HE2.out HU2.out h3
      clear h3
      go_wp2_with fail
      go_roundw
      case rel => exact ⟨j + 1, by omega, rfl, by go_num, N3.out⟩
      case measure => simp [intOf]; omega
    · obtain rfl : j = 10 := by omega
      have hk0 := HW1.out.core.lies.h
      have hk1 := HW1.out.core.lies.w'
      go_wp2_with fail
      refine (P.time HW1.out.core.pr HW1.out.core.good).mono ?_
      rintro e w4 ⟨rfl, hb4⟩
      have hk14 := cell_later hb4 hk1
      have HW4 : Hid (Whole P w4 G c1 (b + 2 * 10) v1 S x1 F1 R1 ends1) := HW1.out.below hb4
      have HU4 : Hid (Upd (fun k => clean w c k ≠ 0) wa w4) := HU1.out.below hb4
      obtain ⟨aS4, aW4, aL4⟩ := ASW.out w4 HU4.out
      clear hb4
      go_wp2_with fail
      refine (refTime v1.wB x1 S _ HW4.out.core.rep).mono ?_
      rintro e w5 ⟨rfl, rfl⟩
      go_wp2_with fail
      refine (lawWaiting P _ G c1 (b + 2 * 10) v1 S x1 F1 R1 ends1 HW4.out (by omega)).mono ?_
      rintro e w6 ⟨rfl, h6⟩
      have N6 : Hid (Next P wa G (clean w c) (b + 21) S w6) := Next.then HE1.out HU4.out h6
      clear h6
      obtain ⟨c6, v6, x6, F6, R6, ends6, hw6, he6, hu6⟩ := N6.out
      have HW6 : Hid (Whole P w6 G c6 (b + 21) v6 S x6 F6 R6 ends6) := hw6
      have HE6 : Hid (Ext wa (clean w c) c6) := he6
      have HU6 : Hid (Upd (fun k => clean w c k ≠ 0) wa w6) := hu6
      clear hw6 he6 hu6 N6
      go_wp2_with fail
      refine (lawKept P _ G c6 (b + 21) v6 S x6 F6 R6 ends6 HW6.out (by omega)).mono ?_
      rintro e w7 ⟨rfl, hb7⟩
      have HF : Hid (Next P w G c (b + 21) S w7) := HN.out w7 ⟨c6, v6, x6, F6, R6, ends6, HW6.out.below hb7, HE6.out, HU6.out.below hb7⟩
      clear hb7
      go_wp2_with fail
      go_ret
      exact ⟨rfl, HF.out⟩

set_option maxRecDepth 100000 in
set_option maxHeartbeats 2000000 in
theorem looks111 (P : Prog) (w : World) (G : Nat) (c : Nat → Nat) (b : Nat) (v : GameV) (S : RefS) (x : RefV) (F : Nat → Prop) (R : List ByteArray) (ends : List Int) (cut turn : Bool) (hg : Whole P w G c b v S x F R ends) (hb : b ≤ 90000000) :
    Calls Tryz.prog 14 #[.pointer (some ⟨G, 0, none⟩), aimV ⟨true, true, true, cut, turn⟩] w fun e w' => e = .returned (.bool true) ∧ Next P w G c (b + 21) S w' := by
  have hGl := hg.core.lies.lt
  have hbA : Below w.heap.size w (w.alloc (.cells #[.bool true, .bool true, .bool true, .bool cut, .bool turn] 24)) := below_one _ _
  have HBA : Hid (Below w.heap.size w (w.alloc (.cells #[.bool true, .bool true, .bool true, .bool cut, .bool turn] 24))) := hbA
  have HGA : Hid (Whole P (w.alloc (.cells #[.bool true, .bool true, .bool true, .bool cut, .bool turn] 24)) G (clean w c) b v S x F R ends) := hg.cleaned hbA
  have HN : Hid (∀ w2, Next P (w.alloc (.cells #[.bool true, .bool true, .bool true, .bool cut, .bool turn] 24)) G (clean w c) (b + 21) S w2 → Next P w G c (b + 21) S w2) := fun w2 h => next_clean hbA h
  have aS0 : (w.alloc (.cells #[.bool true, .bool true, .bool true, .bool cut, .bool turn] 24)).cell? ⟨w.heap.size, 0, none⟩ = some (.bool true) := by simp
  have aW0 : (w.alloc (.cells #[.bool true, .bool true, .bool true, .bool cut, .bool turn] 24)).cell? ⟨w.heap.size, 1, none⟩ = some (.bool true) := by simp
  have ASW : Hid (∀ w2, Upd (fun k => clean w c k ≠ 0) (w.alloc (.cells #[.bool true, .bool true, .bool true, .bool cut, .bool turn] 24)) w2 → w2.cell? ⟨w.heap.size, 0, none⟩ = some (.bool true) ∧ w2.cell? ⟨w.heap.size, 1, none⟩ = some (.bool true) ∧ w.heap.size < w2.heap.size) := fun w2 hu =>
    ⟨hu.cell aS0 (by simp [clean_new w c (Nat.le_refl _)]), hu.cell aW0 (by simp [clean_new w c (Nat.le_refl _)]), by have := hu.size; simp at this; omega⟩
  clear hg hbA aS0 aW0
  go_enter Tryz.func14, Tryz.ntmps14
  go_wp2_with fail
  generalize hWA : w.alloc _ = wa at *
  clear hWA
  refine (lawWrites P wa G (clean w c) b v S x F R ends HGA.out).mono ?_
  rintro e w1 ⟨rfl, v1, ends1, hw1, -, hu1⟩
  have HN0 : Hid (Next P wa G (clean w c) (b + 2 * 0) S w1) := ⟨clean w c, v1, x, F, R, ends1, hw1, Ext.refl _ _, hu1⟩
  clear hw1 hu1
  go_wp2_with fail
  go_loopw [5, 6] (fun ok k wr => ∃ j : Nat, j ≤ 10 ∧ ok = .bool true ∧ k = .int .i64 ((j : Int) - 1) ∧ Next P wa G (clean w c) (b + 2 * j) S wr) (fun _ k _ => (9 - intOf k).toNat)
  case atStart => exact ⟨0, by omega, rfl, rfl, HN0.out⟩
  case round =>
    obtain ⟨j, hj, rfl, rfl, c1, v1, x1, F1, R1, ends1, hw1, he1, hu1⟩ := hrel
    have HW1 : Hid (Whole P wr G c1 (b + 2 * j) v1 S x1 F1 R1 ends1) := hw1
    have HE1 : Hid (Ext wa (clean w c) c1) := he1
    have HU1 : Hid (Upd (fun k => clean w c k ≠ 0) wa wr) := hu1
    obtain ⟨aS, aW, aL⟩ := ASW.out wr hu1
    clear hw1 he1 hu1
    by_cases hlt : j < 10
    · go_wp2_with fail
      refine (lawFilters P _ G c1 (b + 2 * j) v1 S x1 F1 R1 ends1 ((j : Int) - 1) HW1.out (by omega)).mono ?_
      rintro e w2 ⟨rfl, h2⟩
      have N2 : Hid (Next P wa G (clean w c) (b + 2 * j + 1) S w2) := Next.then HE1.out HU1.out h2
      clear h2
      obtain ⟨c2, v2, x2, F2, R2, ends2, hw2, he2, hu2⟩ := N2.out
      have HW2 : Hid (Whole P w2 G c2 (b + 2 * j + 1) v2 S x2 F2 R2 ends2) := hw2
      have HE2 : Hid (Ext wa (clean w c) c2) := he2
      have HU2 : Hid (Upd (fun k => clean w c k ≠ 0) wa w2) := hu2
      obtain ⟨aS2, aW2, aL2⟩ := ASW.out w2 hu2
      clear hw2 he2 hu2 N2
      go_wp2_with fail
      refine (lawQueue P _ G c2 (b + 2 * j + 1) v2 S x2 F2 R2 ends2 ((j : Int) - 1) HW2.out (by omega)).mono ?_
      rintro e w3 ⟨rfl, h3⟩
      have N3 : Hid (Next P wa G (clean w c) (b + 2 * (j + 1)) S w3) := Next.then HE2.out HU2.out h3
      clear h3
      go_wp2_with fail
      go_roundw
      case rel => exact ⟨j + 1, by omega, rfl, by go_num, N3.out⟩
      case measure => simp [intOf]; omega
    · obtain rfl : j = 10 := by omega
      have hk0 := HW1.out.core.lies.h
      have hk1 := HW1.out.core.lies.w'
      go_wp2_with fail
      refine (P.time HW1.out.core.pr HW1.out.core.good).mono ?_
      rintro e w4 ⟨rfl, hb4⟩
      have hk14 := cell_later hb4 hk1
      have HW4 : Hid (Whole P w4 G c1 (b + 2 * 10) v1 S x1 F1 R1 ends1) := HW1.out.below hb4
      have HU4 : Hid (Upd (fun k => clean w c k ≠ 0) wa w4) := HU1.out.below hb4
      obtain ⟨aS4, aW4, aL4⟩ := ASW.out w4 HU4.out
      clear hb4
      go_wp2_with fail
      refine (refTime v1.wB x1 S _ HW4.out.core.rep).mono ?_
      rintro e w5 ⟨rfl, rfl⟩
      go_wp2_with fail
      refine (lawWaiting P _ G c1 (b + 2 * 10) v1 S x1 F1 R1 ends1 HW4.out (by omega)).mono ?_
      rintro e w6 ⟨rfl, h6⟩
      have N6 : Hid (Next P wa G (clean w c) (b + 21) S w6) := Next.then HE1.out HU4.out h6
      clear h6
      obtain ⟨c6, v6, x6, F6, R6, ends6, hw6, he6, hu6⟩ := N6.out
      have HW6 : Hid (Whole P w6 G c6 (b + 21) v6 S x6 F6 R6 ends6) := hw6
      have HE6 : Hid (Ext wa (clean w c) c6) := he6
      have HU6 : Hid (Upd (fun k => clean w c k ≠ 0) wa w6) := hu6
      clear hw6 he6 hu6 N6
      go_wp2_with fail
      refine (lawKept P _ G c6 (b + 21) v6 S x6 F6 R6 ends6 HW6.out (by omega)).mono ?_
      rintro e w7 ⟨rfl, hb7⟩
      have HF : Hid (Next P w G c (b + 21) S w7) := HN.out w7 ⟨c6, v6, x6, F6, R6, ends6, HW6.out.below hb7, HE6.out, HU6.out.below hb7⟩
      clear hb7
      go_wp2_with fail
      go_ret
      exact ⟨rfl, HF.out⟩
end Go.Proofs.YtmjdndhfmfjbiaaGreat
