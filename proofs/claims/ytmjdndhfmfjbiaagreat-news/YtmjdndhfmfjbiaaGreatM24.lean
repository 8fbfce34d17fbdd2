import Derived.Test.YtmjdndhfmfjbiaaGreatM23
import Derived.Deep.RegionWith
import Derived.Laws.ResultCell
import Derived.Test.YtmjdndhfmfjbiaaGreatM22
import Derived.Test.YtmjdndhfmfjbiaaGreatM17
namespace Go.Proofs.YtmjdndhfmfjbiaaGreat
open Go.RowKit

theorem brow_new (w : World) (s : ByteArray) (hs : s.size ≤ 1048576) : ∃ cap w1, (convert 9 50 (.string s)).run Tryz.prog w = .ok (.slice (some ⟨w.heap.size, 0, none⟩) s.data.toList.length cap) w1 ∧ BRow w1 w.heap.size cap s.data.toList ∧ Below w.heap.size w w1 ∧ w.heap.size < w1.heap.size := by
  have hge := grownCap_ge w s.size 0 5
  have hcm : grownCap w s.size 0 5 ≤ maxLen := grownCap_le_maxLen w s.size 0 5 (by unfold maxLen; omega)
  have hr := run_bytes_of_string (P := Tryz.prog) w 9 50 5 s Tryz.underlying9 Tryz.underlying50 Tryz.underlying5
  generalize grownCap w s.size 0 5 = cap at *
  have hsz : (bytesRow s cap).size = cap := by
    rw [bytesRow, Array.size_append, Array.size_map, Array.size_replicate]
    have : s.data.size = s.size := rfl
    omega
  rw [hsz] at hr
  have hn : (w.drew.alloc (.cells (bytesRow s cap) 5 (cap, cap + 1))).heap[w.heap.size]? = some (.cells (bytesRow s cap) 5 (cap, cap + 1)) := heap_alloc_new w.drew _
  have hcell : ∀ j, (w.drew.alloc (.cells (bytesRow s cap) 5 (cap, cap + 1))).cell? ⟨w.heap.size, j, none⟩ = (bytesRow s cap)[j]? := fun j => cell_of_row _ w.heap.size j _ _ _ hn
  refine ⟨cap, w.drew.alloc (.cells (bytesRow s cap) 5 (cap, cap + 1)), by rw [hr, ba_size], ⟨by rw [← ba_size]; exact hge, hcm, fun j b hb => ?_, fun j hj => ⟨?_, ?_⟩⟩, ⟨rfl, rfl, rfl, by simp, fun k hk => heap_alloc_old w.drew _ hk⟩, by simp⟩
  · rw [hcell]
    obtain ⟨hl, rfl⟩ := List.getElem?_eq_some_iff.1 hb
    have hl' : j < s.data.size := by rw [Array.length_toList] at hl; exact hl
    rw [bytesRow, Array.getElem?_append_left (by simpa using hl'), Array.getElem?_map, Array.getElem?_eq_getElem hl', Option.map_some, Array.getElem_toList]
  · rw [hcell, Array.getElem?_eq_getElem (by omega)]; rfl
  · unfold World.frozen?
    rw [hn]
    simp
    omega

theorem brow_alloc {w : World} {g cap : Nat} {l : List UInt8} (h : BRow w g cap l) (hg : g < w.heap.size) (o : Obj) : BRow (w.alloc o) g cap l :=
  ⟨h.le, h.max, fun j b hb => (World.cell?_alloc_past _ _ _ hg).trans (h.cells j b hb), fun j hj => by
    rw [World.cell?_alloc_past _ _ _ hg, World.frozen?_alloc_past _ _ _ hg]; exact h.free j hj⟩

/-- A byte more behind it: in its own room, or in a new one. -/
theorem brow_app {w : World} {g cap : Nat} {l : List UInt8} (h : BRow w g cap l) (hg : g < w.heap.size) (hl : l.length ≤ 1048576) (b : UInt8) (a : Addr) (ha : w.cell? (a.add 0) = some (.int .u8 (b.toNat : Int))) :
    ∃ g1 cap1 w1, (Builtin.append_ #[50, 50] 50 #[.slice (some ⟨g, 0, none⟩) l.length cap, .slice (some a) 1 1]).run Tryz.prog w = .ok (.slice (some ⟨g1, 0, none⟩) (l ++ [b]).length cap1) w1 ∧
      BRow w1 g1 cap1 (l ++ [b]) ∧ g1 < w1.heap.size ∧ (g1 = g ∨ w.heap.size ≤ g1) ∧ Upd (fun k => k = g) w w1 := by
  obtain ⟨i, hi, hz, h1, h2⟩ := info_parts infoU8
  have hnews : ∀ j u, [Value.int .u8 (b.toNat : Int)][j]? = some u → w.cell? (a.add j) = some u := fun j u hu => by
    cases j with
    | zero => simp at hu; subst hu; exact ha
    | succ j => simp at hu
  have hone : ∀ u ∈ [Value.int .u8 (b.toNat : Int)], u.oneCell' = true := fun u hu => by simp at hu; subst hu; rfl
  by_cases hroom : l.length + 1 ≤ cap
  · have hr := run_append_room_cells (P := Tryz.prog) w 50 50 5 i Tryz.underlying50 hi g 0 l.length cap a 1 1 [.int .u8 (b.toNat : Int)] (by rw [h1]; rfl) hnews hone hroom
      (fun j hj => by rw [h1]; simp at hj; subst hj; have := (h.free l.length (by omega)).1; simpa using this) (fun j hj => by rw [h1]; simp at hj; subst hj; have := (h.free l.length (by omega)).2; simpa using this)
    have e0 : 0 + l.length * i.size = l.length := by rw [h1]; omega
    rw [e0] at hr
    have hold := (h.free l.length (by omega)).1
    obtain ⟨u, hu⟩ := Option.isSome_iff_exists.1 hold
    have key : ∀ j, (w.setCell ⟨g, l.length, none⟩ (.int .u8 (b.toNat : Int))).cell? ⟨g, j, none⟩ = if j = l.length then some (.int .u8 (b.toNat : Int)) else w.cell? ⟨g, j, none⟩ := fun j => by
      by_cases e : j = l.length
      · subst e; rw [if_pos rfl]; exact World.cell?_setCell_same _ _ _ hu
      · rw [if_neg e, World.cell?_setCell_other _ _ _ _ (by simp)]
    refine ⟨g, cap, w.setCell ⟨g, l.length, none⟩ (.int .u8 (b.toNat : Int)), by rw [List.length_append]; exact hr, ⟨by simp; omega, h.max, fun j c hc => ?_, fun j hj => ⟨?_, ?_⟩⟩, by simp [World.setCell]; exact hg, .inl rfl, (Upd.refl (fun k => k = g) w).setCell (p := ⟨g, l.length, none⟩) (fun _ => rfl) _⟩
    · rw [key]
      by_cases e : j = l.length
      · subst e; simp at hc; subst hc; rw [if_pos rfl]
      · rw [if_neg e]
        have hjl : j < l.length := by
          have := (List.getElem?_eq_some_iff.1 hc).1
          simp at this; omega
        rw [List.getElem?_append_left hjl] at hc
        exact h.cells j c hc
    · rw [key]
      split
      · rfl
      · exact (h.free j hj).1
    · have := World.frozen?_setCells g [.int .u8 (b.toNat : Int)] l.length w ⟨g, j, none⟩
      exact this.trans (h.free j hj).2
  · have holds : ∀ j u, (l.flatMap u8f)[j]? = some u → w.cell? ((⟨g, 0, none⟩ : Addr).add j) = some u := fun j u hu => by
      have hjl : j < l.length := by
        have := (List.getElem?_eq_some_iff.1 hu).1
        rw [flat_len u8f 1 (fun _ => rfl)] at this; omega
      rw [u8_get (List.getElem?_eq_getElem hjl)] at hu
      rw [Addr.add_lit, Nat.zero_add, h.cells j _ (List.getElem?_eq_getElem hjl)]
      exact hu
    obtain ⟨v1, w1, hr, hown, hgr⟩ := run_append_arg_grows (P := Tryz.prog) w 50 50 5 i (.int .u8 0) 1 1 Tryz.underlying50 hi hz h1 h2 rfl (by omega) ⟨g, 0, none⟩ l.length cap (l.flatMap u8f) (flat_len u8f 1 (fun _ => rfl) l) holds a 1 1 [.int .u8 (b.toNat : Int)] rfl hnews (by omega) (by unfold maxLen; omega) (by omega)
    rcases hown.2 with ⟨-, h0⟩ | ⟨g1, cap1, cur, rfl, hb1, hg1, hc1, hm1, hs1, ht1⟩
    · omega
    have hcell : ∀ j, w1.cell? ⟨g1, j, none⟩ = cur[j]? := fun j => cell_of_row _ g1 j _ _ _ hg1
    have hlt1 := (hown.lt g1 rfl).2
    refine ⟨g1, cap1, w1, by rw [List.length_append]; exact hr, ⟨by simp; omega, hm1, fun j c hc => ?_, fun j hj => ⟨?_, ?_⟩⟩, hlt1, .inr hb1, ⟨hgr.os, hgr.tape, hgr.output, hgr.size, fun k hk _ => hgr.block k hk (by simp)⟩⟩
    · have e : (l ++ [b]).flatMap u8f = l.flatMap u8f ++ [.int .u8 (b.toNat : Int)] := by simp [u8f]
      have := hown.cells (g := g1) rfl j _ (by rw [← e]; exact u8_get hc)
      rwa [Addr.add_lit, Nat.zero_add] at this
    · rw [hcell, Array.getElem?_eq_getElem (by omega)]; rfl
    · exact frozen_of_row w1 g1 j cur _ hg1

/-- An append, by its run. -/
theorem wpList_append_run {P : Program} {w : World} {ops : Array Oper} {rest : List Oper} {o : Oper} {a : Act} {Q : Exit → Act → World → Prop} (hgd : o.guard = none) (s x : Operand) (t : TypeId)
    (ho : o.op = .call { callee := .builtin .append, args := #[s, x], argTypes := #[t, t] }) (u y v' : Value) (w' : World) (hs : a.eval s = u) (hx : a.eval x = y) (hr : (Builtin.append_ #[t, t] o.type #[u, y]).run P w = .ok v' w')
    (h : wpList P ops Q rest (a.put o.dst v') w') : wpList P ops Q (o :: rest) a w := by
  refine wpList_plain hgd fun K hK => ?_
  unfold Oper.wp execOp
  simp only [ho, resolve, invoke, builtin, Sem.run_bind, Sem.run_pure, Result.andThen_ok, List.map_toArray, List.map_cons, List.map_nil, hs, hx, hr]
  exact hK _ _ h

theorem brow_text {w : World} {g cap : Nat} {l : List UInt8} (h : BRow w g cap l) : (convert 50 9 (.slice (some ⟨g, 0, none⟩) l.length cap)).run Tryz.prog w = .ok (.string ⟨l.toArray⟩) w :=
  run_convert_bytes_back (P := Tryz.prog) w 50 9 5 ⟨g, 0, none⟩ cap l Tryz.underlying50 Tryz.underlying5 Tryz.underlying9 (fun j hj => by
    rw [Addr.add_lit, Nat.zero_add, h.cells j _ (List.getElem?_eq_getElem hj)])

theorem brow_below {w w1 : World} {g cap : Nat} {l : List UInt8} (h : BRow w g cap l) (hb : Below w.heap.size w w1) (hg : g < w.heap.size) : BRow w1 g cap l :=
  have e := hb.block g hg
  ⟨h.le, h.max, fun j b hb => (World.cell?_of_block (w := w) e).trans (h.cells j b hb), fun j hj => by
    rw [World.cell?_of_block (w := w) (a := ⟨g, j, none⟩) e, World.frozen?_of_block (w := w) (a := ⟨g, j, none⟩) e]; exact h.free j hj⟩

set_option maxRecDepth 100000 in
set_option maxHeartbeats 1000000 in
theorem recFilled (s : ByteArray) (n : Nat) (w : World) (hs : s.size ≤ n) (hn : n ≤ 1000) : Calls Tryz.prog 107 #[.string s, .int .i64 (n : Int)] w fun e w' => e = .returned (.string (fillA s n)) ∧ Below w.heap.size w w' := by
  obtain ⟨cap, w1, hcv, hbr, hb1, hlt1⟩ := brow_new w s (by omega)
  have HR : Hid (BRow w1 w.heap.size cap s.data.toList) := hbr
  have HB : Hid (Below w.heap.size w w1) := hb1
  have hsl : s.data.toList.length ≤ n := by rw [← ba_size]; exact hs
  clear hbr hb1
  go_enter Tryz.func107, Tryz.ntmps107
  go_wp2_with fail
  go_loopw [5] (fun v wr => ∃ (k g c : Nat), s.data.toList.length + k ≤ n ∧ v = .slice (some ⟨g, 0, none⟩) (s.data.toList ++ List.replicate k 0).length c ∧ BRow wr g c (s.data.toList ++ List.replicate k 0) ∧ w.heap.size ≤ g ∧ g < wr.heap.size ∧ Below w.heap.size w wr) (fun v _ => n - (match v with | .slice _ m _ => m | _ => 0))
  case atStart => exact ⟨0, w.heap.size, cap, by omega, by simp, by simpa using HR.out, Nat.le_refl _, hlt1, HB.out⟩
  case round =>
    obtain ⟨k, g, c, hk, rfl, hrow, hg0, hg1, hbw⟩ := hrel
    have HLEN : Hid ((s.data.toList ++ List.replicate k (0 : UInt8)).length = s.data.toList.length + k) := by show List.length _ = _; simp
    have HE : Hid (s.data.toList ++ List.replicate (k + 1) (0 : UInt8) = (s.data.toList ++ List.replicate k 0) ++ [0]) := by show _ = _; rw [List.replicate_succ', List.append_assoc]
    have HD : Hid (k = n - s.data.toList.length → s.data.toList ++ List.replicate k (0 : UInt8) = fillL s n) := by
      intro e; rw [fillL, e, ba_size]
    generalize hT : s.data.toList ++ List.replicate k (0 : UInt8) = T at *
    clear hT
    have hTn : T.length ≤ n := by have := HLEN.out; omega
    by_cases hlt : T.length < n
    · obtain ⟨g1, c1, w2, hr, hrow2, hg2, hor, hu⟩ := brow_app (brow_alloc hrow hg1 (.cells #[.int .u8 0] 5)) (by simp; omega) (by omega) 0 ⟨wr.heap.size, 0, none⟩ (cells_new wr [.int .u8 0] 5 0 _ rfl)
      have HR2 : Hid (BRow w2 g1 c1 (T ++ [0])) := hrow2
      have HB2 : Hid (Below w.heap.size w w2) := ⟨hu.os.trans hbw.os, hu.tape.trans hbw.tape, hu.output.trans hbw.output, Nat.le_trans hbw.size (Nat.le_trans (by simp) hu.size), fun i hi => (hu.block i (by have := hbw.size; simp; omega) (by omega)).trans ((heap_alloc_old wr _ (by have := hbw.size; omega)).trans (hbw.block i hi))⟩
      have hg3 : w.heap.size ≤ g1 := by
        rcases hor with e | e
        · omega
        · have := hbw.size; simp at e; omega
      have HLT : Hid ((T ++ [0]).length = T.length + 1) := by show List.length _ = _; simp
      clear hrow2 hu hor hrow
      generalize hT2 : T ++ [(0 : UInt8)] = T2 at *
      clear hT2
      go_wp2_with (first | (at_builtin; refine wpList_append_run rfl _ _ 50 rfl _ _ _ _ rfl rfl hr ?_))
      go_wp2_with fail
      go_roundw
      case rel => exact ⟨k + 1, g1, c1, by have := HLEN.out; omega, by rw [HE.out], by rw [HE.out]; exact HR2.out, hg3, hg2, HB2.out⟩
      case measure => have h1 := HLT.out; simp only; omega
    · have hcv := brow_text hrow
      have HL : Hid (fillA s n = ⟨T.toArray⟩) := by show fillA s n = _; rw [fillA, ← HD.out (by have := HLEN.out; omega)]
      clear hrow
      go_wp2_with fail
      go_ret
      exact ⟨ret_str HL.out.symm, hbw⟩
end Go.Proofs.YtmjdndhfmfjbiaaGreat

namespace Go.Proofs.YtmjdndhfmfjbiaaGreat
open Go.RowKit

/-- Numbers that can be written. -/
structure Small (r : RecD) : Prop where
  call : 0 ≤ r.call ∧ r.call ≤ 4611686018427387904
  client : 0 ≤ r.client ∧ r.client ≤ 4611686018427387904
  text : r.text.size ≤ 15
  number : 0 ≤ r.number ∧ r.number ≤ 4611686018427387904
  value : 0 ≤ r.value ∧ r.value ≤ 4611686018427387904
  delay : 0 ≤ r.delay ∧ r.delay ≤ 4611686018427387904
  life : 0 ≤ r.life ∧ r.life ≤ 4611686018427387904
  to : 0 ≤ r.to ∧ r.to ≤ 4611686018427387904

theorem leA_size (n : Int) (k : Nat) : (leA n k).size ≤ k := by rw [ba_size, leA, le_len]; exact Nat.le_refl _
theorem fillA_size (s : ByteArray) (h : s.size ≤ 15) : (fillA s 15).size ≤ 15 := by rw [ba_size, fillA, fill_len _ _ h]; exact Nat.le_refl _

set_option maxRecDepth 100000 in
set_option maxHeartbeats 1000000 in
theorem recWrite (r : RecD) (w : World) (hr : Small r) : Calls Tryz.prog 74 #[recV r] w fun e w' => e = .returned (.string (encM r)) ∧ Below w.heap.size w w' := by
  obtain ⟨⟨a0, a1⟩, ⟨b0, b1⟩, ht, ⟨c0, c1⟩, ⟨d0, d1⟩, ⟨e0, e1⟩, ⟨f0, f1⟩, ⟨g0, g1⟩⟩ := hr
  have s0 := leA_size r.call 1
  have s1 := leA_size r.client 1
  have s2 := fillA_size r.text ht
  have s3 := leA_size r.number 2
  have s4 := leA_size r.value 4
  have s5 := leA_size r.delay 6
  have s6 := leA_size r.life 6
  have s7 := leA_size r.to 6
  have s8 := leA_size (sumA (bodyA r)) 1
  go_enter Tryz.func74, Tryz.ntmps74
  go_wp2_with fail
  generalize hWA : w.alloc _ = wa
  have hbA : Below w.heap.size w wa := by rw [← hWA]; exact below_one _ _
  have x1 : wa.cell? ⟨w.heap.size, 1, none⟩ = some (.int .i64 r.client) := by rw [← hWA]; simp
  have x2 : wa.cell? ⟨w.heap.size, 2, none⟩ = some (.string r.text) := by rw [← hWA]; simp
  have x3 : wa.cell? ⟨w.heap.size, 3, none⟩ = some (.int .i64 r.number) := by rw [← hWA]; simp
  have x4 : wa.cell? ⟨w.heap.size, 4, none⟩ = some (.int .i64 r.value) := by rw [← hWA]; simp
  have x5 : wa.cell? ⟨w.heap.size, 5, none⟩ = some (.int .i64 r.delay) := by rw [← hWA]; simp
  have x6 : wa.cell? ⟨w.heap.size, 6, none⟩ = some (.int .i64 r.life) := by rw [← hWA]; simp
  have x7 : wa.cell? ⟨w.heap.size, 7, none⟩ = some (.int .i64 r.to) := by rw [← hWA]; simp
  have hsA : w.heap.size < wa.heap.size := by rw [← hWA]; simp
  clear hWA
  refine (recNumberText r.call 1 _ a0 a1 (by omega) (by omega)).mono ?_
  rintro e w1 ⟨rfl, hb1⟩
  have HB1 : Hid (Below w.heap.size w w1) := hbA.trans (hb1.mono hbA.size)
  have y11 := cell_later hb1 x1
  have y12 := cell_later hb1 x2
  have y13 := cell_later hb1 x3
  have y14 := cell_later hb1 x4
  have y15 := cell_later hb1 x5
  have y16 := cell_later hb1 x6
  have y17 := cell_later hb1 x7
  clear x1 x2 x3 x4 x5 x6 x7 hb1
  go_wp2_with fail
  refine (recNumberText r.client 1 _ b0 b1 (by omega) (by omega)).mono ?_
  rintro e w2 ⟨rfl, hb2⟩
  have HB2 : Hid (Below w.heap.size w w2) := HB1.out.trans (hb2.mono HB1.out.size)
  have y22 := cell_later hb2 y12
  have y23 := cell_later hb2 y13
  have y24 := cell_later hb2 y14
  have y25 := cell_later hb2 y15
  have y26 := cell_later hb2 y16
  have y27 := cell_later hb2 y17
  clear y12 y13 y14 y15 y16 y17 hb2
  go_wp2_with fail
  refine (recFilled r.text 15 _ ht (by omega)).mono ?_
  rintro e w3 ⟨rfl, hb3⟩
  have HB3 : Hid (Below w.heap.size w w3) := HB2.out.trans (hb3.mono HB2.out.size)
  have y33 := cell_later hb3 y23
  have y34 := cell_later hb3 y24
  have y35 := cell_later hb3 y25
  have y36 := cell_later hb3 y26
  have y37 := cell_later hb3 y27
  clear y23 y24 y25 y26 y27 hb3
  go_wp2_with fail
  refine (recNumberText r.number 2 _ c0 c1 (by omega) (by omega)).mono ?_
  rintro e w4 ⟨rfl, hb4⟩
  have HB4 : Hid (Below w.heap.size w w4) := HB3.out.trans (hb4.mono HB3.out.size)
  have y44 := cell_later hb4 y34
  have y45 := cell_later hb4 y35
  have y46 := cell_later hb4 y36
  have y47 := cell_later hb4 y37
  clear y34 y35 y36 y37 hb4
  go_wp2_with fail
  refine (recNumberText r.value 4 _ d0 d1 (by omega) (by omega)).mono ?_
  rintro e w5 ⟨rfl, hb5⟩
  have HB5 : Hid (Below w.heap.size w w5) := HB4.out.trans (hb5.mono HB4.out.size)
  have y55 := cell_later hb5 y45
  have y56 := cell_later hb5 y46
  have y57 := cell_later hb5 y47
  clear y45 y46 y47 hb5
  go_wp2_with fail
  refine (recNumberText r.delay 6 _ e0 e1 (by omega) (by omega)).mono ?_
  rintro e w6 ⟨rfl, hb6⟩
  have HB6 : Hid (Below w.heap.size w w6) := HB5.out.trans (hb6.mono HB5.out.size)
  have y66 := cell_later hb6 y56
  have y67 := cell_later hb6 y57
  clear y56 y57 hb6
  go_wp2_with fail
  refine (recNumberText r.life 6 _ f0 f1 (by omega) (by omega)).mono ?_
  rintro e w7 ⟨rfl, hb7⟩
  have HB7 : Hid (Below w.heap.size w w7) := HB6.out.trans (hb7.mono HB6.out.size)
  have y77 := cell_later hb7 y67
  clear y67 hb7
  go_wp2_with fail
  refine (recNumberText r.to 6 _ g0 g1 (by omega) (by omega)).mono ?_
  rintro e w8 ⟨rfl, hb8⟩
  have HB8 : Hid (Below w.heap.size w w8) := HB7.out.trans (hb8.mono HB7.out.size)
  clear hb8 y77
  go_wp2_with fail
  refine (recSum (bodyA r) _ (by rw [ba_size, body_len r ht]; omega)).mono ?_
  rintro e w9 ⟨rfl, rfl⟩
  have hsum := sum_bd (bodyA r).data.toList
  go_wp2_with fail
  refine (recNumberText (sumA (bodyA r)) 1 _ hsum.1 (by unfold sumA; omega) (by omega) (by omega)).mono ?_
  rintro e w10 ⟨rfl, hb10⟩
  clear hsum
  go_wp2_with fail
  go_ret
  exact ⟨rfl, HB8.out.trans (hb10.mono HB8.out.size)⟩
end Go.Proofs.YtmjdndhfmfjbiaaGreat

namespace Go.Proofs.YtmjdndhfmfjbiaaGreat
open Go.RowKit

/-- What stands in a text. -/
def rawR (t : ByteArray) : RecD := givenM (decM t)
def isRec (t : ByteArray) : Bool := (rawR t).call != 0 && (encM (rawR t)).toList == t.toList

theorem val_le2 (s : ByteArray) (h : s.size ≤ 6) : 0 ≤ valA s ∧ valA s ≤ 281474976710656 := by
  have h1 := val_bd s.data.toList
  have h2 : s.data.toList.length ≤ 6 := by rw [← ba_size]; exact h
  have h3 : (256 : Nat) ^ s.data.toList.length ≤ 256 ^ 6 := Nat.pow_le_pow_right (by omega) h2
  have h4 : ((256 ^ s.data.toList.length : Nat) : Int) = (256 : Int) ^ s.data.toList.length := by simp [Int.natCast_pow]
  have h5 : (256 : Nat) ^ 6 = 281474976710656 := by decide
  unfold valA
  omega
theorem ext_size (t : ByteArray) (a b : Nat) : (t.extract a b).size ≤ b - a := by rw [ba_size, ba_extract, List.length_drop, List.length_take]; omega
theorem unfill_size (s : ByteArray) : (unfillM s).size ≤ s.size := by rw [unfillM, ba_size, ba_extract, List.length_drop, List.length_take, ← ba_size]; omega
theorem given_small {r : RecD} (h : Small r) : Small (givenM r) := by
  have z : (0 : Int) ≤ 0 ∧ (0 : Int) ≤ 4611686018427387904 := by omega
  have zt : (⟨#[]⟩ : ByteArray).size ≤ 15 := Nat.zero_le _
  unfold givenM
  split
  · exact ⟨⟨by show (0 : Int) ≤ 1; omega, by show (1 : Int) ≤ _; omega⟩, h.client, h.text, z, z, z, z, z⟩
  split
  · exact ⟨⟨by show (0 : Int) ≤ 2; omega, by show (2 : Int) ≤ _; omega⟩, h.client, h.text, z, z, z, z, z⟩
  split
  · exact ⟨⟨by show (0 : Int) ≤ 3; omega, by show (3 : Int) ≤ _; omega⟩, z, h.text, z, h.value, h.delay, h.life, z⟩
  split
  · exact ⟨⟨by show (0 : Int) ≤ 4; omega, by show (4 : Int) ≤ _; omega⟩, z, zt, h.number, z, z, z, z⟩
  split
  · exact ⟨⟨by show (0 : Int) ≤ 5; omega, by show (5 : Int) ≤ _; omega⟩, z, zt, h.number, z, h.delay, z, z⟩
  split
  · exact ⟨⟨by show (0 : Int) ≤ 6; omega, by show (6 : Int) ≤ _; omega⟩, z, zt, z, z, z, z, h.to⟩
  split
  · exact ⟨⟨by show (0 : Int) ≤ 7; omega, by show (7 : Int) ≤ _; omega⟩, h.client, zt, h.number, z, z, z, z⟩
  · exact ⟨z, z, zt, z, z, z, z, z⟩
theorem raw_small (t : ByteArray) : Small (rawR t) := by
  have big : ∀ a b, b - a ≤ 6 → 0 ≤ valA (t.extract a b) ∧ valA (t.extract a b) ≤ 4611686018427387904 := fun a b h => by
    have h1 := val_le2 (t.extract a b) (Nat.le_trans (ext_size t a b) h)
    omega
  have hx : (unfillM (t.extract 2 17)).size ≤ 15 := Nat.le_trans (unfill_size _) (ext_size t 2 17)
  have b0 := big 0 1 (by omega)
  have b1 := big 1 2 (by omega)
  have b3 := big 17 19 (by omega)
  have b4 := big 19 23 (by omega)
  have b5 := big 23 29 (by omega)
  have b6 := big 29 35 (by omega)
  have b7 := big 35 41 (by omega)
  unfold rawR
  refine given_small ?_
  unfold decM
  generalize valA (t.extract 0 1) = v0 at *
  generalize valA (t.extract 1 2) = v1 at *
  generalize valA (t.extract 17 19) = v3 at *
  generalize valA (t.extract 19 23) = v4 at *
  generalize valA (t.extract 23 29) = v5 at *
  generalize valA (t.extract 29 35) = v6 at *
  generalize valA (t.extract 35 41) = v7 at *
  exact ⟨b0, b1, hx, b3, b4, b5, b6, b7⟩

/-- What Read answers. -/
def readV (t : ByteArray) : Value := .tuple #[recV (if isRec t then rawR t else nilRec), .bool (isRec t)]
theorem readV_not {t : ByteArray} (h : isRec t = false) : readV t = .tuple #[recV nilRec, .bool false] := by unfold readV; rw [h]; rfl
theorem readV_is {t : ByteArray} (h : isRec t = true) : readV t = .tuple #[recV (rawR t), .bool true] := by unfold readV; rw [h]; rfl
theorem below8 {B g : Nat} {w w2 : World} (h : Below B w w2) (hg : B ≤ g) (a0 a1 a2 a3 a4 a5 a6 a7 : Value) : Below B w ((((((((w2.setCell ⟨g, 0, none⟩ a0).setCell ⟨g, 1, none⟩ a1).setCell ⟨g, 2, none⟩ a2).setCell ⟨g, 3, none⟩ a3).setCell ⟨g, 4, none⟩ a4).setCell ⟨g, 5, none⟩ a5).setCell ⟨g, 6, none⟩ a6).setCell ⟨g, 7, none⟩ a7) :=
  (((((((h.setCell (p := ⟨g, 0, none⟩) hg a0).setCell (p := ⟨g, 1, none⟩) hg a1).setCell (p := ⟨g, 2, none⟩) hg a2).setCell (p := ⟨g, 3, none⟩) hg a3).setCell (p := ⟨g, 4, none⟩) hg a4).setCell (p := ⟨g, 5, none⟩) hg a5).setCell (p := ⟨g, 6, none⟩) hg a6).setCell (p := ⟨g, 7, none⟩) hg a7
def ZeroAt (w : World) (g : Nat) : Prop := w.heap[g]? = some (.cells #[.int .i64 0, .int .i64 0, .string ⟨#[]⟩, .int .i64 0, .int .i64 0, .int .i64 0, .int .i64 0, .int .i64 0] 92 (0, 0))
theorem zero8 {w : World} {g : Nat} (h : ZeroAt w g) : w.cell? ⟨g, 0, none⟩ = some (.int .i64 0) ∧ w.cell? ⟨g, 1, none⟩ = some (.int .i64 0) ∧ w.cell? ⟨g, 2, none⟩ = some (.string ⟨#[]⟩) ∧ w.cell? ⟨g, 3, none⟩ = some (.int .i64 0) ∧ w.cell? ⟨g, 4, none⟩ = some (.int .i64 0) ∧
    w.cell? ⟨g, 5, none⟩ = some (.int .i64 0) ∧ w.cell? ⟨g, 6, none⟩ = some (.int .i64 0) ∧ w.cell? ⟨g, 7, none⟩ = some (.int .i64 0) ∧ ∀ o, w.frozen? ⟨g, o, none⟩ = false :=
  ⟨cell_of_row w g 0 _ _ _ h, cell_of_row w g 1 _ _ _ h, cell_of_row w g 2 _ _ _ h, cell_of_row w g 3 _ _ _ h, cell_of_row w g 4 _ _ _ h, cell_of_row w g 5 _ _ _ h, cell_of_row w g 6 _ _ _ h, cell_of_row w g 7 _ _ _ h, fun o => frozen_of_row w g o _ _ h⟩

set_option maxRecDepth 100000 in
set_option maxHeartbeats 2000000 in
theorem recRead (t : ByteArray) (w : World) (ht : t.size = 42) : Calls Tryz.prog 52 #[.string t] w fun e w' => e = .returned (readV t) ∧ Below w.heap.size w w' := by
  go_enter Tryz.func52, Tryz.ntmps52
  go_wp2_with fail
  refine (recNumberOf (t.extract 0 1) _ (Nat.le_trans (ext_size _ _ _) (by omega))).mono ?_
  rintro e w1 ⟨rfl, rfl⟩
  go_wp2_with fail
  refine (recNumberOf (t.extract 1 2) _ (Nat.le_trans (ext_size _ _ _) (by omega))).mono ?_
  rintro e w1 ⟨rfl, rfl⟩
  go_wp2_with fail
  refine (recUnfilled (t.extract 2 17) _ (Nat.le_trans (ext_size _ _ _) (by omega))).mono ?_
  rintro e w1 ⟨rfl, rfl⟩
  go_wp2_with fail
  refine (recNumberOf (t.extract 17 19) _ (Nat.le_trans (ext_size _ _ _) (by omega))).mono ?_
  rintro e w1 ⟨rfl, rfl⟩
  go_wp2_with fail
  refine (recNumberOf (t.extract 19 23) _ (Nat.le_trans (ext_size _ _ _) (by omega))).mono ?_
  rintro e w1 ⟨rfl, rfl⟩
  go_wp2_with fail
  refine (recNumberOf (t.extract 23 29) _ (Nat.le_trans (ext_size _ _ _) (by omega))).mono ?_
  rintro e w1 ⟨rfl, rfl⟩
  go_wp2_with fail
  refine (recNumberOf (t.extract 29 35) _ (Nat.le_trans (ext_size _ _ _) (by omega))).mono ?_
  rintro e w1 ⟨rfl, rfl⟩
  go_wp2_with fail
  refine (recNumberOf (t.extract 35 41) _ (Nat.le_trans (ext_size _ _ _) (by omega))).mono ?_
  rintro e w1 ⟨rfl, rfl⟩
  go_wp2_with fail
  generalize hWA : (w.alloc _).alloc _ = wa
  have hbA : Below w.heap.size w wa := by rw [← hWA]; exact ((Below.refl _ _).alloc (Nat.le_refl _) _).alloc (by simp) _
  have hsA : w.heap.size < wa.heap.size := by rw [← hWA]; simp; omega
  have HZ : Hid (ZeroAt wa w.heap.size) := by
    show _ = _
    rw [← hWA, heap_alloc_old _ _ (by simp)]
    exact heap_alloc_new w _
  clear hWA
  refine (recGiven (decM t) _).mono ?_
  rintro e w1 ⟨rfl, hb1⟩
  have HR : Hid (givenM (decM t) = rawR t) := rfl
  rw [HR.out]
  have HB1 : Hid (Below w.heap.size w w1) := hbA.trans (hb1.mono hbA.size)
  have HZ1 : Hid (ZeroAt w1 w.heap.size) := (hb1.block _ hsA).trans HZ.out
  have hs1 : w.heap.size < w1.heap.size := Nat.lt_of_lt_of_le hsA hb1.size
  have hsm := raw_small t
  have HSM : Hid (Small (rawR t)) := hsm
  have HIS : Hid (isRec t = ((rawR t).call != 0 && (encM (rawR t)).toList == t.toList)) := rfl
  clear hb1 HZ hsA hbA hsm
  clear HR
  have HRD : Hid (∀ r, rawR t = r → isRec t = true → readV t = .tuple #[recV r, .bool true]) := fun r e h => by rw [readV_is h, e]
  generalize rawR t = r at *
  cases hc : (r.call == 0)
  · go_wp2_with fail
    refine (recWrite r _ HSM.out).mono ?_
    rintro e w2 ⟨rfl, hb2⟩
    have HB2 : Hid (Below w.heap.size w w2) := (HB1.out.alloc (by omega) _).trans (hb2.mono (by simp; omega))
    have HZ2 : Hid (ZeroAt w2 w.heap.size) := (hb2.block _ (by simp; omega)).trans ((heap_alloc_old w1 _ hs1).trans HZ1.out)
    have hr0 := cell_later hb2 (cells_new w1 [.int .i64 r.call, .int .i64 r.client, .string r.text, .int .i64 r.number, .int .i64 r.value, .int .i64 r.delay, .int .i64 r.life, .int .i64 r.to] 92 0 _ rfl)
    have hr1 := cell_later hb2 (cells_new w1 [.int .i64 r.call, .int .i64 r.client, .string r.text, .int .i64 r.number, .int .i64 r.value, .int .i64 r.delay, .int .i64 r.life, .int .i64 r.to] 92 1 _ rfl)
    have hr2 := cell_later hb2 (cells_new w1 [.int .i64 r.call, .int .i64 r.client, .string r.text, .int .i64 r.number, .int .i64 r.value, .int .i64 r.delay, .int .i64 r.life, .int .i64 r.to] 92 2 _ rfl)
    have hr3 := cell_later hb2 (cells_new w1 [.int .i64 r.call, .int .i64 r.client, .string r.text, .int .i64 r.number, .int .i64 r.value, .int .i64 r.delay, .int .i64 r.life, .int .i64 r.to] 92 3 _ rfl)
    have hr4 := cell_later hb2 (cells_new w1 [.int .i64 r.call, .int .i64 r.client, .string r.text, .int .i64 r.number, .int .i64 r.value, .int .i64 r.delay, .int .i64 r.life, .int .i64 r.to] 92 4 _ rfl)
    have hr5 := cell_later hb2 (cells_new w1 [.int .i64 r.call, .int .i64 r.client, .string r.text, .int .i64 r.number, .int .i64 r.value, .int .i64 r.delay, .int .i64 r.life, .int .i64 r.to] 92 5 _ rfl)
    have hr6 := cell_later hb2 (cells_new w1 [.int .i64 r.call, .int .i64 r.client, .string r.text, .int .i64 r.number, .int .i64 r.value, .int .i64 r.delay, .int .i64 r.life, .int .i64 r.to] 92 6 _ rfl)
    have hr7 := cell_later hb2 (cells_new w1 [.int .i64 r.call, .int .i64 r.client, .string r.text, .int .i64 r.number, .int .i64 r.value, .int .i64 r.delay, .int .i64 r.life, .int .i64 r.to] 92 7 _ rfl)
    simp only [Addr.add_lit, Nat.zero_add] at hr0 hr1 hr2 hr3 hr4 hr5 hr6 hr7
    obtain ⟨z0, z1, z2, z3, z4, z5, z6, z7, zf⟩ := zero8 HZ2.out
    have zf0 := zf 0
    have zf1 := zf 1
    have zf2 := zf 2
    have zf3 := zf 3
    have zf4 := zf 4
    have zf5 := zf 5
    have zf6 := zf 6
    have zf7 := zf 7
    have hne : w1.heap.size ≠ w.heap.size := by omega
    clear hb2 zf
    cases he : ((encM r).toList == t.toList)
    · have HI : Hid (isRec t = false) := by show _ = _; rw [HIS.out, he, Bool.and_false]
      go_wp2_with fail
      refine bodyPost_ret (v := .tuple #[recV nilRec, .bool false]) (by rw [results_cell_tmp rfl]; go_simp; exact ⟨rfl, rfl, rfl, rfl, rfl, rfl, rfl, rfl⟩) rfl ⟨by rw [readV_not HI.out], below8 HB2.out (Nat.le_refl _) _ _ _ _ _ _ _ _⟩
    · have HI : Hid (isRec t = true) := by show _ = _; rw [HIS.out, he, bne, hc]; rfl
      go_wp2_with fail
      refine bodyPost_ret (v := .tuple #[recV r, .bool true]) (by rw [results_cell_tmp rfl]; go_simp) rfl ⟨by rw [HRD.out r rfl HI.out], below8 HB2.out (Nat.le_refl _) _ _ _ _ _ _ _ _⟩
  · have HI : Hid (isRec t = false) := by show _ = _; rw [HIS.out]; simp only [bne, hc]; rfl
    obtain ⟨z0, z1, z2, z3, z4, z5, z6, z7, zf⟩ := zero8 HZ1.out
    have zf0 := zf 0
    have zf1 := zf 1
    have zf2 := zf 2
    have zf3 := zf 3
    have zf4 := zf 4
    have zf5 := zf 5
    have zf6 := zf 6
    have zf7 := zf 7
    clear zf
    go_wp2_with fail
    refine bodyPost_ret (v := .tuple #[recV nilRec, .bool false]) (by rw [results_cell_tmp rfl]; go_simp; exact ⟨rfl, rfl, rfl, rfl, rfl, rfl, rfl, rfl⟩) rfl ⟨by rw [readV_not HI.out], (below8 HB1.out (Nat.le_refl _) _ _ _ _ _ _ _ _).alloc (by simp; omega) _⟩
end Go.Proofs.YtmjdndhfmfjbiaaGreat

/-
  The program's own lists of filters.
-/
namespace Go.Proofs.YtmjdndhfmfjbiaaGreat
open Go.RowKit

theorem any_take {α : Type} {p : α → Bool} {l : List α} {k : Nat} {x : α} (hx : l[k]? = some x) : (l.take (k + 1)).any p = ((l.take k).any p || p x) := any_step p l k x hx

set_option maxRecDepth 100000 in
set_option maxHeartbeats 1000000 in
theorem hrHasFilter (fs : List ByteArray) (ao : Option Addr) (c : Nat) (s : ByteArray) (w : World) (hl : fs.length ≤ 1048576) (h : CellsAt w ao (fs.map Value.string)) :
    Calls Tryz.prog 77 #[.slice ao fs.length c, .string s] w fun e w' => e = .returned (.bool (fs.any (fun f => f.toList == s.toList))) ∧ w' = w := by
  have H : Hid (CellsAt w ao (fs.map Value.string)) := h
  clear h
  go_enter Tryz.func77, Tryz.ntmps77
  go_wp2_with fail
  go_loop [5] (fun i => ∃ k : Nat, k ≤ fs.length ∧ i = .int .i64 k ∧ (fs.take k).any (fun f => f.toList == s.toList) = false) (fun i => fs.length - (intOf i).toNat)
  case atStart => exact ⟨0, Nat.zero_le _, rfl, by simp⟩
  case round =>
    obtain ⟨k, hk, rfl, ha⟩ := hrel
    have HA : Hid ((fs.take k).any (fun f => f.toList == s.toList) = false) := ha
    clear ha
    by_cases hlt : k < fs.length
    · obtain ⟨f, hf⟩ : ∃ f, fs[k]? = some f := ⟨_, List.getElem?_eq_getElem hlt⟩
      obtain ⟨g, rfl, hc⟩ := H.out k _ (strs_get hf)
      cases he : (f.toList == s.toList)
      · have HS : Hid ((fs.take (k + 1)).any (fun f => f.toList == s.toList) = false) := by show _ = _; rw [any_take hf, HA.out, he]; rfl
        clear hf
        go_wp2_with fail
        go_round
        case rel => exact ⟨k + 1, by omega, by go_num, HS.out⟩
        case measure => simp [intOf]; omega
      · have HS : Hid (fs.any (fun f => f.toList == s.toList) = true) := List.any_eq_true.2 ⟨f, List.mem_of_getElem? hf, he⟩
        clear hf
        go_wp2_with fail
        go_ret
        exact ⟨ret_bool' HS.out.symm, rfl⟩
    · have HS : Hid (fs.any (fun f => f.toList == s.toList) = false) := by
        have := HA.out
        rw [List.take_of_length_le (by omega)] at this
        exact this
      go_wp2_with fail
      go_ret
      exact ⟨ret_bool' HS.out.symm, rfl⟩

set_option maxRecDepth 100000 in
set_option maxHeartbeats 1000000 in
theorem hrWithoutFilter (fs : List ByteArray) (ao : Option Addr) (c : Nat) (s : ByteArray) (w : World) (hl : fs.length ≤ 1048576) (h : CellsAt w ao (fs.map Value.string)) :
    Calls Tryz.prog 82 #[.slice ao fs.length c, .string s] w fun e w' => ∃ v, e = .returned v ∧
      w'.ownsRow w.heap.size 9 1 v (fs.filter (fun f => !(f.toList == s.toList))).length ((fs.filter (fun f => !(f.toList == s.toList))).flatMap (fun f => [Value.string f])) ∧ Below w.heap.size w w' := by
  obtain ⟨i0, hi, hz0, hz1, hz2⟩ := info_parts infoStr
  have H : Hid (CellsAt w ao (fs.map Value.string)) := h
  clear h
  go_enter Tryz.func82, Tryz.ntmps82
  go_wp2_with fail
  go_loopw [5, 6] (fun v i wr => ∃ k : Nat, k ≤ fs.length ∧ i = .int .i64 k ∧ wr.ownsRow w.heap.size 9 1 v (kept (fun f : ByteArray => !(f.toList == s.toList)) fs k).length ((kept (fun f : ByteArray => !(f.toList == s.toList)) fs k).flatMap (fun f => [Value.string f])) ∧ Below w.heap.size w wr) (fun _ i _ => fs.length - (intOf i).toNat)
  case atStart => exact ⟨0, Nat.zero_le _, rfl, World.ownsRow_nil _ _ _ _, Below.refl _ _⟩
  case round =>
    obtain ⟨k, hk, rfl, hown, hbr⟩ := hrel
    have hkl := kept_le (fun f : ByteArray => !(f.toList == s.toList)) fs k
    have hsz := hbr.size
    by_cases hlt : k < fs.length
    · obtain ⟨y, hy⟩ : ∃ y, fs[k]? = some y := ⟨_, List.getElem?_eq_getElem hlt⟩
      obtain ⟨g, rfl, hc⟩ := H.out.below hbr k _ (strs_get hy)
      cases hne : (y.toList == s.toList)
      · have HK : Hid (kept (fun f : ByteArray => !(f.toList == s.toList)) fs (k + 1) = kept (fun f : ByteArray => !(f.toList == s.toList)) fs k ++ [y]) := kept_hit hy (by simp only [hne]; rfl)
        clear hy
        go_wp2_with (first | (at_builtin; refine wpList_append_own _ rfl _ _ 51 rfl w.heap.size 9 i0 _ 1 16 Tryz.underlying51 hi hz0 hz1 hz2 rfl (by decide) _ _ _ rfl (hown.alloc _) ⟨wr.heap.size, 0, none⟩ 1 1 [.string y] rfl rfl (cells_new _ _ _) (by simp [Value.oneCell']) (by unfold maxLen; omega) (by omega) (by simp; omega) ?_))
        intro v' w1 hown' hgrow _
        have R := grow_row (f := fun f => [Value.string f]) hown hbr hown' hgrow
        clear hown' hgrow hown
        go_wp2_with fail
        go_roundw
        case rel => exact ⟨k + 1, by omega, by go_num, by rw [HK.out]; exact R.1, R.2⟩
        case measure => simp [intOf]; omega
      · have HK : Hid (kept (fun f : ByteArray => !(f.toList == s.toList)) fs (k + 1) = kept (fun f : ByteArray => !(f.toList == s.toList)) fs k) := kept_miss hy (by simp only [hne]; rfl)
        clear hy
        go_wp2_with fail
        go_roundw
        case rel => exact ⟨k + 1, by omega, by go_num, by rw [HK.out]; exact hown, hbr⟩
        case measure => simp [intOf]; omega
    · have HK : Hid (kept (fun f : ByteArray => !(f.toList == s.toList)) fs k = fs.filter (fun f : ByteArray => !(f.toList == s.toList))) := kept_end _ _ _ (by omega)
      go_wp2_with fail
      go_ret
      exact ⟨_, rfl, by rw [← HK.out]; exact hown, hbr⟩

set_option maxRecDepth 100000 in
set_option maxHeartbeats 1000000 in
theorem hrCopyFilters (fs : List ByteArray) (ao : Option Addr) (c : Nat) (w : World) (hl : fs.length ≤ 1048576) (h : CellsAt w ao (fs.map Value.string)) :
    Calls Tryz.prog 55 #[.slice ao fs.length c] w fun e w' => ∃ v, e = .returned v ∧ w'.ownsRow w.heap.size 9 1 v fs.length (fs.flatMap (fun f => [Value.string f])) ∧ Below w.heap.size w w' := by
  obtain ⟨i0, hi, hz0, hz1, hz2⟩ := info_parts infoStr
  have H : Hid (CellsAt w ao (fs.map Value.string)) := h
  clear h
  go_enter Tryz.func55, Tryz.ntmps55
  go_wp2_with fail
  go_loopw [3, 4] (fun v i wr => ∃ k : Nat, k ≤ fs.length ∧ i = .int .i64 k ∧ wr.ownsRow w.heap.size 9 1 v (fs.take k).length ((fs.take k).flatMap (fun f => [Value.string f])) ∧ Below w.heap.size w wr) (fun _ i _ => fs.length - (intOf i).toNat)
  case atStart => exact ⟨0, Nat.zero_le _, rfl, World.ownsRow_nil _ _ _ _, Below.refl _ _⟩
  case round =>
    obtain ⟨k, hk, rfl, hown, hbr⟩ := hrel
    have hsz := hbr.size
    have htl : (fs.take k).length ≤ 1048576 := by rw [List.length_take]; omega
    by_cases hlt : k < fs.length
    · obtain ⟨y, hy⟩ : ∃ y, fs[k]? = some y := ⟨_, List.getElem?_eq_getElem hlt⟩
      obtain ⟨g, rfl, hc⟩ := H.out.below hbr k _ (strs_get hy)
      have HK : Hid (fs.take (k + 1) = fs.take k ++ [y]) := by show _ = _; rw [List.take_add_one, hy]; rfl
      clear hy
      generalize hT : fs.take k = T at *
      clear hT
      go_wp2_with (first | (at_builtin; refine wpList_append_own _ rfl _ _ 51 rfl w.heap.size 9 i0 _ 1 16 Tryz.underlying51 hi hz0 hz1 hz2 rfl (by decide) _ _ _ rfl (hown.alloc _) ⟨wr.heap.size, 0, none⟩ 1 1 [.string y] rfl rfl (cells_new _ _ _) (by simp [Value.oneCell']) (by unfold maxLen; omega) (by omega) (by simp; omega) ?_))
      intro v' w1 hown' hgrow _
      have R := grow_row (f := fun f => [Value.string f]) hown hbr hown' hgrow
      clear hown' hgrow hown
      go_wp2_with fail
      go_roundw
      case rel => exact ⟨k + 1, by omega, by go_num, by rw [HK.out]; exact R.1, R.2⟩
      case measure => simp [intOf]; omega
    · have HK : Hid (fs.take k = fs) := List.take_of_length_le (by omega)
      go_wp2_with fail
      go_ret
      exact ⟨_, rfl, by rw [HK.out] at hown; exact hown, hbr⟩

set_option maxRecDepth 100000 in
set_option maxHeartbeats 1000000 in
theorem hrCopyText (s : ByteArray) (w : World) : Calls Tryz.prog 79 #[.string s] w fun e w' => e = .returned (.string s) ∧ Below w.heap.size w w' := by
  obtain ⟨cap, w1, hcv, b1, hs1, hcap, hby⟩ := bytes_of w s
  have hback : (convert 50 9 (.slice (some ⟨w.heap.size, 0, none⟩) s.size cap)).run Tryz.prog w1 = .ok (.string s) w1 := by
    have h := run_convert_bytes_back (P := Tryz.prog) w1 50 9 5 ⟨w.heap.size, 0, none⟩ cap s.data.toList Tryz.underlying50 Tryz.underlying5 Tryz.underlying9 (fun j hj => by
      have hj' : j < s.size := by rw [Array.length_toList] at hj; exact hj
      rw [Addr.add_lit, Nat.zero_add, (hby j hj').1, getElem!_pos s j hj']
      rfl)
    have e : s.data.toList.length = s.size := by rw [Array.length_toList]; rfl
    rw [e] at h
    rw [h]
  have HB : Hid (Below w.heap.size w w1) := b1
  clear b1 hby
  go_enter Tryz.func79, Tryz.ntmps79
  go_wp2_with fail
  go_ret
  exact ⟨rfl, HB.out⟩
end Go.Proofs.YtmjdndhfmfjbiaaGreat
