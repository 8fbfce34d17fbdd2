import Derived.Test.YtmjdndhfmfjbiaaGreatM11
namespace Go.Proofs.YtmjdndhfmfjbiaaGreat
open Go.RowKit

/-- Lists that came out, each written over by its owner (so many stand there for each). -/
def MarkedT (w : World) (each : Int) (vs : List Value) : Prop := ∀ (k : Nat) u, vs[k]? = some u → ∃ ao n c, u = .slice ao n c ∧ n ≤ 1048576 ∧ CellsAt w ao (List.replicate n (.string (markM ((k : Int) / each))))
def markMail (n : Int) : MailD := ⟨-1 - n, ⟨#[]⟩, 0, -1 - n, 0⟩
def markWait (n : Int) : WaitD := ⟨-1 - n, ⟨#[]⟩, 0, 0, -1 - n⟩
def MarkedM (w : World) (each : Int) (vs : List Value) : Prop := ∀ (k : Nat) u, vs[k]? = some u → ∃ ao n c, u = .slice ao n c ∧ n ≤ 1048576 ∧ CellsAt w ao ((List.replicate n (markMail ((k : Int) / each))).flatMap mailCells)
def MarkedW (w : World) (each : Int) (vs : List Value) : Prop := ∀ (k : Nat) u, vs[k]? = some u → ∃ ao n c, u = .slice ao n c ∧ n ≤ 1048576 ∧ CellsAt w ao ((List.replicate n (markWait ((k : Int) / each))).flatMap waitCells)

theorem MarkedT.below {w w1 : World} {each : Int} {vs : List Value} (h : MarkedT w each vs) (hb : Below w.heap.size w w1) : MarkedT w1 each vs := fun k u hu => by
  obtain ⟨ao, n, c, e, hn, hc⟩ := h k u hu
  exact ⟨ao, n, c, e, hn, hc.below hb⟩
theorem MarkedM.below {w w1 : World} {each : Int} {vs : List Value} (h : MarkedM w each vs) (hb : Below w.heap.size w w1) : MarkedM w1 each vs := fun k u hu => by
  obtain ⟨ao, n, c, e, hn, hc⟩ := h k u hu
  exact ⟨ao, n, c, e, hn, hc.below hb⟩
theorem MarkedW.below {w w1 : World} {each : Int} {vs : List Value} (h : MarkedW w each vs) (hb : Below w.heap.size w w1) : MarkedW w1 each vs := fun k u hu => by
  obtain ⟨ao, n, c, e, hn, hc⟩ := h k u hu
  exact ⟨ao, n, c, e, hn, hc.below hb⟩

set_option maxRecDepth 100000 in
set_option maxHeartbeats 2000000 in
theorem lawTextsKept (vs : List Value) (ao : Option Addr) (c : Nat) (each : Int) (w : World) (hl : vs.length ≤ 1099511627776) (he : 1 ≤ each) (he1 : each ≤ 3) (hv : CellsAt w ao vs) (hm : MarkedT w each vs) :
    Calls Tryz.prog 45 #[.slice ao vs.length c, .int .i64 each] w fun e w' => e = .returned (.bool true) ∧ Below w.heap.size w w' := by
  have HV : Hid (CellsAt w ao vs) := hv
  have HM : Hid (MarkedT w each vs) := hm
  clear hv hm
  go_enter Tryz.func45, Tryz.ntmps45
  go_wp2_with fail
  go_loopw [5] (fun i wr => ∃ k : Nat, k ≤ vs.length ∧ i = .int .i64 k ∧ Below w.heap.size w wr) (fun i _ => vs.length - (intOf i).toNat)
  case atStart => exact ⟨0, Nat.zero_le _, rfl, Below.refl _ _⟩
  case round =>
    obtain ⟨k, hk, rfl, hbr⟩ := hrel
    by_cases hlt : k < vs.length
    · obtain ⟨u, hu⟩ : ∃ u, vs[k]? = some u := ⟨_, List.getElem?_eq_getElem hlt⟩
      obtain ⟨g, rfl, hc⟩ := HV.out k u hu
      obtain ⟨a1, n1, c1, rfl, hn1, hmk⟩ := HM.out k u hu
      clear hu
      have hcr := cell_later hbr hc
      have hd0 : (0 : Int) ≤ (k : Int) / each := Int.ediv_nonneg (by omega) (by omega)
      have hd1 : (k : Int) / each ≤ (k : Int) := Int.ediv_le_self _ (by omega)
      go_wp2_with fail
      refine (lawMark _ _).mono ?_
      rintro e w2 ⟨rfl, hb2⟩
      have hb : Below w.heap.size w w2 := hbr.trans (hb2.mono hbr.size)
      have hc2 := cell_later hb hc
      have HM2 : Hid (CellsAt w2 a1 (List.replicate n1 (.string (markM ((k : Int) / each))))) := hmk.below hb
      generalize hmm : markM ((k : Int) / each) = mk at *
      clear hmm hmk hb2 hbr hcr
      go_wp2_with fail
      go_loop [7] (fun i => ∃ j : Nat, j ≤ n1 ∧ i = .int .i64 j) (fun i => n1 - (intOf i).toNat)
      case atStart => exact ⟨0, Nat.zero_le _, rfl⟩
      case round =>
        obtain ⟨j, hj, rfl⟩ := hrel
        by_cases hjl : j < n1
        · obtain ⟨g2, rfl, hcj⟩ := HM2.out j (.string mk) (by simp [hjl])
          go_wp2_with fail
          go_round
          case rel => exact ⟨j + 1, by omega, by go_num⟩
          case measure => simp [intOf]; omega
        · go_wp2_with fail
          go_roundw
          case rel => exact ⟨k + 1, by omega, by go_num, hb⟩
          case measure => simp [intOf]; omega
    · go_wp2_with fail
      go_ret
      exact ⟨rfl, hbr⟩

theorem repl_mail {n j : Nat} (x : MailD) (h : j < n) : (List.replicate n x)[j]? = some x := by simp [h]
theorem repl_wait {n j : Nat} (x : WaitD) (h : j < n) : (List.replicate n x)[j]? = some x := by simp [h]

set_option maxRecDepth 100000 in
set_option maxHeartbeats 2000000 in
theorem lawMailsKept (vs : List Value) (ao : Option Addr) (c : Nat) (each : Int) (w : World) (hl : vs.length ≤ 1099511627776) (he : 1 ≤ each) (he1 : each ≤ 3) (hv : CellsAt w ao vs) (hm : MarkedM w each vs) :
    Calls Tryz.prog 46 #[.slice ao vs.length c, .int .i64 each] w fun e w' => e = .returned (.bool true) ∧ Below w.heap.size w w' := by
  have HV : Hid (CellsAt w ao vs) := hv
  have HM : Hid (MarkedM w each vs) := hm
  clear hv hm
  go_enter Tryz.func46, Tryz.ntmps46
  go_wp2_with fail
  go_loopw [5] (fun i wr => ∃ k : Nat, k ≤ vs.length ∧ i = .int .i64 k ∧ Below w.heap.size w wr) (fun i _ => vs.length - (intOf i).toNat)
  case atStart => exact ⟨0, Nat.zero_le _, rfl, Below.refl _ _⟩
  case round =>
    obtain ⟨k, hk, rfl, hbr⟩ := hrel
    by_cases hlt : k < vs.length
    · obtain ⟨u, hu⟩ : ∃ u, vs[k]? = some u := ⟨_, List.getElem?_eq_getElem hlt⟩
      obtain ⟨g, rfl, hc⟩ := HV.out k u hu
      obtain ⟨a1, n1, c1, rfl, hn1, hmk⟩ := HM.out k u hu
      clear hu
      have hcr := cell_later hbr hc
      have hd0 : (0 : Int) ≤ (k : Int) / each := Int.ediv_nonneg (by omega) (by omega)
      have hd1 : (k : Int) / each ≤ (k : Int) := Int.ediv_le_self _ (by omega)
      have hw1 : IntKind.i64.wrap (-1 - (k : Int) / each) = -1 - (k : Int) / each := wrap_ok _ (by omega) (by omega)
      have hw2 : (k : Int).tdiv each = (k : Int) / each := Int.tdiv_eq_ediv_of_nonneg (by omega)
      have hw3 : IntKind.i64.wrap ((k : Int) / each) = (k : Int) / each := wrap_ok _ (by omega) (by omega)
      have hez : (each == 0) = false := by simp; omega
      go_wp2_with fail
      go_region
      all_goals go_wp2_with fail
      generalize hW : World.drew _ = w2
      have hb2 : Below wr.heap.size wr w2 := by rw [← hW]; exact (below_one _ _).drew
      have hb : Below w.heap.size w w2 := hbr.trans (hb2.mono hbr.size)
      have hc2 := cell_later hb hc
      have x0 : w2.cell? ⟨wr.heap.size, 0, none⟩ = some (.int .i64 (-1 - (k : Int) / each)) := by rw [← hW]; simp
      have x1 : w2.cell? ⟨wr.heap.size, 1, none⟩ = some (.string ⟨#[]⟩) := by rw [← hW]; simp
      have x2 : w2.cell? ⟨wr.heap.size, 2, none⟩ = some (.int .i64 0) := by rw [← hW]; simp
      have x3 : w2.cell? ⟨wr.heap.size, 3, none⟩ = some (.int .i64 (-1 - (k : Int) / each)) := by rw [← hW]; simp
      have x4 : w2.cell? ⟨wr.heap.size, 4, none⟩ = some (.int .i64 0) := by rw [← hW]; simp
      have HM2 : Hid (CellsAt w2 a1 ((List.replicate n1 (markMail ((k : Int) / each))).flatMap mailCells)) := hmk.below hb
      have HXM : Hid (markMail ((k : Int) / each) = ⟨-1 - (k : Int) / each, ⟨#[]⟩, 0, -1 - (k : Int) / each, 0⟩) := rfl
      generalize -1 - (k : Int) / each = q at *
      clear hW hmk hb2 hbr hcr hw1 hw2 hw3 hd0 hd1
      go_loopw [7] (fun i w3 => ∃ j : Nat, j ≤ n1 ∧ i = .int .i64 j ∧ ∃ n, w3 = w2.drewN n) (fun i _ => n1 - (intOf i).toNat)
      case atStart => exact ⟨0, Nat.zero_le _, rfl, 0, rfl⟩
      case round =>
        obtain ⟨j, hj, rfl, n, rfl⟩ := hrel
        by_cases hjl : j < n1
        · obtain ⟨g2, rfl, -, c0, c1, c2, c3, c4⟩ := mail_cells HM2.out (repl_mail _ hjl)
          rw [HXM.out] at c0 c1 c2 c3 c4
          go_wp2_with fail
          go_quiet (fail)
          go_wp2_with fail
          go_roundw
          case rel => exact ⟨j + 1, by omega, by go_num, _, rfl⟩
          case measure => simp [intOf]; omega
        · go_wp2_with fail
          go_roundw
          case rel => exact ⟨k + 1, by omega, by go_num, below_drewN hb⟩
          case measure => simp [intOf]; omega
    · go_wp2_with fail
      go_ret
      exact ⟨rfl, hbr⟩

set_option maxRecDepth 100000 in
set_option maxHeartbeats 2000000 in
theorem lawWaitsKept (vs : List Value) (ao : Option Addr) (c : Nat) (each : Int) (w : World) (hl : vs.length ≤ 1099511627776) (he : 1 ≤ each) (he1 : each ≤ 3) (hv : CellsAt w ao vs) (hm : MarkedW w each vs) :
    Calls Tryz.prog 47 #[.slice ao vs.length c, .int .i64 each] w fun e w' => e = .returned (.bool true) ∧ Below w.heap.size w w' := by
  have HV : Hid (CellsAt w ao vs) := hv
  have HM : Hid (MarkedW w each vs) := hm
  clear hv hm
  go_enter Tryz.func47, Tryz.ntmps47
  go_wp2_with fail
  go_loopw [5] (fun i wr => ∃ k : Nat, k ≤ vs.length ∧ i = .int .i64 k ∧ Below w.heap.size w wr) (fun i _ => vs.length - (intOf i).toNat)
  case atStart => exact ⟨0, Nat.zero_le _, rfl, Below.refl _ _⟩
  case round =>
    obtain ⟨k, hk, rfl, hbr⟩ := hrel
    by_cases hlt : k < vs.length
    · obtain ⟨u, hu⟩ : ∃ u, vs[k]? = some u := ⟨_, List.getElem?_eq_getElem hlt⟩
      obtain ⟨g, rfl, hc⟩ := HV.out k u hu
      obtain ⟨a1, n1, c1, rfl, hn1, hmk⟩ := HM.out k u hu
      clear hu
      have hcr := cell_later hbr hc
      have hd0 : (0 : Int) ≤ (k : Int) / each := Int.ediv_nonneg (by omega) (by omega)
      have hd1 : (k : Int) / each ≤ (k : Int) := Int.ediv_le_self _ (by omega)
      have hw1 : IntKind.i64.wrap (-1 - (k : Int) / each) = -1 - (k : Int) / each := wrap_ok _ (by omega) (by omega)
      have hw2 : (k : Int).tdiv each = (k : Int) / each := Int.tdiv_eq_ediv_of_nonneg (by omega)
      have hw3 : IntKind.i64.wrap ((k : Int) / each) = (k : Int) / each := wrap_ok _ (by omega) (by omega)
      have hez : (each == 0) = false := by simp; omega
      go_wp2_with fail
      go_region
      all_goals go_wp2_with fail
      generalize hW : World.drew _ = w2
      have hb2 : Below wr.heap.size wr w2 := by rw [← hW]; exact (below_one _ _).drew
      have hb : Below w.heap.size w w2 := hbr.trans (hb2.mono hbr.size)
      have hc2 := cell_later hb hc
      have x0 : w2.cell? ⟨wr.heap.size, 0, none⟩ = some (.int .i64 (-1 - (k : Int) / each)) := by rw [← hW]; simp
      have x1 : w2.cell? ⟨wr.heap.size, 1, none⟩ = some (.string ⟨#[]⟩) := by rw [← hW]; simp
      have x2 : w2.cell? ⟨wr.heap.size, 2, none⟩ = some (.int .i64 0) := by rw [← hW]; simp
      have x3 : w2.cell? ⟨wr.heap.size, 3, none⟩ = some (.int .i64 0) := by rw [← hW]; simp
      have x4 : w2.cell? ⟨wr.heap.size, 4, none⟩ = some (.int .i64 (-1 - (k : Int) / each)) := by rw [← hW]; simp
      have HM2 : Hid (CellsAt w2 a1 ((List.replicate n1 (markWait ((k : Int) / each))).flatMap waitCells)) := hmk.below hb
      have HXM : Hid (markWait ((k : Int) / each) = ⟨-1 - (k : Int) / each, ⟨#[]⟩, 0, 0, -1 - (k : Int) / each⟩) := rfl
      generalize -1 - (k : Int) / each = q at *
      clear hW hmk hb2 hbr hcr hw1 hw2 hw3 hd0 hd1
      go_loopw [7] (fun i w3 => ∃ j : Nat, j ≤ n1 ∧ i = .int .i64 j ∧ ∃ n, w3 = w2.drewN n) (fun i _ => n1 - (intOf i).toNat)
      case atStart => exact ⟨0, Nat.zero_le _, rfl, 0, rfl⟩
      case round =>
        obtain ⟨j, hj, rfl, n, rfl⟩ := hrel
        by_cases hjl : j < n1
        · obtain ⟨g2, rfl, -, c0, c1, c2, c3, c4⟩ := wait_cells HM2.out (repl_wait _ hjl)
          rw [HXM.out] at c0 c1 c2 c3 c4
          go_wp2_with fail
          go_quiet (fail)
          go_wp2_with fail
          go_roundw
          case rel => exact ⟨j + 1, by omega, by go_num, _, rfl⟩
          case measure => simp [intOf]; omega
        · go_wp2_with fail
          go_roundw
          case rel => exact ⟨k + 1, by omega, by go_num, below_drewN hb⟩
          case measure => simp [intOf]; omega
    · go_wp2_with fail
      go_ret
      exact ⟨rfl, hbr⟩
end Go.Proofs.YtmjdndhfmfjbiaaGreat

namespace Go.Proofs.YtmjdndhfmfjbiaaGreat
open Go.RowKit

/-- What of a script is played. -/
structure AimD where
  send : Bool
  wait : Bool
  disk : Bool
  cut : Bool
  turn : Bool
abbrev aimV (A : AimD) : Value := .agg #[.bool A.send, .bool A.wait, .bool A.disk, .bool A.cut, .bool A.turn]

def playedB (A : AimD) (k c : Int) : Bool :=
  if k = 1 then true else if k = 2 then true else if k = 3 then (A.send && (A.wait || (c == 0))) else if k = 6 then A.send else if k = 7 then A.send else if k = 4 then A.wait else if k = 5 then A.wait
  else if k = 8 then A.cut else if k = 9 then A.turn else if k = 10 then true else false

set_option maxRecDepth 100000 in
set_option maxHeartbeats 2000000 in
theorem lawPlayed (A : AimD) (o : OpD) (w : World) :
    Calls Tryz.prog 13 #[aimV A, opV o] w fun e w' => e = .returned (.bool (playedB A o.kind o.c)) ∧ Below w.heap.size w w' := by
  obtain ⟨send, wait, disk, cut, turn⟩ := A
  obtain ⟨k, a, b, c, d, s⟩ := o
  simp only
  have two : ∀ o1 o2 : Obj, Below w.heap.size w ((w.alloc o1).alloc o2) := fun o1 o2 => ((Below.refl _ _).alloc (Nat.le_refl _) _).alloc (by simp) _
  have TW : Hid (∀ o1 o2 : Obj, Below w.heap.size w ((w.alloc o1).alloc o2)) := two
  clear two
  by_cases h : 1 ≤ k ∧ k ≤ 10
  · rcases (show k = 1 ∨ k = 2 ∨ k = 4 ∨ k = 5 ∨ k = 6 ∨ k = 7 ∨ k = 8 ∨ k = 9 ∨ k = 10 ∨ k = 3 from by omega) with rfl | rfl | rfl | rfl | rfl | rfl | rfl | rfl | rfl | rfl
    iterate 9
      · clear h
        go_enter Tryz.func13, Tryz.ntmps13
        go_wp2_with fail
        go_ret
        exact ⟨rfl, TW.out _ _⟩
    clear h
    cases send
    · go_enter Tryz.func13, Tryz.ntmps13
      go_wp2_with fail
      go_ret
      exact ⟨rfl, TW.out _ _⟩
    · cases wait
      · go_enter Tryz.func13, Tryz.ntmps13
        go_wp2_with fail
        go_ret
        exact ⟨ret_bool' (by simp [playedB]), TW.out _ _⟩
      · go_enter Tryz.func13, Tryz.ntmps13
        go_wp2_with fail
        go_ret
        exact ⟨rfl, TW.out _ _⟩
  · have HE : Hid (playedB ⟨send, wait, disk, cut, turn⟩ k c = false) := by
      show playedB _ _ _ = false
      unfold playedB
      rw [if_neg (by omega), if_neg (by omega), if_neg (by omega), if_neg (by omega), if_neg (by omega), if_neg (by omega), if_neg (by omega), if_neg (by omega), if_neg (by omega), if_neg (by omega)]
    have n1 : (k == 1) = false := by simp; omega
    have n2 : (k == 2) = false := by simp; omega
    have n3 : (k == 3) = false := by simp; omega
    have n4 : (k == 4) = false := by simp; omega
    have n5 : (k == 5) = false := by simp; omega
    have n6 : (k == 6) = false := by simp; omega
    have n7 : (k == 7) = false := by simp; omega
    have n8 : (k == 8) = false := by simp; omega
    have n9 : (k == 9) = false := by simp; omega
    have n10 : (k == 10) = false := by simp; omega
    clear h
    go_enter Tryz.func13, Tryz.ntmps13
    go_wp2_with fail
    go_ret
    exact ⟨ret_bool' HE.out.symm, TW.out _ _⟩

/-- A game, as its lists lie. -/
structure GameV where
  hB : Nat
  wB : Nat
  endsV : Value
  disk : ByteArray
  textsV : Value
  mailsV : Value
  waitsV : Value
  ttV : Value
  mtV : Value
  wtV : Value

structure GameAt (w : World) (G : Nat) (v : GameV) : Prop where
  obj : ∃ cur, w.heap[G]? = some (.cells cur 47 (0, 0))
  h : w.cell? ⟨G, 0, none⟩ = some (.pointer (some ⟨v.hB, 0, none⟩))
  w' : w.cell? ⟨G, 1, none⟩ = some (.pointer (some ⟨v.wB, 0, none⟩))
  ends : w.cell? ⟨G, 2, none⟩ = some v.endsV
  disk : w.cell? ⟨G, 3, none⟩ = some (.string v.disk)
  texts : w.cell? ⟨G, 4, none⟩ = some v.textsV
  mails : w.cell? ⟨G, 5, none⟩ = some v.mailsV
  waits : w.cell? ⟨G, 6, none⟩ = some v.waitsV
  tt : w.cell? ⟨G, 7, none⟩ = some v.ttV
  mt : w.cell? ⟨G, 8, none⟩ = some v.mtV
  wt : w.cell? ⟨G, 9, none⟩ = some v.wtV

theorem GameAt.lt {w : World} {G : Nat} {v : GameV} (h : GameAt w G v) : G < w.heap.size := World.block_lt_of_cell? _ _ h.h
theorem GameAt.free {w : World} {G : Nat} {v : GameV} (h : GameAt w G v) (o : Nat) : w.frozen? ⟨G, o, none⟩ = false := by
  obtain ⟨cur, hc⟩ := h.obj
  exact frozen_of_row w G o cur _ hc
theorem GameAt.upd {P : Nat → Prop} {w w1 : World} {G : Nat} {v : GameV} (h : GameAt w G v) (k : Upd P w w1) (hs : ¬ P G) : GameAt w1 G v :=
  ⟨by rw [k.block G h.lt hs]; exact h.obj, k.cell h.h hs, k.cell h.w' hs, k.cell h.ends hs, k.cell h.disk hs, k.cell h.texts hs, k.cell h.mails hs, k.cell h.waits hs, k.cell h.tt hs, k.cell h.mt hs, k.cell h.wt hs⟩

/-- The last place up to n of which it is known how long the disk was. -/
def knownTo (ends : List Int) : Nat → Nat
  | 0 => 0
  | n + 1 => match ends[n + 1]? with
    | some e => if e < 0 then knownTo ends n else n + 1
    | none => n + 1

theorem int_get {xs : List Int} {k : Nat} {x : Int} (h : xs[k]? = some x) : (xs.map (Value.int .i64))[k]? = some (.int .i64 x) := by simp [h]

set_option maxRecDepth 100000 in
set_option maxHeartbeats 1000000 in
theorem lawKnown (ends : List Int) (ao : Option Addr) (c G : Nat) (v : GameV) (n : Nat) (w : World) (hg : GameAt w G v) (hv : v.endsV = .slice ao ends.length c) (hc : CellsAt w ao (ends.map (Value.int .i64))) (hn : n < ends.length) (hl : ends.length ≤ 1048576) :
    Calls Tryz.prog 32 #[.pointer (some ⟨G, 0, none⟩), .int .i64 (n : Int)] w fun e w' => e = .returned (.int .i64 (knownTo ends n : Nat)) ∧ w' = w := by
  have ce := hg.ends
  rw [hv] at ce
  have HC : Hid (CellsAt w ao (ends.map (Value.int .i64))) := hc
  clear hg hv hc
  go_enter Tryz.func32, Tryz.ntmps32
  go_wp2_with fail
  go_loop [1] (fun i => ∃ k : Nat, k ≤ n ∧ i = .int .i64 k ∧ knownTo ends n = knownTo ends k) (fun i => (intOf i).toNat)
  case atStart => exact ⟨n, Nat.le_refl _, rfl, rfl⟩
  case round =>
    obtain ⟨k, hk, rfl, hkn⟩ := hrel
    have HK : Hid (knownTo ends n = knownTo ends k) := hkn
    clear hkn
    cases k with
    | zero =>
      go_wp2_with fail
      go_ret
      exact ⟨ret_int (by rw [HK.out]; rfl), rfl⟩
    | succ k =>
      obtain ⟨e, he⟩ : ∃ e, ends[k + 1]? = some e := ⟨_, List.getElem?_eq_getElem (by omega)⟩
      obtain ⟨g, rfl, hce⟩ := HC.out (k + 1) _ (int_get he)
      by_cases hneg : e < 0
      · have HS : Hid (knownTo ends (k + 1) = knownTo ends k) := by show knownTo ends (k + 1) = _; rw [knownTo, he]; simp only [if_pos hneg]
        clear he
        go_wp2_with fail
        go_round
        case rel => exact ⟨k, by omega, by go_num, by rw [HK.out, HS.out]⟩
        case measure => simp [intOf]
      · have HS : Hid (knownTo ends (k + 1) = k + 1) := by show knownTo ends (k + 1) = _; rw [knownTo, he]; simp only [if_neg hneg]
        clear he
        go_wp2_with fail
        go_ret
        exact ⟨ret_int (by rw [HK.out, HS.out]; simp), rfl⟩
end Go.Proofs.YtmjdndhfmfjbiaaGreat

namespace Go.Proofs.YtmjdndhfmfjbiaaGreat
open Go.RowKit

/-- The same cells, so often. -/
def rep (f : List Value) (n : Nat) : List Value := (List.replicate n f).flatten
theorem rep_len (f : List Value) (n : Nat) : (rep f n).length = n * f.length := by simp [rep]
theorem rep_add (f : List Value) (n m : Nat) : rep f (n + m) = rep f n ++ rep f m := by simp only [rep, ← List.replicate_append_replicate, List.flatten_append]
theorem rep_one (f : List Value) : rep f 1 = f := by simp [rep]
theorem rep_two (f : List Value) : rep f 2 = f ++ f := by simp [rep, List.replicate]
theorem rep_three (f : List Value) : rep f 3 = f ++ (f ++ f) := by simp [rep, List.replicate]
theorem rep_take (f : List Value) {n m : Nat} (h : n ≤ m) : (rep f m).take (n * f.length) = rep f n := by
  obtain ⟨d, rfl⟩ := Nat.exists_eq_add_of_le h
  rw [rep_add, ← rep_len f n]
  exact List.take_left
theorem rep_mem {f : List Value} {n : Nat} {u : Value} (h : u ∈ rep f n) : u ∈ f := by
  simp only [rep, List.mem_flatten, List.mem_replicate] at h
  obtain ⟨l, ⟨-, rfl⟩, h⟩ := h
  exact h
theorem rep_flat {α : Type} (g : α → List Value) (x : α) (n : Nat) : (List.replicate n x).flatMap g = rep (g x) n := by simp [rep, List.flatMap, List.map_replicate]
theorem rep_sing (v : Value) (n : Nat) : List.replicate n v = rep [v] n := by
  induction n with
  | zero => rfl
  | succ n ih => rw [Nat.add_comm, rep_add, rep_one, ← ih, Nat.add_comm, List.replicate_succ]; rfl

theorem CellsAt.fore {w : World} {ao : Option Addr} {xs ys : List Value} (h : CellsAt w ao (xs ++ ys)) : CellsAt w ao xs := fun j u hj => h j u (by
  obtain ⟨hl, -⟩ := List.getElem?_eq_some_iff.1 hj
  rw [List.getElem?_append_left hl]; exact hj)

/-- The head of a row is a row. -/
theorem Row.head {w : World} {e : TypeId} {size N cap n : Nat} {ao : Option Addr} {xs : List Value} (h : Row w e size (.slice ao N cap) N xs) (hn : n ≤ N) : Row w e size (.slice ao n cap) n (xs.take (n * size)) := by
  refine ⟨by rw [List.length_take, h.1]; exact Nat.min_eq_left (Nat.mul_le_mul_right _ hn), ?_⟩
  rcases h.2 with ⟨hv, rfl⟩ | ⟨g, cap1, cur, hv, hb, hg, hc, hm, hs, ht⟩
  · simp only [Value.slice.injEq] at hv
    obtain ⟨rfl, -, rfl⟩ := hv
    obtain rfl : n = 0 := by omega
    exact .inl ⟨rfl, rfl⟩
  · simp only [Value.slice.injEq, true_and] at hv
    obtain ⟨rfl, rfl⟩ := hv
    refine .inr ⟨g, cap, cur, rfl, hb, hg, by omega, hm, hs, ?_⟩
    rw [← ht, List.take_take, Nat.min_eq_left (Nat.mul_le_mul_right _ hn)]

/-- So many things more behind a row: in its own room, or in a new one. -/
theorem app_more (t e : TypeId) (z : Value) (size bytes : Nat) (hu : Tryz.prog.underlying t = some (.slice e)) (hinfo : (Tryz.prog.info? e).map (fun i => (i.zero, i.size, i.bytes)) = some (some z, size, bytes)) (hzs : z.cells.size = size) (hsz : 0 < size)
    (W : World) (ao : Option Addr) (n cap : Nat) (xs news : List Value) (hrow : Row W e size (.slice ao n cap) n xs) (a : Addr) (m c : Nat) (hm : 0 < m) (hl : news.length = m * size) (hnews : ∀ j u, news[j]? = some u → W.cell? (a.add j) = some u) (h1 : ∀ u ∈ news, u.oneCell' = true)
    (hn : n + m ≤ 1099511627776) (hb : (n + m) * bytes ≤ 140737488355328) :
    ∃ a1 c1 w1, (appSem #[t, t] t #[.slice ao n cap, .slice (some a) m c]).run Tryz.prog W = .ok (.slice a1 (n + m) c1) w1 ∧
      Row w1 e size (.slice a1 (n + m) c1) (n + m) (xs ++ news) ∧
      ((a1 = ao ∧ c1 = cap ∧ Upd (fun k => (Value.slice ao n cap).ownBlock = some k) W w1) ∨ (a1 = some ⟨W.heap.size, 0, none⟩ ∧ Below W.heap.size W w1)) := by
  obtain ⟨i, hi, hz, rfl, rfl⟩ := info_parts hinfo
  have h63 : n + m ≤ maxLen := by unfold maxLen; omega
  have hlen : (xs ++ news).length = (n + m) * i.size := by rw [List.length_append, hrow.1, hl, Nat.add_mul]
  have grown : ∀ (old : Nat), old < n + m → 
      Row (W.drew.alloc (.cells (xs.toArray ++ news.toArray ++ Builtin.zeroCells z.cells (grownCap W (n + m) old e - (n + m))) e)) e i.size
        (.slice (some ⟨W.heap.size, 0, none⟩) (n + m) (grownCap W (n + m) old e)) (n + m) (xs ++ news) ∧
      Below W.heap.size W (W.drew.alloc (.cells (xs.toArray ++ news.toArray ++ Builtin.zeroCells z.cells (grownCap W (n + m) old e - (n + m))) e)) := by
    intro old ho
    have hge := grownCap_ge W (n + m) old e
    have hcm : grownCap W (n + m) old e ≤ maxLen := grownCap_le_maxLen W (n + m) old e h63
    refine ⟨⟨hlen, .inr ⟨W.heap.size, _, _, rfl, Nat.zero_le _, heap_alloc_new W.drew _, hge, hcm, ?_, ?_⟩⟩, ⟨rfl, rfl, rfl, by simp, fun k hk => heap_alloc_old W.drew _ hk⟩⟩
    · simp only [Array.size_append, List.size_toArray, size_zeroCells, hzs, hrow.1, hl, ← Nat.add_mul, Nat.add_sub_cancel' hge]
    · simp only [Array.toList_append, List.append_assoc]
      rw [← List.append_assoc, ← hlen]
      exact List.take_left
  rcases hrow.2 with ⟨hv, rfl⟩ | ⟨g, cap1, cur, hv, hbg, hg, hnc, hcm, hcs, htake⟩
  · simp only [Value.slice.injEq] at hv
    obtain ⟨rfl, -, rfl⟩ := hv
    have hx : xs = [] := List.eq_nil_of_length_eq_zero (by simpa using hrow.1)
    subst hx
    have hr := run_append_nil (P := Tryz.prog) W t t e i z hu hi hz a m c news hl hnews (by omega) (by omega) (by have hb := hb; simp only [Nat.zero_add] at hb; omega)
    have hgr := grown 0 (by omega)
    simp only [Nat.zero_add, List.nil_append, Array.empty_append] at hgr ⊢
    exact ⟨_, _, _, hr, hgr.1, .inr ⟨rfl, hgr.2⟩⟩
  · simp only [Value.slice.injEq, true_and] at hv
    obtain ⟨rfl, rfl⟩ := hv
    by_cases hroom : n + m ≤ cap
    · have hfit : n * i.size + news.length ≤ cur.size := by rw [hl, hcs, ← Nat.add_mul]; exact Nat.mul_le_mul_right _ hroom
      have hr := run_append_room (P := Tryz.prog) W t t e i hu hi g n cap cur hg a m c news hl hnews h1 hroom hfit
      refine ⟨_, _, _, hr, ⟨hlen, .inr ⟨g, cap, _, rfl, hbg, setRow_heap W g cur _ e _ hg, hroom, hcm, ?_, ?_⟩⟩, .inl ⟨rfl, rfl, ⟨rfl, rfl, rfl, by simp, fun k _ hk => setRow_other W g k _ (fun e => hk (by simp [Value.ownBlock, e]))⟩⟩⟩
      · simp only [List.size_toArray, List.length_append, List.length_take, List.length_drop, Array.length_toList]
        omega
      · rw [htake, ← hlen]
        exact List.take_left
    · have holds : ∀ j u, xs[j]? = some u → W.cell? ((⟨g, 0, none⟩ : Addr).add j) = some u := hrow.cells (g := g) rfl
      have hr := run_append_grow (P := Tryz.prog) W t t e i z hu hi hz ⟨g, 0, none⟩ n cap xs hrow.1 holds a m c news hl hnews (by omega) (by omega) (growslice_fits (by omega) hb)
      have hgr := grown cap (by omega)
      exact ⟨_, _, _, hr, hgr.1, .inr ⟨rfl, hgr.2⟩⟩

theorem Row.alloc {w : World} {e : TypeId} {size : Nat} {v : Value} {n : Nat} {xs : List Value} (h : Row w e size v n xs) (o : Obj) : Row (w.alloc o) e size v n xs := World.ownsRow.alloc h o

/-- A list and another that has one of its names: in the same room, or apart. -/
def Kin (ao : Option Addr) (cap : Nat) (u : Value) : Prop := (∃ n1, u = .slice ao n1 cap) ∨ ∀ g n, (Value.slice ao n cap).ownBlock = some g → u.ownBlock ≠ some g

theorem app_tail (t e : TypeId) (z : Value) (size bytes : Nat) (hu : Tryz.prog.underlying t = some (.slice e)) (hinfo : (Tryz.prog.info? e).map (fun i => (i.zero, i.size, i.bytes)) = some (some z, size, bytes)) (hzs : z.cells.size = size) (hsz : 0 < size)
    (f : List Value) (hf : f.length = size) (h1 : ∀ u ∈ f, u.oneCell' = true)
    (W : World) (ao : Option Addr) (n cap : Nat) (hrow : Row W e size (.slice ao n cap) n (rep f n)) (a : Addr) (m c : Nat) (hm : 0 < m) (hnews : ∀ j u, (rep f m)[j]? = some u → W.cell? (a.add j) = some u)
    (hn : n + m ≤ 1099511627776) (hb : (n + m) * bytes ≤ 140737488355328) :
    ∃ a1 c1 w1, (appSem #[t, t] t #[.slice ao n cap, .slice (some a) m c]).run Tryz.prog W = .ok (.slice a1 (n + m) c1) w1 ∧
      Row w1 e size (.slice a1 (n + m) c1) (n + m) (rep f (n + m)) ∧ Row w1 e size (.slice ao n cap) n (rep f n) ∧ Kin ao cap (.slice a1 (n + m) c1) ∧
      Upd (fun k => (Value.slice ao n cap).ownBlock = some k) W w1 ∧ Fresh W (.slice ao n cap) (.slice a1 (n + m) c1) ∧
      ∀ u n1, n1 ≤ n + m → Kin ao cap u → Row W e size u n1 (rep f n1) → Row w1 e size u n1 (rep f n1) := by
  obtain ⟨a1, c1, w1, hrun, hr1, hcase⟩ := app_more t e z size bytes hu hinfo hzs hsz W ao n cap (rep f n) (rep f m) hrow a m c hm (by rw [rep_len, hf]) hnews (fun u hu => h1 u (rep_mem hu)) hn hb
  rw [← rep_add] at hr1
  refine ⟨a1, c1, w1, hrun, hr1, ?_⟩
  rcases hcase with ⟨rfl, rfl, hup⟩ | ⟨rfl, hbel⟩
  · have key : ∀ n1, n1 ≤ n + m → Row w1 e size (.slice a1 n1 c1) n1 (rep f n1) := fun n1 h => by
      have := hr1.head h
      rwa [← hf, rep_take f h, hf] at this
    refine ⟨key n (by omega), .inl ⟨_, rfl⟩, hup, fun g hg => .inl (by cases a1 with | none => simp [Value.ownBlock] at hg | some a0 => simpa [Value.ownBlock] using hg), fun u n1 h hk hr => ?_⟩
    rcases hk with ⟨n2, rfl⟩ | hk
    · obtain ⟨b2, c2, hv, -, -, -⟩ := hr.form
      simp only [Value.slice.injEq] at hv
      obtain ⟨-, rfl, -⟩ := hv
      exact key n2 h
    · exact hr.upd hup (fun g hg hs => hk g n hs hg)
  · refine ⟨hrow.below hbel, .inr (fun g n' hg => ?_), Upd.of_below hbel, fun g hg => ?_, fun u n1 h hk hr => hr.below hbel⟩
    · have hlt := hrow.lt (g := g) (by cases ao with | none => simp [Value.ownBlock] at hg | some a0 => simpa [Value.ownBlock] using hg)
      simp only [Value.ownBlock, ne_eq, Option.some.injEq]
      omega
    · simp only [Value.ownBlock, Option.some.injEq] at hg
      exact .inr (by omega)

theorem below_of_upd {S : Nat → Prop} {w w1 : World} {B : Nat} (h : Upd S w w1) (hB : B ≤ w.heap.size) (hs : ∀ k, S k → B ≤ k) : Below B w w1 :=
  ⟨h.os, h.tape, h.output, h.size, fun k hk => h.block k (by omega) (fun hq => by have := hs k hq; omega)⟩

/-- One, two, three more behind a list, each from the list as it was. -/
theorem tails3 (t e : TypeId) (z : Value) (size bytes : Nat) (hu : Tryz.prog.underlying t = some (.slice e)) (hinfo : (Tryz.prog.info? e).map (fun i => (i.zero, i.size, i.bytes)) = some (some z, size, bytes)) (hzs : z.cells.size = size) (hsz : 0 < size) (hby : bytes ≤ 1024)
    (f : List Value) (hf : f.length = size) (h1 : ∀ u ∈ f, u.oneCell' = true)
    (W : World) (base : Nat) (ao : Option Addr) (n cap : Nat) (hrow : W.ownsRow base e size (.slice ao n cap) n (rep f n)) (hbase : base ≤ W.heap.size) (hn : n ≤ 1000000) :
    ∃ a1 c1 w1 a2 c2 w2 a3 c3 w3,
      (appSem #[t, t] t #[.slice ao n cap, .slice (some ⟨W.heap.size, 0, none⟩) 1 1]).run Tryz.prog (W.alloc (.cells f.toArray e)) = .ok (.slice a1 (n + 1) c1) w1 ∧
      (appSem #[t, t] t #[.slice ao n cap, .slice (some ⟨w1.heap.size, 0, none⟩) 2 2]).run Tryz.prog (w1.alloc (.cells (f ++ f).toArray e)) = .ok (.slice a2 (n + 2) c2) w2 ∧
      (appSem #[t, t] t #[.slice ao n cap, .slice (some ⟨w2.heap.size, 0, none⟩) 3 3]).run Tryz.prog (w2.alloc (.cells (f ++ (f ++ f)).toArray e)) = .ok (.slice a3 (n + 3) c3) w3 ∧
      Row w3 e size (.slice ao n cap) n (rep f n) ∧ Row w3 e size (.slice a1 (n + 1) c1) (n + 1) (rep f (n + 1)) ∧ Row w3 e size (.slice a2 (n + 2) c2) (n + 2) (rep f (n + 2)) ∧ Row w3 e size (.slice a3 (n + 3) c3) (n + 3) (rep f (n + 3)) ∧
      Below base W w3 ∧ (∀ g, (Value.slice ao n cap).ownBlock = some g → base ≤ g) ∧ (∀ g, (Value.slice a1 (n + 1) c1).ownBlock = some g → base ≤ g) ∧ (∀ g, (Value.slice a2 (n + 2) c2).ownBlock = some g → base ≤ g) ∧ (∀ g, (Value.slice a3 (n + 3) c3).ownBlock = some g → base ≤ g) ∧ Upd (fun k => (Value.slice ao n cap).ownBlock = some k) W w1 ∧ Upd (fun k => (Value.slice ao n cap).ownBlock = some k) W w2 := by
  have hA : ∀ g, (Value.slice ao n cap).ownBlock = some g → base ≤ g := fun g hg => (hrow.lt g hg).1
  have r0 : Row W e size (.slice ao n cap) n (rep f n) := own_mono hrow (Nat.zero_le _)
  have hb4 : ∀ m, m ≤ 3 → (n + m) * bytes ≤ 140737488355328 := fun m hm => Nat.le_trans (Nat.mul_le_mul_left _ hby) (by omega)
  obtain ⟨a1, c1, w1, x1, p1, q1, k1, u1, f1, g1⟩ := app_tail t e z size bytes hu hinfo hzs hsz f hf h1 (W.alloc (.cells f.toArray e)) ao n cap (r0.alloc _) ⟨W.heap.size, 0, none⟩ 1 1 (by omega) (by rw [rep_one]; exact cells_new _ _ _) (by omega) (hb4 1 (by omega))
  obtain ⟨a2, c2, w2, x2, p2, q2, k2, u2, f2, g2⟩ := app_tail t e z size bytes hu hinfo hzs hsz f hf h1 (w1.alloc (.cells (f ++ f).toArray e)) ao n cap (q1.alloc _) ⟨w1.heap.size, 0, none⟩ 2 2 (by omega) (by rw [rep_two]; exact cells_new _ _ _) (by omega) (hb4 2 (by omega))
  obtain ⟨a3, c3, w3, x3, p3, q3, k3, u3, f3, g3⟩ := app_tail t e z size bytes hu hinfo hzs hsz f hf h1 (w2.alloc (.cells (f ++ (f ++ f)).toArray e)) ao n cap (q2.alloc _) ⟨w2.heap.size, 0, none⟩ 3 3 (by omega) (by rw [rep_three]; exact cells_new _ _ _) (by omega) (hb4 3 (by omega))
  have s1 : W.heap.size ≤ w1.heap.size := by have := u1.size; simp at this; omega
  have s2 : w1.heap.size ≤ w2.heap.size := by have := u2.size; simp at this; omega
  have b1 : Below base W w1 := ((Below.refl base W).alloc hbase _).trans (below_of_upd u1 (by simp; omega) (fun k hk => hA k hk))
  have b2 : Below base w1 w2 := ((Below.refl base w1).alloc (by omega) _).trans (below_of_upd u2 (by simp; omega) (fun k hk => hA k hk))
  have b3 : Below base w2 w3 := ((Below.refl base w2).alloc (by omega) _).trans (below_of_upd u3 (by simp; omega) (fun k hk => hA k hk))
  refine ⟨a1, c1, w1, a2, c2, w2, a3, c3, w3, x1, x2, x3, q3, g3 _ _ (by omega) k1 (Row.alloc (g2 _ _ (by omega) k1 (Row.alloc p1 _)) _), g3 _ _ (by omega) k2 (Row.alloc p2 _), p3, (b1.trans b2).trans b3, hA, fun g hg => ?_, fun g hg => ?_, fun g hg => ?_, ((Upd.refl _ W).alloc _).trans u1 (fun _ _ e => e), (((Upd.refl _ W).alloc _).trans u1 (fun _ _ e => e)).trans (((Upd.refl _ w1).alloc _).trans u2 (fun _ _ e => e)) (fun _ _ e => e)⟩
  · rcases f1 g hg with h | h
    · exact hA g h
    · simp at h; omega
  · rcases f2 g hg with h | h
    · exact hA g h
    · simp at h; omega
  · rcases f3 g hg with h | h
    · exact hA g h
    · simp at h; omega
end Go.Proofs.YtmjdndhfmfjbiaaGreat

namespace Go.Proofs.YtmjdndhfmfjbiaaGreat
open Go.RowKit

/-- Blocks that were there keep their colours. -/
def Ext (w : World) (c c1 : Nat → Nat) : Prop := ∀ k, k < w.heap.size → c1 k = c k
theorem Ext.refl (w : World) (c : Nat → Nat) : Ext w c c := fun _ _ => rfl
theorem Ext.trans {w w1 : World} {c c1 c2 : Nat → Nat} (h : Ext w c c1) (hs : w.heap.size ≤ w1.heap.size) (k : Ext w1 c1 c2) : Ext w c c2 := fun i hi => (k i (by omega)).trans (h i hi)

/-- The bytes of records, one behind the other. -/
def cat : List ByteArray → ByteArray
  | [] => ⟨#[]⟩
  | r :: R => r ++ cat R

/-- A state that came of operations that were done. -/
structure Good (S : RefS) : Prop where
  inv : Inv S
  room0 : 0 ≤ S.room
  room : S.room ≤ 500
  fine : ∀ o ∈ S.done, Fine o
  again : S = { replay S.done with room := S.room }
  steps : ∀ i o, S.done[i]? = some o → doneB (replay (S.done.take i)) o = true

/-- How many records stand whole on the first k bytes. -/
def wholeN : List ByteArray → Nat → Nat
  | [], _ => 0
  | r :: R, k => if r.size ≤ k then wholeN R (k - r.size) + 1 else 0

/-- The disk, cut; or with one byte turned. -/
def Damaged (d : ByteArray) (d1 : ByteArray) (k : Nat) : Prop :=
  (k ≤ d.size ∧ d1 = d.extract 0 k) ∨ (k < d.size ∧ d1.size = d.size ∧ (∀ i, i < d.size → i ≠ k → d1[i]! = d[i]!) ∧ d1[k]! ≠ d[k]!)

/-- What an operation leaves of a broker. -/
def Outcome (PR : World → Nat → (Nat → Prop) → RefS → List ByteArray → Prop) (w : World) (H : Nat) (F : Nat → Prop) (R : List ByteArray) (S1 : RefS) (w1 : World) : Prop :=
  ∃ F1 R1, PR w1 H F1 S1 (R ++ R1) ∧ Upd F w w1 ∧ ∀ k, F1 k → F k ∨ w.heap.size ≤ k

/-- A broker: what is asked of the program. -/
structure Prog where
  PR : World → Nat → (Nat → Prop) → RefS → List ByteArray → Prop
  lt : ∀ {w H F S R k}, PR w H F S R → F k → k < w.heap.size
  upd : ∀ {Q : Nat → Prop} {w w1 H F S R}, PR w H F S R → Upd Q w w1 → (∀ k, F k → ¬ Q k) → PR w1 H F S R
  recs : ∀ {w H F S R}, PR w H F S R → R.length = S.done.length ∧ (∀ r ∈ R, 0 < r.size) ∧ (cat R).size ≤ 1048576
  newBad : ∀ (w : World) (d : ByteArray) (room : Int), room < 0 ∨ 500 < room → Calls Tryz.prog 16 #[.string d, .int .i64 room] w fun e w' => e = .returned (.tuple #[.pointer none, .int .i64 1]) ∧ Below w.heap.size w w'
  new0 : ∀ (w : World) (room : Int), 0 ≤ room → room ≤ 500 → Calls Tryz.prog 16 #[.string ⟨#[]⟩, .int .i64 room] w fun e w' =>
    ∃ H F, e = .returned (.tuple #[.pointer (some ⟨H, 0, none⟩), .int .i64 0]) ∧ PR w' H F (refNew room) [] ∧ (∀ k, F k → w.heap.size ≤ k) ∧ Below w.heap.size w w'
  back : ∀ {w H F S R} (d : ByteArray) (k : Nat) (room : Int), PR w H F S R → Good S → Damaged (cat R) d k → 0 ≤ room → room ≤ 500 → Calls Tryz.prog 16 #[.string d, .int .i64 room] w fun e w' =>
    ∃ H1 F1, e = .returned (.tuple #[.pointer (some ⟨H1, 0, none⟩), .int .i64 0]) ∧ PR w' H1 F1 { replay (S.done.take (wholeN R k)) with room := room } (R.take (wholeN R k)) ∧ (∀ k, F1 k → w.heap.size ≤ k) ∧ Below w.heap.size w w'
  sub : ∀ {w H F S R} (a b c d : Int) (s : ByteArray), PR w H F S R → Good S → s.size ≤ 1048576 → Calls Tryz.prog 61 #[.pointer (some ⟨H, 0, none⟩), .int .i64 a, .string s] w fun e w' =>
    e = .returned (.int .i64 (doErr S ⟨1, a, b, c, d, s⟩)) ∧ Outcome PR w H F R (doS S ⟨1, a, b, c, d, s⟩) w'
  unsub : ∀ {w H F S R} (a b c d : Int) (s : ByteArray), PR w H F S R → Good S → s.size ≤ 1048576 → Calls Tryz.prog 62 #[.pointer (some ⟨H, 0, none⟩), .int .i64 a, .string s] w fun e w' =>
    e = .returned (.int .i64 (doErr S ⟨2, a, b, c, d, s⟩)) ∧ Outcome PR w H F R (doS S ⟨2, a, b, c, d, s⟩) w'
  publish : ∀ {w H F S R} (a b c d : Int) (s : ByteArray), PR w H F S R → Good S → s.size ≤ 1048576 → Calls Tryz.prog 63 #[.pointer (some ⟨H, 0, none⟩), .string s, .int .i64 b, .int .i64 c, .int .i64 d] w fun e w' =>
    e = .returned (.tuple #[.int .i64 (doAns S ⟨3, a, b, c, d, s⟩), .int .i64 (doErr S ⟨3, a, b, c, d, s⟩)]) ∧ Outcome PR w H F R (doS S ⟨3, a, b, c, d, s⟩) w'
  cancel : ∀ {w H F S R} (a b c d : Int) (s : ByteArray), PR w H F S R → Good S → Calls Tryz.prog 64 #[.pointer (some ⟨H, 0, none⟩), .int .i64 b] w fun e w' =>
    e = .returned (.int .i64 (doErr S ⟨4, a, b, c, d, s⟩)) ∧ Outcome PR w H F R (doS S ⟨4, a, b, c, d, s⟩) w'
  move : ∀ {w H F S R} (a b c d : Int) (s : ByteArray), PR w H F S R → Good S → Calls Tryz.prog 65 #[.pointer (some ⟨H, 0, none⟩), .int .i64 b, .int .i64 c] w fun e w' =>
    e = .returned (.int .i64 (doErr S ⟨5, a, b, c, d, s⟩)) ∧ Outcome PR w H F R (doS S ⟨5, a, b, c, d, s⟩) w'
  tick : ∀ {w H F S R} (a b c d : Int) (s : ByteArray), PR w H F S R → Good S → Calls Tryz.prog 66 #[.pointer (some ⟨H, 0, none⟩), .int .i64 b] w fun e w' =>
    e = .returned (.int .i64 (doErr S ⟨6, a, b, c, d, s⟩)) ∧ Outcome PR w H F R (doS S ⟨6, a, b, c, d, s⟩) w'
  ack : ∀ {w H F S R} (a b c d : Int) (s : ByteArray), PR w H F S R → Good S → Calls Tryz.prog 67 #[.pointer (some ⟨H, 0, none⟩), .int .i64 a, .int .i64 b] w fun e w' =>
    e = .returned (.int .i64 (doErr S ⟨7, a, b, c, d, s⟩)) ∧ Outcome PR w H F R (doS S ⟨7, a, b, c, d, s⟩) w'
  time : ∀ {w H F S R}, PR w H F S R → Good S → Calls Tryz.prog 22 #[.pointer (some ⟨H, 0, none⟩)] w fun e w' => e = .returned (.int .i64 S.time) ∧ Below w.heap.size w w'
  filters : ∀ {w H F S R} (k : Int), PR w H F S R → Good S → Calls Tryz.prog 33 #[.pointer (some ⟨H, 0, none⟩), .int .i64 k] w fun e w' =>
    ∃ v, e = .returned v ∧ w'.ownsRow w.heap.size 9 1 v (filtersM S k).length ((filtersM S k).flatMap (fun f => [Value.string f])) ∧ Below w.heap.size w w'
  queue : ∀ {w H F S R} (k : Int), PR w H F S R → Good S → Calls Tryz.prog 37 #[.pointer (some ⟨H, 0, none⟩), .int .i64 k] w fun e w' =>
    ∃ v, e = .returned v ∧ w'.ownsRow w.heap.size 76 5 v (queueM S k).length ((queueM S k).flatMap mailCells) ∧ Below w.heap.size w w'
  lost : ∀ {w H F S R} (k : Int), PR w H F S R → Good S → Calls Tryz.prog 40 #[.pointer (some ⟨H, 0, none⟩), .int .i64 k] w fun e w' => e = .returned (.int .i64 (lostM S k)) ∧ Below w.heap.size w w'
  waiting : ∀ {w H F S R}, PR w H F S R → Good S → Calls Tryz.prog 42 #[.pointer (some ⟨H, 0, none⟩)] w fun e w' =>
    ∃ v, e = .returned v ∧ w'.ownsRow w.heap.size 80 5 v (waitingM S).length ((waitingM S).flatMap waitCells) ∧ Below w.heap.size w w'
  records : ∀ {w H F S R}, PR w H F S R → Good S → Calls Tryz.prog 31 #[.pointer (some ⟨H, 0, none⟩)] w fun e w' => e = .returned (.int .i64 (R.length : Int)) ∧ Below w.heap.size w w'
  disk : ∀ {w H F S R}, PR w H F S R → Good S → Calls Tryz.prog 30 #[.pointer (some ⟨H, 0, none⟩)] w fun e w' => e = .returned (.string (cat R)) ∧ Below w.heap.size w w'

/-- Lists that came out: each reads as its owner wrote it. -/
def MarkedC (w : World) (c : Nat → Nat) (f : Int → List Value) (each : Int) (vs : List Value) : Prop :=
  ∀ (k : Nat) u, vs[k]? = some u → ∃ ao n cap, u = .slice ao n cap ∧ n ≤ 1048576 ∧ CellsAt w ao (rep (f ((k : Int) / each)) n) ∧ ∀ g, u.ownBlock = some g → c g = 11 ∧ g < w.heap.size

theorem MarkedC.upd {Q : Nat → Prop} {w w1 : World} {c c1 : Nat → Nat} {f : Int → List Value} {each : Int} {vs : List Value} (h : MarkedC w c f each vs) (k : Upd Q w w1) (hq : ∀ g, c g = 11 → ¬ Q g) (he : Ext w c c1) : MarkedC w1 c1 f each vs := fun i u hi => by
  obtain ⟨ao, n, cap, rfl, hn, hc, hg⟩ := h i u hi
  refine ⟨ao, n, cap, rfl, hn, hc.upd k (fun g e => hq g (hg g (by rw [e]; rfl)).1), fun g e => ?_⟩
  obtain ⟨h1, h2⟩ := hg g e
  exact ⟨by rw [he g h2]; exact h1, Nat.lt_of_lt_of_le h2 k.size⟩

/-- All lists of a kind, and their tails. -/
structure Lists (w : World) (c : Nat → Nat) (sl : TypeId) (f : Int → List Value) (ca cb : Nat) (tv ttv : Value) (b : Nat) (T TT : List Value) : Prop where
  row : Row w sl 1 tv T.length T
  rows : Row w sl 1 ttv TT.length TT
  few : T.length ≤ b
  three : TT.length = 3 * T.length
  marks : MarkedC w c f 1 T
  tails : MarkedC w c f 3 TT
  col : ∀ g, tv.ownBlock = some g → c g = ca
  cols : ∀ g, ttv.ownBlock = some g → c g = cb

theorem Lists.upd {Q : Nat → Prop} {w w1 : World} {c c1 : Nat → Nat} {sl : TypeId} {f : Int → List Value} {ca cb : Nat} {tv ttv : Value} {b : Nat} {T TT : List Value} (h : Lists w c sl f ca cb tv ttv b T TT) (k : Upd Q w w1)
    (hq : ∀ g, c g = 11 ∨ c g = ca ∨ c g = cb → ¬ Q g) (he : Ext w c c1) : Lists w1 c1 sl f ca cb tv ttv b T TT :=
  ⟨h.row.upd k (fun g e => hq g (.inr (.inl (h.col g e)))), h.rows.upd k (fun g e => hq g (.inr (.inr (h.cols g e)))), h.few, h.three, h.marks.upd k (fun g e => hq g (.inl e)) he, h.tails.upd k (fun g e => hq g (.inl e)) he,
    fun g e => by rw [he g (h.row.lt e)]; exact h.col g e, fun g e => by rw [he g (h.rows.lt e)]; exact h.cols g e⟩

theorem Lists.more {w : World} {c : Nat → Nat} {sl : TypeId} {f : Int → List Value} {ca cb : Nat} {tv ttv : Value} {b b1 : Nat} {T TT : List Value} (h : Lists w c sl f ca cb tv ttv b T TT) (hb : b ≤ b1) : Lists w c sl f ca cb tv ttv b1 T TT :=
  ⟨h.row, h.rows, Nat.le_trans h.few hb, h.three, h.marks, h.tails, h.col, h.cols⟩

def fT (n : Int) : List Value := [.string (markM n)]
def fM (n : Int) : List Value := mailCells (markMail n)
def fW (n : Int) : List Value := waitCells (markWait n)

/-- The game but for the lists that came out. -/
structure Core (P : Prog) (w : World) (G : Nat) (c : Nat → Nat) (v : GameV) (S : RefS) (x : RefV) (F : Nat → Prop) (R : List ByteArray) (ends : List Int) : Prop where
  lies : GameAt w G v
  pr : P.PR w v.hB F S R
  rep : Rep w v.wB x S
  good : Good S
  endsR : Row w 3 1 v.endsV ends.length (ends.map (Value.int .i64))
  endsL : ends.length = R.length + 1
  ends0 : ends[0]? = some 0
  endsE : ∀ n e, ends[n]? = some e → e = -1 ∨ e = ((cat (R.take n)).size : Int)
  disk : ∃ m, v.disk = cat (R.take m)
  cF : ∀ k, F k → c k = 1
  cR : ∀ k, RefFP v.wB x k → c k = 2
  cG : c G = 3
  cE : ∀ g, v.endsV.ownBlock = some g → c g = 4

/-- It stays while nothing of it is touched. -/
theorem Core.upd {P : Prog} {Q : Nat → Prop} {w w1 : World} {G : Nat} {c c1 : Nat → Nat} {v : GameV} {S : RefS} {x : RefV} {F : Nat → Prop} {R : List ByteArray} {ends : List Int} (h : Core P w G c v S x F R ends) (k : Upd Q w w1)
    (hq : ∀ g, c g = 1 ∨ c g = 2 ∨ c g = 3 ∨ c g = 4 → ¬ Q g) (he : Ext w c c1) : Core P w1 G c1 v S x F R ends :=
  ⟨h.lies.upd k (hq G (.inr (.inr (.inl h.cG)))), P.upd h.pr k (fun g e => hq g (.inl (h.cF g e))), h.rep.upd k (fun g e => hq g (.inr (.inl (h.cR g e)))), h.good, h.endsR.upd k (fun g e => hq g (.inr (.inr (.inr (h.cE g e))))), h.endsL, h.ends0, h.endsE, h.disk,
    fun g e => by rw [he g (P.lt h.pr e)]; exact h.cF g e, fun g e => by rw [he g (h.rep.lt e)]; exact h.cR g e, by rw [he G h.lies.lt]; exact h.cG, fun g e => by rw [he g (h.endsR.lt e)]; exact h.cE g e⟩

/-- The whole game. -/
structure Whole (P : Prog) (w : World) (G : Nat) (c : Nat → Nat) (b : Nat) (v : GameV) (S : RefS) (x : RefV) (F : Nat → Prop) (R : List ByteArray) (ends : List Int) : Prop where
  core : Core P w G c v S x F R ends
  texts : ∃ T TT, Lists w c 51 fT 5 6 v.textsV v.ttV b T TT
  mails : ∃ T TT, Lists w c 72 fM 7 8 v.mailsV v.mtV b T TT
  waits : ∃ T TT, Lists w c 56 fW 9 10 v.waitsV v.wtV b T TT

theorem Whole.upd {P : Prog} {Q : Nat → Prop} {w w1 : World} {G : Nat} {c c1 : Nat → Nat} {b : Nat} {v : GameV} {S : RefS} {x : RefV} {F : Nat → Prop} {R : List ByteArray} {ends : List Int} (h : Whole P w G c b v S x F R ends) (k : Upd Q w w1)
    (hq : ∀ g, c g ≠ 0 → ¬ Q g) (he : Ext w c c1) : Whole P w1 G c1 b v S x F R ends := by
  obtain ⟨T, TT, h1⟩ := h.texts
  obtain ⟨M, MM, h2⟩ := h.mails
  obtain ⟨U, UU, h3⟩ := h.waits
  exact ⟨h.core.upd k (fun g e => hq g (by omega)) he, ⟨T, TT, h1.upd k (fun g e => hq g (by omega)) he⟩, ⟨M, MM, h2.upd k (fun g e => hq g (by omega)) he⟩, ⟨U, UU, h3.upd k (fun g e => hq g (by omega)) he⟩⟩
theorem Whole.below {P : Prog} {w w1 : World} {G : Nat} {c : Nat → Nat} {b : Nat} {v : GameV} {S : RefS} {x : RefV} {F : Nat → Prop} {R : List ByteArray} {ends : List Int} (h : Whole P w G c b v S x F R ends) (k : Below w.heap.size w w1) : Whole P w1 G c b v S x F R ends :=
  h.upd (Q := fun _ => False) (Upd.of_below k) (fun _ _ f => f) (Ext.refl _ _)

/-- What a step of a game leaves. -/
def Next (P : Prog) (w : World) (G : Nat) (c : Nat → Nat) (b : Nat) (S : RefS) (w1 : World) : Prop :=
  ∃ c1 v x F R ends, Whole P w1 G c1 b v S x F R ends ∧ Ext w c c1 ∧ Upd (fun k => c k ≠ 0) w w1
end Go.Proofs.YtmjdndhfmfjbiaaGreat
