import Derived.Test.YtmjdndhfmfjbiaaGreatM10
import Derived.Test.YtmjdndhfmfjbiaaGreatM01
namespace Go.Proofs.YtmjdndhfmfjbiaaGreat
open Go.RowKit

/-- Texts by their order. -/
def ltB (f g : ByteArray) : Bool := Op.bytesLess f.toList g.toList
def gtB (f g : ByteArray) : Bool := !(Op.bytesLess f.toList g.toList || f.toList == g.toList)
def takesB (last best f : ByteArray) : Bool := gtB f last && (best.toList.isEmpty || ltB f best)
/-- Of the first k texts the least above 'last'. -/
def pickTo (fs : List ByteArray) (last : ByteArray) : Nat → ByteArray
  | 0 => ⟨#[]⟩
  | k + 1 => match fs[k]? with
    | none => pickTo fs last k
    | some f => if takesB last (pickTo fs last k) f then f else pickTo fs last k
theorem pick_step {fs : List ByteArray} {last f : ByteArray} {k : Nat} (h : fs[k]? = some f) : pickTo fs last (k + 1) = if takesB last (pickTo fs last k) f then f else pickTo fs last k := by
  rw [pickTo, h]
/-- The least that is left goes next. -/
def selTo (fs : List ByteArray) : Nat → List ByteArray × ByteArray
  | 0 => ([], ⟨#[]⟩)
  | n + 1 => ((selTo fs n).1 ++ [pickTo fs (selTo fs n).2 fs.length], pickTo fs (selTo fs n).2 fs.length)
theorem sel_len (fs : List ByteArray) (n : Nat) : (selTo fs n).1.length = n := by
  induction n with
  | zero => rfl
  | succ n ih => simp [selTo, ih]
def filtersM (S : RefS) (k : Int) : List ByteArray := if knownB k = true then (selTo (S.fil k.toNat) (S.fil k.toNat).length).1 else []

set_option maxRecDepth 100000 in
set_option maxHeartbeats 4000000 in
theorem refFilters (B : Nat) (x : RefV) (S : RefS) (k : Int) (w : World) (hr : Rep w B x S) (hin : Inv S) :
    Calls Tryz.prog 34 #[.pointer (some ⟨B, 0, none⟩), .int .i64 k] w fun e w' => ∃ v, e = .returned v ∧ w'.ownsRow w.heap.size 9 1 v (filtersM S k).length ((filtersM S k).flatMap (fun f => [Value.string f])) ∧ Below w.heap.size w w' := by
  by_cases h0 : k < 0
  · have HE : Hid (filtersM S k = []) := by
      have : knownB k = false := by simp [knownB]; omega
      simp [Hid, filtersM, this]
    clear hr hin
    go_enter Tryz.func34, Tryz.ntmps34
    go_wp2
    go_ret
    exact ⟨_, rfl, by rw [HE.out]; exact World.ownsRow_nil _ _ _ _, Below.refl _ _⟩
  · by_cases h8 : 8 ≤ k
    · have HE : Hid (filtersM S k = []) := by
        have : knownB k = false := by simp [knownB]; omega
        simp [Hid, filtersM, this]
      clear hr hin
      go_enter Tryz.func34, Tryz.ntmps34
      go_wp2
      go_ret
      exact ⟨_, rfl, by rw [HE.out]; exact World.ownsRow_nil _ _ _ _, Below.refl _ _⟩
    · obtain ⟨n, rfl⟩ : ∃ n : Nat, k = (n : Int) := ⟨k.toNat, by omega⟩
      have hn : n < 8 := by omega
      have hn0 : (0 : Int) ≤ (n : Int) := by omega
      have hn8 : (n : Int) < 8 := by omega
      have HE : Hid (filtersM S n = (selTo (S.fil n) (S.fil n).length).1) := by
        have : knownB (n : Int) = true := by simp [knownB]; omega
        simp [Hid, filtersM, this]
      obtain ⟨i0, hi, hz0, hz1, hz2⟩ := info_parts infoStr
      obtain ⟨af, cf, hvf, q3, q4, hcf⟩ := (hr.fil n hn).form
      unfold maxLen at q4
      have HC : Hid (CellsAt w af ((S.fil n).map Value.string)) := hcf
      have cfil := hr.cells.fil n hn
      rw [hvf] at cfil
      have hfl := (hin.fil n hn).1
      have hBl := hr.cells.lt
      clear hr hin hvf hcf
      generalize hfs : S.fil n = fs at *
      clear hfs
      go_enter Tryz.func34, Tryz.ntmps34
      go_wp2_with fail
      go_loopw [5, 6, 7] (fun v l i wr => ∃ j : Nat, j ≤ fs.length ∧ i = .int .i64 j ∧ l = .string (selTo fs j).2 ∧ wr.ownsRow w.heap.size 9 1 v (selTo fs j).1.length ((selTo fs j).1.flatMap (fun f => [Value.string f])) ∧ Below w.heap.size w wr) (fun _ _ i _ => fs.length - (intOf i).toNat)
      case atStart => exact ⟨0, Nat.zero_le _, rfl, rfl, World.ownsRow_nil _ _ _ _, Below.refl _ _⟩
      case round =>
        obtain ⟨j, hj, rfl, rfl, hown, hbr⟩ := hrel
        have cfr := cell_later hbr cfil
        have hsl := sel_len fs j
        have HSL : Hid ((selTo fs j).1.length ≤ 6) := by show (selTo fs j).1.length ≤ 6; omega
        have HST : Hid (selTo fs (j + 1) = ((selTo fs j).1 ++ [pickTo fs (selTo fs j).2 fs.length], pickTo fs (selTo fs j).2 fs.length)) := rfl
        clear hsl
        have HE' := HE
        generalize hLL : (selTo fs j).1 = L at *
        have HLL : Hid ((selTo fs j).1 = L) := hLL
        clear hLL
        generalize hla : (selTo fs j).2 = last at *
        clear hla HE'
        have hsl := HSL.out
        have hBr : B < wr.heap.size := by have := hbr.size; omega
        have hsz := hbr.size
        by_cases hjl : j < fs.length
        · go_wp2_with fail
          go_loop [8, 9] (fun b i => ∃ m : Nat, m ≤ fs.length ∧ i = .int .i64 m ∧ b = .string (pickTo fs last m)) (fun _ i => fs.length - (intOf i).toNat)
          case atStart => exact ⟨0, Nat.zero_le _, rfl, rfl⟩
          case round =>
            obtain ⟨m, hm, rfl, rfl⟩ := hrel
            by_cases hml : m < fs.length
            · obtain ⟨f, hf⟩ : ∃ f, fs[m]? = some f := ⟨_, List.getElem?_eq_getElem hml⟩
              obtain ⟨g, rfl, hcg⟩ := HC.out m _ (strs_get hf)
              have hcr := cell_later hbr hcg
              have HP : Hid (pickTo fs last (m + 1) = if takesB last (pickTo fs last m) f then f else pickTo fs last m) := pick_step hf
              clear hf
              generalize hpb : pickTo fs last m = best at *
              clear hpb
              cases t1 : (!(Op.bytesLess f.toList last.toList || f.toList == last.toList))
              · have HT : Hid (takesB last best f = false) := by simp only [Hid, takesB, gtB, t1]; rfl
                go_wp2_with fail
                go_round
                case rel => exact ⟨m + 1, by omega, by go_num, by rw [HP.out, HT.out]; rfl⟩
                case measure => simp [intOf]; omega
              · cases t2 : best.toList.isEmpty
                · cases t3 : Op.bytesLess f.toList best.toList
                  · have HT : Hid (takesB last best f = false) := by simp only [Hid, takesB, gtB, ltB, t1, t2, t3]; rfl
                    go_wp2_with fail
                    go_round
                    case rel => exact ⟨m + 1, by omega, by go_num, by rw [HP.out, HT.out]; rfl⟩
                    case measure => simp [intOf]; omega
                  · have HT : Hid (takesB last best f = true) := by simp only [Hid, takesB, gtB, ltB, t1, t2, t3]; rfl
                    go_wp2_with fail
                    go_round
                    case rel => exact ⟨m + 1, by omega, by go_num, by rw [HP.out, HT.out]; rfl⟩
                    case measure => simp [intOf]; omega
                · have HT : Hid (takesB last best f = true) := by simp only [Hid, takesB, gtB, t1, t2]; rfl
                  go_wp2_with fail
                  go_round
                  case rel => exact ⟨m + 1, by omega, by go_num, by rw [HP.out, HT.out]; rfl⟩
                  case measure => simp [intOf]; omega
            · have e : m = fs.length := by omega
              subst e
              have hps : Hid (pickTo fs last fs.length = pickTo fs last fs.length) := rfl
              generalize hpb : pickTo fs last fs.length = best at *
              have HPB : Hid (pickTo fs last fs.length = best) := hpb
              clear hpb hps
              go_wp2_with (first | (at_builtin; refine wpList_append_own _ rfl _ _ 51 rfl w.heap.size 9 i0 (.string ⟨#[]⟩) 1 16 Tryz.underlying51 hi hz0 hz1 hz2 rfl (by decide) _ _ _ rfl (hown.alloc _) ⟨wr.heap.size, 0, none⟩ 1 1 [.string best] rfl rfl (cell_one_new _ _ _) (str_one _) (by unfold maxLen; omega) (by omega) (by simp; omega) ?_))
              intro v' w3 hown' hgrow _
              have R := grow_row (f := fun f => [Value.string f]) hown hbr hown' hgrow
              clear hown' hgrow hown
              go_wp2_with fail
              go_roundw
              case rel => exact ⟨j + 1, by omega, by go_num, by rw [HST.out], by rw [HST.out]; exact R.1, R.2⟩
              case measure => simp [intOf]; omega
        · go_wp2_with fail
          go_ret
          have e : j = fs.length := by omega
          subst e
          exact ⟨_, rfl, by rw [HE.out, HLL.out]; exact hown, hbr⟩
end Go.Proofs.YtmjdndhfmfjbiaaGreat

namespace Go.Proofs.YtmjdndhfmfjbiaaGreat
open Go.RowKit

theorem op_cells {w : World} {ao : Option Addr} {l : List OpD} (h : CellsAt w ao (l.flatMap opCells)) {k : Nat} {x : OpD} (hx : l[k]? = some x) :
    ∃ g, ao = some ⟨g, 0, none⟩ ∧ g < w.heap.size ∧ w.cell? ⟨g, k * 6, none⟩ = some (.int .i64 x.kind) ∧ w.cell? ⟨g, k * 6 + 1, none⟩ = some (.int .i64 x.a) ∧ w.cell? ⟨g, k * 6 + 2, none⟩ = some (.int .i64 x.b) ∧
      w.cell? ⟨g, k * 6 + 3, none⟩ = some (.int .i64 x.c) ∧ w.cell? ⟨g, k * 6 + 4, none⟩ = some (.int .i64 x.d) ∧ w.cell? ⟨g, k * 6 + 5, none⟩ = some (.string x.s) := by
  have F := flat_get opCells 6 op_len l k
  obtain ⟨g, e0, h0⟩ := h (k * 6 + 0) (.int .i64 x.kind) (by rw [F 0 x hx (by omega)]; rfl)
  obtain ⟨g1, e1, h1⟩ := h (k * 6 + 1) (.int .i64 x.a) (by rw [F 1 x hx (by omega)]; rfl)
  obtain ⟨g2, e2, h2⟩ := h (k * 6 + 2) (.int .i64 x.b) (by rw [F 2 x hx (by omega)]; rfl)
  obtain ⟨g3, e3, h3⟩ := h (k * 6 + 3) (.int .i64 x.c) (by rw [F 3 x hx (by omega)]; rfl)
  obtain ⟨g4, e4, h4⟩ := h (k * 6 + 4) (.int .i64 x.d) (by rw [F 4 x hx (by omega)]; rfl)
  obtain ⟨g5, e5, h5⟩ := h (k * 6 + 5) (.string x.s) (by rw [F 5 x hx (by omega)]; rfl)
  rw [e0] at e1 e2 e3 e4 e5
  simp only [Option.some.injEq, Addr.mk.injEq, and_true] at e1 e2 e3 e4 e5
  subst e1 e2 e3 e4 e5
  exact ⟨g, e0, World.block_lt_of_cell? _ _ h0, h0, h1, h2, h3, h4, h5⟩

theorem deliver_keeps (to : Int) : ∀ (n : Nat) (T : RefS), (deliverN to n T).room = T.room ∧ (deliverN to n T).done = T.done := by
  intro n
  induction n with
  | zero => intro T; exact ⟨rfl, rfl⟩
  | succ n ih =>
    intro T
    unfold deliverN
    split
    · exact ⟨rfl, rfl⟩
    · split
      · exact ⟨rfl, rfl⟩
      · rename_i y _
        split
        · exact ⟨rfl, rfl⟩
        · obtain ⟨i1, i2⟩ := ih (sendTo { T with wait := T.wait.filter (fun m => m.number != y.number) } y 8)
          obtain ⟨-, -, k3, -, k5, -⟩ := sendTo_keeps { T with wait := T.wait.filter (fun m => m.number != y.number) } y 8
          exact ⟨i1.trans k5, i2.trans k3⟩

theorem turn_keeps (S : RefS) (o : OpD) : (turnM S o).room = S.room ∧ (turnM S o).done = S.done := by
  unfold turnM
  split
  · exact ⟨rfl, rfl⟩
  split
  · exact ⟨rfl, rfl⟩
  split
  · split
    · obtain ⟨-, -, k3, -, k5, -⟩ := sendTo_keeps { S with pub := S.pub + 1 } ⟨S.pub, o.s, o.b, 0, o.d⟩ 8
      exact ⟨k5, k3⟩
    · exact ⟨rfl, rfl⟩
  split
  · exact ⟨rfl, rfl⟩
  split
  · exact ⟨rfl, rfl⟩
  split
  · obtain ⟨i1, i2⟩ := deliver_keeps o.b (agedTo S o.b 8).wait.length (agedTo S o.b 8)
    obtain ⟨-, -, a3, -, a5, -⟩ := aged_keeps S o.b 8
    exact ⟨i1.trans a5, i2.trans a3⟩
  · exact ⟨rfl, rfl⟩

theorem do_room (S : RefS) (o : OpD) : (doS S o).room = S.room := by
  unfold doS
  split
  · exact (turn_keeps _ o).1
  · rfl
theorem do_done (S : RefS) (o : OpD) : (doS S o).done = if doneB S o = true then S.done ++ [o] else S.done := by
  unfold doS
  split
  · exact (turn_keeps _ o).2
  · rfl

theorem Inv.does {S : RefS} {o : OpD} (h : Inv S) (hroom : S.room ≤ 500) (hk : 1 ≤ o.kind ∧ o.kind ≤ 7) : Inv (doS S o) := by
  unfold doS
  split
  · rename_i hd
    simp only [doneB, Bool.and_eq_true, decide_eq_true_eq, beq_iff_eq] at hd
    obtain ⟨i1, i2⟩ := h.done1 o (by omega)
    exact i1.turn i2 hk hd.1.1
  · exact h

/-- The operations that were done, once more. -/
def replay (l : List OpD) : RefS := l.foldl doS (refNew 500)
theorem replay_snoc (l : List OpD) (o : OpD) : replay (l ++ [o]) = doS (replay l) o := by simp [replay]
/-- An operation that a script can name. -/
def Fine (o : OpD) : Prop := (1 ≤ o.kind ∧ o.kind ≤ 7) ∧ o.s.size ≤ 1048576
theorem replay_inv (l : List OpD) (h : ∀ o ∈ l, Fine o) : Inv (replay l) ∧ (replay l).room = 500 := by
  suffices H : ∀ (l : List OpD) (S : RefS), Inv S → S.room = 500 → (∀ o ∈ l, Fine o) → Inv (l.foldl doS S) ∧ (l.foldl doS S).room = 500 from H l _ (inv_new 500) rfl h
  intro l
  induction l with
  | nil => intro S h1 h2 _; exact ⟨h1, h2⟩
  | cons o l ih =>
    intro S h1 h2 h3
    exact ih (doS S o) (h1.does (by omega) (h3 o (by simp)).1) ((do_room S o).trans h2) (fun p hp => h3 p (by simp [hp]))

set_option maxRecDepth 100000 in
set_option maxHeartbeats 4000000 in
theorem refAgain (B : Nat) (x : RefV) (S : RefS) (n : Nat) (room : Int) (w : World) (hr : Rep w B x S) (hin : Inv S) (hfine : ∀ o ∈ S.done, Fine o) (hn : n ≤ S.done.length) :
    Calls Tryz.prog 60 #[.pointer (some ⟨B, 0, none⟩), .int .i64 (n : Int), .int .i64 room] w fun e w' =>
      e = .returned (.pointer (some ⟨w.heap.size, 0, none⟩)) ∧ (∃ x2, Rep w' w.heap.size x2 { replay (S.done.take n) with room := room } ∧ ∀ k, RefFP w.heap.size x2 k → w.heap.size ≤ k) ∧ Below w.heap.size w w' := by
  have HR : Hid (Rep w B x S) := hr
  obtain ⟨ad, cd, hvd, q1, q2, hcd⟩ := hr.done.form
  unfold maxLen at q2
  have cdn := hr.cells.done
  rw [hvd] at cdn
  have hBl := hr.cells.lt
  have HC : Hid (CellsAt w ad (S.done.flatMap opCells)) := hcd
  have HF : Hid (∀ o ∈ S.done, Fine o) := hfine
  have hdl := hin.done
  clear hr hin hcd hvd hfine
  go_enter Tryz.func60, Tryz.ntmps60
  go_wp2_with fail
  go_loopw [8] (fun i wr => ∃ j : Nat, j ≤ n ∧ i = .int .i64 j ∧ RefStep (w.alloc (.cells (newCells 500).toArray 66)) w.heap.size refNewV wr (replay (S.done.take j))) (fun i _ => n - (intOf i).toNat)
  case atStart => exact ⟨0, Nat.zero_le _, rfl, RefStep.refl (rep_new w 500)⟩
  case round =>
    obtain ⟨j, hj, rfl, x1, r1, u1, f1⟩ := hrel
    have bel : Below w.heap.size w wr := ⟨u1.os, u1.tape, u1.output, by have := u1.size; simp at this; omega, fun k hk => (u1.block k (by simp; omega) (fun h => by have := refFP_new h; omega)).trans (Below.heap_alloc w _ k hk)⟩
    have fpn : ∀ k, RefFP w.heap.size x1 k → w.heap.size ≤ k := fun k hk => by
      rcases f1 k hk with h | h
      · have := refFP_new h; omega
      · simp at h; omega
    have cdr := cell_later bel cdn
    by_cases hjn : j < n
    · obtain ⟨o, ho⟩ : ∃ o, S.done[j]? = some o := ⟨_, List.getElem?_eq_getElem (by omega)⟩
      obtain ⟨g, rfl, hg, c0, c1, c2, c3, c4, c5⟩ := op_cells (HC.out.below bel) ho
      have hfo := HF.out o (List.mem_of_getElem? ho)
      obtain ⟨hi1, hi2⟩ := replay_inv (S.done.take j) (fun p hp => HF.out p (List.mem_of_mem_take hp))
      have HT : Hid (replay (S.done.take (j + 1)) = doS (replay (S.done.take j)) o) := by
        show replay (S.done.take (j + 1)) = _
        rw [List.take_add_one, ho, ← replay_snoc]; rfl
      have R1 : Hid (Rep wr w.heap.size x1 (replay (S.done.take j))) := r1
      have HTH : Hid (∀ w2 S2, RefStep wr w.heap.size x1 w2 S2 → RefStep (w.alloc (.cells (newCells 500).toArray 66)) w.heap.size refNewV w2 S2) := fun w2 S2 h => RefStep.then u1 f1 h
      clear ho r1 u1 f1 fpn bel
      go_wp2_with fail
      refine (refDo w.heap.size x1 _ o _ R1.out hi1 (by omega) hfo.2 hfo.1).mono ?_
      rintro e w2 ⟨rfl, h2⟩
      have H2 : Hid (RefStep (w.alloc (.cells (newCells 500).toArray 66)) w.heap.size refNewV w2 (replay (S.done.take (j + 1)))) := by
        show RefStep _ _ _ _ _
        rw [HT.out]; exact HTH.out _ _ h2
      clear h2 hi1 hi2
      go_wp2_with fail
      go_roundw
      case rel => exact ⟨j + 1, by omega, by go_num, H2.out⟩
      case measure => simp [intOf]; omega
    · have e : j = n := by omega
      subst e
      obtain ⟨x2, r2, u2, f2⟩ := r1.setRoom room
      have HF2 : Hid ((∃ x2, Rep (wr.setCell ⟨w.heap.size, 0, none⟩ (.int .i64 room)) w.heap.size x2 { replay (S.done.take j) with room := room } ∧ ∀ k, RefFP w.heap.size x2 k → w.heap.size ≤ k) ∧ Below w.heap.size w (wr.setCell ⟨w.heap.size, 0, none⟩ (.int .i64 room))) := by
        refine ⟨⟨x2, r2, fun k hk => ?_⟩, bel.setCell (p := ⟨w.heap.size, 0, none⟩) (Nat.le_refl _) _⟩
        rcases f2 k hk with h | h
        · exact fpn k h
        · have := bel.size; omega
      have crm := r1.cells.room
      have hfr := r1.cells.free 0
      clear r1 u1 f1 r2 u2 f2 bel fpn
      go_wp2_with fail
      go_ret
      exact ⟨rfl, HF2.out.1, HF2.out.2⟩
end Go.Proofs.YtmjdndhfmfjbiaaGreat

namespace Go.Proofs.YtmjdndhfmfjbiaaGreat
open Go.RowKit

/-- A copy, kept whole, so that the walk takes its run from a hypothesis. -/
def copySem (ts : Array TypeId) (ty : TypeId) (args : Array Value) : Sem Value := Builtin.copy_ ts ty args
theorem copySem_eq (ts : Array TypeId) (ty : TypeId) (args : Array Value) : Builtin.copy_ ts ty args = copySem ts ty args := rfl
attribute [local go_sem ↓] copySem_eq

theorem run_copy_full {P : Program} (t ty e : TypeId) (size base : Nat) (hu : P.underlying t = some (.slice e)) (i : TypeInfo) (hi : P.info? e = some i) (hsz : i.size = size) (W : World) (g n cap : Nat) (xs ys : List Value)
    (hown : W.ownsRow base e size (.slice (some ⟨g, 0, none⟩) n cap) n xs) (ao : Option Addr) (c : Nat) (hy : ys.length = n * size) (hsrc : CellsAt W ao ys) (h1 : ∀ v ∈ ys, v.oneCell' = true) :
    ∃ w1, (copySem #[t, t] ty #[.slice (some ⟨g, 0, none⟩) n cap, .slice ao n c]).run P W = .ok (goInt n) w1 ∧ w1.ownsRow base e size (.slice (some ⟨g, 0, none⟩) n cap) n ys ∧ W.grownBy w1 (some g) := by
  rcases hown.2 with ⟨h, _⟩ | ⟨g', cap', cur, h, hbg, hg, hnc, hcm, hcs, htake⟩
  · simp at h
  · simp only [Value.slice.injEq, Option.some.injEq, Addr.mk.injEq, and_true, true_and] at h
    obtain ⟨rfl, rfl⟩ := h
    have hfit : ys.length ≤ cur.size := by rw [hy, hcs]; exact Nat.mul_le_mul_right _ hnc
    have hst := run_storeCells_at P g 0 e ys 0 cur W hg (by simpa using hfit) h1
    have hfc : (Builtin.firstCells size n (.slice ao n c)).run P W = .ok ys.toArray W := by
      cases ao with
      | none =>
        have : ys = [] := by
          cases ys with
          | nil => rfl
          | cons y l =>
            obtain ⟨g0, e0, -⟩ := hsrc 0 y rfl
            cases e0
        subst this
        exact run_firstCells_none W size n n c
      | some ad =>
        refine run_firstCells_some W size n ad n c ys hy (fun j v hj => ?_)
        obtain ⟨g0, e0, hc⟩ := hsrc j v hj
        simp only [Option.some.injEq] at e0
        subst e0
        rw [Addr.add_lit, Nat.zero_add]; exact hc
    refine ⟨W.setRow g (cur.toList.take 0 ++ ys ++ cur.toList.drop ys.length).toArray, ?_, ⟨hy, .inr ⟨g, cap, _, rfl, hbg, setRow_heap W g cur _ e _ hg, hnc, hcm, ?_, ?_⟩⟩, ⟨rfl, rfl, rfl, by simp, fun k _ hk => setRow_other W g k _ (fun e => hk (by simp [e]))⟩⟩
    · simp only [Nat.add_zero, Nat.zero_add] at hst
      simp [copySem, Builtin.copy_, run_underlying hu, Builtin.lenOf, sizeOf, typeInfo, hi, hsz, hfc, hst]
    · simp only [List.take_zero, List.nil_append, List.size_toArray, List.length_append, List.length_drop, Array.length_toList]
      omega
    · simp only [List.take_zero, List.nil_append, ← hy]
      exact List.take_left

/-- Where nothing stands behind the last, the last fills the gap. -/
def popAt (l : List WaitD) (b : Nat) : List WaitD := match l.getLast? with
  | some y => (l.set b y).dropLast
  | none => []
def selN : Nat → List WaitD → List WaitD
  | 0, _ => []
  | n + 1, l => match bestTo l l.length with
    | none => []
    | some b => match l[b]? with
      | none => []
      | some x => x :: selN n (popAt l b)
/-- What waits, in the order in which it is sent. -/
def waitingM (S : RefS) : List WaitD := selN S.wait.length S.wait

theorem pop_len (l : List WaitD) (b : Nat) : (popAt l b).length = l.length - 1 := by
  unfold popAt
  cases h : l.getLast? with
  | none =>
    have : l = [] := by simpa using h
    subst this; rfl
  | some y => simp

theorem best_some (l : List WaitD) (k : Nat) (h : 0 < k) (hk : k ≤ l.length) : ∃ b, bestTo l k = some b := by
  cases k with
  | zero => omega
  | succ k =>
    obtain ⟨x, hx⟩ : ∃ x, l[k]? = some x := ⟨_, List.getElem?_eq_getElem (by omega)⟩
    unfold bestTo
    rw [hx]
    split
    · simp_all
    · exact ⟨k, rfl⟩
    · split
      · exact ⟨_, rfl⟩
      · split <;> exact ⟨_, rfl⟩

theorem sel_step {l : List WaitD} {b : Nat} {x : WaitD} (hb : bestTo l l.length = some b) (hx : l[b]? = some x) : selN l.length l = x :: selN (popAt l b).length (popAt l b) := by
  have hbl := best_lt l _ b hb
  cases hn : l.length with
  | zero => omega
  | succ n =>
    rw [selN, hb]
    simp only [hx, pop_len, hn, Nat.add_sub_cancel]

theorem own_mono {w : World} {base base1 : Nat} {e : TypeId} {size : Nat} {v : Value} {n : Nat} {xs : List Value} (h : w.ownsRow base e size v n xs) (hb : base1 ≤ base) : w.ownsRow base1 e size v n xs := by
  refine ⟨h.1, ?_⟩
  rcases h.2 with a | ⟨g, cap, cur, hv, hg, rest⟩
  · exact .inl a
  · exact .inr ⟨g, cap, cur, hv, Nat.le_trans hb hg, rest⟩

theorem own_below {w w1 : World} {base : Nat} {e : TypeId} {size : Nat} {v : Value} {n : Nat} {xs : List Value} (h : w.ownsRow base e size v n xs) (hb : Below w.heap.size w w1) : w1.ownsRow base e size v n xs :=
  World.ownsRow.kept h (row := none) ⟨hb.os, hb.tape, hb.output, hb.size, fun k hk _ => hb.block k hk⟩ (by cases hv : v.ownBlock <;> simp)

/-- One message of a row, written over by another. -/
theorem row5 {W : World} {base g n cap b : Nat} {cur : List WaitD} {y z : WaitD} (h : W.ownsRow base 80 5 (.slice (some ⟨g, 0, none⟩) n cap) n (cur.flatMap waitCells)) (hy : cur[b]? = some y) :
    (((((W.setCell ⟨g, b * 5, none⟩ (.int .i64 z.number)).setCell ⟨g, b * 5 + 1, none⟩ (.string z.topic)).setCell ⟨g, b * 5 + 2, none⟩ (.int .i64 z.value)).setCell ⟨g, b * 5 + 3, none⟩ (.int .i64 z.deadline)).setCell ⟨g, b * 5 + 4, none⟩ (.int .i64 z.life)).ownsRow base 80 5 (.slice (some ⟨g, 0, none⟩) n cap) n ((cur.set b z).flatMap waitCells) ∧
      W.grownBy (((((W.setCell ⟨g, b * 5, none⟩ (.int .i64 z.number)).setCell ⟨g, b * 5 + 1, none⟩ (.string z.topic)).setCell ⟨g, b * 5 + 2, none⟩ (.int .i64 z.value)).setCell ⟨g, b * 5 + 3, none⟩ (.int .i64 z.deadline)).setCell ⟨g, b * 5 + 4, none⟩ (.int .i64 z.life)) (some g) := by
  obtain ⟨hb, -⟩ := List.getElem?_eq_some_iff.1 hy
  have s0 := World.ownsRow.stored h (b * 5) (.int .i64 z.number)
  rw [show b * 5 = b * 5 + 0 from rfl, flat_set waitCells 5 wait_len cur b 0 y { y with number := z.number } _ hy (by omega) rfl] at s0
  have s1 := World.ownsRow.stored s0.1 (b * 5 + 1) (.string z.topic)
  rw [flat_set waitCells 5 wait_len _ b 1 { y with number := z.number } { y with number := z.number, topic := z.topic } _ (by rw [List.getElem?_set_self hb]) (by omega) rfl, List.set_set] at s1
  have s2 := World.ownsRow.stored s1.1 (b * 5 + 2) (.int .i64 z.value)
  rw [flat_set waitCells 5 wait_len _ b 2 { y with number := z.number, topic := z.topic } { y with number := z.number, topic := z.topic, value := z.value } _ (by rw [List.getElem?_set_self hb]) (by omega) rfl, List.set_set] at s2
  have s3 := World.ownsRow.stored s2.1 (b * 5 + 3) (.int .i64 z.deadline)
  rw [flat_set waitCells 5 wait_len _ b 3 { y with number := z.number, topic := z.topic, value := z.value } { y with number := z.number, topic := z.topic, value := z.value, deadline := z.deadline } _ (by rw [List.getElem?_set_self hb]) (by omega) rfl, List.set_set] at s3
  have s4 := World.ownsRow.stored s3.1 (b * 5 + 4) (.int .i64 z.life)
  rw [flat_set waitCells 5 wait_len _ b 4 { y with number := z.number, topic := z.topic, value := z.value, deadline := z.deadline } z _ (by rw [List.getElem?_set_self hb]) (by omega) rfl, List.set_set] at s4
  exact ⟨s4.1, (((s0.2.trans s1.2).trans s2.2).trans s3.2).trans s4.2⟩

theorem pop_row {W : World} {base g cap : Nat} {L : List WaitD} (hL : 0 < L.length) (h : W.ownsRow base 80 5 (.slice (some ⟨g, 0, none⟩) L.length cap) L.length (L.flatMap waitCells)) :
    W.ownsRow base 80 5 (.slice (some ⟨g, 0, none⟩) (L.length - 1) cap) (L.length - 1) (L.dropLast.flatMap waitCells) := by
  have hne : L ≠ [] := fun e => by subst e; simp at hL
  have e : L = L.dropLast ++ [L.getLast hne] := (List.dropLast_concat_getLast hne).symm
  have h2 : W.ownsRow base 80 5 (.slice (some ⟨g, 0, none⟩) (L.length - 1 + 1) cap) (L.length - 1 + 1) (L.dropLast.flatMap waitCells ++ waitCells (L.getLast hne)) := by
    rw [Nat.sub_add_cancel hL]
    have e2 : L.dropLast.flatMap waitCells ++ waitCells (L.getLast hne) = L.flatMap waitCells := by
      conv => rhs; rw [e]
      simp
    rw [e2]; exact h
  exact ownsRow_pop (by rw [flat_len waitCells 5 wait_len, List.length_dropLast]) h2

def lenV : Value → Nat
  | .slice _ n _ => n
  | _ => 0

set_option maxRecDepth 100000 in
set_option maxHeartbeats 4000000 in
theorem refWaiting (B : Nat) (x : RefV) (S : RefS) (w : World) (hr : Rep w B x S) (hin : Inv S) :
    Calls Tryz.prog 43 #[.pointer (some ⟨B, 0, none⟩)] w fun e w' => ∃ v, e = .returned v ∧ w'.ownsRow w.heap.size 80 5 v (waitingM S).length ((waitingM S).flatMap waitCells) ∧ Below w.heap.size w w' := by
  obtain ⟨i0, hi, hz0, hz1, hz2⟩ := info_parts infoWait
  obtain ⟨ao, cw, hv, q1, q2, hcs⟩ := hr.wait.form
  have hwl := hin.wait.1
  have cwt := hr.cells.wait
  rw [hv] at cwt
  have hBl := hr.cells.lt
  have HW : Hid (waitingM S = selN S.wait.length S.wait) := rfl
  generalize hws : S.wait = ws at *
  clear hws
  obtain ⟨w1, hmk, hown1, hg1⟩ := run_make_full (P := Tryz.prog) w w.heap.size 56 80 i0 _ 5 Tryz.underlying56 hi hz0 hz1 .i64 .i64 ws.length (by rw [hz2]; omega) (by unfold maxLen; omega) (Nat.le_refl _)
  have b1 : Below w.heap.size w w1 := (Below.refl _ _).grown hg1 (Nat.le_refl _) (fun k hk => by cases hk)
  obtain ⟨w2, hcp, hown2, hg2⟩ := run_copy_full (P := Tryz.prog) 56 3 80 5 w.heap.size Tryz.underlying56 i0 hi hz1 w1 w.heap.size ws.length ws.length _ (ws.flatMap waitCells) hown1 ao cw (flat_len waitCells 5 wait_len ws) (hcs.below b1) (fun u hu => by
    obtain ⟨m, -, hm⟩ := List.mem_flatMap.1 hu
    exact wait_one m u hm)
  have b2 : Below w.heap.size w w2 := b1.grown hg2 b1.size (fun k hk => by simp at hk; omega)
  have cw1 := cell_later b1 cwt
  have HO2 : Hid (w2.ownsRow w.heap.size 80 5 (.slice (some ⟨w.heap.size, 0, none⟩) ws.length ws.length) ws.length (ws.flatMap waitCells)) := hown2
  have HB2 : Hid (Below w.heap.size w w2) := b2
  unfold maxLen at q2
  clear hr hin hcs hown1 hg1 hown2 hg2 b1 b2
  go_enter Tryz.func43, Tryz.ntmps43
  go_wp2_with fail
  clear hmk hcp cw1 cwt
  go_loopw [3, 4] (fun l v wr => ∃ (cur acc : List WaitD), l = .slice (some ⟨w.heap.size, 0, none⟩) cur.length ws.length ∧ cur.length ≤ 64 ∧ cur.length + acc.length = ws.length ∧ wr.ownsRow w.heap.size 80 5 (.slice (some ⟨w.heap.size, 0, none⟩) cur.length ws.length) cur.length (cur.flatMap waitCells) ∧
      wr.ownsRow (w.heap.size + 1) 80 5 v acc.length (acc.flatMap waitCells) ∧ Below w.heap.size w wr ∧ acc ++ selN cur.length cur = selN ws.length ws) (fun l _ _ => lenV l)
  case atStart => exact ⟨ws, [], rfl, hwl, by simp, HO2.out, World.ownsRow_nil _ _ _ _, HB2.out, by simp⟩
  case round =>
    obtain ⟨cur, acc, rfl, hcl, hca, hownL, hownV, hbr, hse⟩ := hrel
    have HSE : Hid (acc ++ selN cur.length cur = selN ws.length ws) := hse
    clear hse
    by_cases hpos : 0 < cur.length
    · obtain ⟨b, hb⟩ := best_some cur cur.length hpos (Nat.le_refl _)
      have hbl := best_lt cur _ b hb
      obtain ⟨y, hy⟩ : ∃ y, cur[b]? = some y := ⟨_, List.getElem?_eq_getElem hbl⟩
      obtain ⟨z, hz⟩ : ∃ z, cur[cur.length - 1]? = some z := ⟨_, List.getElem?_eq_getElem (by omega)⟩
      have HF : Hid (firstM cur = (b : Int)) := by simp [Hid, firstM, hb, optI]
      have HS : Hid (selN cur.length cur = y :: selN (popAt cur b).length (popAt cur b)) := sel_step hb hy
      have HPop : Hid (popAt cur b = (cur.set b z).dropLast) := by
        have : cur.getLast? = some z := by rw [List.getLast?_eq_getElem?]; exact hz
        simp [Hid, popAt, this]
      have HY : Hid (cur[b]? = some y) := hy
      have HZ : Hid (cur[cur.length - 1]? = some z) := hz
      obtain ⟨aL, cL, eL, l1, l2, hcL⟩ := (row_of_own (w := w) hownL (.slice none 0 0)).1.form
      simp only [Value.slice.injEq, true_and] at eL
      obtain ⟨rfl, rfl⟩ := eL
      clear hb hy hz
      go_wp2_with fail
      refine (refFirstB cur _ _ _ l1 l2 hcL).mono ?_
      rintro e w3 ⟨rfl, hb3⟩
      rw [HF.out]
      have hownL3 := own_below hownL hb3
      have hownV3 := own_below hownV hb3
      have hbr3 : Below w.heap.size w w3 := hbr.trans (hb3.mono hbr.size)
      have hs3 := hbr3.size
      have hx3 : w.heap.size < w3.heap.size := (hownL3.lt _ rfl).2
      obtain ⟨g, eg, hgl, c0, c1, c2, c3, c4⟩ := wait_cells (hcL.below hb3) HY.out
      simp only [Option.some.injEq, Addr.mk.injEq, and_true] at eg
      subst eg
      clear hownL hownV hbr hb3 hcL
      go_wp2_with (first | (at_builtin; refine wpList_append_own _ rfl _ _ 56 rfl (w.heap.size + 1) 80 i0 _ 5 48 Tryz.underlying56 hi hz0 hz1 hz2 rfl (by decide) _ _ _ rfl (hownV3.alloc _) ⟨w3.heap.size, 0, none⟩ 1 1 (waitCells y) rfl rfl (cells_new _ _ _) (wait_one _) (by unfold maxLen; omega) (by omega) (by simp; omega) ?_))
      intro v' w4 hown' hgrow _
      have hne : some w.heap.size ≠ Value.ownBlock _ := fun e => by have := (hownV3.lt _ e.symm).1; omega
      have hownL4 := World.ownsRow.kept (hownL3.alloc _) hgrow (.inr hne)
      have hb4 : Below w.heap.size w w4 := (hbr3.alloc hs3 _).grown hgrow (by simp; omega) (fun k hk => by have := (hownV3.lt k hk).1; omega)
      have hown5 : w4.ownsRow (w.heap.size + 1) 80 5 v' (acc ++ [y]).length ((acc ++ [y]).flatMap waitCells) := by simpa using hown'
      obtain ⟨aL, cL, eL, -, -, hcL4⟩ := (row_of_own (w := w) hownL4 (.slice none 0 0)).1.form
      simp only [Value.slice.injEq, true_and] at eL
      obtain ⟨rfl, rfl⟩ := eL
      obtain ⟨g, eg, -, d0, d1, d2, d3, d4⟩ := wait_cells hcL4 HZ.out
      simp only [Option.some.injEq, Addr.mk.injEq, and_true] at eg
      subst eg
      obtain ⟨g, eg, -, f0, f1, f2, f3, f4⟩ := wait_cells hcL4 HY.out
      simp only [Option.some.injEq, Addr.mk.injEq, and_true] at eg
      subst eg
      have z0 := World.ownsRow.frozenAt hownL4 (b * 5)
      have z1 := World.ownsRow.frozenAt hownL4 (b * 5 + 1)
      have z2 := World.ownsRow.frozenAt hownL4 (b * 5 + 2)
      have z3 := World.ownsRow.frozenAt hownL4 (b * 5 + 3)
      have z4 := World.ownsRow.frozenAt hownL4 (b * 5 + 4)
      have R5 := row5 hownL4 HY.out (z := z)
      have HR5 : Hid (_ ∧ World.grownBy w4 _ _) := R5
      have HL4 : Hid (w4.ownsRow (w.heap.size + 1) 80 5 v' (acc ++ [y]).length ((acc ++ [y]).flatMap waitCells)) := hown5
      clear hown' hgrow hownL4 hcL4 hown5 hownL3 hownV3 c0 c1 c2 c3 c4 R5 hne
      go_wp2_with fail
      have hl5 : ((cur.set b z).dropLast).length = cur.length - 1 := by simp
      go_roundw
      case rel => exact ⟨(cur.set b z).dropLast, acc ++ [y], by rw [hl5], by rw [hl5]; omega, by rw [hl5]; simp; omega,
        by
          have := pop_row (L := cur.set b z) (by simpa using hpos) (by rw [List.length_set]; exact HR5.out.1)
          rw [List.length_set] at this
          rw [hl5]; exact this,
        World.ownsRow.kept HL4.out HR5.out.2 (.inr (fun e => by have := (HL4.out.lt _ e).1; omega)),
        hb4.grown HR5.out.2 hb4.size (fun k hk => by simp at hk; omega),
        by rw [← HSE.out, HS.out, HPop.out]; simp⟩
      case measure => simp only [lenV]; omega
    · have e : cur = [] := List.eq_nil_of_length_eq_zero (by omega)
      subst e
      go_wp2_with fail
      go_ret
      exact ⟨_, rfl, by
        rw [HW.out, ← HSE.out]
        have := own_mono hownV (Nat.le_succ _)
        simpa [selN] using this, hbr⟩
end Go.Proofs.YtmjdndhfmfjbiaaGreat

namespace Go.Proofs.YtmjdndhfmfjbiaaGreat
open Go.RowKit

def pickM (c n : Int) : Int := (if c < 0 then -(c + 1) else c) % n
theorem pick_bd (c n : Int) (hn : 0 < n) : 0 ≤ pickM c n ∧ pickM c n < n := by
  unfold pickM
  exact ⟨Int.emod_nonneg _ (by omega), Int.emod_lt_of_pos _ hn⟩

theorem lawPick (c n : Int) (w : World) (h0 : -9223372036854775808 ≤ c) (h1 : c ≤ 9223372036854775807) (hn : 0 < n) (hn1 : n ≤ 9223372036854775807) :
    Calls Tryz.prog 48 #[.int .i64 c, .int .i64 n] w fun e w' => e = .returned (.int .i64 (pickM c n)) ∧ w' = w := by
  by_cases hc : c < 0
  · have HE : Hid (pickM c n = (-(c + 1)) % n) := by simp [Hid, pickM, hc]
    go_enter Tryz.func48, Tryz.ntmps48
    go_wp2
    all_goals go_ret
    all_goals exact ⟨ret_int (by rw [HE.out, ← Int.neg_tmod, Int.tmod_eq_emod_of_nonneg (by omega)]), rfl⟩
  · have HE : Hid (pickM c n = c % n) := by simp [Hid, pickM, hc]
    go_enter Tryz.func48, Tryz.ntmps48
    go_wp2
    all_goals go_ret
    all_goals exact ⟨ret_int (by rw [HE.out]), rfl⟩

set_option maxRecDepth 100000 in
set_option maxHeartbeats 1000000 in
/-- Two rows of the same texts. -/
theorem lawSameTexts (xs : List ByteArray) (a b : Option Addr) (c d : Nat) (w : World) (hl : xs.length ≤ 1048576) (ha : CellsAt w a (xs.map Value.string)) (hb : CellsAt w b (xs.map Value.string)) :
    Calls Tryz.prog 35 #[.slice a xs.length c, .slice b xs.length d] w fun e w' => e = .returned (.bool true) ∧ Below w.heap.size w w' := by
  have HA : Hid (CellsAt w a (xs.map Value.string)) := ha
  have HB : Hid (CellsAt w b (xs.map Value.string)) := hb
  clear ha hb
  go_enter Tryz.func35, Tryz.ntmps35
  go_wp2_with fail
  go_loopw [5] (fun i wr => ∃ k : Nat, k ≤ xs.length ∧ i = .int .i64 k ∧ ∃ n, wr = w.drewN n) (fun i _ => xs.length - (intOf i).toNat)
  case atStart => exact ⟨0, Nat.zero_le _, rfl, 0, rfl⟩
  case round =>
    obtain ⟨k, hk, rfl, n, rfl⟩ := hrel
    by_cases hlt : k < xs.length
    · obtain ⟨y, hy⟩ : ∃ y, xs[k]? = some y := ⟨_, List.getElem?_eq_getElem hlt⟩
      obtain ⟨g, rfl, hg⟩ := HA.out k _ (strs_get hy)
      obtain ⟨g', rfl, hg'⟩ := HB.out k _ (strs_get hy)
      clear hy
      go_wp2_with fail
      go_quiet (fail)
      go_wp2_with fail
      go_roundw
      case rel => exact ⟨k + 1, by omega, by go_num, _, rfl⟩
      case measure => simp [intOf]; omega
    · go_wp2_with fail
      go_ret
      exact ⟨rfl, below_drewN (Below.refl _ _)⟩

theorem mail_cells {w : World} {ao : Option Addr} {l : List MailD} (h : CellsAt w ao (l.flatMap mailCells)) {k : Nat} {x : MailD} (hx : l[k]? = some x) :
    ∃ g, ao = some ⟨g, 0, none⟩ ∧ g < w.heap.size ∧ w.cell? ⟨g, k * 5, none⟩ = some (.int .i64 x.number) ∧ w.cell? ⟨g, k * 5 + 1, none⟩ = some (.string x.topic) ∧
      w.cell? ⟨g, k * 5 + 2, none⟩ = some (.int .i64 x.value) ∧ w.cell? ⟨g, k * 5 + 3, none⟩ = some (.int .i64 x.sentAt) ∧ w.cell? ⟨g, k * 5 + 4, none⟩ = some (.int .i64 x.left) := by
  have F := flat_get mailCells 5 mail_len l k
  obtain ⟨g, e0, h0⟩ := h (k * 5 + 0) (.int .i64 x.number) (by rw [F 0 x hx (by omega)]; rfl)
  obtain ⟨g1, e1, h1⟩ := h (k * 5 + 1) (.string x.topic) (by rw [F 1 x hx (by omega)]; rfl)
  obtain ⟨g2, e2, h2⟩ := h (k * 5 + 2) (.int .i64 x.value) (by rw [F 2 x hx (by omega)]; rfl)
  obtain ⟨g3, e3, h3⟩ := h (k * 5 + 3) (.int .i64 x.sentAt) (by rw [F 3 x hx (by omega)]; rfl)
  obtain ⟨g4, e4, h4⟩ := h (k * 5 + 4) (.int .i64 x.left) (by rw [F 4 x hx (by omega)]; rfl)
  rw [e0] at e1 e2 e3 e4
  simp only [Option.some.injEq, Addr.mk.injEq, and_true] at e1 e2 e3 e4
  subst e1 e2 e3 e4
  exact ⟨g, e0, World.block_lt_of_cell? _ _ h0, h0, h1, h2, h3, h4⟩

set_option maxRecDepth 100000 in
set_option maxHeartbeats 1000000 in
theorem lawSameMails (xs : List MailD) (a b : Option Addr) (c d : Nat) (w : World) (hl : xs.length ≤ 1048576) (ha : CellsAt w a (xs.flatMap mailCells)) (hb : CellsAt w b (xs.flatMap mailCells)) :
    Calls Tryz.prog 39 #[.slice a xs.length c, .slice b xs.length d] w fun e w' => e = .returned (.bool true) ∧ Below w.heap.size w w' := by
  have HA : Hid (CellsAt w a (xs.flatMap mailCells)) := ha
  have HB : Hid (CellsAt w b (xs.flatMap mailCells)) := hb
  clear ha hb
  go_enter Tryz.func39, Tryz.ntmps39
  go_wp2_with fail
  go_loopw [5] (fun i wr => ∃ k : Nat, k ≤ xs.length ∧ i = .int .i64 k ∧ ∃ n, wr = w.drewN n) (fun i _ => xs.length - (intOf i).toNat)
  case atStart => exact ⟨0, Nat.zero_le _, rfl, 0, rfl⟩
  case round =>
    obtain ⟨k, hk, rfl, n, rfl⟩ := hrel
    by_cases hlt : k < xs.length
    · obtain ⟨y, hy⟩ : ∃ y, xs[k]? = some y := ⟨_, List.getElem?_eq_getElem hlt⟩
      obtain ⟨g, rfl, hg, c0, c1, c2, c3, c4⟩ := mail_cells HA.out hy
      obtain ⟨g', rfl, hg', d0, d1, d2, d3, d4⟩ := mail_cells HB.out hy
      clear hy
      go_wp2_with fail
      go_quiet (fail)
      go_wp2_with fail
      go_roundw
      case rel => exact ⟨k + 1, by omega, by go_num, _, rfl⟩
      case measure => simp [intOf]; omega
    · go_wp2_with fail
      go_ret
      exact ⟨rfl, below_drewN (Below.refl _ _)⟩

set_option maxRecDepth 100000 in
set_option maxHeartbeats 1000000 in
theorem lawSameWaits (xs : List WaitD) (a b : Option Addr) (c d : Nat) (w : World) (hl : xs.length ≤ 1048576) (ha : CellsAt w a (xs.flatMap waitCells)) (hb : CellsAt w b (xs.flatMap waitCells)) :
    Calls Tryz.prog 44 #[.slice a xs.length c, .slice b xs.length d] w fun e w' => e = .returned (.bool true) ∧ Below w.heap.size w w' := by
  have HA : Hid (CellsAt w a (xs.flatMap waitCells)) := ha
  have HB : Hid (CellsAt w b (xs.flatMap waitCells)) := hb
  clear ha hb
  go_enter Tryz.func44, Tryz.ntmps44
  go_wp2_with fail
  go_loopw [5] (fun i wr => ∃ k : Nat, k ≤ xs.length ∧ i = .int .i64 k ∧ ∃ n, wr = w.drewN n) (fun i _ => xs.length - (intOf i).toNat)
  case atStart => exact ⟨0, Nat.zero_le _, rfl, 0, rfl⟩
  case round =>
    obtain ⟨k, hk, rfl, n, rfl⟩ := hrel
    by_cases hlt : k < xs.length
    · obtain ⟨y, hy⟩ : ∃ y, xs[k]? = some y := ⟨_, List.getElem?_eq_getElem hlt⟩
      obtain ⟨g, rfl, hg, c0, c1, c2, c3, c4⟩ := wait_cells HA.out hy
      obtain ⟨g', rfl, hg', d0, d1, d2, d3, d4⟩ := wait_cells HB.out hy
      clear hy
      go_wp2_with fail
      go_quiet (fail)
      go_wp2_with fail
      go_roundw
      case rel => exact ⟨k + 1, by omega, by go_num, _, rfl⟩
      case measure => simp [intOf]; omega
    · go_wp2_with fail
      go_ret
      exact ⟨rfl, below_drewN (Below.refl _ _)⟩

theorem lawNum (n : Int) (w : World) : Calls Tryz.prog 17 #[.int .i64 n] w fun e w' => e = .returned (.int .i64 n) ∧ w' = w := by
  go_enter Tryz.func17, Tryz.ntmps17
  go_wp2
  go_ret
  exact ⟨rfl, rfl⟩

/-- What an owner writes over the n-th list. -/
def markM (n : Int) : ByteArray := ⟨#[33]⟩ ++ ⟨([n % 256, n / 256 % 256, n / 65536 % 256].map fun m => UInt8.ofNat m.toNat).toArray⟩

set_option maxRecDepth 100000 in
set_option maxHeartbeats 1000000 in
theorem lawMark (n : Int) (w : World) :
    Calls Tryz.prog 36 #[.int .i64 n] w fun e w' => e = .returned (.string (markM n)) ∧ Below w.heap.size w w' := by
  have hcv := conv_new w [n % 256, n / 256 % 256, n / 65536 % 256]
  simp only [List.length_cons, List.length_nil, List.map_cons, List.map_nil, Nat.zero_add, Nat.reduceAdd] at hcv
  go_enter Tryz.func36, Tryz.ntmps36
  go_wp2_with fail
  go_ret
  exact ⟨rfl, below_one _ _⟩
end Go.Proofs.YtmjdndhfmfjbiaaGreat
