import Derived.Test.YtmjdndhfmfjbiabM09
import Derived.Deep.RegionHeld3
import Derived.Test.YtmjdndhfmfjbiabM08
import Derived.Test.YtmjdndhfmfjbiabM07
import Derived.Test.YtmjdndhfmfjbiabM02
namespace Go.Proofs.Ytmjdndhfmfjbiab
open Go.RowKit

set_option maxRecDepth 100000 in
set_option maxHeartbeats 1000000 in
theorem keepDo2 {w0 w : World} {H : Nat} {F : Nat → Prop} {S : RefS} (o : StepD) (ho : StepOk o) (h : MineF w0 w H F S) (e : pickM o.kind 7 = 2) :
    Calls Try.prog 68 #[.pointer (some ⟨H, 0, none⟩), stepV o] w fun e w' => e = .returned (.tuple #[.int .i64 (goA S o), .int .i64 (goE S o)]) ∧ MineStep w0 w H F (goS S o) w' := by
  obtain ⟨g1, g2, g3⟩ := go_is (S := S) (p := ⟨3, 0, pickM o.b 1073741825, pickM o.c 1099511627777, pickM o.d 1099511627777, topicM o.s⟩) e (by simp [opK])
  rw [g1, g2, g3]
  clear g1 g2 g3
  obtain ⟨kk, a, b, c, d, s⟩ := o
  obtain ⟨⟨k0, k1⟩, ⟨a0, a1⟩, ⟨b0, b1⟩, ⟨c0, c1⟩, ⟨d0, d1⟩, hs⟩ := ho
  simp only at k0 k1 a0 a1 b0 b1 c0 c1 d0 d1 hs e
  have HM : Hid (MineF w0 w H F S) := h
  have HK : Hid (pickM kk 7 = 2) := e
  clear e h
  simp only
  generalize hB1 : pickM b 1073741825 = B at *
  generalize hC1 : pickM c 1099511627777 = C at *
  generalize hD1 : pickM d 1099511627777 = D at *
  generalize hT1 : topicM s = t at *
  have HBX : Hid (pickM b 1073741825 = B) := hB1
  have HCX : Hid (pickM c 1099511627777 = C) := hC1
  have HDX : Hid (pickM d 1099511627777 = D) := hD1
  have HTX : Hid (topicM s = t) := hT1
  clear hB1 hC1 hD1 hT1
  unfold stepV
  simp only
  go_enter Try.func68, Try.ntmps68
  go_wp2_with fail
  refine (keepPick a 8 _ a0 a1 (by omega) (by omega)).mono ?_
  rintro e w1 ⟨rfl, hw1⟩
  have hA := pick_bd a 8 (by omega)
  generalize pickM a 8 = A at *
  subst hw1
  go_wp2_with fail
  refine (textFilter s _ hs).mono ?_
  rintro e w2 ⟨⟨f, rfl, hf, -⟩, hb2⟩
  obtain ⟨i0, i1, i2, i3, i4, i5⟩ := step6 (o := ⟨kk, a, b, c, d, s⟩) hb2
  simp only at i0 i1 i2 i3 i4 i5
  have hfs : f.size ≤ 1048576 := Nat.le_trans (path15 hf) (by omega)
  have HB2 : Hid (Below w.heap.size w w2) := (below_one w _).trans (hb2.mono (by simp))
  clear hf hb2
  go_wp2_with fail
  refine (textTopic s _ hs).mono ?_
  rintro e w3 ⟨⟨t', rfl, ht, hte⟩, hb3⟩
  obtain rfl := (hte.trans HTX.out).symm
  have j0 := cell_later hb3 i0
  have j2 := cell_later hb3 i2
  have j3 := cell_later hb3 i3
  have j4 := cell_later hb3 i4
  have hts : t.size ≤ 1048576 := Nat.le_trans (path15 ht) (by omega)
  have HB3 : Hid (Below w.heap.size w w3) := HB2.out.trans (hb3.mono HB2.out.size)
  clear ht hte hb3 i0 i1 i2 i3 i4 i5
  have M3 : Hid (MineF w0 w3 H F S) := HM.out.below HB3.out
  go_wp2_with fail
  refine (keepPick kk 7 _ k0 k1 (by omega) (by omega)).mono ?_
  rintro e w3 ⟨rfl, rfl⟩
  rw [HK.out]
  have hno : ¬ F w.heap.size := fun hf => absurd (HM.out.lt hf) (Nat.lt_irrefl _)
  have KEEP : Hid (∀ w4 S1, MineStep w0 w3.drew H F S1 w4 → w4.cell? ⟨w.heap.size, 2, none⟩ = some (.int .i64 b) ∧ w4.cell? ⟨w.heap.size, 3, none⟩ = some (.int .i64 c) ∧ w4.cell? ⟨w.heap.size, 4, none⟩ = some (.int .i64 d)) :=
    fun w4 S1 h => ⟨h.cell (p := ⟨w.heap.size, 2, none⟩) j2 hno, h.cell (p := ⟨w.heap.size, 3, none⟩) j3 hno, h.cell (p := ⟨w.heap.size, 4, none⟩) j4 hno⟩
  clear hno
  go_wp2_with fail
  go_region_held3 (fun w' => w'.cell? ⟨w.heap.size, 2, none⟩ = some (.int .i64 b) ∧ w'.cell? ⟨w.heap.size, 3, none⟩ = some (.int .i64 c) ∧ w'.cell? ⟨w.heap.size, 4, none⟩ = some (.int .i64 d)) (first | (go_keep; done) | exact KEEP.out _ _ hm4)
    (first | (go_at_call 18; refine (keepPick _ _ _ (by assumption) (by assumption) (by omega) (by omega)).mono ?_; rintro e w5 ⟨rfl, rfl⟩; first | rw [HBX.out] | rw [HCX.out] | rw [HDX.out]) | (go_at_call 14; refine (mineFPub 0 B C D t (M3.out.below below_drew) hts).mono ?_; rintro e w4 ⟨rfl, hm4⟩))
  have M4 : Hid (MineStep w0 w H F (doS S ⟨3, 0, B, C, D, t⟩) w4) := hm4.later HB3.out.drew
  clear hm4
  go_wp2_with fail
  go_ret2
  exact ⟨rfl, M4.out⟩
end Go.Proofs.Ytmjdndhfmfjbiab

namespace Go.Proofs.Ytmjdndhfmfjbiab
open Go.RowKit

set_option maxRecDepth 100000 in
set_option maxHeartbeats 1000000 in
theorem keepDo4 {w0 w : World} {H : Nat} {F : Nat → Prop} {S : RefS} (o : StepD) (ho : StepOk o) (h : MineF w0 w H F S) (e : pickM o.kind 7 = 4) :
    Calls Try.prog 68 #[.pointer (some ⟨H, 0, none⟩), stepV o] w fun e w' => e = .returned (.tuple #[.int .i64 (goA S o), .int .i64 (goE S o)]) ∧ MineStep w0 w H F (goS S o) w' := by
  obtain ⟨g1, g2, g3⟩ := go_is (S := S) (p := ⟨5, 0, o.b, 1 + pickM o.c 1099511627776, 0, ⟨#[]⟩⟩) e (by simp [opK])
  rw [g1, g2, g3]
  clear g1 g2 g3
  obtain ⟨kk, a, b, c, d, s⟩ := o
  obtain ⟨⟨k0, k1⟩, ⟨a0, a1⟩, ⟨b0, b1⟩, ⟨c0, c1⟩, ⟨d0, d1⟩, hs⟩ := ho
  simp only at k0 k1 a0 a1 b0 b1 c0 c1 d0 d1 hs e
  have HM : Hid (MineF w0 w H F S) := h
  have HK : Hid (pickM kk 7 = 4) := e
  clear e h
  have hC := pick_bd c 1099511627776 (by omega)
  simp only
  generalize hE1 : pickM c 1099511627776 = E at *
  have HEX : Hid (pickM c 1099511627776 = E) := hE1
  clear hE1
  unfold stepV
  simp only
  go_enter Try.func68, Try.ntmps68
  go_wp2_with fail
  refine (keepPick a 8 _ a0 a1 (by omega) (by omega)).mono ?_
  rintro e w1 ⟨rfl, hw1⟩
  have hA := pick_bd a 8 (by omega)
  generalize pickM a 8 = A at *
  subst hw1
  go_wp2_with fail
  refine (textFilter s _ hs).mono ?_
  rintro e w2 ⟨⟨f, rfl, hf, -⟩, hb2⟩
  obtain ⟨i0, i1, i2, i3, i4, i5⟩ := step6 (o := ⟨kk, a, b, c, d, s⟩) hb2
  simp only at i0 i1 i2 i3 i4 i5
  have hfs : f.size ≤ 1048576 := Nat.le_trans (path15 hf) (by omega)
  have HB2 : Hid (Below w.heap.size w w2) := (below_one w _).trans (hb2.mono (by simp))
  clear hf hb2
  go_wp2_with fail
  refine (textTopic s _ hs).mono ?_
  rintro e w3 ⟨⟨t, rfl, ht, -⟩, hb3⟩
  have j0 := cell_later hb3 i0
  have j2 := cell_later hb3 i2
  have j3 := cell_later hb3 i3
  have hts : t.size ≤ 1048576 := Nat.le_trans (path15 ht) (by omega)
  have HB3 : Hid (Below w.heap.size w w3) := HB2.out.trans (hb3.mono HB2.out.size)
  clear ht hb3 i0 i1 i2 i3 i4 i5
  have M3 : Hid (MineF w0 w3 H F S) := HM.out.below HB3.out
  go_wp2_with fail
  refine (keepPick kk 7 _ k0 k1 (by omega) (by omega)).mono ?_
  rintro e w3 ⟨rfl, rfl⟩
  rw [HK.out]
  have hno : ¬ F w.heap.size := fun hf => absurd (HM.out.lt hf) (Nat.lt_irrefl _)
  have KEEP : Hid (∀ w4 S1, MineStep w0 w3.drew H F S1 w4 → w4.cell? ⟨w.heap.size, 2, none⟩ = some (.int .i64 b) ∧ w4.cell? ⟨w.heap.size, 3, none⟩ = some (.int .i64 c)) :=
    fun w4 S1 h => ⟨h.cell (p := ⟨w.heap.size, 2, none⟩) j2 hno, h.cell (p := ⟨w.heap.size, 3, none⟩) j3 hno⟩
  clear hno
  have hwrap : IntKind.i64.wrap (1 + E) = 1 + E := Go.IntWalk.i64_in _ (by omega)
  go_wp2_with fail
  go_region_held3 (fun w' => w'.cell? ⟨w.heap.size, 2, none⟩ = some (.int .i64 b) ∧ w'.cell? ⟨w.heap.size, 3, none⟩ = some (.int .i64 c)) (first | (go_keep; done) | exact KEEP.out _ _ hm4)
    (first | (go_at_call 18; refine (keepPick _ _ _ (by assumption) (by assumption) (by omega) (by omega)).mono ?_; rintro e w5 ⟨rfl, rfl⟩; rw [HEX.out]) | (go_at_call 23; refine (mineFMove 0 b (1 + E) 0 ⟨#[]⟩ (M3.out.below below_drew) (Nat.zero_le _)).mono ?_; rintro e w4 ⟨rfl, hm4⟩))
  have M4 : Hid (MineStep w0 w H F (doS S ⟨5, 0, b, 1 + E, 0, ⟨#[]⟩⟩) w4) := hm4.later HB3.out.drew
  clear hm4
  go_wp2_with fail
  go_ret2
  exact ⟨by rw [ans_none (by show (5 : Int) ≠ 3; decide)]; rfl, M4.out⟩
end Go.Proofs.Ytmjdndhfmfjbiab

namespace Go.Proofs.Ytmjdndhfmfjbiab
open Go.RowKit

theorem keepDo {w0 w : World} {H : Nat} {F : Nat → Prop} {S : RefS} (o : StepD) (ho : StepOk o) (h : MineF w0 w H F S) :
    Calls Try.prog 68 #[.pointer (some ⟨H, 0, none⟩), stepV o] w fun e w' => e = .returned (.tuple #[.int .i64 (goA S o), .int .i64 (goE S o)]) ∧ MineStep w0 w H F (goS S o) w' := by
  have hb := pick_bd o.kind 7 (by omega)
  rcases (show pickM o.kind 7 = 0 ∨ pickM o.kind 7 = 1 ∨ pickM o.kind 7 = 2 ∨ pickM o.kind 7 = 3 ∨ pickM o.kind 7 = 4 ∨ pickM o.kind 7 = 5 ∨ pickM o.kind 7 = 6 from by omega) with e | e | e | e | e | e | e
  · exact keepDo0 o ho h e
  · exact keepDo1 o ho h e
  · exact keepDo2 o ho h e
  · exact keepDo3 o ho h e
  · exact keepDo4 o ho h e
  · exact keepDo5 o ho h e
  · exact keepDo6 o ho h e
end Go.Proofs.Ytmjdndhfmfjbiab

/-
  heraldkeep: operations one behind the other on a broker of one's own, and what they leave alone.
-/
namespace Go.Proofs.Ytmjdndhfmfjbiab
open Go.RowKit

theorem MineStep.refl {w0 w : World} {H : Nat} {F : Nat → Prop} {S : RefS} (h : MineF w0 w H F S) : MineStep w0 w H F S w := by
  have hF : ∀ k, F k → w0.heap.size ≤ k := by
    obtain ⟨R, hp, hF, hb, hg⟩ := h
    exact hF
  exact ⟨F, h, Upd.refl _ _, hF, fun k hk => .inl hk⟩
theorem MineStep.trans {w0 w w1 w2 : World} {H : Nat} {F F1 : Nat → Prop} {S2 : RefS} (hu1 : Upd F w w1) (hF : ∀ k, F k → w0.heap.size ≤ k) (hk1 : ∀ k, F1 k → F k ∨ w.heap.size ≤ k) (h2 : MineStep w0 w1 H F1 S2 w2) : MineStep w0 w H F S2 w2 := by
  obtain ⟨F2, hm2, hu2, -, hk2⟩ := h2
  refine ⟨F2, hm2, hu1.trans hu2 (fun i hi hf => (hk1 i hf).resolve_right (by omega)), hF, fun k hk => ?_⟩
  rcases hk2 k hk with h | h
  · exact hk1 k h
  · exact .inr (Nat.le_trans hu1.size h)
theorem MineStep.below {w0 w w1 w2 : World} {H : Nat} {F : Nat → Prop} {S1 : RefS} (h : MineStep w0 w H F S1 w1) (hb : Below w1.heap.size w1 w2) : MineStep w0 w H F S1 w2 := by
  obtain ⟨F1, hm, hu, hF, hk⟩ := h
  exact ⟨F1, hm.below hb, hu.below hb, hF, hk⟩
theorem MineStep.mine {w0 w w1 : World} {H : Nat} {F : Nat → Prop} {S1 : RefS} (h : MineStep w0 w H F S1 w1) : Mine w0 w1 H S1 := by
  obtain ⟨F1, hm, -⟩ := h
  exact hm.mine
theorem MineStep.upd {w0 w w1 : World} {H : Nat} {F : Nat → Prop} {S1 : RefS} (h : MineStep w0 w H F S1 w1) : Upd F w w1 := by
  obtain ⟨F1, hm, hu, -⟩ := h
  exact hu

theorem stepSub {w0 w w1 : World} {H : Nat} {F : Nat → Prop} {S : RefS} (a b c d : Int) (s : ByteArray) (h : MineStep w0 w H F S w1) (hs : s.size ≤ 1048576) :
    Calls Try.prog 11 #[.pointer (some ⟨H, 0, none⟩), .int .i64 a, .string s] w1 fun e w' => e = .returned (.int .i64 (doErr S ⟨1, a, b, c, d, s⟩)) ∧ MineStep w0 w H F (doS S ⟨1, a, b, c, d, s⟩) w' := by
  obtain ⟨F1, hm, hu, hF, hk⟩ := h
  refine (mineFSub a b c d s hm hs).mono ?_
  rintro e w2 ⟨rfl, h2⟩
  exact ⟨rfl, MineStep.trans hu hF hk h2⟩
theorem stepUnsub {w0 w w1 : World} {H : Nat} {F : Nat → Prop} {S : RefS} (a b c d : Int) (s : ByteArray) (h : MineStep w0 w H F S w1) (hs : s.size ≤ 1048576) :
    Calls Try.prog 73 #[.pointer (some ⟨H, 0, none⟩), .int .i64 a, .string s] w1 fun e w' => e = .returned (.int .i64 (doErr S ⟨2, a, b, c, d, s⟩)) ∧ MineStep w0 w H F (doS S ⟨2, a, b, c, d, s⟩) w' := by
  obtain ⟨F1, hm, hu, hF, hk⟩ := h
  refine (mineFUnsub a b c d s hm hs).mono ?_
  rintro e w2 ⟨rfl, h2⟩
  exact ⟨rfl, MineStep.trans hu hF hk h2⟩
theorem stepCancel {w0 w w1 : World} {H : Nat} {F : Nat → Prop} {S : RefS} (a b c d : Int) (s : ByteArray) (h : MineStep w0 w H F S w1) (hs : s.size ≤ 1048576) :
    Calls Try.prog 22 #[.pointer (some ⟨H, 0, none⟩), .int .i64 b] w1 fun e w' => e = .returned (.int .i64 (doErr S ⟨4, a, b, c, d, s⟩)) ∧ MineStep w0 w H F (doS S ⟨4, a, b, c, d, s⟩) w' := by
  obtain ⟨F1, hm, hu, hF, hk⟩ := h
  refine (mineFCancel a b c d s hm hs).mono ?_
  rintro e w2 ⟨rfl, h2⟩
  exact ⟨rfl, MineStep.trans hu hF hk h2⟩
theorem stepMove {w0 w w1 : World} {H : Nat} {F : Nat → Prop} {S : RefS} (a b c d : Int) (s : ByteArray) (h : MineStep w0 w H F S w1) (hs : s.size ≤ 1048576) :
    Calls Try.prog 23 #[.pointer (some ⟨H, 0, none⟩), .int .i64 b, .int .i64 c] w1 fun e w' => e = .returned (.int .i64 (doErr S ⟨5, a, b, c, d, s⟩)) ∧ MineStep w0 w H F (doS S ⟨5, a, b, c, d, s⟩) w' := by
  obtain ⟨F1, hm, hu, hF, hk⟩ := h
  refine (mineFMove a b c d s hm hs).mono ?_
  rintro e w2 ⟨rfl, h2⟩
  exact ⟨rfl, MineStep.trans hu hF hk h2⟩
theorem stepTick {w0 w w1 : World} {H : Nat} {F : Nat → Prop} {S : RefS} (a b c d : Int) (s : ByteArray) (h : MineStep w0 w H F S w1) (hs : s.size ≤ 1048576) :
    Calls Try.prog 19 #[.pointer (some ⟨H, 0, none⟩), .int .i64 b] w1 fun e w' => e = .returned (.int .i64 (doErr S ⟨6, a, b, c, d, s⟩)) ∧ MineStep w0 w H F (doS S ⟨6, a, b, c, d, s⟩) w' := by
  obtain ⟨F1, hm, hu, hF, hk⟩ := h
  refine (mineFTick a b c d s hm hs).mono ?_
  rintro e w2 ⟨rfl, h2⟩
  exact ⟨rfl, MineStep.trans hu hF hk h2⟩
theorem stepAck {w0 w w1 : World} {H : Nat} {F : Nat → Prop} {S : RefS} (a b c d : Int) (s : ByteArray) (h : MineStep w0 w H F S w1) (hs : s.size ≤ 1048576) :
    Calls Try.prog 13 #[.pointer (some ⟨H, 0, none⟩), .int .i64 a, .int .i64 b] w1 fun e w' => e = .returned (.int .i64 (doErr S ⟨7, a, b, c, d, s⟩)) ∧ MineStep w0 w H F (doS S ⟨7, a, b, c, d, s⟩) w' := by
  obtain ⟨F1, hm, hu, hF, hk⟩ := h
  refine (mineFAck a b c d s hm hs).mono ?_
  rintro e w2 ⟨rfl, h2⟩
  exact ⟨rfl, MineStep.trans hu hF hk h2⟩
theorem stepPub {w0 w w1 : World} {H : Nat} {F : Nat → Prop} {S : RefS} (a b c d : Int) (s : ByteArray) (h : MineStep w0 w H F S w1) (hs : s.size ≤ 1048576) :
    Calls Try.prog 14 #[.pointer (some ⟨H, 0, none⟩), .string s, .int .i64 b, .int .i64 c, .int .i64 d] w1 fun e w' => e = .returned (.tuple #[.int .i64 (doAns S ⟨3, a, b, c, d, s⟩), .int .i64 (doErr S ⟨3, a, b, c, d, s⟩)]) ∧ MineStep w0 w H F (doS S ⟨3, a, b, c, d, s⟩) w' := by
  obtain ⟨F1, hm, hu, hF, hk⟩ := h
  refine (mineFPub a b c d s hm hs).mono ?_
  rintro e w2 ⟨rfl, h2⟩
  exact ⟨rfl, MineStep.trans hu hF hk h2⟩
theorem stepDo {w0 w w1 : World} {H : Nat} {F : Nat → Prop} {S : RefS} (o : StepD) (ho : StepOk o) (h : MineStep w0 w H F S w1) :
    Calls Try.prog 68 #[.pointer (some ⟨H, 0, none⟩), stepV o] w1 fun e w' => e = .returned (.tuple #[.int .i64 (goA S o), .int .i64 (goE S o)]) ∧ MineStep w0 w H F (goS S o) w' := by
  obtain ⟨F1, hm, hu, hF, hk⟩ := h
  refine (keepDo o ho hm).mono ?_
  rintro e w2 ⟨rfl, h2⟩
  exact ⟨rfl, MineStep.trans hu hF hk h2⟩

/-- What is refused. -/
theorem refused {S : RefS} {o : OpD} {e : Int} (h1 : wrongM S o = e) (h0 : e ≠ 0) : doErr S o = e ∧ doS S o = S ∧ doAns S o = 0 := by
  have h := is_wrong h1 h0
  exact ⟨h, (not_done (by rw [h]; exact h0)).2⟩
def outM (c n : Int) : Int := if 0 ≤ c ∧ c < n then n + c else c
theorem out_not {c n : Int} : ¬ (0 ≤ outM c n ∧ outM c n < n) := by unfold outM; split <;> omega
theorem out_unknown (c : Int) : knownB (outM c 8) = false := by
  have := out_not (c := c) (n := 8)
  unfold knownB
  by_cases h : 0 ≤ outM c 8
  · have : ¬ outM c 8 < 8 := fun h2 => this ⟨h, h2⟩
    simp [this]
  · simp [h]
theorem out_time (c : Int) : isTimeM (outM c 1099511627777) = false := by
  have := out_not (c := c) (n := 1099511627777)
  unfold isTimeM
  by_cases h : 0 ≤ outM c 1099511627777
  · have : ¬ outM c 1099511627777 ≤ 1099511627776 := fun h2 => this ⟨h, by omega⟩
    simp [this]
  · simp [h]
set_option maxRecDepth 100000 in
theorem keepOutside (c n : Int) (w : World) (h0 : -9223372036854775808 ≤ c) (h1 : c ≤ 9223372036854775807) (hn : 0 < n) (hn1 : n ≤ 1099511627777) :
    Calls Try.prog 71 #[.int .i64 c, .int .i64 n] w fun e w' => e = .returned (.int .i64 (outM c n)) ∧ w' = w := by
  by_cases hc : 0 ≤ c
  · by_cases hc2 : c < n
    · have HE : Hid (outM c n = n + c) := if_pos ⟨hc, hc2⟩
      go_enter Try.func71, Try.ntmps71
      go_wp2_with fail
      go_ret
      exact ⟨ret_int HE.out.symm, rfl⟩
    · have HE : Hid (outM c n = c) := if_neg (fun h => hc2 h.2)
      go_enter Try.func71, Try.ntmps71
      go_wp2_with fail
      go_ret
      exact ⟨ret_int HE.out.symm, rfl⟩
  · have HE : Hid (outM c n = c) := if_neg (fun h => hc h.1)
    go_enter Try.func71, Try.ntmps71
    go_wp2_with fail
    go_ret
    exact ⟨ret_int HE.out.symm, rfl⟩
theorem find_none {α : Type} {p : α → Bool} {l : List α} : ∀ {i : Int}, (∀ x ∈ l, p x = false) → findM p l i = -1 := by
  induction l with
  | nil => intro i _; rfl
  | cons a l ih =>
    intro i h
    rw [findM, h a (by simp)]
    exact ih (fun x hx => h x (by simp [hx]))
theorem Mine.num {w0 w : World} {H : Nat} {S : RefS} (h : Mine w0 w H S) : Num S := by
  obtain ⟨F, R, ⟨x, fil, wait, hb, -⟩, -⟩ := h
  exact hb.num
theorem far_none {w0 w : World} {H : Nat} {S : RefS} (h : Mine w0 w H S) (n : Int) : findM (fun m => m.number == outM n 500) S.wait 0 = -1 :=
  find_none (fun m hm => by
    have h1 := h.num.wait m hm
    have h2 := h.good.inv.pub
    have h3 := h.good.inv.done
    have h4 := out_not (c := n) (n := 500)
    simp only [beq_eq_false_iff_ne, ne_eq]
    intro e
    exact h4 (by omega))
end Go.Proofs.Ytmjdndhfmfjbiab

/-
  heraldkeep: a script, done.
-/
namespace Go.Proofs.Ytmjdndhfmfjbiab
open Go.RowKit

def StepAt (w : World) (g off : Nat) (o : StepD) : Prop := w.cell? ⟨g, off, none⟩ = some (.int .i64 o.kind) ∧ w.cell? ⟨g, off + 1, none⟩ = some (.int .i64 o.a) ∧ w.cell? ⟨g, off + 2, none⟩ = some (.int .i64 o.b) ∧ w.cell? ⟨g, off + 3, none⟩ = some (.int .i64 o.c) ∧ w.cell? ⟨g, off + 4, none⟩ = some (.int .i64 o.d) ∧ w.cell? ⟨g, off + 5, none⟩ = some (.string o.s)
def StepsAt (w : World) (ao : Option Addr) (l : List StepD) : Prop := ∀ j o, l[j]? = some o → ∃ g off, ao = some ⟨g, off, none⟩ ∧ StepAt w g (off + j * 6) o
def runS (S : RefS) (l : List StepD) : RefS := l.foldl goS S
theorem run_next {S : RefS} {l : List StepD} {k : Nat} {o : StepD} (h : l[k]? = some o) : runS S (l.take (k + 1)) = goS (runS S (l.take k)) o := by
  unfold runS
  rw [List.take_add_one, h, List.foldl_append]; rfl
theorem mineDo {w0 w : World} {H : Nat} {S : RefS} (o : StepD) (ho : StepOk o) (h : Mine w0 w H S) :
    Calls Try.prog 68 #[.pointer (some ⟨H, 0, none⟩), stepV o] w fun e w' => e = .returned (.tuple #[.int .i64 (goA S o), .int .i64 (goE S o)]) ∧ Mine w0 w' H (goS S o) := by
  obtain ⟨F, hm⟩ := h.mineF
  refine (keepDo o ho hm).mono ?_
  rintro e w2 ⟨rfl, h2⟩
  exact ⟨rfl, h2.mine⟩

set_option maxRecDepth 100000 in
set_option maxHeartbeats 4000000 in
theorem keepReplayed (l : List StepD) (ao : Option Addr) (m cap N : Nat) (w : World) (hl : l.length = m) (hN : N ≤ 9223372036854775807) (hsc : StepsAt w ao l) (hok : ∀ o ∈ l, StepOk o) :
    Calls Try.prog 31 #[.slice ao m cap, .int .i64 (N : Int)] w fun e w' => ∃ H, e = .returned (.pointer (some ⟨H, 0, none⟩)) ∧ Mine w w' H (runS (refNew 500) (l.take N)) := by
  have HL : Hid (l.length = m) := hl
  have HSC : Hid (StepsAt w ao l) := hsc
  have HOK : Hid (∀ o ∈ l, StepOk o) := hok
  clear hl hsc hok
  go_enter Try.func31, Try.ntmps31
  go_wp2_with fail
  refine (mineOpened 500 w (by omega) (by omega)).mono ?_
  rintro e w1 ⟨H, rfl, hm1⟩
  have M1 : Hid (Mine w w1 H (refNew 500)) := hm1
  clear hm1
  go_wp2_with fail
  go_loopw [6] (fun i wr => ∃ k : Nat, k ≤ N ∧ k ≤ m ∧ i = .int .i64 (k : Int) ∧ Mine w wr H (runS (refNew 500) (l.take k))) (fun i _ => N - (intOf i).toNat)
  case atStart => exact ⟨0, Nat.zero_le _, Nat.zero_le _, rfl, M1.out⟩
  case round =>
    obtain ⟨k, hkN, hkm, rfl, hM⟩ := hrel
    have MM : Hid (Mine w wr H (runS (refNew 500) (l.take k))) := hM
    clear hM
    by_cases hlt : k < N ∧ k < m
    · obtain ⟨hlt1, hlt2⟩ := hlt
      obtain ⟨o, ho⟩ : ∃ o, l[k]? = some o := ⟨_, List.getElem?_eq_getElem (by rw [HL.out]; exact hlt2)⟩
      have HO : Hid (StepOk o) := HOK.out o (List.mem_of_getElem? ho)
      obtain ⟨gs, off, rfl, e0, e1, e2, e3, e4, e5⟩ := HSC.out k o ho
      have f0 := cell_later MM.out.out e0
      have f1 := cell_later MM.out.out e1
      have f2 := cell_later MM.out.out e2
      have f3 := cell_later MM.out.out e3
      have f4 := cell_later MM.out.out e4
      have f5 := cell_later MM.out.out e5
      have HN : Hid (runS (refNew 500) (l.take (k + 1)) = goS (runS (refNew 500) (l.take k)) o) := run_next ho
      clear ho e0 e1 e2 e3 e4 e5
      generalize runS (refNew 500) (l.take k) = S at *
      go_wp2_with fail
      refine (mineDo o HO.out MM.out).mono ?_
      rintro e w2 ⟨rfl, hm2⟩
      have M2 : Hid (Mine w w2 H (runS (refNew 500) (l.take (k + 1)))) := by rw [HN.out]; exact hm2
      clear hm2 f0 f1 f2 f3 f4 f5
      go_wp2_with fail
      go_roundw
      case rel => exact ⟨k + 1, by omega, by omega, by go_num, M2.out⟩
      case measure => simp [intOf]; omega
    · have HE : Hid (l.take k = l.take N) := by
        show _ = _
        by_cases h1 : k < N
        · have h2 : k = m := by omega
          rw [h2, ← HL.out, List.take_length, List.take_of_length_le (by rw [HL.out]; omega)]
        · rw [show k = N from by omega]
      by_cases hk2 : k < N
      · have hk3 : ¬ k < m := fun h => hlt ⟨hk2, h⟩
        clear hlt
        go_wp2_with fail
        go_ret
        exact ⟨H, rfl, by rw [← HE.out]; exact MM.out⟩
      · clear hlt
        go_wp2_with fail
        go_ret
        exact ⟨H, rfl, by rw [← HE.out]; exact MM.out⟩
end Go.Proofs.Ytmjdndhfmfjbiab

/-
  heraldkeep: all that a broker shows.
-/
namespace Go.Proofs.Ytmjdndhfmfjbiab
open Go.RowKit

theorem infoRowT : (Try.prog.info? 86).map (fun i => (i.zero, i.size, i.bytes)) = some (some (.slice none 0 0), 1, 24) := by kernel_rfl
theorem infoRowM : (Try.prog.info? 28).map (fun i => (i.zero, i.size, i.bytes)) = some (some (.slice none 0 0), 1, 24) := by kernel_rfl
theorem infoNum : (Try.prog.info? 3).map (fun i => (i.zero, i.size, i.bytes)) = some (some (.int .i64 0), 1, 8) := by kernel_rfl

structure LookD where
  time : Int
  fil : Nat → List ByteArray
  que : Nat → List MailD
  lost : Nat → Int
  wait : List WaitD
  recs : Int
def lookM (S : RefS) : LookD := ⟨S.time, fun k => filtersM S (k : Int), fun k => queueM S (k : Int), fun k => lostM S (k : Int), waitingM S, (S.done.length : Int)⟩
structure LookFew (L : LookD) : Prop where
  fil : ∀ k, (L.fil k).length ≤ 1048576
  que : ∀ k, (L.que k).length ≤ 1048576
  wait : L.wait.length ≤ 1048576

/-- A row between two blocks. -/
def RowIn (w : World) (base top : Nat) (e : TypeId) (size : Nat) (v : Value) (n : Nat) (xs : List Value) : Prop := w.ownsRow base e size v n xs ∧ ∀ g, v.ownBlock = some g → g < top
theorem RowIn.upd {P : Nat → Prop} {w w1 : World} {base top : Nat} {e : TypeId} {size : Nat} {v : Value} {n : Nat} {xs : List Value} (h : RowIn w base top e size v n xs) (hu : Upd P w w1) (hP : ∀ g, P g → g < base ∨ top ≤ g) : RowIn w1 base top e size v n xs :=
  ⟨own_upd h.1 hu (fun g hg hp => by
    have h1 := (World.ownsRow.lt h.1 g hg).1
    have h2 := h.2 g hg
    rcases hP g hp with h | h <;> omega), h.2⟩
theorem RowIn.of {w : World} {base : Nat} {e : TypeId} {size : Nat} {v : Value} {n : Nat} {xs : List Value} (h : w.ownsRow base e size v n xs) : RowIn w base w.heap.size e size v n xs := ⟨h, fun g hg => (World.ownsRow.lt h g hg).2⟩
theorem RowIn.form {w : World} {base top : Nat} {e : TypeId} {size : Nat} {v : Value} {n : Nat} {xs : List Value} (h : RowIn w base top e size v n xs) : ∃ ao c, v = .slice ao n c ∧ n ≤ c ∧ c ≤ maxLen ∧ CellsAt w ao xs := Row.form (own_mono h.1 (Nat.zero_le _))

def textsF (l : List ByteArray) : List Value := l.map Value.string
/-- A look, as it lies. -/
structure LookIn (w : World) (base top : Nat) (L : LookD) (fv qv lv wv : Value) (FV QV : List Value) : Prop where
  fil : RowIn w base top 86 1 fv 8 FV
  que : RowIn w base top 28 1 qv 8 QV
  lost : RowIn w base top 3 1 lv 8 ((List.range 8).map (fun j => Value.int .i64 (L.lost j)))
  wait : RowIn w base top 50 5 wv L.wait.length (L.wait.flatMap waitCells)
  fils : ∀ j v, FV[j]? = some v → RowIn w base top 9 1 v (L.fil j).length (textsF (L.fil j))
  ques : ∀ j v, QV[j]? = some v → RowIn w base top 35 5 v (L.que j).length ((L.que j).flatMap mailCells)
def LookAt (w : World) (base top : Nat) (L : LookD) (v : Value) : Prop := ∃ fv qv lv wv FV QV, v = .agg #[.int .i64 L.time, fv, qv, lv, wv, .int .i64 L.recs] ∧ LookIn w base top L fv qv lv wv FV QV
theorem LookIn.upd {P : Nat → Prop} {w w1 : World} {base top : Nat} {L : LookD} {fv qv lv wv : Value} {FV QV : List Value} (h : LookIn w base top L fv qv lv wv FV QV) (hu : Upd P w w1) (hP : ∀ g, P g → g < base ∨ top ≤ g) : LookIn w1 base top L fv qv lv wv FV QV :=
  ⟨h.fil.upd hu hP, h.que.upd hu hP, h.lost.upd hu hP, h.wait.upd hu hP, fun j v hv => (h.fils j v hv).upd hu hP, fun j v hv => (h.ques j v hv).upd hu hP⟩
theorem LookIn.below {w w1 : World} {base top : Nat} {L : LookD} {fv qv lv wv : Value} {FV QV : List Value} (h : LookIn w base top L fv qv lv wv FV QV) (hb : Below w.heap.size w w1) : LookIn w1 base top L fv qv lv wv FV QV :=
  h.upd (P := fun _ => False) (Upd.of_below hb) (fun _ f => f.elim)
theorem LookAt.upd {P : Nat → Prop} {w w1 : World} {base top : Nat} {L : LookD} {v : Value} (h : LookAt w base top L v) (hu : Upd P w w1) (hP : ∀ g, P g → g < base ∨ top ≤ g) : LookAt w1 base top L v := by
  obtain ⟨fv, qv, lv, wv, FV, QV, hv, hl⟩ := h
  exact ⟨fv, qv, lv, wv, FV, QV, hv, hl.upd hu hP⟩
theorem LookAt.below {w w1 : World} {base top : Nat} {L : LookD} {v : Value} (h : LookAt w base top L v) (hb : Below w.heap.size w w1) : LookAt w1 base top L v :=
  h.upd (P := fun _ => False) (Upd.of_below hb) (fun _ f => f.elim)

/-- What one round of the comparing reads. -/
structure PickAt (w : World) (L : LookD) (fv qv lv : Value) (k : Nat) (gf gq gl : Nat) (cf cq cl : Nat) (af aq : Option Addr) (df dq : Nat) : Prop where
  fv : fv = .slice (some ⟨gf, 0, none⟩) 8 cf
  qv : qv = .slice (some ⟨gq, 0, none⟩) 8 cq
  lv : lv = .slice (some ⟨gl, 0, none⟩) 8 cl
  f : w.cell? ⟨gf, k, none⟩ = some (.slice af (L.fil k).length df)
  q : w.cell? ⟨gq, k, none⟩ = some (.slice aq (L.que k).length dq)
  l : w.cell? ⟨gl, k, none⟩ = some (.int .i64 (L.lost k))
  fc : CellsAt w af (textsF (L.fil k))
  qc : CellsAt w aq ((L.que k).flatMap mailCells)
theorem LookIn.pick {w : World} {base top : Nat} {L : LookD} {fv qv lv wv : Value} {FV QV : List Value} (h : LookIn w base top L fv qv lv wv FV QV) {k : Nat} (hk : k < 8) : ∃ gf gq gl cf cq cl af aq df dq, PickAt w L fv qv lv k gf gq gl cf cq cl af aq df dq := by
  have lF : FV.length = 8 := by have := h.fil.1.1; omega
  have lQ : QV.length = 8 := by have := h.que.1.1; omega
  obtain ⟨vf, hvf⟩ : ∃ v, FV[k]? = some v := ⟨_, List.getElem?_eq_getElem (by omega)⟩
  obtain ⟨vq, hvq⟩ : ∃ v, QV[k]? = some v := ⟨_, List.getElem?_eq_getElem (by omega)⟩
  obtain ⟨a1, c1, e1, -, -, h1⟩ := h.fil.form
  obtain ⟨a2, c2, e2, -, -, h2⟩ := h.que.form
  obtain ⟨a3, c3, e3, -, -, h3⟩ := h.lost.form
  obtain ⟨gf, rfl, k1⟩ := h1 k vf hvf
  obtain ⟨gq, rfl, k2⟩ := h2 k vq hvq
  obtain ⟨gl, rfl, k3⟩ := h3 k (.int .i64 (L.lost k)) (by simp [hk])
  obtain ⟨af, df, rfl, -, -, x1⟩ := (h.fils k vf hvf).form
  obtain ⟨aq, dq, rfl, -, -, x2⟩ := (h.ques k vq hvq).form
  exact ⟨gf, gq, gl, c1, c2, c3, af, aq, df, dq, e1, e2, e3, k1, k2, k3, x1, x2⟩
theorem look_few {S : RefS} (h : Good S) (hw : (waitingM S).length = S.wait.length) : LookFew (lookM S) := by
  refine ⟨fun k => ?_, fun k => ?_, ?_⟩
  · show (filtersM S k).length ≤ _
    unfold filtersM
    split
    · rename_i hk
      rw [sel_len]
      exact Nat.le_trans (h.inv.fil _ (by have := known_nat hk; omega)).1 (by omega)
    · simp
  · show (queueM S k).length ≤ _
    unfold queueM
    split
    · rename_i hk
      rw [List.length_map]
      exact Nat.le_trans (h.inv.que _ (by have := known_nat hk; omega)).1 (by omega)
    · simp
  · show (waitingM S).length ≤ _
    rw [hw]; exact Nat.le_trans h.inv.wait.1 (by omega)
end Go.Proofs.Ytmjdndhfmfjbiab

namespace Go.Proofs.Ytmjdndhfmfjbiab
open Go.RowKit

/-- A look that is being made. -/
structure LookW (w : World) (base B : Nat) (L : LookD) (t : Int) (kf kq kl : Nat) (fv qv lv : Value) (FV QV : List Value) : Prop where
  self : w.ownsRow base 70 6 (.slice (some ⟨B, 0, none⟩) 1 1) 1 [.int .i64 t, fv, qv, lv, nilV, .int .i64 0]
  fil : w.ownsRow base 86 1 fv kf FV
  que : w.ownsRow base 28 1 qv kq QV
  lost : w.ownsRow base 3 1 lv kl ((List.range kl).map (fun j => Value.int .i64 (L.lost j)))
  fils : ∀ j v, FV[j]? = some v → w.ownsRow base 9 1 v (L.fil j).length (textsF (L.fil j))
  ques : ∀ j v, QV[j]? = some v → w.ownsRow base 35 5 v (L.que j).length ((L.que j).flatMap mailCells)
theorem LookW.upd {P : Nat → Prop} {w w1 : World} {base B : Nat} {L : LookD} {t : Int} {kf kq kl : Nat} {fv qv lv : Value} {FV QV : List Value} (h : LookW w base B L t kf kq kl fv qv lv FV QV) (hu : Upd P w w1) (hP : ∀ g, base ≤ g → ¬ P g) : LookW w1 base B L t kf kq kl fv qv lv FV QV :=
  ⟨own_upd h.self hu (fun g hg => hP g (World.ownsRow.lt h.self g hg).1), own_upd h.fil hu (fun g hg => hP g (World.ownsRow.lt h.fil g hg).1), own_upd h.que hu (fun g hg => hP g (World.ownsRow.lt h.que g hg).1), own_upd h.lost hu (fun g hg => hP g (World.ownsRow.lt h.lost g hg).1),
    fun j v hv => own_upd (h.fils j v hv) hu (fun g hg => hP g (World.ownsRow.lt (h.fils j v hv) g hg).1), fun j v hv => own_upd (h.ques j v hv) hu (fun g hg => hP g (World.ownsRow.lt (h.ques j v hv) g hg).1)⟩
theorem LookW.below {w w1 : World} {base B : Nat} {L : LookD} {t : Int} {kf kq kl : Nat} {fv qv lv : Value} {FV QV : List Value} (h : LookW w base B L t kf kq kl fv qv lv FV QV) (hb : Below w.heap.size w w1) : LookW w1 base B L t kf kq kl fv qv lv FV QV :=
  h.upd (P := fun _ => False) (Upd.of_below hb) (fun _ _ f => f)
theorem self_cell {w : World} {base B : Nat} {e : TypeId} {xs : List Value} {n : Nat} (h : w.ownsRow base e n (.slice (some ⟨B, 0, none⟩) 1 1) 1 xs) (j : Nat) (u : Value) (hj : xs[j]? = some u) : w.cell? ⟨B, j, none⟩ = some u := by
  obtain ⟨ao, c, hv, -, -, hc⟩ := Row.form (own_mono h (Nat.zero_le _))
  simp only [Value.slice.injEq, true_and] at hv
  obtain ⟨rfl, rfl⟩ := hv
  obtain ⟨g, e1, h1⟩ := hc j u hj
  cases e1
  exact h1
theorem own_grown {w w1 : World} {row : Option Nat} {base : Nat} {e : TypeId} {size : Nat} {v : Value} {n : Nat} {xs : List Value} (h : w.ownsRow base e size v n xs) (hg : w.grownBy w1 row) (hr : ∀ g, v.ownBlock = some g → row ≠ some g) : w1.ownsRow base e size v n xs :=
  own_upd (P := fun i => row = some i) h ((Upd.refl _ _).grown hg (fun _ e _ => e)) (fun g hg => hr g hg)
theorem below_grown {w w1 : World} {row : Option Nat} {base : Nat} (hg : w.grownBy w1 row) (hb : base ≤ w.heap.size) (hr : ∀ g, row = some g → base ≤ g) : Below base w w1 :=
  below_of_upd (S := fun i => row = some i) ((Upd.refl _ _).grown hg (fun _ e _ => e)) hb hr

theorem LookW.addF {w : World} {base B : Nat} {L : LookD} {t : Int} {kf kq kl : Nat} {fv qv lv : Value} {FV QV : List Value} {v : Value} (h : LookW w base B L t kf kq kl fv qv lv FV QV) (hv : w.ownsRow base 9 1 v (L.fil kf).length (textsF (L.fil kf))) (hk : kf ≤ 8) (hbs : base ≤ w.heap.size) :
    ∃ v1 w1, (Builtin.append_ #[67, 67] 67 #[fv, .slice (some ⟨w.heap.size, 0, none⟩) 1 1]).run Try.prog (w.alloc (.cells #[v] 86)) = .ok v1 w1 ∧ w1.cell? ⟨B, 1, none⟩ = some fv ∧ w1.frozen? ⟨B, 1, none⟩ = false ∧ w1.cell? ⟨B, 2, none⟩ = some qv ∧
      LookW (w1.setCell ⟨B, 1, none⟩ v1) base B L t (kf + 1) kq kl v1 qv lv (FV ++ [v]) QV ∧ Below base w (w1.setCell ⟨B, 1, none⟩ v1) ∧ (∀ (e : TypeId) (size : Nat) (u : Value) (n : Nat) (xs : List Value), e ≠ 86 → e ≠ 70 → w.ownsRow base e size u n xs → (w1.setCell ⟨B, 1, none⟩ v1).ownsRow base e size u n xs) := by
  obtain ⟨i0, hi, hz0, hz1, hz2⟩ := info_parts infoRowT
  have ha := h.below (below_one w (.cells #[v] 86))
  have hva := own_below hv (below_one w (.cells #[v] 86))
  have hlf : FV.length = kf := by have := h.fil.1; omega
  have hone : v.oneCell' = true := by
    obtain ⟨a, c, e, -⟩ := Row.form (own_mono hv (Nat.zero_le _))
    rw [e]; rfl
  obtain ⟨v1, w1, hrun, hown, hgrow, -, -⟩ := run_append_own_at (P := Try.prog) (w.alloc (.cells #[v] 86)) base 67 67 86 i0 _ 1 24 Try.underlying67 hi hz0 hz1 hz2 rfl (by omega) _ _ _ ha.fil ⟨w.heap.size, 0, none⟩ 1 1 [v] rfl (cells_new _ _ _) (by simpa using hone) (by unfold maxLen; omega) (by omega) (by simp; omega)
  have hs1 : w1.ownsRow base 70 6 (.slice (some ⟨B, 0, none⟩) 1 1) 1 [.int .i64 t, fv, qv, lv, nilV, .int .i64 0] := own_grown ha.self hgrow (typed_apart ha.self ha.fil (by decide))
  have st := World.ownsRow.stored hs1 1 v1
  have hg2 := st.2
  have hb1 : Below base w w1 := ((below_one w _).mono hbs).trans (below_grown hgrow (by simp; omega) (fun g hg => (World.ownsRow.lt ha.fil g hg).1))
  have hsz1 : base ≤ w1.heap.size := Nat.le_trans hbs hb1.size
  have hBb : base ≤ B := (World.ownsRow.lt hs1 B rfl).1
  have hq1 := own_grown ha.que hgrow (typed_apart ha.que ha.fil (by decide))
  have hl1 := own_grown ha.lost hgrow (typed_apart ha.lost ha.fil (by decide))
  have hv1 := own_grown hva hgrow (typed_apart hva ha.fil (by decide))
  refine ⟨v1, w1, hrun, self_cell hs1 1 fv rfl, World.ownsRow.frozenAt hs1 1, self_cell hs1 2 qv rfl, ⟨st.1, own_grown hown hg2 (typed_apart hown hs1 (by decide)), own_grown hq1 hg2 (typed_apart hq1 hs1 (by decide)), own_grown hl1 hg2 (typed_apart hl1 hs1 (by decide)), fun j y hy => ?_, fun j y hy => ?_⟩, hb1.trans (below_grown hg2 hsz1 (fun g hg => by cases hg; exact hBb)), fun e size u n xs he1 he2 hu => ?_⟩
  · by_cases hj : j < kf
    · rw [List.getElem?_append_left (by omega)] at hy
      have h1 := own_grown (ha.fils j y hy) hgrow (typed_apart (ha.fils j y hy) ha.fil (by decide))
      exact own_grown h1 hg2 (typed_apart h1 hs1 (by decide))
    · have hjl := (List.getElem?_eq_some_iff.1 hy).1
      simp at hjl
      obtain rfl : j = kf := by omega
      rw [List.getElem?_append_right (by omega), hlf, Nat.sub_self] at hy
      cases hy
      exact own_grown hv1 hg2 (typed_apart hv1 hs1 (by decide))
  · have h1 := own_grown (ha.ques j y hy) hgrow (typed_apart (ha.ques j y hy) ha.fil (by decide))
    exact own_grown h1 hg2 (typed_apart h1 hs1 (by decide))
  · have h0 := own_below hu (below_one w (.cells #[v] 86))
    have h1 := own_grown h0 hgrow (typed_apart h0 ha.fil he1)
    exact own_grown h1 hg2 (typed_apart h1 hs1 he2)

theorem LookW.addQ {w : World} {base B : Nat} {L : LookD} {t : Int} {kf kq kl : Nat} {fv qv lv : Value} {FV QV : List Value} {v : Value} (h : LookW w base B L t kf kq kl fv qv lv FV QV) (hv : w.ownsRow base 35 5 v (L.que kq).length ((L.que kq).flatMap mailCells)) (hk : kq ≤ 8) (hbs : base ≤ w.heap.size) :
    ∃ v1 w1, (Builtin.append_ #[68, 68] 68 #[qv, .slice (some ⟨w.heap.size, 0, none⟩) 1 1]).run Try.prog (w.alloc (.cells #[v] 28)) = .ok v1 w1 ∧ w1.cell? ⟨B, 2, none⟩ = some qv ∧ w1.frozen? ⟨B, 2, none⟩ = false ∧ w1.cell? ⟨B, 3, none⟩ = some lv ∧
      LookW (w1.setCell ⟨B, 2, none⟩ v1) base B L t kf (kq + 1) kl fv v1 lv FV (QV ++ [v]) ∧ Below base w (w1.setCell ⟨B, 2, none⟩ v1) := by
  obtain ⟨i0, hi, hz0, hz1, hz2⟩ := info_parts infoRowM
  have ha := h.below (below_one w (.cells #[v] 28))
  have hva := own_below hv (below_one w (.cells #[v] 28))
  have hlq : QV.length = kq := by have := h.que.1; omega
  have hone : v.oneCell' = true := by
    obtain ⟨a, c, e, -⟩ := Row.form (own_mono hv (Nat.zero_le _))
    rw [e]; rfl
  obtain ⟨v1, w1, hrun, hown, hgrow, -, -⟩ := run_append_own_at (P := Try.prog) (w.alloc (.cells #[v] 28)) base 68 68 28 i0 _ 1 24 Try.underlying68 hi hz0 hz1 hz2 rfl (by omega) _ _ _ ha.que ⟨w.heap.size, 0, none⟩ 1 1 [v] rfl (cells_new _ _ _) (by simpa using hone) (by unfold maxLen; omega) (by omega) (by simp; omega)
  have hs1 : w1.ownsRow base 70 6 (.slice (some ⟨B, 0, none⟩) 1 1) 1 [.int .i64 t, fv, qv, lv, nilV, .int .i64 0] := own_grown ha.self hgrow (typed_apart ha.self ha.que (by decide))
  have st := World.ownsRow.stored hs1 2 v1
  have hg2 := st.2
  have hb1 : Below base w w1 := ((below_one w _).mono hbs).trans (below_grown hgrow (by simp; omega) (fun g hg => (World.ownsRow.lt ha.que g hg).1))
  have hsz1 : base ≤ w1.heap.size := Nat.le_trans hbs hb1.size
  have hBb : base ≤ B := (World.ownsRow.lt hs1 B rfl).1
  have hf1 := own_grown ha.fil hgrow (typed_apart ha.fil ha.que (by decide))
  have hl1 := own_grown ha.lost hgrow (typed_apart ha.lost ha.que (by decide))
  have hv1 := own_grown hva hgrow (typed_apart hva ha.que (by decide))
  refine ⟨v1, w1, hrun, self_cell hs1 2 qv rfl, World.ownsRow.frozenAt hs1 2, self_cell hs1 3 lv rfl, ⟨st.1, own_grown hf1 hg2 (typed_apart hf1 hs1 (by decide)), own_grown hown hg2 (typed_apart hown hs1 (by decide)), own_grown hl1 hg2 (typed_apart hl1 hs1 (by decide)), fun j y hy => ?_, fun j y hy => ?_⟩, hb1.trans (below_grown hg2 hsz1 (fun g hg => by cases hg; exact hBb))⟩
  · have h1 := own_grown (ha.fils j y hy) hgrow (typed_apart (ha.fils j y hy) ha.que (by decide))
    exact own_grown h1 hg2 (typed_apart h1 hs1 (by decide))
  · by_cases hj : j < kq
    · rw [List.getElem?_append_left (by omega)] at hy
      have h1 := own_grown (ha.ques j y hy) hgrow (typed_apart (ha.ques j y hy) ha.que (by decide))
      exact own_grown h1 hg2 (typed_apart h1 hs1 (by decide))
    · have hjl := (List.getElem?_eq_some_iff.1 hy).1
      simp at hjl
      obtain rfl : j = kq := by omega
      rw [List.getElem?_append_right (by omega), hlq, Nat.sub_self] at hy
      cases hy
      exact own_grown hv1 hg2 (typed_apart hv1 hs1 (by decide))

theorem LookW.addL {w : World} {base B : Nat} {L : LookD} {t : Int} {kf kq kl : Nat} {fv qv lv : Value} {FV QV : List Value} (h : LookW w base B L t kf kq kl fv qv lv FV QV) (hk : kl ≤ 8) (hbs : base ≤ w.heap.size) :
    ∃ v1 w1, (Builtin.append_ #[22, 22] 22 #[lv, .slice (some ⟨w.heap.size, 0, none⟩) 1 1]).run Try.prog (w.alloc (.cells #[Value.int .i64 (L.lost kl)] 3)) = .ok v1 w1 ∧ w1.cell? ⟨B, 3, none⟩ = some lv ∧ w1.frozen? ⟨B, 3, none⟩ = false ∧
      LookW (w1.setCell ⟨B, 3, none⟩ v1) base B L t kf kq (kl + 1) fv qv v1 FV QV ∧ Below base w (w1.setCell ⟨B, 3, none⟩ v1) := by
  obtain ⟨i0, hi, hz0, hz1, hz2⟩ := info_parts infoNum
  have ha := h.below (below_one w (.cells #[Value.int .i64 (L.lost kl)] 3))
  obtain ⟨v1, w1, hrun, hown, hgrow, -, -⟩ := run_append_own_at (P := Try.prog) (w.alloc (.cells #[Value.int .i64 (L.lost kl)] 3)) base 22 22 3 i0 _ 1 8 Try.underlying22 hi hz0 hz1 hz2 rfl (by omega) _ _ _ ha.lost ⟨w.heap.size, 0, none⟩ 1 1 [Value.int .i64 (L.lost kl)] rfl (cells_new _ _ _) (by simp [Value.oneCell']) (by unfold maxLen; omega) (by omega) (by simp; omega)
  have hs1 : w1.ownsRow base 70 6 (.slice (some ⟨B, 0, none⟩) 1 1) 1 [.int .i64 t, fv, qv, lv, nilV, .int .i64 0] := own_grown ha.self hgrow (typed_apart ha.self ha.lost (by decide))
  have st := World.ownsRow.stored hs1 3 v1
  have hg2 := st.2
  have hb1 : Below base w w1 := ((below_one w _).mono hbs).trans (below_grown hgrow (by simp; omega) (fun g hg => (World.ownsRow.lt ha.lost g hg).1))
  have hsz1 : base ≤ w1.heap.size := Nat.le_trans hbs hb1.size
  have hBb : base ≤ B := (World.ownsRow.lt hs1 B rfl).1
  have hf1 := own_grown ha.fil hgrow (typed_apart ha.fil ha.lost (by decide))
  have hq1 := own_grown ha.que hgrow (typed_apart ha.que ha.lost (by decide))
  have hown' : w1.ownsRow base 3 1 v1 (kl + 1) ((List.range (kl + 1)).map (fun j => Value.int .i64 (L.lost j))) := by
    rw [List.range_succ, List.map_append]; exact hown
  refine ⟨v1, w1, hrun, self_cell hs1 3 lv rfl, World.ownsRow.frozenAt hs1 3, ⟨st.1, own_grown hf1 hg2 (typed_apart hf1 hs1 (by decide)), own_grown hq1 hg2 (typed_apart hq1 hs1 (by decide)), own_grown hown' hg2 (typed_apart hown' hs1 (by decide)), fun j y hy => ?_, fun j y hy => ?_⟩, hb1.trans (below_grown hg2 hsz1 (fun g hg => by cases hg; exact hBb))⟩
  · have h1 := own_grown (ha.fils j y hy) hgrow (typed_apart (ha.fils j y hy) ha.lost (by decide))
    exact own_grown h1 hg2 (typed_apart h1 hs1 (by decide))
  · have h1 := own_grown (ha.ques j y hy) hgrow (typed_apart (ha.ques j y hy) ha.lost (by decide))
    exact own_grown h1 hg2 (typed_apart h1 hs1 (by decide))
theorem look_start (w : World) (L : LookD) (t : Int) : LookW (w.alloc (.cells #[.int .i64 t, nilV, nilV, nilV, nilV, .int .i64 0] 70)) w.heap.size w.heap.size L t 0 0 0 nilV nilV nilV [] [] :=
  ⟨⟨rfl, .inr ⟨w.heap.size, 1, #[.int .i64 t, nilV, nilV, nilV, nilV, .int .i64 0], rfl, Nat.le_refl _, heap_alloc_new w _, Nat.le_refl _, by unfold maxLen; omega, rfl, rfl⟩⟩, World.ownsRow_nil _ _ _ _, World.ownsRow_nil _ _ _ _, World.ownsRow_nil _ _ _ _, fun j v hv => by simp at hv, fun j v hv => by simp at hv⟩
end Go.Proofs.Ytmjdndhfmfjbiab

namespace Go.Proofs.Ytmjdndhfmfjbiab
open Go.RowKit

theorem size_set (w : World) (p : Addr) (v : Value) : (w.setCell p v).heap.size = w.heap.size := by simp [World.setCell]

theorem LookW.done {w w1 : World} {base B R b0 b1 b2 : Nat} {L : LookD} {t : Int} {fv qv lv wv : Value} {FV QV rs : List Value} (h : LookW w base B L t 8 8 8 fv qv lv FV QV) (hR : w.ownsRow b1 70 6 (.slice (some ⟨R, 0, none⟩) 1 1) 1 rs) (hw : w.ownsRow b2 50 5 wv L.wait.length (L.wait.flatMap waitCells))
    (hu : Upd (fun g => g = R ∨ g = B) w w1) (h0 : b0 ≤ base) (h2 : b0 ≤ b2) : LookIn w1 b0 w1.heap.size L fv qv lv wv FV QV := by
  have key : ∀ (e : TypeId) (size : Nat) (v : Value) (n b : Nat) (xs : List Value), e ≠ 70 → b0 ≤ b → w.ownsRow b e size v n xs → RowIn w1 b0 w1.heap.size e size v n xs := fun e size v n b xs he hb hrow =>
    RowIn.of (own_mono (own_upd hrow hu (fun g hg hp => by
      rcases hp with rfl | rfl
      · exact typed_apart hrow hR he g hg rfl
      · exact typed_apart hrow h.self he g hg rfl)) hb)
  exact ⟨key _ _ _ _ _ _ (by decide) h0 h.fil, key _ _ _ _ _ _ (by decide) h0 h.que, key _ _ _ _ _ _ (by decide) h0 h.lost, key _ _ _ _ _ _ (by decide) h2 hw, fun j v hv => key _ _ _ _ _ _ (by decide) h0 (h.fils j v hv), fun j v hv => key _ _ _ _ _ _ (by decide) h0 (h.ques j v hv)⟩
theorem upd8 {w : World} (R B : Nat) (a b c d e f x y : Value) : Upd (fun g => g = R ∨ g = B) w ((((((((w.setCell ⟨B, 4, none⟩ x).setCell ⟨B, 5, none⟩ y).setCell ⟨R, 0, none⟩ a).setCell ⟨R, 1, none⟩ b).setCell ⟨R, 2, none⟩ c).setCell ⟨R, 3, none⟩ d).setCell ⟨R, 4, none⟩ e).setCell ⟨R, 5, none⟩ f) :=
  (((((((((Upd.refl (fun g => g = R ∨ g = B) w).setCell (p := ⟨B, 4, none⟩) (fun _ => .inr rfl) _).setCell (p := ⟨B, 5, none⟩) (fun _ => .inr rfl) _).setCell (p := ⟨R, 0, none⟩) (fun _ => .inl rfl) _).setCell (p := ⟨R, 1, none⟩) (fun _ => .inl rfl) _).setCell (p := ⟨R, 2, none⟩) (fun _ => .inl rfl) _).setCell (p := ⟨R, 3, none⟩) (fun _ => .inl rfl) _).setCell (p := ⟨R, 4, none⟩) (fun _ => .inl rfl) _).setCell (p := ⟨R, 5, none⟩) (fun _ => .inl rfl) _)

set_option maxRecDepth 100000 in
set_option maxHeartbeats 4000000 in
theorem keepLook {w0 w : World} {H : Nat} {S : RefS} (h : Mine w0 w H S) :
    Calls Try.prog 32 #[.pointer (some ⟨H, 0, none⟩)] w fun e w' => ∃ v, e = .returned v ∧ LookAt w' w.heap.size w'.heap.size (lookM S) v ∧ Below w.heap.size w w' := by
  have M0 : Hid (Mine w0 w H S) := h
  clear h
  have HB1 : Hid (∀ o p, Mine w0 ((w.alloc o).alloc p) H S) := fun o p => (M0.out.below (below_one _ _)).below (below_one _ _)
  go_enter Try.func32, Try.ntmps32
  go_wp2_with fail
  refine (mineTime (HB1.out _ _)).mono ?_
  rintro e w1 ⟨rfl, rfl⟩
  have LS : (LookW ((w.alloc (.cells #[.int .i64 0, nilV, nilV, nilV, nilV, .int .i64 0] 70)).alloc (.cells #[.int .i64 S.time, nilV, nilV, nilV, nilV, .int .i64 0] 70)) (w.heap.size + 1) (w.heap.size + 1) (lookM S) S.time 0 0 0 nilV nilV nilV [] []) := by
    have := look_start (w.alloc (.cells #[.int .i64 0, nilV, nilV, nilV, nilV, .int .i64 0] 70)) (lookM S) S.time
    simpa using this
  have LB : (Below (w.heap.size + 1) (w.alloc (.cells #[.int .i64 0, nilV, nilV, nilV, nilV, .int .i64 0] 70)) ((w.alloc (.cells #[.int .i64 0, nilV, nilV, nilV, nilV, .int .i64 0] 70)).alloc (.cells #[.int .i64 S.time, nilV, nilV, nilV, nilV, .int .i64 0] 70))) := by
    have := below_one (w.alloc (.cells #[.int .i64 0, nilV, nilV, nilV, nilV, .int .i64 0] 70)) (.cells #[.int .i64 S.time, nilV, nilV, nilV, nilV, .int .i64 0] 70)
    simpa using this
  have LS : Hid (LookW _ (w.heap.size + 1) (w.heap.size + 1) (lookM S) S.time 0 0 0 nilV nilV nilV [] []) := LS
  have LB : Hid (Below (w.heap.size + 1) _ _) := LB
  generalize hwR : w.alloc (.cells #[.int .i64 0, nilV, nilV, nilV, nilV, .int .i64 0] 70) = wR at LS LB
  have HWR : Hid (w.alloc (.cells #[.int .i64 0, nilV, nilV, nilV, nilV, .int .i64 0] 70) = wR) := hwR
  have HWS : Hid (wR.heap.size = w.heap.size + 1) := by show _ = _; rw [← hwR]; simp
  have HWB : Hid (Below w.heap.size w wR) := by rw [← hwR]; exact below_one _ _
  clear hwR
  go_wp2_with fail
  go_loopw [4] (fun i wr => ∃ (k : Nat) (fv qv lv : Value) (FV QV : List Value), k ≤ 8 ∧ i = .int .i64 (k : Int) ∧ LookW wr (w.heap.size + 1) (w.heap.size + 1) (lookM S) S.time k k k fv qv lv FV QV ∧ Below (w.heap.size + 1) wR wr) (fun i _ => 8 - (intOf i).toNat)
  case atStart => exact ⟨0, nilV, nilV, nilV, [], [], by omega, rfl, by have h := LS.out; rw [← HWR.out] at h; exact h, by have h := LB.out; rw [← HWR.out] at h ⊢; exact h⟩
  case round =>
    obtain ⟨k, fv, qv, lv, FV, QV, hk, rfl, hlw, hbr⟩ := hrel
    have LW : Hid (LookW wr (w.heap.size + 1) (w.heap.size + 1) (lookM S) S.time k k k fv qv lv FV QV) := hlw
    have HBR : Hid (Below (w.heap.size + 1) wR wr) := hbr
    have HBW : Hid (Below w.heap.size w wr) := HWB.out.trans (hbr.mono (by omega))
    have MR : Hid (Mine w0 wr H S) := M0.out.below HBW.out
    clear hlw hbr
    by_cases hlt : k < 8
    · go_wp2_with fail
      refine (mineFilters (k : Int) MR.out).mono ?_
      rintro e w2 ⟨v2, rfl, ho2, hb2⟩
      rw [flat_strs] at ho2
      have M2 : Hid (Mine w0 w2 H S) := MR.out.below hb2
      have LW2 : Hid (LookW w2 (w.heap.size + 1) (w.heap.size + 1) (lookM S) S.time k k k fv qv lv FV QV) := LW.out.below hb2
      have hsr : w.heap.size + 1 ≤ wr.heap.size := by have := HBR.out.size; have := HWS.out; omega
      have HO2 : Hid (w2.ownsRow (w.heap.size + 1) 9 1 v2 ((lookM S).fil k).length (textsF ((lookM S).fil k))) := own_mono ho2 hsr
      have HB2 : Hid (Below (w.heap.size + 1) wR w2) := HBR.out.trans (hb2.mono hsr)
      have hs2 : w.heap.size + 1 ≤ w2.heap.size := Nat.le_trans hsr hb2.size
      clear ho2 hb2
      go_wp2_with fail
      refine (mineQueue (k : Int) M2.out).mono ?_
      rintro e w3 ⟨v3, rfl, ho3, hb3⟩
      have M3 : Hid (Mine w0 w3 H S) := M2.out.below hb3
      have LW3 : Hid (LookW w3 (w.heap.size + 1) (w.heap.size + 1) (lookM S) S.time k k k fv qv lv FV QV) := LW2.out.below hb3
      have HO3 : Hid (w3.ownsRow (w.heap.size + 1) 35 5 v3 ((lookM S).que k).length (((lookM S).que k).flatMap mailCells)) := own_mono ho3 hs2
      have HO23 : Hid (w3.ownsRow (w.heap.size + 1) 9 1 v2 ((lookM S).fil k).length (textsF ((lookM S).fil k))) := own_below HO2.out hb3
      have HB3 : Hid (Below (w.heap.size + 1) wR w3) := HB2.out.trans (hb3.mono hs2)
      have hs3 : w.heap.size + 1 ≤ w3.heap.size := Nat.le_trans hs2 hb3.size
      clear ho3 hb3
      go_wp2_with fail
      refine (mineLost (k : Int) M3.out).mono ?_
      rintro e w3 ⟨rfl, rfl⟩
      obtain ⟨va, wa, ra, ca1, fa1, ca2, la, ba, ka⟩ := LW3.out.addF HO23.out (by omega) hs3
      have hsa : w.heap.size + 1 ≤ (wa.setCell ⟨w.heap.size + 1, 1, none⟩ va).heap.size := Nat.le_trans hs3 ba.size
      obtain ⟨vb, wb, rb, cb1, fb1, cb2, lb, bb⟩ := la.addQ (ka 35 5 v3 _ _ (by decide) (by decide) HO3.out) (by omega) hsa
      have hsb : w.heap.size + 1 ≤ (wb.setCell ⟨w.heap.size + 1, 2, none⟩ vb).heap.size := Nat.le_trans hsa bb.size
      obtain ⟨vc, wc, rc, cc1, fc1, lc, bc⟩ := lb.addL (by omega) hsb
      have HBC : Hid (Below (w.heap.size + 1) wR (wc.setCell ⟨w.heap.size + 1, 3, none⟩ vc)) := ((HB3.out.trans ba).trans bb).trans bc
      have LC : Hid (LookW (wc.setCell ⟨w.heap.size + 1, 3, none⟩ vc) (w.heap.size + 1) (w.heap.size + 1) (lookM S) S.time (k + 1) (k + 1) (k + 1) va vb vc (FV ++ [v2]) (QV ++ [v3])) := lc
      have hBl3 : w.heap.size + 1 < w3.heap.size := (World.ownsRow.lt LW3.out.self _ rfl).2
      have ca0 := self_cell LW3.out.self 1 fv rfl
      obtain ⟨xa, xc, rfl, -, -, -⟩ := Row.form (own_mono LW3.out.fil (Nat.zero_le _))
      obtain ⟨ya, yc, rfl, -, -, -⟩ := Row.form (own_mono LW3.out.que (Nat.zero_le _))
      obtain ⟨za, zc, rfl, -, -, -⟩ := Row.form (own_mono LW3.out.lost (Nat.zero_le _))
      obtain ⟨ua, uc, rfl, -, -, -⟩ := Row.form (own_mono HO23.out (Nat.zero_le _))
      obtain ⟨ta, tc, rfl, -, -, -⟩ := Row.form (own_mono HO3.out (Nat.zero_le _))
      obtain ⟨va1, va2, rfl, -, -, -⟩ := Row.form (own_mono LC.out.fil (Nat.zero_le _))
      obtain ⟨vb1, vb2, rfl, -, -, -⟩ := Row.form (own_mono LC.out.que (Nat.zero_le _))
      obtain ⟨vc1, vc2, rfl, -, -, -⟩ := Row.form (own_mono LC.out.lost (Nat.zero_le _))
      rw [size_set] at rb rc
      clear la lb lc ba bb bc ka hsa hsb
      go_wp2_with (first | (at_builtin; first | refine wpList_append_run rfl _ _ 67 rfl _ _ _ _ rfl rfl ra ?_ | refine wpList_append_run rfl _ _ 68 rfl _ _ _ _ rfl rfl rb ?_ | refine wpList_append_run rfl _ _ 22 rfl _ _ _ _ rfl rfl rc ?_))
      go_roundw
      case rel => exact ⟨k + 1, _, _, _, _, _, by omega, by go_num, LC.out, HBC.out⟩
      case measure => simp [intOf]; omega
    · obtain rfl : k = 8 := by omega
      have ca5 := self_cell LW.out.self 5 _ rfl
      go_wp2_with fail
      refine (mineWaiting MR.out).mono ?_
      rintro e w2 ⟨v2, rfl, ho2, hb2⟩
      obtain ⟨ua, uc, rfl, -, -, -⟩ := Row.form (own_mono ho2 (Nat.zero_le _))
      have LW2 := LW.out.below hb2
      obtain ⟨xa, xc, rfl, -, -, -⟩ := Row.form (own_mono LW2.fil (Nat.zero_le _))
      obtain ⟨ya, yc, rfl, -, -, -⟩ := Row.form (own_mono LW2.que (Nat.zero_le _))
      obtain ⟨za, zc, rfl, -, -, -⟩ := Row.form (own_mono LW2.lost (Nat.zero_le _))
      have c20 := self_cell LW2.self 0 _ rfl
      have c21 := self_cell LW2.self 1 _ rfl
      have c22 := self_cell LW2.self 2 _ rfl
      have c23 := self_cell LW2.self 3 _ rfl
      have c25 := self_cell LW2.self 5 _ rfl
      have f25 := World.ownsRow.frozenAt LW2.self 5
      have hR : w2.ownsRow w.heap.size 70 6 (.slice (some ⟨w.heap.size, 0, none⟩) 1 1) 1 [.int .i64 0, nilV, nilV, nilV, nilV, .int .i64 0] := by
        have hsr : w.heap.size + 1 ≤ wr.heap.size := by have := HBR.out.size; have := HWS.out; omega
        have h1 : wR.ownsRow w.heap.size 70 6 (.slice (some ⟨w.heap.size, 0, none⟩) 1 1) 1 [.int .i64 0, nilV, nilV, nilV, nilV, .int .i64 0] := by
          rw [← HWR.out]
          exact (look_start w (lookM S) 0).self
        refine own_below h1 ?_
        rw [HWS.out]
        exact HBR.out.trans (hb2.mono hsr)
      have r0 := self_cell hR 0 _ rfl
      have r1 := self_cell hR 1 _ rfl
      have r2 := self_cell hR 2 _ rfl
      have r3 := self_cell hR 3 _ rfl
      have r4 := self_cell hR 4 _ rfl
      have r5 := self_cell hR 5 _ rfl
      have g0 := World.ownsRow.frozenAt hR 0
      have g1 := World.ownsRow.frozenAt hR 1
      have g2 := World.ownsRow.frozenAt hR 2
      have g3 := World.ownsRow.frozenAt hR 3
      have g4 := World.ownsRow.frozenAt hR 4
      have g5 := World.ownsRow.frozenAt hR 5
      have HR : Hid _ := hR
      clear hR
      have c24 := self_cell LW2.self 4 _ rfl
      have f24 := World.ownsRow.frozenAt LW2.self 4
      have hBl : w.heap.size + 1 < w2.heap.size := (World.ownsRow.lt LW2.self _ rfl).2
      have HBW2 : Hid (Below w.heap.size w (w2.setCell ⟨w.heap.size + 1, 4, none⟩ (.slice ua (waitingM S).length uc))) := (HBW.out.trans (hb2.mono HBW.out.size)).setCell (by show w.heap.size ≤ w.heap.size + 1; omega) _
      have M2 : Hid (Mine w0 (w2.setCell ⟨w.heap.size + 1, 4, none⟩ (.slice ua (waitingM S).length uc)) H S) := M0.out.below HBW2.out
      have LWX : Hid (LookW w2 (w.heap.size + 1) (w.heap.size + 1) (lookM S) S.time 8 8 8 _ _ _ FV QV) := LW2
      have HO2 : Hid _ := ho2
      have HB2 : Hid (Below wr.heap.size wr w2) := hb2
      clear ho2 hb2 LW2
      go_wp2_with fail
      refine (mineRecords M2.out).mono ?_
      rintro e w3 ⟨rfl, rfl⟩
      go_wp2_with fail
      have HU : Hid (∀ a b c d e f x y, Upd (fun g => g = w.heap.size ∨ g = w.heap.size + 1) w2 ((((((((w2.setCell ⟨w.heap.size + 1, 4, none⟩ x).setCell ⟨w.heap.size + 1, 5, none⟩ y).setCell ⟨w.heap.size, 0, none⟩ a).setCell ⟨w.heap.size, 1, none⟩ b).setCell ⟨w.heap.size, 2, none⟩ c).setCell ⟨w.heap.size, 3, none⟩ d).setCell ⟨w.heap.size, 4, none⟩ e).setCell ⟨w.heap.size, 5, none⟩ f)) := fun a b c d e f x y => upd8 _ _ a b c d e f x y
      exact bodyPost_ret (v := .agg #[.int .i64 S.time, .slice xa 8 xc, .slice ya 8 yc, .slice za 8 zc, .slice ua (waitingM S).length uc, .int .i64 (S.done.length : Int)]) (by rw [results_cell1 rfl]; go_simp) rfl
        ⟨_, rfl, ⟨_, _, _, _, FV, QV, rfl, LWX.out.done HR.out HO2.out (HU.out _ _ _ _ _ _ _ _) (by omega) HBW.out.size⟩, (HBW.out.trans (HB2.out.mono HBW.out.size)).trans (below_of_upd (HU.out _ _ _ _ _ _ _ _) (Nat.le_trans HBW.out.size HB2.out.size) (fun g hg => by omega))⟩
end Go.Proofs.Ytmjdndhfmfjbiab

namespace Go.Proofs.Ytmjdndhfmfjbiab
open Go.RowKit

theorem two_cells {w wr : World} {xs ys : Array Value} {t : TypeId} (hb : Below (w.heap.size + 2) ((w.alloc (.cells xs t)).alloc (.cells ys t)) wr) : (∀ j u, xs[j]? = some u → wr.cell? ⟨w.heap.size, j, none⟩ = some u) ∧ (∀ j u, ys[j]? = some u → wr.cell? ⟨w.heap.size + 1, j, none⟩ = some u) ∧ Below w.heap.size w wr := by
  have h2 : ((w.alloc (.cells xs t)).alloc (.cells ys t)).heap.size = w.heap.size + 2 := by simp
  have hb' : Below ((w.alloc (.cells xs t)).alloc (.cells ys t)).heap.size ((w.alloc (.cells xs t)).alloc (.cells ys t)) wr := by rw [h2]; exact hb
  refine ⟨fun j u hj => cell_later hb' ?_, fun j u hj => cell_later hb' ?_, ((below_one w _).trans ((below_one _ _).mono (by simp))).trans (hb.mono (by omega))⟩
  · have hh : ((w.alloc (.cells xs t)).alloc (.cells ys t)).heap[w.heap.size]? = some (.cells xs t (0, 0)) := by
      rw [heap_alloc_old _ _ (by simp)]; exact heap_alloc_new w _
    rw [cell_of_row _ w.heap.size j _ _ (0, 0) hh]; exact hj
  · have hh := heap_alloc_new (w.alloc (.cells xs t)) (.cells ys t)
    rw [show (w.alloc (.cells xs t)).heap.size = w.heap.size + 1 from by simp] at hh
    rw [cell_of_row _ (w.heap.size + 1) j _ _ (0, 0) hh]; exact hj

set_option maxRecDepth 100000 in
set_option maxHeartbeats 4000000 in
theorem keepAlike (L : LookD) (hL : LookFew L) (a b : Value) (w : World) (base top base' top' : Nat) (ha : LookAt w base top L a) (hb : LookAt w base' top' L b) :
    Calls Try.prog 33 #[a, b] w fun e w' => e = .returned (.bool true) ∧ Below w.heap.size w w' := by
  obtain ⟨fa, qa, la, wa, FA, QA, rfl, ha⟩ := ha
  obtain ⟨fb, qb, lb, wb, FB, QB, rfl, hb⟩ := hb
  have HA : Hid (LookIn w base top L fa qa la wa FA QA) := ha
  have HB : Hid (LookIn w base' top' L fb qb lb wb FB QB) := hb
  have hf := hL.fil
  have HF : Hid (LookFew L) := hL
  clear ha hb hL hf
  go_enter Try.func33, Try.ntmps33
  go_wp2_with fail
  go_loopw [5] (fun i wr => ∃ k : Nat, k ≤ 8 ∧ i = .int .i64 (k : Int) ∧ Below (w.heap.size + 2) ((w.alloc (.cells #[.int .i64 L.time, fa, qa, la, wa, .int .i64 L.recs] 70)).alloc (.cells #[.int .i64 L.time, fb, qb, lb, wb, .int .i64 L.recs] 70)) wr) (fun i _ => 8 - (intOf i).toNat)
  case atStart => exact ⟨0, by omega, rfl, Below.refl _ _⟩
  case round =>
    obtain ⟨k, hk, rfl, hbr⟩ := hrel
    obtain ⟨hA, hB, hbw⟩ := two_cells hbr
    have ca0 : wr.cell? ⟨w.heap.size, 0, none⟩ = some (.int .i64 L.time) := hA 0 _ rfl
    have ca1 : wr.cell? ⟨w.heap.size, 1, none⟩ = some fa := hA 1 _ rfl
    have ca2 : wr.cell? ⟨w.heap.size, 2, none⟩ = some qa := hA 2 _ rfl
    have ca3 : wr.cell? ⟨w.heap.size, 3, none⟩ = some la := hA 3 _ rfl
    have ca4 : wr.cell? ⟨w.heap.size, 4, none⟩ = some wa := hA 4 _ rfl
    have ca5 : wr.cell? ⟨w.heap.size, 5, none⟩ = some (.int .i64 L.recs) := hA 5 _ rfl
    have cb0 : wr.cell? ⟨w.heap.size + 1, 0, none⟩ = some (.int .i64 L.time) := hB 0 _ rfl
    have cb1 : wr.cell? ⟨w.heap.size + 1, 1, none⟩ = some fb := hB 1 _ rfl
    have cb2 : wr.cell? ⟨w.heap.size + 1, 2, none⟩ = some qb := hB 2 _ rfl
    have cb3 : wr.cell? ⟨w.heap.size + 1, 3, none⟩ = some lb := hB 3 _ rfl
    have cb4 : wr.cell? ⟨w.heap.size + 1, 4, none⟩ = some wb := hB 4 _ rfl
    have cb5 : wr.cell? ⟨w.heap.size + 1, 5, none⟩ = some (.int .i64 L.recs) := hB 5 _ rfl
    have HBR : Hid (Below (w.heap.size + 2) ((w.alloc (.cells #[.int .i64 L.time, fa, qa, la, wa, .int .i64 L.recs] 70)).alloc (.cells #[.int .i64 L.time, fb, qb, lb, wb, .int .i64 L.recs] 70)) wr) := hbr
    have HSZ : Hid (w.heap.size + 2 ≤ wr.heap.size) := by have := hbr.size; simpa [Hid] using this
    have HBW : Hid (Below w.heap.size w wr) := hbw
    clear hbr hbw hA hB
    by_cases hlt : k < 8
    · obtain ⟨gf, gq, gl, cf, cq, cl, af, aq, df, dq, hp⟩ := (HA.out.below HBW.out).pick hlt
      obtain ⟨gf', gq', gl', cf', cq', cl', af', aq', df', dq', hp'⟩ := (HB.out.below HBW.out).pick hlt
      obtain ⟨rfl, rfl, rfl, p1, p2, p3, p4, p5⟩ := hp
      obtain ⟨rfl, rfl, rfl, r1, r2, r3, r4, r5⟩ := hp'
      clear ca0 ca4 ca5 cb0 cb4 cb5
      have P4 : Hid _ := p4
      have P5 : Hid _ := p5
      have R4 : Hid _ := r4
      have R5 : Hid _ := r5
      clear p4 p5 r4 r5
      go_wp2_with fail
      go_region_held3 (fun w' => w'.cell? ⟨w.heap.size, 1, none⟩ = some (.slice (some ⟨gf, 0, none⟩) 8 cf) ∧ w'.cell? ⟨w.heap.size + 1, 1, none⟩ = some (.slice (some ⟨gf', 0, none⟩) 8 cf') ∧ w'.cell? ⟨gf, k, none⟩ = some (.slice af (L.fil k).length df) ∧ w'.cell? ⟨gf', k, none⟩ = some (.slice af' (L.fil k).length df'))
        (first | (go_keep; done) | exact ⟨cell_later hb2 ca1, cell_later hb2 cb1, cell_later hb2 p1, cell_later hb2 r1⟩)
        (first | (go_at_call 70; refine (keepSameTexts (L.fil k) af af' df df' _ (HF.out.fil k) (by exact P4.out) (by exact R4.out)).mono ?_; rintro e w2 ⟨rfl, hb2⟩))
      have da2 := cell_later hb2 ca2
      have da3 := cell_later hb2 ca3
      have db2 := cell_later hb2 cb2
      have db3 := cell_later hb2 cb3
      have s2 := cell_later hb2 p2
      have s3 := cell_later hb2 p3
      have t2 := cell_later hb2 r2
      have t3 := cell_later hb2 r3
      have P52 : Hid (CellsAt w2 aq ((L.que k).flatMap mailCells)) := (show CellsAt wr.drew aq ((L.que k).flatMap mailCells) from P5.out).below hb2
      have R52 : Hid (CellsAt w2 aq' ((L.que k).flatMap mailCells)) := (show CellsAt wr.drew aq' ((L.que k).flatMap mailCells) from R5.out).below hb2
      have HB2 : Hid (Below wr.heap.size wr w2) := below_drew.trans hb2
      clear hb2 ca1 ca2 ca3 cb1 cb2 cb3 p1 p2 p3 r1 r2 r3
      go_wp2_with fail
      go_region_held3 (fun w' => w'.cell? ⟨w.heap.size, 2, none⟩ = some (.slice (some ⟨gq, 0, none⟩) 8 cq) ∧ w'.cell? ⟨w.heap.size + 1, 2, none⟩ = some (.slice (some ⟨gq', 0, none⟩) 8 cq') ∧ w'.cell? ⟨gq, k, none⟩ = some (.slice aq (L.que k).length dq) ∧ w'.cell? ⟨gq', k, none⟩ = some (.slice aq' (L.que k).length dq'))
        (first | (go_keep; done) | exact ⟨cell_later hb3 da2, cell_later hb3 db2, cell_later hb3 s2, cell_later hb3 t2⟩)
        (first | (go_at_call 17; refine (keepSameMails (L.que k) aq aq' dq dq' _ (HF.out.que k) (by exact P52.out) (by exact R52.out)).mono ?_; rintro e w3 ⟨rfl, hb3⟩))
      have ea3 := cell_later hb3 da3
      have eb3 := cell_later hb3 db3
      have x3 := cell_later hb3 s3
      have y3 := cell_later hb3 t3
      have HB3 : Hid (Below wr.heap.size wr w3) := HB2.out.trans ((below_drew.trans hb3).mono HB2.out.size)
      clear hb3 da2 da3 db2 db3 s2 s3 t2 t3
      go_wp2_with fail
      go_quiet (fail)
      go_wp2_with fail
      go_roundw
      case rel => exact ⟨k + 1, by omega, by go_num, below_drewN (HBR.out.trans (HB3.out.mono HSZ.out))⟩
      case measure => simp [intOf]; omega
    · obtain ⟨a1, c1, e1, -, -, h1⟩ := (HA.out.below HBW.out).wait.form
      obtain ⟨a2, c2, e2, -, -, h2⟩ := (HB.out.below HBW.out).wait.form
      rw [e1] at ca4
      rw [e2] at cb4
      have X1 : Hid (CellsAt wr a1 (L.wait.flatMap waitCells)) := h1
      have X2 : Hid (CellsAt wr a2 (L.wait.flatMap waitCells)) := h2
      clear e1 e2 h1 h2 ca1 ca2 ca3 cb1 cb2 cb3
      go_wp2_with fail
      refine (keepSameWaits L.wait a1 a2 c1 c2 _ HF.out.wait X1.out X2.out).mono ?_
      rintro e w2 ⟨rfl, hb2⟩
      have d0 := cell_later hb2 ca0
      have d5 := cell_later hb2 ca5
      have f0 := cell_later hb2 cb0
      have f5 := cell_later hb2 cb5
      have HB2 : Hid (Below w.heap.size w w2) := HBW.out.trans (hb2.mono HBW.out.size)
      clear hb2 ca0 ca5 cb0 cb5 ca4 cb4
      go_wp2_with fail
      go_ret
      exact ⟨rfl, HB2.out⟩
end Go.Proofs.Ytmjdndhfmfjbiab
