import Derived.Test.YtmjdndhfmfjbiaaGreatM15
import Derived.Deep.RegionWith
namespace Go.Proofs.YtmjdndhfmfjbiaaGreat
open Go.RowKit

/-- A step as a script has it: its numbers are numbers. -/
def I64 (n : Int) : Prop := -9223372036854775808 ≤ n ∧ n ≤ 9223372036854775807
structure Sane (o : OpD) : Prop where
  kind : I64 o.kind
  a : I64 o.a
  b : I64 o.b
  c : I64 o.c
  d : I64 o.d
  s : o.s.size ≤ 1048576

theorem next_then {P : Prog} {w w1 w2 : World} {G : Nat} {c : Nat → Nat} {b : Nat} {S1 : RefS} (hu : Upd (fun k => c k ≠ 0) w w1) (h : Next P w1 G c b S1 w2) : Next P w G c b S1 w2 := by
  obtain ⟨c1, v, x, F, R, ends, hw, he, hup⟩ := h
  exact ⟨c1, v, x, F, R, ends, hw, fun k hk => he k (by have := hu.size; omega), hu.trans hup (fun k hk e => e)⟩

/-- Blocks that nobody has yet are nobody's. -/
def clean (w : World) (c : Nat → Nat) : Nat → Nat := fun k => if k < w.heap.size then c k else 0
theorem clean_ext (w : World) (c : Nat → Nat) : Ext w c (clean w c) := fun _ hk => if_pos hk
theorem clean_new (w : World) (c : Nat → Nat) {k : Nat} (h : w.heap.size ≤ k) : clean w c k = 0 := if_neg (by omega)
theorem Whole.cleaned {P : Prog} {w w1 : World} {G : Nat} {c : Nat → Nat} {b : Nat} {v : GameV} {S : RefS} {x : RefV} {F : Nat → Prop} {R : List ByteArray} {ends : List Int} (h : Whole P w G c b v S x F R ends) (k : Below w.heap.size w w1) : Whole P w1 G (clean w c) b v S x F R ends :=
  h.upd (Q := fun _ => False) (Upd.of_below k) (fun _ _ f => f) (clean_ext _ _)
theorem next_clean {P : Prog} {w w1 w2 : World} {G : Nat} {c : Nat → Nat} {b : Nat} {S1 : RefS} (k : Below w.heap.size w w1) (h : Next P w1 G (clean w c) b S1 w2) : Next P w G c b S1 w2 := by
  obtain ⟨c1, v, x, F, R, ends, hw, he, hup⟩ := h
  refine ⟨c1, v, x, F, R, ends, hw, fun i hi => (he i (by have := k.size; omega)).trans (clean_ext w c i hi), (Upd.of_below k).trans hup (fun i hi e => ?_)⟩
  rw [clean_ext w c i hi] at e
  exact e

set_option maxRecDepth 100000 in
set_option maxHeartbeats 1000000 in
theorem lawCut (P : Prog) (w : World) (G : Nat) (c : Nat → Nat) (b : Nat) (v : GameV) (S : RefS) (x : RefV) (F : Nat → Prop) (R : List ByteArray) (ends : List Int) (o : OpD) (hg : Whole P w G c b v S x F R ends) (ho : Sane o) :
    Calls Tryz.prog 26 #[.pointer (some ⟨G, 0, none⟩), opV o] w fun e w' => e = .returned (.bool true) ∧ ∃ S1, Next P w G c b S1 w' := by
  obtain ⟨kk, oa, ob, oc, od, os⟩ := o
  obtain ⟨-, hsz⟩ := (P.recs hg.core.pr).2
  have ha := ho.a
  have hb := ho.b
  unfold I64 at ha hb
  simp only at ha hb
  have HG : Hid (Whole P w G c b v S x F R ends) := hg
  have hGl := hg.core.lies.lt
  clear hg ho
  go_enter Tryz.func26, Tryz.ntmps26
  go_wp2_with fail
  generalize hWA : w.alloc _ = wa
  have hbA : Below w.heap.size w wa := by rw [← hWA]; exact below_one _ _
  have cA1 : wa.cell? ⟨w.heap.size, 1, none⟩ = some (.int .i64 oa) := by rw [← hWA]; simp
  have cA2 : wa.cell? ⟨w.heap.size, 2, none⟩ = some (.int .i64 ob) := by rw [← hWA]; simp
  have hsA : wa.heap.size = w.heap.size + 1 := by rw [← hWA]; simp
  clear hWA
  refine (lawWrites P wa G (clean w c) b v S x F R ends (HG.out.cleaned hbA)).mono ?_
  rintro e w1 ⟨rfl, v1, ends1, hw1, hd1, hu1⟩
  have HSA : Hid (wa.heap.size = w.heap.size + 1) := hsA
  have c11 := hu1.cell cA1 (by simp [clean_new w c (Nat.le_refl _)])
  have c12 := hu1.cell cA2 (by simp [clean_new w c (Nat.le_refl _)])
  have k3 := hw1.core.lies.disk
  rw [hd1] at k3
  have HW1 : Hid (Whole P w1 G (clean w c) b v1 S x F R ends1) := hw1
  have HD1 : Hid (v1.disk = cat R) := hd1
  have HU1 : Hid (Upd (fun k => clean w c k ≠ 0) wa w1) := hu1
  have hs1 := hu1.size
  have hsw : w.heap.size < w1.heap.size := by omega
  have hG1 := hw1.core.lies.lt
  clear hw1 hd1 hu1 hsA cA1 cA2
  obtain ⟨p0, p1⟩ := pick_bd oa ((cat R).size + 1) (by omega)
  generalize hD : cat R = D at *
  have HD : Hid (cat R = D) := hD
  clear hD
  go_wp2_with fail
  go_quiet ((go_at_call 48; exact (lawPick oa ((D.size : Int) + 1) _ ha.1 ha.2 (by omega) (by omega)).mono fun _ _ ⟨he, hw⟩ => ⟨he, _, hw⟩))
  obtain ⟨n, hn⟩ : ∃ n : Nat, pickM oa ((D.size : Int) + 1) = (n : Int) := ⟨(pickM oa ((D.size : Int) + 1)).toNat, by omega⟩
  rw [hn] at p0 p1 ⊢
  clear hn
  have q1 : (n : Int) ≤ (D.size : Int) := by omega
  generalize hw2 : w1.drewN nq = w2
  have b2 : Below w1.heap.size w1 w2 := by rw [← hw2]; exact below_drewN (Below.refl _ _)
  have HW2 : Hid (Whole P w2 G (clean w c) b v1 S x F R ends1) := HW1.out.below b2
  have c12' := cell_later b2 c12
  have k3' := cell_later b2 k3
  have hU2 : Hid (Upd (fun k => clean w c k ≠ 0) wa w2) := HU1.out.below b2
  have hs2 := b2.size
  have hG2 : G < w2.heap.size := by omega
  have hsw2 : w.heap.size < w2.heap.size := by omega
  clear hw2 c11 c12 k3 HW1 HU1 b2 hs1 hsw hG1
  obtain ⟨r0, r1⟩ := pick_bd ob 501 (by omega)
  obtain ⟨room, hroom⟩ : ∃ room, pickM ob 501 = room := ⟨_, rfl⟩
  rw [hroom] at r0 r1
  have HROOM : Hid (pickM ob 501 = room) := hroom
  have HDAM : Hid (Damaged (cat R) (D.extract 0 n) n) := .inl ⟨by rw [HD.out]; omega, by rw [HD.out]⟩
  have hr1 : room ≤ 500 := by omega
  have e1 : (0 : Int) < 501 := by omega
  have e2 : (501 : Int) ≤ 9223372036854775807 := by omega
  have HVD : Hid (v1.disk = cat R) := by show v1.disk = cat R; rw [HD1.out, HD.out]
  clear hroom
  go_wp2_with fail
  go_region_with (first
    | (go_at_call 48; refine (lawPick ob 501 _ hb.1 hb.2 e1 e2).mono ?_; rintro e w7 ⟨rfl, rfl⟩; rw [HROOM.out])
    | (go_at_call 49; refine (lawBack P _ G (clean w c) b v1 S x F R ends1 (D.extract 0 n) n room ?hw HVD.out HDAM.out r0 hr1).mono ?_; (case hw => exact HW2.out.below ⟨rfl, rfl, rfl, Nat.le_refl _, fun _ _ => rfl⟩); rintro e w8 ⟨rfl, S1, h8⟩))
  all_goals go_wp2_with fail
  all_goals go_ret
  all_goals refine ⟨rfl, _, next_clean hbA (next_then ?_ h8)⟩
  all_goals exact hU2.out.below ⟨rfl, rfl, rfl, Nat.le_refl _, fun _ _ => rfl⟩
end Go.Proofs.YtmjdndhfmfjbiaaGreat
