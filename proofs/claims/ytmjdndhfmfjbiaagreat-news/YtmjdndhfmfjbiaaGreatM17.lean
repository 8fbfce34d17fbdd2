import Derived.Test.YtmjdndhfmfjbiaaGreatM16
import Derived.Laws.IdiomStrings
namespace Go.Proofs.YtmjdndhfmfjbiaaGreat
open Go.RowKit

/-- A text as bytes of one's own. -/
theorem bytes_of (w : World) (s : ByteArray) : ∃ cap w1, (convert 9 50 (.string s)).run Tryz.prog w = .ok (.slice (some ⟨w.heap.size, 0, none⟩) s.size cap) w1 ∧ Below w.heap.size w w1 ∧ w.heap.size < w1.heap.size ∧ s.size ≤ cap ∧
    (∀ j, j < s.size → w1.cell? ⟨w.heap.size, j, none⟩ = some (.int .u8 (s[j]!.toNat : Int)) ∧ w1.frozen? ⟨w.heap.size, j, none⟩ = false) := by
  refine ⟨_, _, run_bytes_of_string w 9 50 5 s Tryz.underlying9 Tryz.underlying50 Tryz.underlying5, ⟨rfl, rfl, rfl, by simp, fun k hk => heap_alloc_old w.drew _ hk⟩, by simp, grownCap_ge _ _ _ _, fun j hj => ⟨?_, ?_⟩⟩
  · have := World.cell?_alloc_mark w.drew (bytesRow s (grownCap w s.size 0 5)) 5 ((bytesRow s (grownCap w s.size 0 5)).size, (bytesRow s (grownCap w s.size 0 5)).size + 1) j
    refine this.trans ?_
    have hd : j < s.data.size := hj
    rw [bytesRow, Array.getElem?_append_left (by simpa using hd), Array.getElem?_map, Array.getElem?_eq_getElem hd]
    simp only [Option.map_some]
    rw [getElem!_pos s j hj]
    rfl
  · have hn := heap_alloc_new w.drew (.cells (bytesRow s (grownCap w s.size 0 5)) 5 ((bytesRow s (grownCap w s.size 0 5)).size, (bytesRow s (grownCap w s.size 0 5)).size + 1))
    have hn' : (w.drew.alloc (.cells (bytesRow s (grownCap w s.size 0 5)) 5 ((bytesRow s (grownCap w s.size 0 5)).size, (bytesRow s (grownCap w s.size 0 5)).size + 1))).heap[w.heap.size]? = some (.cells (bytesRow s (grownCap w s.size 0 5)) 5 ((bytesRow s (grownCap w s.size 0 5)).size, (bytesRow s (grownCap w s.size 0 5)).size + 1)) := hn
    unfold World.frozen?
    rw [hn']
    have hz : s.size ≤ (bytesRow s (grownCap w s.size 0 5)).size := by
      rw [bytesRow, Array.size_append, Array.size_map]
      show s.data.size ≤ _
      omega
    simp
    omega

/-- One byte of the bytes is another: the text that they are. -/
theorem bytes_back (w : World) (s : ByteArray) (g k cap : Nat) (u : UInt8) (hk : k < s.size) (hc : ∀ j, j < s.size → w.cell? ⟨g, j, none⟩ = some (.int .u8 (if j = k then (u.toNat : Int) else (s[j]!.toNat : Int)))) :
    (convert 50 9 (.slice (some ⟨g, 0, none⟩) s.size cap)).run Tryz.prog w = .ok (.string (s.set! k u)) w := by
  have hsz : (s.set! k u).data.toList.length = s.size := by
    rw [Array.length_toList]
    show (s.set! k u).size = s.size
    exact ByteArray.size_set! s k u
  have h := run_convert_bytes_back (P := Tryz.prog) w 50 9 5 ⟨g, 0, none⟩ cap (s.set! k u).data.toList Tryz.underlying50 Tryz.underlying5 Tryz.underlying9 (fun j hj => by
    rw [hsz] at hj
    have e : (s.set! k u).data.toList[j] = (s.set! k u)[j]! := by
      rw [getElem!_pos (s.set! k u) j (by rw [ByteArray.size_set!]; exact hj)]
      rfl
    rw [Addr.add_lit, Nat.zero_add, hc j hj, e, ByteArray.getElem!_set! s k u j hk]
    by_cases hjk : j = k
    · rw [if_pos hjk, if_pos hjk.symm]
    · rw [if_neg hjk, if_neg (fun e => hjk e.symm)])
  rw [hsz] at h
  exact h

/-- The byte that stands there when it was turned. -/
def turnedB (D : ByteArray) (n : Nat) (q : Int) : UInt8 := UInt8.ofNat (IntKind.u8.wrap ((D[n]!.toNat : Int) + (1 + q))).toNat
theorem turned_nat (D : ByteArray) (n : Nat) (q : Int) : ((turnedB D n q).toNat : Int) = IntKind.u8.wrap ((D[n]!.toNat : Int) + (1 + q)) := by
  unfold turnedB
  rw [IntKind.wrap_u8, UInt8.toNat_ofNat']
  omega
theorem turned_ne (D : ByteArray) (n : Nat) (q : Int) (h0 : 0 ≤ q) (h1 : q < 255) : turnedB D n q ≠ D[n]! := by
  intro e
  have h := turned_nat D n q
  rw [e, IntKind.wrap_u8] at h
  have := D[n]!.toNat_lt
  omega

theorem turn_facts {R : List ByteArray} {D : ByteArray} {w1 w2 w3 : World} {n cap : Nat} {q : Int} (hD : cat R = D) (b2 : Below w1.heap.size w1 w2) (b3 : Below w2.heap.size w2 w3) (hs2 : w1.heap.size ≤ w2.heap.size)
    (hby : ∀ j, j < D.size → w3.cell? ⟨w2.heap.size, j, none⟩ = some (.int .u8 (D[j]!.toNat : Int)) ∧ w3.frozen? ⟨w2.heap.size, j, none⟩ = false) (hn : n < D.size) (h0 : 0 ≤ q) (h1 : q < 255) :
    Below w1.heap.size w1 (w3.setCell ⟨w2.heap.size, n, none⟩ (.int .u8 (IntKind.u8.wrap ((D[n]!.toNat : Int) + (1 + q))))).drew ∧ Damaged (cat R) (D.set! n (turnedB D n q)) n ∧
      (convert 50 9 (.slice (some ⟨w2.heap.size, 0, none⟩) D.size cap)).run Tryz.prog (w3.setCell ⟨w2.heap.size, n, none⟩ (.int .u8 (IntKind.u8.wrap ((D[n]!.toNat : Int) + (1 + q))))).drew.drew =
        .ok (.string (D.set! n (turnedB D n q))) (w3.setCell ⟨w2.heap.size, n, none⟩ (.int .u8 (IntKind.u8.wrap ((D[n]!.toNat : Int) + (1 + q))))).drew.drew := by
  refine ⟨?_, ?_, ?_⟩
  · have hb : Below w1.heap.size w1 w3 := b2.trans (b3.mono hs2)
    have u := upd_set w3 w2.heap.size n (.int .u8 (IntKind.u8.wrap ((D[n]!.toNat : Int) + (1 + q))))
    exact (hb.trans (below_of_upd u hb.size (fun k e => by subst e; exact hs2))).drew
  · rw [hD]
    exact .inr ⟨hn, ByteArray.size_set! _ _ _, fun i _ hne => ByteArray.getElem!_set!_ne _ _ _ _ (fun e => hne e.symm), by rw [ByteArray.getElem!_set!_self _ _ _ hn]; exact turned_ne D n q h0 h1⟩
  · refine bytes_back _ D w2.heap.size n cap _ hn (fun j hj => ?_)
    show (w3.setCell ⟨w2.heap.size, n, none⟩ _).cell? _ = _
    by_cases hjn : j = n
    · subst hjn
      rw [if_pos rfl, World.cell?_setCell_same _ _ _ (hby j hj).1, turned_nat]
    · rw [if_neg hjn, World.cell?_setCell_other _ _ _ _ (by simp)]
      exact (hby j hj).1

set_option maxRecDepth 100000 in
set_option maxHeartbeats 4000000 in
theorem lawTurn (P : Prog) (w : World) (G : Nat) (c : Nat → Nat) (b : Nat) (v : GameV) (S : RefS) (x : RefV) (F : Nat → Prop) (R : List ByteArray) (ends : List Int) (o : OpD) (hg : Whole P w G c b v S x F R ends) (ho : Sane o) :
    Calls Tryz.prog 27 #[.pointer (some ⟨G, 0, none⟩), opV o] w fun e w' => e = .returned (.bool true) ∧ ∃ S1, Next P w G c b S1 w' := by
  obtain ⟨kk, oa, ob, oc, od, os⟩ := o
  obtain ⟨-, hsz⟩ := (P.recs hg.core.pr).2
  have ha := ho.a
  have hb := ho.b
  have hc := ho.c
  unfold I64 at ha hb hc
  simp only at ha hb hc
  have HG : Hid (Whole P w G c b v S x F R ends) := hg
  have hGl := hg.core.lies.lt
  clear hg ho
  go_enter Tryz.func27, Tryz.ntmps27
  go_wp2_with fail
  generalize hWA : w.alloc _ = wa
  have hbA : Below w.heap.size w wa := by rw [← hWA]; exact below_one _ _
  have cA1 : wa.cell? ⟨w.heap.size, 1, none⟩ = some (.int .i64 oa) := by rw [← hWA]; simp
  have cA2 : wa.cell? ⟨w.heap.size, 2, none⟩ = some (.int .i64 ob) := by rw [← hWA]; simp
  have cA3 : wa.cell? ⟨w.heap.size, 3, none⟩ = some (.int .i64 oc) := by rw [← hWA]; simp
  have hsA : wa.heap.size = w.heap.size + 1 := by rw [← hWA]; simp
  clear hWA
  refine (lawWrites P wa G (clean w c) b v S x F R ends (HG.out.cleaned hbA)).mono ?_
  rintro e w1 ⟨rfl, v1, ends1, hw1, hd1, hu1⟩
  have HSA : Hid (wa.heap.size = w.heap.size + 1) := hsA
  have c11 := hu1.cell cA1 (by simp [clean_new w c (Nat.le_refl _)])
  have c12 := hu1.cell cA2 (by simp [clean_new w c (Nat.le_refl _)])
  have c13 := hu1.cell cA3 (by simp [clean_new w c (Nat.le_refl _)])
  have k3 := hw1.core.lies.disk
  rw [hd1] at k3
  have HW1 : Hid (Whole P w1 G (clean w c) b v1 S x F R ends1) := hw1
  have HD1 : Hid (v1.disk = cat R) := hd1
  have HU1 : Hid (Upd (fun k => clean w c k ≠ 0) wa w1) := hu1
  have hs1 := hu1.size
  have hsw : w.heap.size < w1.heap.size := by omega
  have hG1 := hw1.core.lies.lt
  clear hw1 hd1 hu1 hsA cA1 cA2 cA3
  generalize hD : cat R = D at *
  have HD : Hid (cat R = D) := hD
  clear hD
  by_cases hz : D.size = 0
  · have hz' : (D.size : Int) = 0 := by omega
    have HN : Hid (Next P w G c b S w1) := next_clean hbA ⟨clean w c, v1, x, F, R, ends1, HW1.out, Ext.refl _ _, HU1.out⟩
    go_wp2_with fail
    go_ret
    exact ⟨rfl, S, HN.out⟩
  · have hz1 : ¬ ((D.size : Int) = 0) := by omega
    obtain ⟨p0, p1⟩ := pick_bd oa (D.size : Int) (by omega)
    go_wp2_with fail
    go_quiet ((go_at_call 48; exact (lawPick oa (D.size : Int) _ ha.1 ha.2 (by omega) (by omega)).mono fun _ _ ⟨he, hw⟩ => ⟨he, _, hw⟩))
    obtain ⟨n, hn⟩ : ∃ n : Nat, pickM oa (D.size : Int) = (n : Int) := ⟨(pickM oa (D.size : Int)).toNat, by omega⟩
    rw [hn] at p0 p1 ⊢
    clear hn
    generalize hw2 : w1.drewN nq = w2
    have b2 : Below w1.heap.size w1 w2 := by rw [← hw2]; exact below_drewN (Below.refl _ _)
    have c22 := cell_later b2 c12
    have c23 := cell_later b2 c13
    have k32 := cell_later b2 k3
    have hs2 := b2.size
    obtain ⟨cap, w3, hcv, b3, hs3, hcap, hby⟩ := bytes_of w2 D
    have c33 := cell_later b3 c23
    have c32 := cell_later b3 c22
    obtain ⟨hbn, hbf⟩ := hby n (by omega)
    have HBY : Hid (∀ j, j < D.size → w3.cell? ⟨w2.heap.size, j, none⟩ = some (.int .u8 (D[j]!.toNat : Int)) ∧ w3.frozen? ⟨w2.heap.size, j, none⟩ = false) := hby
    have hG3 : G < w3.heap.size := by omega
    have C13 : Hid (w1.cell? ⟨w.heap.size, 3, none⟩ = some (.int .i64 oc)) := c13
    clear hw2 c11 c12 c13 k3 hby
    obtain ⟨q0, q1⟩ := pick_bd ob 255 (by omega)
    obtain ⟨q, hq⟩ : ∃ q, pickM ob 255 = q := ⟨_, rfl⟩
    rw [hq] at q0 q1
    have HQ : Hid (pickM ob 255 = q) := hq
    have e1 : (0 : Int) < 255 := by omega
    have e2 : (255 : Int) ≤ 9223372036854775807 := by omega
    have e3 : IntKind.i64.wrap (1 + q) = 1 + q := wrap_ok _ (by omega) (by omega)
    have e4 : IntKind.u8.wrap (1 + q) = 1 + q := by rw [IntKind.wrap_u8]; omega
    clear hq
    obtain ⟨r0, r1⟩ := pick_bd oc 501 (by omega)
    obtain ⟨room, hroom⟩ : ∃ room, pickM oc 501 = room := ⟨_, rfl⟩
    rw [hroom] at r0 r1
    have HROOM : Hid (pickM oc 501 = room) := hroom
    have hr1 : room ≤ 500 := by omega
    have f1 : (0 : Int) < 501 := by omega
    have f2 : (501 : Int) ≤ 9223372036854775807 := by omega
    have HVD : Hid (v1.disk = cat R) := by show v1.disk = cat R; rw [HD1.out, HD.out]
    clear hroom
    go_wp2_with fail
    go_region_with (go_at_call 48; refine (lawPick ob 255 _ hb.1 hb.2 e1 e2).mono ?_; rintro e w7 ⟨rfl, rfl⟩; rw [HQ.out])
    all_goals generalize hw4 : World.drew _ = w4
    all_goals have HB4 : Hid (Below w1.heap.size w1 w4 ∧ Damaged (cat R) (D.set! n (turnedB D n q)) n ∧ (convert 50 9 (.slice (some ⟨w2.heap.size, 0, none⟩) D.size cap)).run Tryz.prog w4.drew = .ok (.string (D.set! n (turnedB D n q))) w4.drew) := (by rw [← hw4]; exact turn_facts HD.out b2 b3 hs2 HBY.out (by omega) q0 q1)
    all_goals clear hw4
    all_goals have hcv4 := HB4.out.2.2
    all_goals have c43 := cell_later HB4.out.1 C13.out
    all_goals have HW4 : Hid (Whole P w4 G (clean w c) b v1 S x F R ends1) := HW1.out.below HB4.out.1
    all_goals have hs4 := HB4.out.1.size
    all_goals have hG4 : G < w4.heap.size := by omega
    all_goals have hsw4 : w.heap.size < w4.heap.size := by omega
    all_goals clear hcv c33 c32 hbn hbf k32 c22 c23
    all_goals go_wp2_with fail
    all_goals go_region_with (first
      | (go_at_call 48; refine (lawPick oc 501 _ hc.1 hc.2 f1 f2).mono ?_; rintro e w7 ⟨rfl, rfl⟩; rw [HROOM.out])
      | (go_at_call 49; refine (lawBack P _ G (clean w c) b v1 S x F R ends1 (D.set! n (turnedB D n q)) n room ?hw HVD.out HB4.out.2.1 r0 hr1).mono ?_; (case hw => exact HW4.out.below ⟨rfl, rfl, rfl, Nat.le_refl _, fun _ _ => rfl⟩); rintro e w8 ⟨rfl, S1, h8⟩))
    all_goals go_wp2_with fail
    all_goals go_ret
    all_goals refine ⟨rfl, _, next_clean hbA (next_then ?_ h8)⟩
    all_goals exact (HU1.out.below HB4.out.1).below ⟨rfl, rfl, rfl, Nat.le_refl _, fun _ _ => rfl⟩
end Go.Proofs.YtmjdndhfmfjbiaaGreat
