import Derived.Test.YtmjdndhfmfjbiaaGreatM20
import Derived.Deep.Slices
import Derived.OpenShut
import Derived.ProofKit
import Derived.JoinedCond
namespace Go.Proofs.YtmjdndhfmfjbiaaGreat
open Go.RowKit

/-- What is looked at is as the document says. -/
def LooksOK (P : Prog) (A : AimD) : Prop := ∀ (w : World) (G : Nat) (c : Nat → Nat) (b : Nat) (v : GameV) (S : RefS) (x : RefV) (F : Nat → Prop) (R : List ByteArray) (ends : List Int), Whole P w G c b v S x F R ends → b ≤ 90000000 →
    Calls Tryz.prog 14 #[.pointer (some ⟨G, 0, none⟩), aimV A] w fun e w' => e = .returned (.bool true) ∧ Next P w G c (b + 21) S w'

theorem played_kind {A : AimD} {k c : Int} (h : playedB A k c = true) : 1 ≤ k ∧ k ≤ 10 := by
  by_cases hk : 1 ≤ k ∧ k ≤ 10
  · exact hk
  · unfold playedB at h
    rw [if_neg (by omega), if_neg (by omega), if_neg (by omega), if_neg (by omega), if_neg (by omega), if_neg (by omega), if_neg (by omega), if_neg (by omega), if_neg (by omega), if_neg (by omega)] at h
    cases h

theorem Upd.zero {w w1 : World} {c : Nat → Nat} {w0 : World} (hz : ∀ k, k < w0.heap.size → c k = 0) (hs : w0.heap.size ≤ w.heap.size) (hb : Below w0.heap.size w0 w) (hu : Upd (fun k => c k ≠ 0) w w1) : Below w0.heap.size w0 w1 :=
  ⟨hu.os.trans hb.os, hu.tape.trans hb.tape, hu.output.trans hb.output, Nat.le_trans hs hu.size, fun k hk => (hu.block k (by omega) (by simp [hz k hk])).trans (hb.block k hk)⟩

/-- A script lies there. -/
def ScriptAt (w : World) (ao : Option Addr) (l : List OpD) : Prop := ∀ (j : Nat) o, l[j]? = some o → ∃ g off, ao = some ⟨g, off, none⟩ ∧ w.cell? ⟨g, off + j * 6, none⟩ = some (.int .i64 o.kind) ∧ w.cell? ⟨g, off + j * 6 + 1, none⟩ = some (.int .i64 o.a) ∧ w.cell? ⟨g, off + j * 6 + 2, none⟩ = some (.int .i64 o.b) ∧
  w.cell? ⟨g, off + j * 6 + 3, none⟩ = some (.int .i64 o.c) ∧ w.cell? ⟨g, off + j * 6 + 4, none⟩ = some (.int .i64 o.d) ∧ w.cell? ⟨g, off + j * 6 + 5, none⟩ = some (.string o.s)
theorem ScriptAt.below {w w1 : World} {ao : Option Addr} {l : List OpD} (h : ScriptAt w ao l) (hb : Below w.heap.size w w1) : ScriptAt w1 ao l := fun j o ho => by
  obtain ⟨g, off, e, c0, c1, c2, c3, c4, c5⟩ := h j o ho
  exact ⟨g, off, e, cell_later hb c0, cell_later hb c1, cell_later hb c2, cell_later hb c3, cell_later hb c4, cell_later hb c5⟩

set_option maxRecDepth 100000 in
set_option maxHeartbeats 1000000 in
theorem lawPlays (P : Prog) (A : AimD) (hA : LooksOK P A) (room : Int) (l : List OpD) (ao : Option Addr) (n cap : Nat) (w : World) (hn : l.length = n) (hlen : n ≤ 1048576) (hc : ScriptAt w ao l) (hs : ∀ o ∈ l, Sane o) :
    Calls Tryz.prog 11 #[.int .i64 room, .slice ao n cap, aimV A] w fun e w' => e = .returned (.bool true) ∧ Below w.heap.size w w' := by
  obtain ⟨send, wait, disk, cut, turn⟩ := A
  have HA : Hid (LooksOK P ⟨send, wait, disk, cut, turn⟩) := hA
  have HC : Hid (ScriptAt w ao l) := hc
  have HS : Hid (∀ o ∈ l, Sane o) := hs
  have HL : Hid (l.length = n) := hn
  clear hA hc hs hn
  by_cases hr : 0 ≤ room ∧ room ≤ 500
  · obtain ⟨hr0, hr1⟩ := hr
    go_enter Tryz.func11, Tryz.ntmps11
    go_wp2_with fail
    generalize hWA : w.alloc _ = wa
    have hbA : Below w.heap.size w wa := by rw [← hWA]; exact below_one _ _
    have hsA : w.heap.size < wa.heap.size := by rw [← hWA]; simp
    have a0 : wa.cell? ⟨w.heap.size, 0, none⟩ = some (.bool send) := by rw [← hWA]; simp
    have a1 : wa.cell? ⟨w.heap.size, 1, none⟩ = some (.bool wait) := by rw [← hWA]; simp
    have a2 : wa.cell? ⟨w.heap.size, 2, none⟩ = some (.bool disk) := by rw [← hWA]; simp
    have a3 : wa.cell? ⟨w.heap.size, 3, none⟩ = some (.bool cut) := by rw [← hWA]; simp
    have a4 : wa.cell? ⟨w.heap.size, 4, none⟩ = some (.bool turn) := by rw [← hWA]; simp
    clear hWA
    refine (lawBegin P room _ hr0 hr1).mono ?_
    rintro e w1 ⟨G, c, rfl, ⟨v, x, F, R, ends, hw1⟩, hcz, hb1⟩
    have HN0 : Hid (Next P w1 G c (21 * 0) (refNew room) w1) := ⟨c, v, x, F, R, ends, hw1, Ext.refl _ _, Upd.refl _ _⟩
    have HZ : Hid (∀ w2, Upd (fun k => c k ≠ 0) w1 w2 → Below wa.heap.size wa w2) := fun w2 hu => Upd.zero hcz hb1.size hb1 hu
    clear hw1 hcz hb1
    go_wp2_with fail
    go_loopw [8, 9] (fun ok i wr => ∃ j : Nat, j ≤ n ∧ ok = .bool true ∧ i = .int .i64 j ∧ ∃ S1, Next P w1 G c (21 * j) S1 wr) (fun _ i _ => n - (intOf i).toNat)
    case atStart => exact ⟨0, Nat.zero_le _, rfl, rfl, _, HN0.out⟩
    case round =>
      obtain ⟨j, hj, rfl, rfl, S1, c1, v1, x1, F1, R1, ends1, hw1, he1, hu1⟩ := hrel
      have HW1 : Hid (Whole P wr G c1 (21 * j) v1 S1 x1 F1 R1 ends1) := hw1
      have HE1 : Hid (Ext w1 c c1) := he1
      have HU1 : Hid (Upd (fun k => c k ≠ 0) w1 wr) := hu1
      have bA := HZ.out wr hu1
      have r0 := cell_later bA a0
      have r1 := cell_later bA a1
      have r2 := cell_later bA a2
      have r3 := cell_later bA a3
      have r4 := cell_later bA a4
      have bW : Below w.heap.size w wr := hbA.trans (bA.mono hbA.size)
      have hsr := bA.size
      clear hw1 he1 hu1 bA
      by_cases hlt : j < n
      · obtain ⟨⟨kk, oa, ob, oc, od, os⟩, ho⟩ : ∃ o, l[j]? = some o := ⟨_, List.getElem?_eq_getElem (by rw [HL.out]; exact hlt)⟩
        obtain ⟨g, off, rfl, c0', c1', c2', c3', c4', c5'⟩ := HC.out.below bW j _ ho
        have HSO : Hid (Sane ⟨kk, oa, ob, oc, od, os⟩) := HS.out _ (List.mem_of_getElem? ho)
        simp only at c0' c1' c2' c3' c4' c5'
        clear ho
        cases hp : playedB ⟨send, wait, disk, cut, turn⟩ kk oc with
        | false =>
          have HP : Hid (playedB ⟨send, wait, disk, cut, turn⟩ kk oc = false) := hp
          clear hp
          go_wp2_with fail
          go_region_with (go_at_call 13; refine (lawPlayed ⟨send, wait, disk, cut, turn⟩ ⟨kk, oa, ob, oc, od, os⟩ _).mono ?_; rintro e w2 ⟨rfl, hb2⟩; simp only; rw [HP.out])
          all_goals have B2 : Hid (Below wr.heap.size wr w2) := below_drew.trans (hb2.mono (Nat.le_refl _))
          all_goals clear hb2
          all_goals have N2 : Hid (Next P w1 G c (21 * (j + 1)) S1 w2) := Next.more ⟨c1, v1, x1, F1, R1, ends1, HW1.out.below B2.out, HE1.out, HU1.out.below B2.out⟩ (by omega)
          all_goals go_wp2_with fail
          all_goals go_roundw
          all_goals first
            | (case rel => exact ⟨j + 1, by omega, rfl, by go_num, S1, N2.out⟩)
            | (case measure => simp [intOf]; omega)
            | skip
        | true =>
          have HP : Hid (playedB ⟨send, wait, disk, cut, turn⟩ kk oc = true) := hp
          have hkb := played_kind hp
          clear hp
          by_cases h10 : kk = 10
          · subst h10
            go_wp2_with fail
            go_region_with (go_at_call 13; refine (lawPlayed ⟨send, wait, disk, cut, turn⟩ ⟨10, oa, ob, oc, od, os⟩ _).mono ?_; rintro e w2 ⟨rfl, hb2⟩; simp only; rw [HP.out])
            all_goals have b2 : Below wr.heap.size wr w2 := below_drew.trans (hb2.mono (Nat.le_refl _))
            all_goals clear hb2
            all_goals have s0 := cell_later b2 r0
            all_goals have s1 := cell_later b2 r1
            all_goals have s2 := cell_later b2 r2
            all_goals have s3 := cell_later b2 r3
            all_goals have s4 := cell_later b2 r4
            all_goals have t0 := cell_later b2 c0'
            all_goals have HW2 : Hid (Whole P w2 G c1 (21 * j) v1 S1 x1 F1 R1 ends1) := HW1.out.below b2
            all_goals have HU2 : Hid (Upd (fun k => c k ≠ 0) w1 w2) := HU1.out.below b2
            all_goals clear b2
            all_goals go_wp2_with fail
            all_goals refine (HA.out _ G c1 (21 * j) v1 S1 x1 F1 R1 ends1 HW2.out (by omega)).mono ?_
            all_goals rintro e w3 ⟨rfl, h3⟩
            all_goals have N3 : Hid (Next P w1 G c (21 * (j + 1)) S1 w3) := Next.then HE1.out HU2.out h3
            all_goals clear h3
            all_goals go_wp2_with fail
            all_goals go_roundw
            all_goals first
              | (case rel => exact ⟨j + 1, by omega, rfl, by go_num, S1, N3.out⟩)
              | (case measure => simp [intOf]; omega)
              | skip
          · have n10 : (kk == 10) = false := by simp; omega
            have hk9 : 1 ≤ kk ∧ kk ≤ 9 := by omega
            clear h10 hkb
            go_wp2_with fail
            go_region_with (go_at_call 13; refine (lawPlayed ⟨send, wait, disk, cut, turn⟩ ⟨kk, oa, ob, oc, od, os⟩ _).mono ?_; rintro e w2 ⟨rfl, hb2⟩; simp only; rw [HP.out])
            all_goals have b2 : Below wr.heap.size wr w2 := below_drew.trans (hb2.mono (Nat.le_refl _))
            all_goals clear hb2
            all_goals have t0 := cell_later b2 c0'
            all_goals have t1 := cell_later b2 c1'
            all_goals have t2 := cell_later b2 c2'
            all_goals have t3 := cell_later b2 c3'
            all_goals have t4 := cell_later b2 c4'
            all_goals have t5 := cell_later b2 c5'
            all_goals have HW2 : Hid (Whole P w2 G c1 (21 * j) v1 S1 x1 F1 R1 ends1) := HW1.out.below b2
            all_goals have HU2 : Hid (Upd (fun k => c k ≠ 0) w1 w2) := HU1.out.below b2
            all_goals clear b2
            all_goals go_wp2_with fail
            all_goals refine (lawStep P _ G c1 (21 * j) v1 S1 x1 F1 R1 ends1 ⟨kk, oa, ob, oc, od, os⟩ HW2.out HSO.out hk9).mono ?_
            all_goals rintro e w3 ⟨rfl, S3, h3⟩
            all_goals have N3 : Hid (Next P w1 G c (21 * (j + 1)) S3 w3) := (Next.then HE1.out HU2.out h3).more (by omega)
            all_goals clear h3
            all_goals go_wp2_with fail
            all_goals go_roundw
            all_goals first
              | (case rel => exact ⟨j + 1, by omega, rfl, by go_num, S3, N3.out⟩)
              | (case measure => simp [intOf]; omega)
              | skip
      · obtain rfl : j = n := by omega
        go_wp2_with fail
        refine (HA.out _ G c1 (21 * j) v1 S1 x1 F1 R1 ends1 HW1.out (by omega)).mono ?_
        rintro e w3 ⟨rfl, h3⟩
        have B3 : Hid (Below w.heap.size w w3) := hbA.trans ((HZ.out w3 (Next.then HE1.out HU1.out h3).upd).mono hbA.size)
        clear h3
        go_wp2_with fail
        go_ret
        exact ⟨rfl, B3.out⟩
  · have HR : Hid (room < 0 ∨ 500 < room) := by show _ ∨ _; omega
    clear hr
    go_enter Tryz.func11, Tryz.ntmps11
    go_wp2_with fail
    generalize hWA : w.alloc _ = wa
    have hbA : Below w.heap.size w wa := by rw [← hWA]; exact below_one _ _
    clear hWA
    refine (lawBeginBad P room _ HR.out).mono ?_
    rintro e w1 ⟨rfl, hb1⟩
    have hb : Below w.heap.size w w1 := hbA.trans (hb1.mono hbA.size)
    go_wp2_with fail
    go_ret
    exact ⟨rfl, hb⟩
end Go.Proofs.YtmjdndhfmfjbiaaGreat

namespace Go.Proofs.YtmjdndhfmfjbiaaGreat
open Go.RowKit Go.Deep Go.ChangeShapes Go.WideShapes
open Go.ChangeMaps (open_string shut_string)

theorem laidOut : laidOutB Tryz.prog = true := by kernel_rfl
theorem ownZ : ownKnob Tryz.prog.godebug = none := by kernel_rfl
theorem cellsStep : Tryz.prog.cellsOf 33 = 6 := by kernel_rfl
theorem cellsInt : Tryz.prog.cellsOf 3 = 1 := by kernel_rfl
theorem cellsStr : Tryz.prog.cellsOf 9 = 1 := by kernel_rfl


theorem bulk_part {H : Type} {d : DataW H} {l : List (DataW H)} (h : d ∈ l) : Rows.uptoBulk d ≤ Rows.uptoBulkAll l := by
  induction l with
  | nil => cases h
  | cons x r ih =>
    simp only [Rows.uptoBulkAll]
    rcases List.mem_cons.1 h with e | e
    · subst e; omega
    · have := ih e; omega
theorem bulk_one {H : Type} (d : DataW H) : 1 ≤ Rows.uptoBulk d := by
  cases d with
  | lit l => cases l <;> simp [Rows.uptoBulk]
  | nil => simp [Rows.uptoBulk]
  | ptr d => simp [Rows.uptoBulk]
  | slice elems spare => simp [Rows.uptoBulk]
  | agg parts => simp [Rows.uptoBulk]
  | iface t d => simp [Rows.uptoBulk]
  | map entries => simp [Rows.uptoBulk]
  | held h => simp [Rows.uptoBulk]
theorem bulk_len {H : Type} (l : List (DataW H)) : l.length ≤ Rows.uptoBulkAll l := by
  induction l with
  | nil => simp [Rows.uptoBulkAll]
  | cons x r ih => have := bulk_one x; simp only [Rows.uptoBulkAll, List.length_cons]; omega

set_option maxRecDepth 100000 in
/-- One step of a script, opened. -/
theorem open_step {H : Type} {enc : TypeId × Value → H} {W : World} {base : Nat} {spare : Nat → Bool} {held : Bool} {fuel : Nat} {cs : List Value} {x : DataW H × List MemPlace} (h : DataW.trod enc Tryz.prog W base spare held fuel 33 cs = some x) (hk : Rows.uptoBulk x.1 ≤ 1048576) :
    ∃ o : OpD, cs = opCells o ∧ Sane o := by
  obtain ⟨xs, n, -, hx, hl, hlen, hf⟩ := DataW.trod_struct Tryz.underlying33 h
  rw [cellsStep] at hl
  match cs, hl with
  | [v0, v1, v2, v3, v4, v5], _ =>
    match xs, hlen with
    | [y0, y1, y2, y3, y4, y5], _ =>
      have f0 : DataW.trod enc Tryz.prog W base spare held n 3 (([v0, v1, v2, v3, v4, v5].drop 0).take (Tryz.prog.cellsOf 3)) = some y0 := hf 0 _ rfl
      have f1 : DataW.trod enc Tryz.prog W base spare held n 3 (([v0, v1, v2, v3, v4, v5].drop 1).take (Tryz.prog.cellsOf 3)) = some y1 := hf 1 _ rfl
      have f2 : DataW.trod enc Tryz.prog W base spare held n 3 (([v0, v1, v2, v3, v4, v5].drop 2).take (Tryz.prog.cellsOf 3)) = some y2 := hf 2 _ rfl
      have f3 : DataW.trod enc Tryz.prog W base spare held n 3 (([v0, v1, v2, v3, v4, v5].drop 3).take (Tryz.prog.cellsOf 3)) = some y3 := hf 3 _ rfl
      have f4 : DataW.trod enc Tryz.prog W base spare held n 3 (([v0, v1, v2, v3, v4, v5].drop 4).take (Tryz.prog.cellsOf 3)) = some y4 := hf 4 _ rfl
      have f5 : DataW.trod enc Tryz.prog W base spare held n 9 (([v0, v1, v2, v3, v4, v5].drop 5).take (Tryz.prog.cellsOf 9)) = some y5 := hf 5 _ rfl
      rw [cellsInt] at f0 f1 f2 f3 f4
      rw [cellsStr] at f5
      simp only [List.drop_zero, List.drop_succ_cons, List.take_succ_cons, List.take_zero] at f0 f1 f2 f3 f4 f5
      obtain ⟨n0, e0, -, w0⟩ := DataW.trod_int Tryz.underlying3 f0
      obtain ⟨n1, e1, -, w1⟩ := DataW.trod_int Tryz.underlying3 f1
      obtain ⟨n2, e2, -, w2⟩ := DataW.trod_int Tryz.underlying3 f2
      obtain ⟨n3, e3, -, w3⟩ := DataW.trod_int Tryz.underlying3 f3
      obtain ⟨n4, e4, -, w4⟩ := DataW.trod_int Tryz.underlying3 f4
      obtain ⟨s5, e5, d5, -⟩ := DataW.trod_string Tryz.underlying9 f5
      simp only [List.cons.injEq, and_true] at e0 e1 e2 e3 e4 e5
      subst e0 e1 e2 e3 e4 e5
      refine ⟨⟨n0, n1, n2, n3, n4, s5⟩, rfl, ⟨bounds_i64 w0, bounds_i64 w1, bounds_i64 w2, bounds_i64 w3, bounds_i64 w4, ?_⟩⟩
      subst hx
      have hb : Rows.uptoBulk y5.1 ≤ Rows.uptoBulkAll ([y0, y1, y2, y3, y4, y5].map (·.1)) := bulk_part (by simp)
      have e : s5.data.toList.length = s5.size := by rw [Array.length_toList]; rfl
      have h5 : Rows.uptoBulk y5.1 = s5.size + 1 := by rw [d5]; simp only [Rows.uptoBulk, e]
      simp only [Rows.uptoBulk] at hk
      show s5.size ≤ 1048576
      omega

set_option maxRecDepth 100000 in
/-- A script, opened. -/
theorem open_script {H : Type} {enc : TypeId × Value → H} {W : World} {base : Nat} {v : Value} {d : DataW H} {p : List MemPlace} (hval : Value.okWide Tryz.prog W .any base 26 v) (h : DataW.Trod enc Tryz.prog W 0 (fun _ => true) true 26 v d p) (hk : Rows.uptoBulk d ≤ 1048576) :
    ∃ ao n cap, ∃ l : List OpD, v = .slice ao n cap ∧ n ≤ 1048576 ∧ l.length = n ∧ ScriptAt W ao l ∧ ∀ o ∈ l, Sane o := by
  obtain ⟨a0, len, cap, rfl⟩ := okWide_slice Tryz.underlying26 hval
  obtain ⟨fuel, hf⟩ := h
  rcases open_slice Tryz.underlying26 hf with ⟨hcs, hx⟩ | ⟨a, len', cap', m, n, D, Pl, hcs, -, hl, hm, hmm, hx, hel⟩
  · simp [Value.cells] at hcs
    obtain ⟨rfl, rfl, rfl⟩ := hcs
    exact ⟨none, 0, 0, [], rfl, Nat.zero_le _, rfl, fun j o ho => by simp at ho, fun o ho => by simp at ho⟩
  · simp [Value.cells] at hcs
    obtain ⟨rfl, rfl, rfl⟩ := hcs
    simp only [if_true] at hmm
    subst hmm
    simp only [Prod.mk.injEq] at hx
    obtain ⟨rfl, -⟩ := hx
    simp only [Rows.uptoBulk] at hk
    have hlen : len ≤ 1048576 := by
      have := bulk_len ((List.range len).map D)
      simp only [List.length_map, List.length_range] at this
      omega
    obtain ⟨b, off, spot⟩ := a
    haveI : Inhabited OpD := ⟨⟨0, 0, 0, 0, 0, ⟨#[]⟩⟩⟩
    obtain ⟨f, hfo⟩ := choose_lt (α := OpD) (n := len) (p := fun i o => W.cells? 0 ((⟨b, off, spot⟩ : Addr).add (i * 6)) 6 = some (opCells o) ∧ Sane o) (fun i hi => by
      obtain ⟨cs', h1, h2⟩ := hel i (by omega)
      rw [cellsStep] at h1
      have hb : Rows.uptoBulk (D i) ≤ Rows.uptoBulkAll ((List.range len).map D) := bulk_part (List.mem_map_of_mem (List.mem_range.2 hi))
      obtain ⟨o, rfl, ho⟩ := open_step h2 (by show Rows.uptoBulk (D i) ≤ _; omega)
      exact ⟨o, h1, ho⟩)
    refine ⟨some ⟨b, off, spot⟩, len, m, (List.range len).map f, rfl, hlen, by simp, fun j o ho => ?_, fun o ho => ?_⟩
    · obtain ⟨hj, rfl⟩ := List.getElem?_eq_some_iff.1 ho
      simp only [List.length_map, List.length_range] at hj
      simp only [List.getElem_map, List.getElem_range]
      obtain ⟨h1, -⟩ := hfo j hj
      obtain ⟨-, -, hcell⟩ := World.cells?_some h1
      obtain ⟨h01, -⟩ := hfo 0 (by omega)
      obtain ⟨-, -, hcell0⟩ := World.cells?_some h01
      have hspot : spot = none := by
        have := World.cell?_spot (hcell0 0 (by omega))
        simpa [Addr.add] using this
      subst hspot
      refine ⟨b, off, rfl, ?_⟩
      rw [Addr.add_lit] at hcell
      have c0 := hcell 0 (by omega)
      have c1 := hcell 1 (by omega)
      have c2 := hcell 2 (by omega)
      have c3 := hcell 3 (by omega)
      have c4 := hcell 4 (by omega)
      have c5 := hcell 5 (by omega)
      rw [Addr.add_lit] at c0 c1 c2 c3 c4 c5
      exact ⟨c0, c1, c2, c3, c4, c5⟩
    · obtain ⟨i, hi, rfl⟩ := List.mem_map.1 ho
      exact (hfo i (List.mem_range.1 hi)).2

theorem small2 {H : Type} {d0 d1 : DataW H} (hk : Rows.uptoSmall H ([d0, d1] ++ []) = true) : Rows.uptoBulk d1 ≤ 1048576 := by
  have h : Rows.uptoBulkAll ([d0, d1] ++ []) ≤ 1048576 := of_decide_eq_true hk
  simp only [List.append_nil, Rows.uptoBulkAll] at h
  omega
theorem arr2z {args : Array Value} {a b : Value} (h : args.toList = [a, b]) : args = #[a, b] := by cases args; simp only at h; rw [h]
theorem arr1z {args : Array Value} {a : Value} (h : args.toList = [a]) : args = #[a] := by cases args; simp only at h; rw [h]

end Go.Proofs.YtmjdndhfmfjbiaaGreat
