import Derived.Test.YtmjdndhfmfjbiabM10
import Derived.Test.YtmjdndhfmfjbiabM09
import Derived.Laws.OwnMore
import Derived.Test.YtmjdndhfmfjbiabM02
import Derived.SizedLaws
import Derived.ChangeSlices
import Derived.Deep.Slices
/-
  heraldkeep: what is refused.
-/
namespace Go.Proofs.Ytmjdndhfmfjbiab
open Go.RowKit

theorem known0 : knownB 0 = true := by decide
theorem ref_client {S : RefS} {a : Int} (h : knownB a = false) (k b c d : Int) (s : ByteArray) (hk : k = 1 ∨ k = 2 ∨ k = 7) : doErr S ⟨k, a, b, c, d, s⟩ = 2 ∧ doS S ⟨k, a, b, c, d, s⟩ = S := by
  obtain ⟨h1, h2, -⟩ := refused (S := S) (o := ⟨k, a, b, c, d, s⟩) (e := 2) (by rcases hk with rfl | rfl | rfl <;> simp [wrongM, h]) (by omega)
  exact ⟨h1, h2⟩
theorem ref_filter {S : RefS} {y : ByteArray} (h : M.isPathM true y = false) (k b c d : Int) (hk : k = 1 ∨ k = 2) : doErr S ⟨k, 0, b, c, d, y⟩ = 4 ∧ doS S ⟨k, 0, b, c, d, y⟩ = S := by
  obtain ⟨h1, h2, -⟩ := refused (S := S) (o := ⟨k, 0, b, c, d, y⟩) (e := 4) (by rcases hk with rfl | rfl <;> simp [wrongM, h, known0]) (by omega)
  exact ⟨h1, h2⟩
theorem ref_topic {S : RefS} {y : ByteArray} (h : M.isPathM false y = false) (a b c d : Int) : doErr S ⟨3, a, b, c, d, y⟩ = 3 ∧ doS S ⟨3, a, b, c, d, y⟩ = S ∧ doAns S ⟨3, a, b, c, d, y⟩ = 0 :=
  refused (by simp [wrongM, pubErr, h]) (by omega)
theorem ref_value {S : RefS} {t : ByteArray} (h : M.isPathM false t = true) {b : Int} (hb : ¬ (0 ≤ b ∧ b < 1073741825)) (a c d : Int) : doErr S ⟨3, a, b, c, d, t⟩ = 5 ∧ doS S ⟨3, a, b, c, d, t⟩ = S ∧ doAns S ⟨3, a, b, c, d, t⟩ = 0 := by
  refine refused ?_ (by omega)
  simp only [wrongM, pubErr, h]
  by_cases h0 : b < 0
  · simp [h0]
  · have : 1073741824 < b := by omega
    simp [this]
theorem ref_delay {S : RefS} {t : ByteArray} (h : M.isPathM false t = true) {c : Int} (hc : isTimeM c = false) (a d : Int) : doErr S ⟨3, a, 1, c, d, t⟩ = 5 ∧ doS S ⟨3, a, 1, c, d, t⟩ = S ∧ doAns S ⟨3, a, 1, c, d, t⟩ = 0 :=
  refused (by simp [wrongM, pubErr, h, hc]) (by omega)
theorem ref_life {S : RefS} {t : ByteArray} (h : M.isPathM false t = true) {d : Int} (hd : isTimeM d = false) (a : Int) : doErr S ⟨3, a, 1, 0, d, t⟩ = 5 ∧ doS S ⟨3, a, 1, 0, d, t⟩ = S ∧ doAns S ⟨3, a, 1, 0, d, t⟩ = 0 := by
  have h0 : isTimeM 0 = true := by decide
  exact refused (by simp [wrongM, pubErr, h, hd, h0]) (by omega)
theorem ref_cancel {S : RefS} {b : Int} (h : findM (fun m => m.number == b) S.wait 0 = -1) (a c d : Int) (s : ByteArray) : doErr S ⟨4, a, b, c, d, s⟩ = 7 ∧ doS S ⟨4, a, b, c, d, s⟩ = S ∧ doAns S ⟨4, a, b, c, d, s⟩ = 0 :=
  refused (by simp [wrongM, noneErr, h]) (by omega)
theorem ref_move {S : RefS} {b : Int} (h : findM (fun m => m.number == b) S.wait 0 = -1) (a c d : Int) (s : ByteArray) : doErr S ⟨5, a, b, c, d, s⟩ = 7 ∧ doS S ⟨5, a, b, c, d, s⟩ = S ∧ doAns S ⟨5, a, b, c, d, s⟩ = 0 :=
  refused (by simp [wrongM, moveErr, h]) (by omega)
theorem ref_tick {S : RefS} {b : Int} (h : isTimeM b = false) (a c d : Int) (s : ByteArray) : doErr S ⟨6, a, b, c, d, s⟩ = 5 ∧ doS S ⟨6, a, b, c, d, s⟩ = S ∧ doAns S ⟨6, a, b, c, d, s⟩ = 0 :=
  refused (by simp [wrongM, tickErr, h]) (by omega)

set_option maxRecDepth 100000 in
set_option maxHeartbeats 4000000 in
theorem keepClients {w0 w w1 : World} {H : Nat} {F : Nat → Prop} {S : RefS} (n k : Int) (raw : ByteArray) (hn0 : -9223372036854775808 ≤ n) (hn1 : n ≤ 9223372036854775807) (hk0 : -9223372036854775808 ≤ k) (hk1 : k ≤ 9223372036854775807) (hr : raw.size ≤ maxLen) (h : MineStep w0 w H F S w1) :
    Calls Try.prog 38 #[.pointer (some ⟨H, 0, none⟩), .int .i64 n, .int .i64 k, .string raw] w1 fun e w' => e = .returned (.bool true) ∧ MineStep w0 w H F S w' := by
  have M0 : Hid (MineStep w0 w H F S w1) := h
  have hu := out_unknown n
  clear h
  go_enter Try.func38, Try.ntmps38
  go_wp2_with fail
  refine (keepOutside n 8 _ hn0 hn1 (by omega) (by omega)).mono ?_
  rintro e w1 ⟨rfl, rfl⟩
  generalize outM n 8 = c at *
  have HC : Hid (∀ k b c' d s, (k = 1 ∨ k = 2 ∨ k = 7) → doErr S ⟨k, c, b, c', d, s⟩ = 2 ∧ doS S ⟨k, c, b, c', d, s⟩ = S) := fun k b c' d s hk => ref_client hu k b c' d s hk
  have HFL : Hid (filtersM S c = []) := by show _ = _; unfold filtersM; rw [hu]; rfl
  have HQU : Hid (queueM S c = []) := by show _ = _; unfold queueM; rw [hu]; rfl
  have HLO : Hid (lostM S c = 0) := by show _ = _; unfold lostM; rw [hu]; rfl
  clear hu
  go_wp2_with fail
  refine (textFilter raw _ hr).mono ?_
  rintro e w2 ⟨⟨f, rfl, hf, -⟩, hb2⟩
  have hfs : f.size ≤ 1048576 := Nat.le_trans (path15 hf) (by omega)
  have M2 : Hid (MineStep w0 w H F S w2) := M0.out.below hb2
  clear hf hb2
  go_wp2_with fail
  refine (stepSub c 0 0 0 ⟨#[33]⟩ M2.out (by show 1 ≤ _; omega)).mono ?_
  rintro e w3 ⟨rfl, hm3⟩
  rw [(HC.out 1 0 0 0 ⟨#[33]⟩ (by omega)).1]
  rw [(HC.out 1 0 0 0 ⟨#[33]⟩ (by omega)).2] at hm3
  have M3 : Hid (MineStep w0 w H F S w3) := hm3
  clear hm3
  go_wp2_with fail
  refine (stepUnsub c 0 0 0 f M3.out hfs).mono ?_
  rintro e w4 ⟨rfl, hm4⟩
  rw [(HC.out 2 0 0 0 f (by omega)).1]
  rw [(HC.out 2 0 0 0 f (by omega)).2] at hm4
  have M4 : Hid (MineStep w0 w H F S w4) := hm4
  clear hm4
  go_wp2_with fail
  refine (stepAck c k 0 0 ⟨#[]⟩ M4.out (Nat.zero_le _)).mono ?_
  rintro e w5 ⟨rfl, hm5⟩
  rw [(HC.out 7 k 0 0 ⟨#[]⟩ (by omega)).1]
  rw [(HC.out 7 k 0 0 ⟨#[]⟩ (by omega)).2] at hm5
  have M5 : Hid (MineStep w0 w H F S w5) := hm5
  clear hm5
  go_wp2_with fail
  refine (keepNone k _ hk0 hk1).mono ?_
  rintro e w6 ⟨⟨y, rfl, hy1, hy2, hy3⟩, hb6⟩
  have M6 : Hid (MineStep w0 w H F S w6) := M5.out.below hb6
  have Y1 : Hid (doErr S ⟨1, 0, 0, 0, 0, y⟩ = 4 ∧ doS S ⟨1, 0, 0, 0, 0, y⟩ = S) := ref_filter hy1 1 0 0 0 (by omega)
  clear hy1 hy2 hb6
  go_wp2_with fail
  refine (stepSub 0 0 0 0 y M6.out (by omega)).mono ?_
  rintro e w7 ⟨rfl, hm7⟩
  rw [Y1.out.1]
  rw [Y1.out.2] at hm7
  have M7 : Hid (MineStep w0 w H F S w7) := hm7
  clear hm7
  go_wp2_with fail
  refine (keepNone k _ hk0 hk1).mono ?_
  rintro e w8 ⟨⟨z, rfl, hz1, hz2, hz3⟩, hb8⟩
  have M8 : Hid (MineStep w0 w H F S w8) := M7.out.below hb8
  have Z1 : Hid (doErr S ⟨2, 0, 0, 0, 0, z⟩ = 4 ∧ doS S ⟨2, 0, 0, 0, 0, z⟩ = S) := ref_filter hz1 2 0 0 0 (by omega)
  clear hz1 hz2 hb8
  go_wp2_with fail
  refine (stepUnsub 0 0 0 0 z M8.out (by omega)).mono ?_
  rintro e w9 ⟨rfl, hm9⟩
  rw [Z1.out.1]
  rw [Z1.out.2] at hm9
  have M9 : Hid (MineStep w0 w H F S w9) := hm9
  clear hm9
  go_wp2_with fail
  refine (mineFilters c M9.out.mine).mono ?_
  rintro e w10 ⟨v, rfl, ho10, hb10⟩
  rw [HFL.out] at ho10
  obtain ⟨af, cf, rfl, -, -, -⟩ := Row.form (row_of_own (w := w9) ho10 nilV).1
  have M10 : Hid (MineStep w0 w H F S w10) := M9.out.below hb10
  clear ho10 hb10
  go_wp2_with fail
  refine (mineQueue c M10.out.mine).mono ?_
  rintro e w11 ⟨v, rfl, ho11, hb11⟩
  rw [HQU.out] at ho11
  obtain ⟨aq, cq, rfl, -, -, -⟩ := Row.form (row_of_own (w := w10) ho11 nilV).1
  have M11 : Hid (MineStep w0 w H F S w11) := M10.out.below hb11
  clear ho11 hb11
  go_wp2_with fail
  refine (mineLost c M11.out.mine).mono ?_
  rintro e w11 ⟨rfl, rfl⟩
  rw [HLO.out]
  go_wp2_with fail
  go_ret
  exact ⟨rfl, M11.out⟩

set_option maxRecDepth 100000 in
set_option maxHeartbeats 4000000 in
theorem keepMessages {w0 w w1 : World} {H : Nat} {F : Nat → Prop} {S : RefS} (n k : Int) (raw : ByteArray) (hn0 : -9223372036854775808 ≤ n) (hn1 : n ≤ 9223372036854775807) (hk0 : -9223372036854775808 ≤ k) (hk1 : k ≤ 9223372036854775807) (hr : raw.size ≤ maxLen) (h : MineStep w0 w H F S w1) :
    Calls Try.prog 39 #[.pointer (some ⟨H, 0, none⟩), .int .i64 n, .int .i64 k, .string raw] w1 fun e w' => e = .returned (.bool true) ∧ MineStep w0 w H F S w' := by
  have M0 : Hid (MineStep w0 w H F S w1) := h
  have hfar := far_none h.mine n
  have hval := out_not (c := n) (n := 1073741825)
  have htime := out_time n
  clear h
  go_enter Try.func39, Try.ntmps39
  go_wp2_with fail
  refine (textTopic raw _ hr).mono ?_
  rintro e w2 ⟨⟨t, rfl, ht, -⟩, hb2⟩
  have hts : t.size ≤ 1048576 := Nat.le_trans (path15 ht) (by omega)
  have M2 : Hid (MineStep w0 w H F S w2) := M0.out.below hb2
  clear hb2
  go_wp2_with fail
  refine (keepOutside n 1073741825 _ hn0 hn1 (by omega) (by omega)).mono ?_
  rintro e w2 ⟨rfl, rfl⟩
  generalize outM n 1073741825 = v at *
  go_wp2_with fail
  refine (keepOutside n 1099511627777 _ hn0 hn1 (by omega) (by omega)).mono ?_
  rintro e w2 ⟨rfl, rfl⟩
  generalize outM n 1099511627777 = late at *
  have R1 : Hid (doErr S ⟨3, 0, 1, 0, 0, ⟨#[43]⟩⟩ = 3 ∧ doS S ⟨3, 0, 1, 0, 0, ⟨#[43]⟩⟩ = S ∧ doAns S ⟨3, 0, 1, 0, 0, ⟨#[43]⟩⟩ = 0) := ref_topic (by rw [M.isPath_L]; decide) 0 1 0 0
  have R2 : Hid (doErr S ⟨3, 0, v, 0, 0, t⟩ = 5 ∧ doS S ⟨3, 0, v, 0, 0, t⟩ = S ∧ doAns S ⟨3, 0, v, 0, 0, t⟩ = 0) := ref_value ht hval 0 0 0
  have R3 : Hid (doErr S ⟨3, 0, 1, late, 0, t⟩ = 5 ∧ doS S ⟨3, 0, 1, late, 0, t⟩ = S ∧ doAns S ⟨3, 0, 1, late, 0, t⟩ = 0) := ref_delay ht htime 0 0
  have R4 : Hid (doErr S ⟨3, 0, 1, 0, late, t⟩ = 5 ∧ doS S ⟨3, 0, 1, 0, late, t⟩ = S ∧ doAns S ⟨3, 0, 1, 0, late, t⟩ = 0) := ref_life ht htime 0
  have R5 : Hid (doErr S ⟨6, 0, late, 0, 0, ⟨#[]⟩⟩ = 5 ∧ doS S ⟨6, 0, late, 0, 0, ⟨#[]⟩⟩ = S ∧ doAns S ⟨6, 0, late, 0, 0, ⟨#[]⟩⟩ = 0) := ref_tick htime 0 0 0 ⟨#[]⟩
  have HFAR : Hid (findM (fun m => m.number == outM n 500) S.wait 0 = -1) := hfar
  clear ht hval htime hfar
  go_wp2_with fail
  refine (keepNone k _ hk0 hk1).mono ?_
  rintro e w3 ⟨⟨y, rfl, hy1, hy2, hy3⟩, hb3⟩
  have M3 : Hid (MineStep w0 w H F S w3) := M2.out.below hb3
  have Y1 : Hid (doErr S ⟨3, 0, v, 0, 0, y⟩ = 3 ∧ doS S ⟨3, 0, v, 0, 0, y⟩ = S ∧ doAns S ⟨3, 0, v, 0, 0, y⟩ = 0) := ref_topic hy2 0 v 0 0
  clear hy1 hy2 hb3
  go_wp2_with fail
  refine (stepPub 0 v 0 0 y M3.out (by omega)).mono ?_
  rintro e w4 ⟨rfl, hm4⟩
  rw [Y1.out.1, Y1.out.2.2]
  rw [Y1.out.2.1] at hm4
  have M4 : Hid (MineStep w0 w H F S w4) := hm4
  clear hm4
  go_wp2_with fail
  refine (stepPub 0 1 0 0 ⟨#[43]⟩ M4.out (by show 1 ≤ _; omega)).mono ?_
  rintro e w5 ⟨rfl, hm5⟩
  rw [R1.out.1, R1.out.2.2]
  rw [R1.out.2.1] at hm5
  have M5 : Hid (MineStep w0 w H F S w5) := hm5
  clear hm5
  go_wp2_with fail
  refine (stepPub 0 v 0 0 t M5.out hts).mono ?_
  rintro e w6 ⟨rfl, hm6⟩
  rw [R2.out.1, R2.out.2.2]
  rw [R2.out.2.1] at hm6
  have M6 : Hid (MineStep w0 w H F S w6) := hm6
  clear hm6
  go_wp2_with fail
  refine (stepPub 0 1 late 0 t M6.out hts).mono ?_
  rintro e w7 ⟨rfl, hm7⟩
  rw [R3.out.1, R3.out.2.2]
  rw [R3.out.2.1] at hm7
  have M7 : Hid (MineStep w0 w H F S w7) := hm7
  clear hm7
  go_wp2_with fail
  refine (stepPub 0 1 0 late t M7.out hts).mono ?_
  rintro e w8 ⟨rfl, hm8⟩
  rw [R4.out.1, R4.out.2.2]
  rw [R4.out.2.1] at hm8
  have M8 : Hid (MineStep w0 w H F S w8) := hm8
  clear hm8
  go_wp2_with fail
  refine (keepOutside n 500 _ hn0 hn1 (by omega) (by omega)).mono ?_
  rintro e w8 ⟨rfl, rfl⟩
  generalize outM n 500 = far at *
  have R6 : Hid (doErr S ⟨4, 0, far, 0, 0, ⟨#[]⟩⟩ = 7 ∧ doS S ⟨4, 0, far, 0, 0, ⟨#[]⟩⟩ = S ∧ doAns S ⟨4, 0, far, 0, 0, ⟨#[]⟩⟩ = 0) := ref_cancel HFAR.out 0 0 0 ⟨#[]⟩
  have R7 : Hid (doErr S ⟨5, 0, far, 0, 0, ⟨#[]⟩⟩ = 7 ∧ doS S ⟨5, 0, far, 0, 0, ⟨#[]⟩⟩ = S ∧ doAns S ⟨5, 0, far, 0, 0, ⟨#[]⟩⟩ = 0) := ref_move HFAR.out 0 0 0 ⟨#[]⟩
  go_wp2_with fail
  refine (stepCancel 0 far 0 0 ⟨#[]⟩ M8.out (Nat.zero_le _)).mono ?_
  rintro e w9 ⟨rfl, hm9⟩
  rw [R6.out.1]
  rw [R6.out.2.1] at hm9
  have M9 : Hid (MineStep w0 w H F S w9) := hm9
  clear hm9
  go_wp2_with fail
  refine (stepMove 0 far 0 0 ⟨#[]⟩ M9.out (Nat.zero_le _)).mono ?_
  rintro e w10 ⟨rfl, hm10⟩
  rw [R7.out.1]
  rw [R7.out.2.1] at hm10
  have M10 : Hid (MineStep w0 w H F S w10) := hm10
  clear hm10
  go_wp2_with fail
  refine (stepTick 0 late 0 0 ⟨#[]⟩ M10.out (Nat.zero_le _)).mono ?_
  rintro e w11 ⟨rfl, hm11⟩
  rw [R5.out.1]
  rw [R5.out.2.1] at hm11
  have M11 : Hid (MineStep w0 w H F S w11) := hm11
  clear hm11
  go_wp2_with fail
  go_ret
  exact ⟨rfl, M11.out⟩
end Go.Proofs.Ytmjdndhfmfjbiab

namespace Go.Proofs.Ytmjdndhfmfjbiab
open Go.RowKit

theorem look_good {w0 w : World} {H : Nat} {F : Nat → Prop} {S : RefS} (h : MineF w0 w H F S) : LookFew (lookM S) := by
  obtain ⟨fl, hlk⟩ := h.lk
  exact look_few h.mine.good (waiting_len hlk)

set_option maxRecDepth 100000 in
set_option maxHeartbeats 8000000 in
theorem refusedWalk (l : List StepD) (ao : Option Addr) (m cap : Nat) (n k : Int) (raw : ByteArray) (back : Int) (w : World) (hl : l.length = m) (hm : m ≤ 9223372036854775807) (hsc : StepsAt w ao l) (hok : ∀ o ∈ l, StepOk o)
    (hn0 : -9223372036854775808 ≤ n) (hn1 : n ≤ 9223372036854775807) (hk0 : -9223372036854775808 ≤ k) (hk1 : k ≤ 9223372036854775807) (hr : raw.size ≤ maxLen) (hb0 : -9223372036854775808 ≤ back) (hb1 : back ≤ 9223372036854775807) :
    Calls Try.prog 7 #[.slice ao m cap, .int .i64 n, .int .i64 k, .string raw, .int .i64 back] w fun e w' => e = .returned (.bool true) ∧ Below w.heap.size w w' := by
  have HARG : Hid (l.length = m ∧ StepsAt w ao l ∧ ∀ o ∈ l, StepOk o) := ⟨hl, hsc, hok⟩
  clear hl hsc hok
  go_enter Try.func7, Try.ntmps7
  go_wp2_with fail
  refine (keepReplayed l ao m cap m w HARG.out.1 hm HARG.out.2.1 HARG.out.2.2).mono ?_
  rintro e w1 ⟨H, rfl, hm1⟩
  generalize runS (refNew 500) (l.take m) = S at *
  obtain ⟨F, hm1⟩ := hm1.mineF
  have M1 : Hid (MineF w w1 H F S) := hm1
  have HFL : Hid (∀ g, F g → g < w1.heap.size) := fun g hg => hm1.lt hg
  have HLF : Hid (LookFew (lookM S)) := look_good hm1
  have ht0 := hm1.mine.good.inv.time0
  have ht1 := hm1.mine.good.inv.time1
  clear hm1
  go_wp2_with fail
  refine (mineDisk M1.out.mine).mono ?_
  rintro e w1 ⟨rfl, rfl⟩
  generalize hdk : cat (S.done.map recOf) = dk
  have HDK : Hid (cat (S.done.map recOf) = dk) := hdk
  clear hdk
  go_wp2_with fail
  refine (keepLook M1.out.mine).mono ?_
  rintro e w2 ⟨v, rfl, hl2, hb2⟩
  obtain ⟨fv, qv, lv, wv, FV, QV, rfl, hli⟩ := hl2
  obtain ⟨xa, xc, rfl, -, -, -⟩ := hli.fil.form
  obtain ⟨ya, yc, rfl, -, -, -⟩ := hli.que.form
  obtain ⟨za, zc, rfl, -, -, -⟩ := hli.lost.form
  obtain ⟨ua, uc, rfl, -, -, -⟩ := hli.wait.form
  have HL2 : Hid (LookIn w2 w1.heap.size w2.heap.size (lookM S) (.slice xa 8 xc) (.slice ya 8 yc) (.slice za 8 zc) (.slice ua (lookM S).wait.length uc) FV QV) := hli
  have M2 : Hid (MineF w w2 H F S) := M1.out.below hb2
  have hs2 : w1.heap.size ≤ w2.heap.size := hb2.size
  have HNO : Hid (¬ F w2.heap.size) := fun hf => by have := HFL.out _ hf; omega
  clear hb2 hli
  have hlt : (lookM S).time = S.time := rfl
  rw [hlt]
  clear hlt
  generalize hrc : (lookM S).recs = rc at *
  have HRC : Hid ((lookM S).recs = rc) := hrc
  clear hrc
  generalize hwl : (lookM S).wait.length = wl at *
  have HWL : Hid ((lookM S).wait.length = wl) := hwl
  clear hwl
  go_wp2_with fail
  generalize hwA : w2.alloc _ = wA
  have hh : wA.heap[w2.heap.size]? = some (.cells #[.int .i64 S.time, .slice xa 8 xc, .slice ya 8 yc, .slice za 8 zc, .slice ua wl uc, .int .i64 rc] 70 (0, 0)) := by rw [← hwA]; exact heap_alloc_new w2 _
  have hbA : Below w2.heap.size w2 wA := by rw [← hwA]; exact below_one _ _
  have HCA : Hid (∀ j u, #[Value.int .i64 S.time, .slice xa 8 xc, .slice ya 8 yc, .slice za 8 zc, .slice ua wl uc, .int .i64 rc][j]? = some u → wA.cell? ⟨w2.heap.size, j, none⟩ = some u) := fun j u hj => by rw [cell_of_row _ w2.heap.size j _ _ (0, 0) hh]; exact hj
  have MA : Hid (MineStep w wA H F S wA) := MineStep.refl (M2.out.below hbA)
  have LA : Hid (LookIn wA w1.heap.size w2.heap.size (lookM S) (.slice xa 8 xc) (.slice ya 8 yc) (.slice za 8 zc) (.slice ua wl uc) FV QV) := HL2.out.below hbA
  clear hwA hh hbA
  refine (keepClients n k raw hn0 hn1 hk0 hk1 hr MA.out).mono ?_
  rintro e w4 ⟨rfl, hm4⟩
  have M4 : Hid (MineStep w wA H F S w4) := hm4
  clear hm4
  go_wp2_with fail
  refine (keepMessages n k raw hn0 hn1 hk0 hk1 hr M4.out).mono ?_
  rintro e w5 ⟨rfl, hm5⟩
  have M5 : Hid (MineStep w wA H F S w5) := hm5
  have c50 : w5.cell? ⟨w2.heap.size, 0, none⟩ = some (.int .i64 S.time) := hm5.cell (p := ⟨w2.heap.size, 0, none⟩) (HCA.out 0 _ rfl) HNO.out
  clear hm5
  go_wp2_with fail
  refine (keepPick back (S.time + 1) _ hb0 hb1 (by omega) (by omega)).mono ?_
  rintro e w5 ⟨rfl, rfl⟩
  have hpk := pick_bd back (S.time + 1) (by omega)
  generalize pickM back (S.time + 1) = p at *
  obtain ⟨t1, t2⟩ := tick_still (S := S) (b := p) 0 0 0 ⟨#[]⟩ (by omega) (by omega) (by omega)
  have T1 : Hid (doErr S ⟨6, 0, p, 0, 0, ⟨#[]⟩⟩ = 0) := t1
  have T2 : Hid (doS S ⟨6, 0, p, 0, 0, ⟨#[]⟩⟩ = S) := t2
  clear t1 t2 c50
  go_wp2_with fail
  refine (stepTick 0 p 0 0 ⟨#[]⟩ M5.out (Nat.zero_le _)).mono ?_
  rintro e w6 ⟨rfl, hm6⟩
  rw [T1.out]
  rw [T2.out] at hm6
  have M6 : Hid (MineStep w wA H F S w6) := hm6
  clear hm6
  go_wp2_with fail
  refine (keepNone k _ hk0 hk1).mono ?_
  rintro e w7 ⟨⟨y, rfl, hy1, hy2, hy3⟩, hb7⟩
  have M7 : Hid (MineStep w wA H F S w7) := M6.out.below hb7
  have Y1 : Hid (M.fitsE y ⟨#[97]⟩ = 4) := by simp [Hid, M.fitsE, hy1]
  have hym : y.size ≤ maxLen := by unfold maxLen; omega
  clear hy1 hy2 hb7
  go_wp2_with fail
  refine (heraldFits y ⟨#[97]⟩ _ hym (by unfold maxLen; show 1 ≤ _; omega)).mono ?_
  rintro e w8 ⟨rfl, hb8⟩
  rw [Y1.out]
  have M8 : Hid (MineStep w wA H F S w8) := M7.out.below hb8
  clear hb8
  go_wp2_with fail
  refine (keepNone k _ hk0 hk1).mono ?_
  rintro e w9 ⟨⟨z, rfl, hz1, hz2, hz3⟩, hb9⟩
  have M9 : Hid (MineStep w wA H F S w9) := M8.out.below hb9
  have Z1 : Hid (M.fitsE ⟨#[35]⟩ z = 3) := by simp [Hid, M.fitsE, hash_ok, hz2]
  have hzm : z.size ≤ maxLen := by unfold maxLen; omega
  clear hz1 hz2 hb9
  go_wp2_with fail
  refine (heraldFits ⟨#[35]⟩ z _ (by unfold maxLen; show 1 ≤ _; omega) hzm).mono ?_
  rintro e w10 ⟨rfl, hb10⟩
  rw [Z1.out]
  have M10 : Hid (MineStep w wA H F S w10) := M9.out.below hb10
  clear hb10
  go_wp2_with fail
  refine (keepLook M10.out.mine).mono ?_
  rintro e w11 ⟨v, rfl, hl11, hb11⟩
  obtain ⟨fv', qv', lv', wv', FV', QV', rfl, hli⟩ := hl11
  obtain ⟨xa', xc', rfl, -, -, -⟩ := hli.fil.form
  obtain ⟨ya', yc', rfl, -, -, -⟩ := hli.que.form
  obtain ⟨za', zc', rfl, -, -, -⟩ := hli.lost.form
  obtain ⟨ua', uc', rfl, -, -, -⟩ := hli.wait.form
  rw [HWL.out] at hli
  have L11 : Hid (LookIn w11 w10.heap.size w11.heap.size (lookM S) (.slice xa' 8 xc') (.slice ya' 8 yc') (.slice za' 8 zc') (.slice ua' wl uc') FV' QV') := hli
  have M11 : Hid (MineStep w wA H F S w11) := M10.out.below hb11
  have hlt : (lookM S).time = S.time := rfl
  rw [hlt, HRC.out, HWL.out]
  clear hlt hli hb11
  have MB : Hid (∀ ob, Mine w (w11.alloc ob) H S) := fun ob => M11.out.mine.below (below_one _ _)
  go_wp2_with fail
  refine (mineDisk (MB.out _)).mono ?_
  rintro e w12 ⟨rfl, hw12⟩
  rw [HDK.out]
  have hh : w12.heap[w11.heap.size]? = some (.cells #[.int .i64 S.time, .slice xa' 8 xc', .slice ya' 8 yc', .slice za' 8 zc', .slice ua' wl uc', .int .i64 rc] 70 (0, 0)) := by rw [hw12]; exact heap_alloc_new w11 _
  have hbB : Below w11.heap.size w11 w12 := by rw [hw12]; exact below_one _ _
  have M12 : Hid (MineStep w wA H F S w12) := M11.out.below hbB
  have L12 : Hid (LookIn w12 w10.heap.size w11.heap.size (lookM S) (.slice xa' 8 xc') (.slice ya' 8 yc') (.slice za' 8 zc') (.slice ua' wl uc') FV' QV') := L11.out.below hbB
  have LA12 : Hid (LookIn w12 w1.heap.size w2.heap.size (lookM S) (.slice xa 8 xc) (.slice ya 8 yc) (.slice za 8 zc) (.slice ua wl uc) FV QV) := LA.out.upd M12.out.upd (fun g hg => .inl (HFL.out g hg))
  have a0 : w12.cell? ⟨w2.heap.size, 0, none⟩ = some (.int .i64 S.time) := M12.out.cell (p := ⟨w2.heap.size, 0, none⟩) (HCA.out 0 _ rfl) HNO.out
  have a1 : w12.cell? ⟨w2.heap.size, 1, none⟩ = some (.slice xa 8 xc) := M12.out.cell (p := ⟨w2.heap.size, 1, none⟩) (HCA.out 1 _ rfl) HNO.out
  have a2 : w12.cell? ⟨w2.heap.size, 2, none⟩ = some (.slice ya 8 yc) := M12.out.cell (p := ⟨w2.heap.size, 2, none⟩) (HCA.out 2 _ rfl) HNO.out
  have a3 : w12.cell? ⟨w2.heap.size, 3, none⟩ = some (.slice za 8 zc) := M12.out.cell (p := ⟨w2.heap.size, 3, none⟩) (HCA.out 3 _ rfl) HNO.out
  have a4 : w12.cell? ⟨w2.heap.size, 4, none⟩ = some (.slice ua wl uc) := M12.out.cell (p := ⟨w2.heap.size, 4, none⟩) (HCA.out 4 _ rfl) HNO.out
  have a5 : w12.cell? ⟨w2.heap.size, 5, none⟩ = some (.int .i64 rc) := M12.out.cell (p := ⟨w2.heap.size, 5, none⟩) (HCA.out 5 _ rfl) HNO.out
  have b0 : w12.cell? ⟨w11.heap.size, 0, none⟩ = some (.int .i64 S.time) := cell_of_row _ w11.heap.size 0 _ _ (0, 0) hh
  have b1 : w12.cell? ⟨w11.heap.size, 1, none⟩ = some (.slice xa' 8 xc') := cell_of_row _ w11.heap.size 1 _ _ (0, 0) hh
  have b2 : w12.cell? ⟨w11.heap.size, 2, none⟩ = some (.slice ya' 8 yc') := cell_of_row _ w11.heap.size 2 _ _ (0, 0) hh
  have b3 : w12.cell? ⟨w11.heap.size, 3, none⟩ = some (.slice za' 8 zc') := cell_of_row _ w11.heap.size 3 _ _ (0, 0) hh
  have b4 : w12.cell? ⟨w11.heap.size, 4, none⟩ = some (.slice ua' wl uc') := cell_of_row _ w11.heap.size 4 _ _ (0, 0) hh
  have b5 : w12.cell? ⟨w11.heap.size, 5, none⟩ = some (.int .i64 rc) := cell_of_row _ w11.heap.size 5 _ _ (0, 0) hh
  have HAL : Hid (Calls Try.prog 33 #[.agg #[.int .i64 S.time, .slice xa 8 xc, .slice ya 8 yc, .slice za 8 zc, .slice ua wl uc, .int .i64 rc], .agg #[.int .i64 S.time, .slice xa' 8 xc', .slice ya' 8 yc', .slice za' 8 zc', .slice ua' wl uc', .int .i64 rc]] w12 fun e w' => e = .returned (.bool true) ∧ Below w12.heap.size w12 w') :=
    keepAlike (lookM S) HLF.out _ _ w12 _ _ _ _ ⟨_, _, _, _, FV, QV, by rw [HRC.out]; rfl, LA12.out⟩ ⟨_, _, _, _, FV', QV', by rw [HRC.out]; rfl, L12.out⟩
  clear hw12 hh hbB
  go_wp2_with fail
  refine HAL.out.mono ?_
  rintro e w13 ⟨rfl, hb13⟩
  have HB13 : Hid (Below w.heap.size w w13) := (M12.out.mine.below hb13).out
  clear hb13
  go_wp2_with fail
  go_ret
  exact ⟨rfl, HB13.out⟩
end Go.Proofs.Ytmjdndhfmfjbiab

/-
  heraldkeep.played, same: scripts on one broker, on two.
-/
namespace Go.Proofs.Ytmjdndhfmfjbiab
open Go.RowKit

theorem MineF.base {w0 w1 w : World} {H : Nat} {F : Nat → Prop} {S : RefS} (h : MineF w1 w H F S) (hb : Below w0.heap.size w0 w1) : MineF w0 w H F S := by
  obtain ⟨R, hp, hF, hbw, hg⟩ := h
  exact ⟨R, hp, fun k hk => Nat.le_trans hb.size (hF k hk), hb.trans (hbw.mono hb.size), hg⟩
theorem MineF.good {w0 w : World} {H : Nat} {F : Nat → Prop} {S : RefS} (h : MineF w0 w H F S) : Good S := h.mine.good
theorem MineF.low {w0 w : World} {H : Nat} {F : Nat → Prop} {S : RefS} {k : Nat} (h : MineF w0 w H F S) (hk : F k) : w0.heap.size ≤ k := by
  obtain ⟨R, hp, hF, -⟩ := h
  exact hF k hk
theorem disk_size {w0 w : World} {H : Nat} {S : RefS} (h : Mine w0 w H S) : (cat (S.done.map recOf)).size = 42 * S.done.length := by
  obtain ⟨F, R, ⟨x, fil, wait, hb, -⟩, -, -, -⟩ := h
  have := hb.size
  rw [hb.recs] at this
  exact this
def doneN (l : List StepD) (i : Nat) : Nat := (runS (refNew 500) (l.take i)).done.length
def endAt (l : List StepD) (i : Nat) : Int := ((42 * doneN l i : Nat) : Int)
def endsV (l : List StepD) (n : Nat) : List Value := (List.range n).map (fun i => Value.int .i64 (endAt l i))
theorem ends_next (l : List StepD) (n : Nat) : endsV l (n + 1) = endsV l n ++ [Value.int .i64 (endAt l n)] := by unfold endsV; rw [List.range_succ, List.map_append]; rfl

set_option maxRecDepth 100000 in
set_option maxHeartbeats 4000000 in
theorem keepPlayed (l : List StepD) (ao : Option Addr) (m cap : Nat) (w : World) (hl : l.length = m) (hm : m ≤ 2600000000000) (hsc : StepsAt w ao l) (hok : ∀ o ∈ l, StepOk o) :
    Calls Try.prog 28 #[.slice ao m cap] w fun e w' => ∃ H F v, e = .returned (.tuple #[.pointer (some ⟨H, 0, none⟩), v]) ∧ MineF w w' H F (runS (refNew 500) l) ∧ w'.ownsRow w.heap.size 3 1 v (m + 1) (endsV l (m + 1)) ∧ ∀ g, v.ownBlock = some g → ¬ F g := by
  obtain ⟨i0, hi, hz0, hz1, hz2⟩ := info_parts infoNum
  have HL : Hid (l.length = m) := hl
  have HSC : Hid (StepsAt w ao l) := hsc
  have HOK : Hid (∀ o ∈ l, StepOk o) := hok
  clear hl hsc hok
  go_enter Try.func28, Try.ntmps28
  go_wp2_with fail
  refine (mineOpened 500 w (by omega) (by omega)).mono ?_
  rintro e w1 ⟨H, rfl, hm1⟩
  obtain ⟨F1, hm1⟩ := hm1.mineF
  have M1 : Hid (MineF w w1 H F1 (refNew 500)) := hm1
  clear hm1
  go_wp2_with fail
  refine (mineDisk M1.out.mine).mono ?_
  rintro e w1 ⟨rfl, rfl⟩
  have hd0 : cat ((refNew 500).done.map recOf) = ⟨#[]⟩ := rfl
  rw [hd0]
  clear hd0
  have hs1 : w.heap.size ≤ w1.heap.size := M1.out.mine.out.size
  have O1 : Hid ((w1.alloc (.cells #[Value.int .i64 0] 3)).ownsRow w.heap.size 3 1 (.slice (some ⟨w1.heap.size, 0, none⟩) 1 1) 1 (endsV l 1)) :=
    World.ownsRow_lit w1 #[Value.int .i64 0] 1 hs1 (by unfold maxLen; omega) rfl
  have M1' : Hid (MineF w (w1.alloc (.cells #[Value.int .i64 0] 3)) H F1 (refNew 500)) := M1.out.below (below_one _ _)
  have A1 : Hid (∀ g, (Value.slice (some ⟨w1.heap.size, 0, none⟩) 1 1).ownBlock = some g → ¬ F1 g) := fun g hg hf => by
    simp [Value.ownBlock] at hg
    have := M1.out.lt hf
    omega
  go_wp2_with fail
  go_loopw [5, 6, 7] (fun dv v i wr => ∃ (k : Nat) (F : Nat → Prop) (s : ByteArray), k ≤ m ∧ i = .int .i64 (k : Int) ∧ dv = .string s ∧ MineF w wr H F (runS (refNew 500) (l.take k)) ∧ wr.ownsRow w.heap.size 3 1 v (k + 1) (endsV l (k + 1)) ∧ ∀ g, v.ownBlock = some g → ¬ F g) (fun _ _ i _ => m - (intOf i).toNat)
  case atStart => exact ⟨0, F1, _, Nat.zero_le _, rfl, rfl, M1'.out, O1.out, A1.out⟩
  case round =>
    obtain ⟨k, F, s, hkm, rfl, rfl, hM, hown, hap⟩ := hrel
    have MM : Hid (MineF w wr H F (runS (refNew 500) (l.take k))) := hM
    have HAP : Hid _ := hap
    obtain ⟨av, cv, rfl, -, -, -⟩ := Row.form (own_mono hown (Nat.zero_le _))
    have HOW : Hid (wr.ownsRow w.heap.size 3 1 (.slice av (k + 1) cv) (k + 1) (endsV l (k + 1))) := hown
    clear hM hap hown
    by_cases hlt : k < m
    · obtain ⟨o, ho⟩ : ∃ o, l[k]? = some o := ⟨_, List.getElem?_eq_getElem (by rw [HL.out]; exact hlt)⟩
      have HO : Hid (StepOk o) := HOK.out o (List.mem_of_getElem? ho)
      obtain ⟨gs, off, rfl, e0, e1, e2, e3, e4, e5⟩ := HSC.out k o ho
      have f0 := cell_later MM.out.mine.out e0
      have f1 := cell_later MM.out.mine.out e1
      have f2 := cell_later MM.out.mine.out e2
      have f3 := cell_later MM.out.mine.out e3
      have f4 := cell_later MM.out.mine.out e4
      have f5 := cell_later MM.out.mine.out e5
      have HN : Hid (runS (refNew 500) (l.take (k + 1)) = goS (runS (refNew 500) (l.take k)) o) := run_next ho
      clear ho e0 e1 e2 e3 e4 e5
      go_wp2_with fail
      refine (keepDo o HO.out MM.out).mono ?_
      rintro e w2 ⟨rfl, F2, hm2, hu2, hF2, hk2⟩
      rw [← HN.out] at hm2
      have M2 : Hid (MineF w w2 H F2 (runS (refNew 500) (l.take (k + 1)))) := hm2
      have HO2 : Hid (w2.ownsRow w.heap.size 3 1 (.slice av (k + 1) cv) (k + 1) (endsV l (k + 1))) := own_upd HOW.out hu2 (fun g hg hf => HAP.out g hg hf)
      have AP2 : Hid (∀ g, (Value.slice av (k + 1) cv).ownBlock = some g → ¬ F2 g) := fun g hg hf => (hk2 g hf).elim (HAP.out g hg) (fun h2 => absurd (World.ownsRow.lt HOW.out g hg).2 (by omega))
      have hs2 : w.heap.size ≤ w2.heap.size := hm2.mine.out.size
      have HDS : Hid ((cat ((runS (refNew 500) (l.take (k + 1))).done.map recOf)).size = 42 * doneN l (k + 1)) := disk_size hm2.mine
      have hdn : doneN l (k + 1) ≤ 500 := hm2.good.inv.done
      clear hm2 hu2 hF2 hk2 f0 f1 f2 f3 f4 f5
      generalize hSS : runS (refNew 500) (l.take (k + 1)) = SS at *
      have HSS : Hid (runS (refNew 500) (l.take (k + 1)) = SS) := hSS
      clear hSS
      go_wp2_with fail
      refine (mineDisk M2.out.mine).mono ?_
      rintro e w2 ⟨rfl, rfl⟩
      have hdk := HDS.out
      generalize cat (SS.done.map recOf) = dk at *
      have hdi : (dk.size : Int) = endAt l (k + 1) := by unfold endAt; omega
      have hde : endAt l (k + 1) ≤ 21000 := by unfold endAt; omega
      have hde0 : 0 ≤ endAt l (k + 1) := by unfold endAt; omega
      obtain ⟨v6, w6, hrun, hown6, hgrow, -, hat⟩ := run_append_own_at (P := Try.prog) (w2.alloc (.cells #[Value.int .i64 (dk.size : Int)] 3)) w.heap.size 22 22 3 i0 _ 1 8 Try.underlying22 hi hz0 hz1 hz2 rfl (by omega) _ _ _ (World.ownsRow.alloc HO2.out _) ⟨w2.heap.size, 0, none⟩ 1 1 [Value.int .i64 (dk.size : Int)] rfl (cells_new _ _ _) (by simp [Value.oneCell']) (by unfold maxLen; omega) (by omega) (by simp; omega)
      have hu6 : Upd (fun i => (Value.slice av (k + 1) cv).ownBlock = some i) w2 w6 := ((Upd.refl _ w2).alloc _).grown hgrow (fun i e _ => e)
      have M6 : Hid (MineF w w6 H F2 SS) := M2.out.upd hu6 (fun g hg => (World.ownsRow.lt HO2.out g hg).1) (fun g hf hg => AP2.out g hg hf)
      have HO6 : Hid (w6.ownsRow w.heap.size 3 1 v6 (k + 1 + 1) (endsV l (k + 1 + 1))) := by
        rw [hdi] at hown6
        rw [ends_next l (k + 1)]
        exact hown6
      have AP6 : Hid (∀ g, v6.ownBlock = some g → ¬ F2 g) := fun g hg hf => by
        rcases hat with h | h
        · exact AP2.out g (h.symm.trans hg) hf
        · rw [h] at hg
          simp at hg
          have := M2.out.lt hf
          omega
      clear hown6 hgrow hat hu6 hdi hde hde0 hdk
      go_wp2_with (first | (at_builtin; refine wpList_append_run rfl _ _ 22 rfl _ _ _ _ rfl rfl hrun ?_))
      go_wp2_with fail
      go_roundw
      case rel => exact ⟨k + 1, F2, dk, by omega, by go_num, rfl, by rw [HSS.out]; exact M6.out, HO6.out, AP6.out⟩
      case measure => simp [intOf]; omega
    · obtain rfl : k = m := by omega
      have HT : Hid (l.take k = l) := by show _ = _; rw [← HL.out, List.take_length]
      go_wp2_with fail
      go_ret2
      exact ⟨H, F, _, rfl, by have := MM.out; rw [HT.out] at this; exact this, HOW.out, HAP.out⟩

/-- Two brokers that stand alike. -/
def TwoF (w0 w : World) (A : Nat) (FA : Nat → Prop) (B : Nat) (FB : Nat → Prop) (S : RefS) : Prop := MineF w0 w A FA S ∧ MineF w0 w B FB S ∧ ∀ k, FA k → ¬ FB k
theorem two_first {w0 w w1 : World} {A B : Nat} {FA FB : Nat → Prop} {S S1 : RefS} (h2 : MineF w0 w B FB S) (hd : ∀ k, FA k → ¬ FB k) (hs : MineStep w0 w A FA S1 w1) : ∃ FA1, MineF w0 w1 A FA1 S1 ∧ MineF w0 w1 B FB S ∧ (∀ k, FA1 k → ¬ FB k) ∧ Upd FA w w1 ∧ ∀ k, FA1 k → FA k ∨ w.heap.size ≤ k := by
  obtain ⟨F1, hm, hu, hF, hk⟩ := hs
  exact ⟨F1, hm, h2.upd hu (fun k hk => hF k hk) (fun k hb ha => hd k ha hb), fun k h1 hb => (hk k h1).elim (fun h => hd k h hb) (fun h => absurd (h2.lt hb) (by omega)), hu, hk⟩
end Go.Proofs.Ytmjdndhfmfjbiab

namespace Go.Proofs.Ytmjdndhfmfjbiab
open Go.RowKit

set_option maxRecDepth 100000 in
set_option maxHeartbeats 4000000 in
theorem keepSame (l : List StepD) (ao : Option Addr) (m cap : Nat) {w0 w : World} {A B : Nat} {FA FB : Nat → Prop} {S : RefS} (hl : l.length = m) (hsc : StepsAt w0 ao l) (hok : ∀ o ∈ l, StepOk o) (hm : m ≤ 9223372036854775807) (h : TwoF w0 w A FA B FB S) :
    Calls Try.prog 34 #[.pointer (some ⟨A, 0, none⟩), .pointer (some ⟨B, 0, none⟩), .slice ao m cap] w fun e w' => e = .returned (.bool true) ∧ ∃ FA1 FB1, TwoF w0 w' A FA1 B FB1 (runS S l) ∧ Upd (fun k => FA k ∨ FB k) w w' ∧ ∀ k, FA1 k ∨ FB1 k → (FA k ∨ FB k) ∨ w.heap.size ≤ k := by
  have HL : Hid (l.length = m) := hl
  have HSC : Hid (StepsAt w0 ao l) := hsc
  have HOK : Hid (∀ o ∈ l, StepOk o) := hok
  have H0 : Hid (TwoF w0 w A FA B FB S) := h
  clear hl hsc hok h
  go_enter Try.func34, Try.ntmps34
  go_wp2_with fail
  go_loopw [7] (fun i wr => ∃ (k : Nat) (FA1 FB1 : Nat → Prop), k ≤ m ∧ i = .int .i64 (k : Int) ∧ TwoF w0 wr A FA1 B FB1 (runS S (l.take k)) ∧ Upd (fun k => FA k ∨ FB k) w wr ∧ ∀ k, FA1 k ∨ FB1 k → (FA k ∨ FB k) ∨ w.heap.size ≤ k) (fun i _ => m - (intOf i).toNat)
  case atStart => exact ⟨0, FA, FB, Nat.zero_le _, rfl, H0.out, Upd.refl _ _, fun k hk => .inl hk⟩
  case round =>
    obtain ⟨k, FA1, FB1, hkm, rfl, hT, hU, hK⟩ := hrel
    have UU : Hid (Upd (fun k => FA k ∨ FB k) w wr) := hU
    have KK : Hid (∀ k, FA1 k ∨ FB1 k → (FA k ∨ FB k) ∨ w.heap.size ≤ k) := hK
    clear hU hK
    have TT : Hid (TwoF w0 wr A FA1 B FB1 (runS S (l.take k))) := hT
    clear hT
    by_cases hlt : k < m
    · obtain ⟨o, ho⟩ : ∃ o, l[k]? = some o := ⟨_, List.getElem?_eq_getElem (by rw [HL.out]; exact hlt)⟩
      have HO : Hid (StepOk o) := HOK.out o (List.mem_of_getElem? ho)
      obtain ⟨gs, off, rfl, e0, e1, e2, e3, e4, e5⟩ := HSC.out k o ho
      have f0 := cell_later TT.out.1.mine.out e0
      have f1 := cell_later TT.out.1.mine.out e1
      have f2 := cell_later TT.out.1.mine.out e2
      have f3 := cell_later TT.out.1.mine.out e3
      have f4 := cell_later TT.out.1.mine.out e4
      have f5 := cell_later TT.out.1.mine.out e5
      have HN : Hid (runS S (l.take (k + 1)) = goS (runS S (l.take k)) o) := run_next ho
      clear ho
      generalize runS S (l.take k) = T at *
      go_wp2_with fail
      refine (keepDo o HO.out TT.out.1).mono ?_
      rintro e w2 ⟨rfl, hs2⟩
      obtain ⟨FA2, a2, b2, d2, u2, k2⟩ := two_first TT.out.2.1 TT.out.2.2 hs2
      have U2 : Hid (Upd (fun k => FA k ∨ FB k) w w2) := UU.out.trans u2 (fun i hi hf => (KK.out i (.inl hf)).resolve_right (by omega))
      have K2 : Hid (∀ k, FA2 k ∨ FB1 k → (FA k ∨ FB k) ∨ w.heap.size ≤ k) := fun k hk => by
        rcases hk with hk | hk
        · rcases k2 k hk with h | h
          · exact KK.out k (.inl h)
          · exact .inr (Nat.le_trans UU.out.size h)
        · exact KK.out k (.inr hk)
      have A2 : Hid (MineF w0 w2 A FA2 (goS T o)) := a2
      have B2 : Hid (MineF w0 w2 B FB1 T) := b2
      have D2 : Hid (∀ k, FB1 k → ¬ FA2 k) := fun k hb ha => d2 k ha hb
      have g0 := cell_later a2.mine.out e0
      have g1 := cell_later a2.mine.out e1
      have g2 := cell_later a2.mine.out e2
      have g3 := cell_later a2.mine.out e3
      have g4 := cell_later a2.mine.out e4
      have g5 := cell_later a2.mine.out e5
      clear hs2 a2 b2 d2 u2 k2 f0 f1 f2 f3 f4 f5 e0 e1 e2 e3 e4 e5
      go_wp2_with fail
      refine (keepDo o HO.out B2.out).mono ?_
      rintro e w3 ⟨rfl, hs3⟩
      obtain ⟨FB3, b3, a3, d3, u3, k3⟩ := two_first A2.out D2.out hs3
      have U3 : Hid (Upd (fun k => FA k ∨ FB k) w w3) := U2.out.trans u3 (fun i hi hf => (K2.out i (.inr hf)).resolve_right (by omega))
      have K3 : Hid (∀ k, FA2 k ∨ FB3 k → (FA k ∨ FB k) ∨ w.heap.size ≤ k) := fun k hk => by
        rcases hk with hk | hk
        · exact K2.out k (.inl hk)
        · rcases k3 k hk with h | h
          · exact K2.out k (.inr h)
          · exact .inr (Nat.le_trans U2.out.size h)
      have T3 : Hid (TwoF w0 w3 A FA2 B FB3 (runS S (l.take (k + 1)))) := by rw [HN.out]; exact ⟨a3, b3, fun k ha hb => d3 k hb ha⟩
      clear hs3 a3 b3 d3 u3 k3 g0 g1 g2 g3 g4 g5
      go_wp2_with fail
      go_roundw
      case rel => exact ⟨k + 1, FA2, FB3, by omega, by go_num, T3.out, U3.out, K3.out⟩
      case measure => simp [intOf]; omega
    · obtain rfl : k = m := by omega
      have HT : Hid (l.take k = l) := by show _ = _; rw [← HL.out, List.take_length]
      go_wp2_with fail
      go_ret
      exact ⟨rfl, FA1, FB1, by have := TT.out; rw [HT.out] at this; exact this, UU.out, KK.out⟩
end Go.Proofs.Ytmjdndhfmfjbiab

/-
  heraldkeep.Prefix: the math.
-/
namespace Go.Proofs.Ytmjdndhfmfjbiab
open Go.RowKit

theorem run_room (l : List StepD) : ∀ S : RefS, (runS S l).room = S.room := by
  induction l with
  | nil => intro S; rfl
  | cons o l ih => intro S; show (runS (goS S o) l).room = _; rw [ih]; exact do_room S _
theorem go_done (S : RefS) (o : StepD) : (goS S o).done = S.done ∨ (goS S o).done = S.done ++ [opOf o] := by
  unfold goS
  rw [do_done]
  split
  · exact .inr rfl
  · exact .inl rfl
theorem run_more (l : List StepD) : ∀ S : RefS, ∃ D, (runS S l).done = S.done ++ D := by
  induction l with
  | nil => intro S; exact ⟨[], (List.append_nil _).symm⟩
  | cons o l ih =>
    intro S
    obtain ⟨D, hD⟩ := ih (goS S o)
    have e : runS S (o :: l) = runS (goS S o) l := rfl
    rcases go_done S o with h | h
    · exact ⟨D, by rw [e, hD, h]⟩
    · exact ⟨[opOf o] ++ D, by rw [e, hD, h, List.append_assoc]⟩
theorem run_append (S : RefS) (a b : List StepD) : runS S (a ++ b) = runS (runS S a) b := by unfold runS; exact List.foldl_append ..
theorem run_split (l : List StepD) (i : Nat) (S : RefS) : runS S l = runS (runS S (l.take i)) (l.drop i) := by rw [← run_append, List.take_append_drop]
/-- What was done first stands first. -/
theorem run_prefix (l : List StepD) (i : Nat) : (runS (refNew 500) (l.take i)).done = (runS (refNew 500) l).done.take (doneN l i) := by
  obtain ⟨D, hD⟩ := run_more (l.drop i) (runS (refNew 500) (l.take i))
  rw [run_split l i, hD]
  unfold doneN
  rw [List.take_left]
theorem doneN_zero (l : List StepD) : doneN l 0 = 0 := rfl
theorem doneN_step (l : List StepD) (i : Nat) : doneN l (i + 1) = doneN l i ∨ doneN l (i + 1) = doneN l i + 1 := by
  unfold doneN
  cases h : l[i]? with
  | none => left; rw [List.take_add_one, h]; simp
  | some o =>
    rw [run_next h]
    rcases go_done (runS (refNew 500) (l.take i)) o with e | e
    · left; rw [e]
    · right; rw [e]; simp
theorem doneN_mono (l : List StepD) {i j : Nat} (h : i ≤ j) : doneN l i ≤ doneN l j := by
  induction h with
  | refl => exact Nat.le_refl _
  | step _ ih => rename_i j' _; rcases doneN_step l j' with e | e <;> (show _ ≤ doneN l (j' + 1); omega)
theorem doneN_all {l : List StepD} {m : Nat} (h : l.length = m) : doneN l m = (runS (refNew 500) l).done.length := by unfold doneN; rw [← h, List.take_length]
/-- Every count between comes up. -/
theorem doneN_hits (l : List StepD) (j : Nat) : ∀ m, j ≤ doneN l m → ∃ i, i ≤ m ∧ doneN l i = j
  | 0, h => ⟨0, Nat.le_refl _, by rw [doneN_zero] at h ⊢; omega⟩
  | m + 1, h => by
    by_cases h2 : j ≤ doneN l m
    · obtain ⟨i, hi, e⟩ := doneN_hits l j m h2
      exact ⟨i, Nat.le_succ_of_le hi, e⟩
    · exact ⟨m + 1, Nat.le_refl _, by rcases doneN_step l m with e | e <;> omega⟩
/-- The last place at which it is no more. -/
def lastLe (f : Nat → Int) (k : Int) : Nat → Nat
  | 0 => 0
  | i + 1 => if f i ≤ k then i else lastLe f k i
theorem lastLe_le {f : Nat → Int} {k : Int} : ∀ n, lastLe f k (n + 1) ≤ n
  | 0 => by unfold lastLe; split <;> simp [lastLe]
  | n + 1 => by
    unfold lastLe
    split
    · exact Nat.le_refl _
    · exact Nat.le_succ_of_le (lastLe_le n)
theorem lastLe_ok {f : Nat → Int} {k : Int} (h0 : f 0 ≤ k) : ∀ n, f (lastLe f k n) ≤ k
  | 0 => h0
  | n + 1 => by
    unfold lastLe
    split
    · assumption
    · exact lastLe_ok h0 n
theorem lastLe_last {f : Nat → Int} {k : Int} {i : Nat} (hi : f i ≤ k) : ∀ n, i < n → i ≤ lastLe f k n
  | 0, h => by omega
  | n + 1, h => by
    unfold lastLe
    split
    · omega
    · rename_i hn
      have hin : i ≠ n := fun e => hn (e ▸ hi)
      exact lastLe_last hi n (by omega)
theorem prefix_count {l : List StepD} {m k : Nat} : doneN l (lastLe (endAt l) (k : Int) (m + 1)) = min (k / 42) (doneN l m) := by
  have h0 : endAt l 0 ≤ (k : Int) := by unfold endAt; rw [doneN_zero]; omega
  have h1 := lastLe_ok h0 (m + 1)
  have h2 : lastLe (endAt l) (k : Int) (m + 1) ≤ m := lastLe_le m
  have h3 := doneN_mono l h2
  generalize hn : lastLe (endAt l) (k : Int) (m + 1) = n at *
  unfold endAt at h1
  obtain ⟨i, hi, e⟩ := doneN_hits l (min (k / 42) (doneN l m)) m (by omega)
  have h4 : i ≤ n := by rw [← hn]; exact lastLe_last (by unfold endAt; rw [e]; omega) (m + 1) (by omega)
  have h5 := doneN_mono l h4
  omega
theorem prefix_state {l : List StepD} {n j : Nat} (hg : Good (runS (refNew 500) (l.take n))) (hj : j = doneN l n) : { replay ((runS (refNew 500) l).done.take j) with room := 500 } = runS (refNew 500) (l.take n) := by
  have h := hg.again
  rw [run_prefix l n, run_room] at h
  rw [hj]
  exact h.symm
theorem take_size {R : List ByteArray} (h : ∀ r ∈ R, r.size = 42) {j : Nat} (hj : j ≤ R.length) : (cat R).extract 0 (42 * j) = cat (R.take j) := by
  apply ba_ext
  rw [ba_extract, List.drop_zero]
  have e : cat R = cat (R.take j) ++ cat (R.drop j) := by rw [← cat_append, List.take_append_drop]
  have hl : (cat (R.take j)).data.toList.length = 42 * j := by
    rw [← ba_size, cat_size (fun r hr => h r (List.mem_of_mem_take hr)), List.length_take, Nat.min_eq_left hj]
  rw [e, ba_list, ← hl, List.take_left]

def stepA : StepD := ⟨0, 0, 0, 0, 0, ⟨#[64]⟩⟩
def stepB : StepD := ⟨2, 0, 0, 5, 9, ⟨#[97]⟩⟩
def stepC : StepD := ⟨5, 0, 3, 0, 0, ⟨#[]⟩⟩
theorem first_three (l : List StepD) : doneN (stepA :: stepB :: stepC :: l) 1 = 1 ∧ doneN (stepA :: stepB :: stepC :: l) 2 = 2 ∧ doneN (stepA :: stepB :: stepC :: l) 3 = 3 := by
  refine ⟨?_, ?_, ?_⟩
  · show (runS (refNew 500) [stepA]).done.length = 1
    decide +kernel
  · show (runS (refNew 500) [stepA, stepB]).done.length = 2
    decide +kernel
  · show (runS (refNew 500) [stepA, stepB, stepC]).done.length = 3
    decide +kernel

theorem mineBack {wa w : World} {H : Nat} {S : RefS} (d : ByteArray) (k : Nat) (hm : Mine wa w H S) (hd : Damaged (cat (S.done.map recOf)) d k) :
    Calls Try.prog 30 #[.string d, .int .i64 500] w fun e w' => ∃ H1 F1, e = .returned (.tuple #[.pointer (some ⟨H1, 0, none⟩), .int .i64 0]) ∧ MineF w w' H1 F1 { replay (S.done.take (wholeN (S.done.map recOf) k)) with room := 500 } := by
  obtain ⟨F, R, hp, -, -, hg⟩ := hm
  have hR := hp.recs_eq
  rw [← hR] at hd ⊢
  obtain ⟨hc, hr, hs⟩ := chain_back hp hg hd
  refine (hrNew w 500 hc hs (by omega) (by omega)).mono ?_
  rintro e w' ⟨H1, F1, he, hp1, hk, hb⟩
  exact ⟨H1, F1, he, _, hp1, hk, hb, hg.back _ (by omega) (by omega)⟩
theorem rec42 {wa w : World} {H : Nat} {S : RefS} (hm : Mine wa w H S) : ∀ r ∈ S.done.map recOf, r.size = 42 := by
  obtain ⟨F, R, ⟨x, fil, wait, hb, -⟩, -⟩ := hm
  have := hb.r42
  rw [hb.recs] at this
  exact this
end Go.Proofs.Ytmjdndhfmfjbiab

namespace Go.Proofs.Ytmjdndhfmfjbiab
open Go.RowKit

def stepCells (o : StepD) : List Value := [.int .i64 o.kind, .int .i64 o.a, .int .i64 o.b, .int .i64 o.c, .int .i64 o.d, .string o.s]
theorem step_len (o : StepD) : (stepCells o).length = 6 := rfl
theorem steps_one (l : List StepD) : ∀ u ∈ l.flatMap stepCells, u.oneCell' = true := fun u hu => by
  obtain ⟨o, -, ho⟩ := List.mem_flatMap.1 hu
  simp only [stepCells, List.mem_cons, List.not_mem_nil, or_false] at ho
  rcases ho with rfl | rfl | rfl | rfl | rfl | rfl <;> rfl
theorem infoStep : (Try.prog.info? 59).map (fun i => (i.zero, i.size, i.bytes)) = some (some (.agg #[.int .i64 0, .int .i64 0, .int .i64 0, .int .i64 0, .int .i64 0, .string ⟨#[]⟩]), 6, 56) := by kernel_rfl
theorem step_get {w : World} {g off : Nat} {o : StepD} (h : StepAt w g off o) {r : Nat} {u : Value} (hu : (stepCells o)[r]? = some u) : w.cell? ⟨g, off + r, none⟩ = some u := by
  obtain ⟨h0, h1, h2, h3, h4, h5⟩ := h
  have hr : r < 6 := (List.getElem?_eq_some_iff.1 hu).1
  rcases (show r = 0 ∨ r = 1 ∨ r = 2 ∨ r = 3 ∨ r = 4 ∨ r = 5 from by omega) with rfl | rfl | rfl | rfl | rfl | rfl <;> (simp only [stepCells, List.getElem?_cons_succ, List.getElem?_cons_zero, Option.some.injEq] at hu; subst hu; assumption)
theorem steps_cells {w : World} {b off : Nat} {l : List StepD} (h : StepsAt w (some ⟨b, off, none⟩) l) : ∀ j u, (l.flatMap stepCells)[j]? = some u → w.cell? ((⟨b, off, none⟩ : Addr).add j) = some u := fun j u hj => by
  have hlt := (List.getElem?_eq_some_iff.1 hj).1
  rw [flat_len stepCells 6 step_len] at hlt
  obtain ⟨o, ho⟩ : ∃ o, l[j / 6]? = some o := ⟨_, List.getElem?_eq_getElem (by omega)⟩
  have e : j / 6 * 6 + j % 6 = j := by omega
  have hg := flat_get stepCells 6 step_len l (j / 6) (j % 6) o ho (by omega)
  rw [e, hj] at hg
  obtain ⟨g, off', he, hs⟩ := h (j / 6) o ho
  simp only [Option.some.injEq, Addr.mk.injEq, and_true] at he
  obtain ⟨rfl, rfl⟩ := he
  have := step_get hs hg.symm
  rw [Addr.add_lit]
  rw [show off + j / 6 * 6 + j % 6 = off + j from by omega] at this
  exact this
theorem steps_of_row {w : World} {ao : Option Addr} {l : List StepD} (h : CellsAt w ao (l.flatMap stepCells)) : StepsAt w ao l := fun j o ho => by
  have key : ∀ r u, (stepCells o)[r]? = some u → ∃ g, ao = some ⟨g, 0, none⟩ ∧ w.cell? ⟨g, j * 6 + r, none⟩ = some u := fun r u hu => by
    have hr : r < 6 := (List.getElem?_eq_some_iff.1 hu).1
    exact h (j * 6 + r) u (by rw [flat_get stepCells 6 step_len l j r o ho hr]; exact hu)
  obtain ⟨g, e, c0⟩ := key 0 _ rfl
  obtain ⟨g1, e1, c1⟩ := key 1 _ rfl
  obtain ⟨g2, e2, c2⟩ := key 2 _ rfl
  obtain ⟨g3, e3, c3⟩ := key 3 _ rfl
  obtain ⟨g4, e4, c4⟩ := key 4 _ rfl
  obtain ⟨g5, e5, c5⟩ := key 5 _ rfl
  rw [e] at e1 e2 e3 e4 e5
  cases e1; cases e2; cases e3; cases e4; cases e5
  refine ⟨g, 0, e, ?_⟩
  rw [Nat.zero_add]
  exact ⟨c0, c1, c2, c3, c4, c5⟩

def litCells : Array Value := #[.int .i64 0, .int .i64 0, .int .i64 0, .int .i64 0, .int .i64 0, .string ⟨#[64]⟩, .int .i64 2, .int .i64 0, .int .i64 0, .int .i64 5, .int .i64 9, .string ⟨#[97]⟩, .int .i64 5, .int .i64 0, .int .i64 3, .int .i64 0, .int .i64 0, .string ⟨#[]⟩]
theorem lit_cells : litCells.toList = [stepA, stepB, stepC].flatMap stepCells := rfl
theorem all_run {l : List StepD} {ao : Option Addr} {m cap : Nat} (w : World) (hl : l.length = m) (hm : m * 56 ≤ 140737488351232) (hsc : StepsAt w ao l) (hn : ao = none → m = 0 ∧ cap = 0) :
    ∃ v1 w1, (Builtin.append_ #[57, 57] 57 #[.slice (some ⟨w.heap.size, 0, none⟩) 3 3, .slice ao m cap]).run Try.prog (w.alloc (.cells litCells 59)) = .ok v1 w1 ∧
      w1.ownsRow w.heap.size 59 6 v1 (stepA :: stepB :: stepC :: l).length ((stepA :: stepB :: stepC :: l).flatMap stepCells) ∧ Below w.heap.size w w1 := by
  obtain ⟨i0, hi, hz0, hz1, hz2⟩ := info_parts infoStep
  have h0 : (w.alloc (.cells litCells 59)).ownsRow w.heap.size 59 6 (.slice (some ⟨w.heap.size, 0, none⟩) 3 3) 3 litCells.toList := World.ownsRow_lit w litCells 3 (Nat.le_refl _) (by unfold maxLen; omega) rfl
  have hb0 := below_one w (.cells litCells 59)
  have e : (stepA :: stepB :: stepC :: l).flatMap stepCells = litCells.toList ++ l.flatMap stepCells := by
    rw [lit_cells, ← List.flatMap_append]; rfl
  cases ao with
  | none =>
    obtain ⟨rfl, rfl⟩ := hn rfl
    obtain rfl : l = [] := List.eq_nil_of_length_eq_zero hl
    exact ⟨_, _, run_append_owned_none (P := Try.prog) _ w.heap.size _ _ 59 i0 6 Try.underlying57 hi _ _ _ h0, by rw [e, List.flatMap_nil, List.append_nil]; exact h0, hb0⟩
  | some a =>
    have hsc2 : StepsAt (w.alloc (.cells litCells 59)) (some a) l := fun j o ho => by
      obtain ⟨g, off', he, h1, h2, h3, h4, h5, h6⟩ := hsc j o ho
      exact ⟨g, off', he, cell_later hb0 h1, cell_later hb0 h2, cell_later hb0 h3, cell_later hb0 h4, cell_later hb0 h5, cell_later hb0 h6⟩
    have hnews : ∀ j u, (l.flatMap stepCells)[j]? = some u → (w.alloc (.cells litCells 59)).cell? (a.add j) = some u := fun j u hj => by
      cases l with
      | nil => simp at hj
      | cons o t =>
        obtain ⟨g, off, he, -⟩ := hsc2 0 o rfl
        simp only [Option.some.injEq] at he
        subst he
        exact steps_cells hsc2 j u hj
    obtain ⟨v1, w1, hrun, hown, hgrow, -, -⟩ := run_append_own_at (P := Try.prog) (w.alloc (.cells litCells 59)) w.heap.size 57 57 59 i0 _ 6 56 Try.underlying57 hi hz0 hz1 hz2 rfl (by omega) _ _ _ h0 a m cap (l.flatMap stepCells) (by rw [flat_len stepCells 6 step_len, hl]) hnews (steps_one l) (by unfold maxLen; omega) (by omega) (by simp)
    refine ⟨v1, w1, hrun, ?_, ?_⟩
    · rw [e, show (stepA :: stepB :: stepC :: l).length = 3 + m from by simp [hl]; omega]
      exact hown
    · exact hb0.trans (below_of_upd (S := fun i => (Value.slice (some ⟨w.heap.size, 0, none⟩) 3 3).ownBlock = some i) ((Upd.refl _ _).grown hgrow (fun _ e _ => e)) (by simp) (fun g hg => by simp [Value.ownBlock] at hg; omega))
end Go.Proofs.Ytmjdndhfmfjbiab

namespace Go.Proofs.Ytmjdndhfmfjbiab
open Go.RowKit

theorem StepsAt.below {w w1 : World} {ao : Option Addr} {l : List StepD} (h : StepsAt w ao l) (hb : Below w.heap.size w w1) : StepsAt w1 ao l := fun j o ho => by
  obtain ⟨g, off, he, h1, h2, h3, h4, h5, h6⟩ := h j o ho
  exact ⟨g, off, he, cell_later hb h1, cell_later hb h2, cell_later hb h3, cell_later hb h4, cell_later hb h5, cell_later hb h6⟩
theorem ends_cell {w : World} {ge : Nat} {l : List StepD} {n : Nat} (h : CellsAt w (some ⟨ge, 0, none⟩) (endsV l n)) {i : Nat} (hi : i < n) : w.cell? ⟨ge, i, none⟩ = some (.int .i64 (endAt l i)) := by
  obtain ⟨g, e, hc⟩ := h i (.int .i64 (endAt l i)) (by unfold endsV; simp [hi])
  cases e
  exact hc
theorem last_hit' {f : Nat → Int} {k : Int} {q : Nat} (h : f q ≤ k) : lastLe f k (q + 1) = q := by rw [lastLe, if_pos h]
theorem last_miss' {f : Nat → Int} {k : Int} {q : Nat} (h : ¬ f q ≤ k) : lastLe f k (q + 1) = lastLe f k q := by rw [lastLe, if_neg h]
theorem ret_num {a b : Int} (h : a = b) : Value.int .i64 a = Value.int .i64 b := by rw [h]

abbrev LookC (L : LookD) (xa : Option Addr) (xc : Nat) (ya : Option Addr) (yc : Nat) (za : Option Addr) (zc : Nat) (ua : Option Addr) (uc : Nat) : Array Value := #[.int .i64 L.time, .slice xa 8 xc, .slice ya 8 yc, .slice za 8 zc, .slice ua L.wait.length uc, .int .i64 L.recs]
theorem keepLookF {w0 w : World} {H : Nat} {S : RefS} {L : LookD} (hL : lookM S = L) (h : Mine w0 w H S) :
    Calls Try.prog 32 #[.pointer (some ⟨H, 0, none⟩)] w fun e w' => ∃ xa xc ya yc za zc ua uc FV QV, e = .returned (.agg #[.int .i64 L.time, .slice xa 8 xc, .slice ya 8 yc, .slice za 8 zc, .slice ua L.wait.length uc, .int .i64 L.recs]) ∧
      LookIn w' w.heap.size w'.heap.size L (.slice xa 8 xc) (.slice ya 8 yc) (.slice za 8 zc) (.slice ua L.wait.length uc) FV QV ∧ Below w.heap.size w w' := by
  subst hL
  refine (keepLook h).mono ?_
  rintro e w2 ⟨v, rfl, hl2, hb2⟩
  obtain ⟨fv, qv, lv, wv, FV, QV, rfl, hli⟩ := hl2
  obtain ⟨xa, xc, rfl, -, -, -⟩ := hli.fil.form
  obtain ⟨ya, yc, rfl, -, -, -⟩ := hli.que.form
  obtain ⟨za, zc, rfl, -, -, -⟩ := hli.lost.form
  obtain ⟨ua, uc, rfl, -, -, -⟩ := hli.wait.form
  exact ⟨xa, xc, ya, yc, za, zc, ua, uc, FV, QV, rfl, hli, hb2⟩
/-- A look's own block. -/
def LookB (w : World) (g : Nat) (cs : Array Value) : Prop := w.heap[g]? = some (.cells cs 70 (0, 0))
theorem LookB.cell {w : World} {g : Nat} {cs : Array Value} (h : LookB w g cs) (j : Nat) (u : Value) (hj : cs[j]? = some u) : w.cell? ⟨g, j, none⟩ = some u := by rw [cell_of_row _ g j _ _ (0, 0) h]; exact hj
theorem LookB.frozen {w : World} {g : Nat} {cs : Array Value} (h : LookB w g cs) (j : Nat) : w.frozen? ⟨g, j, none⟩ = false := frozen_of_row w g j _ _ h
theorem LookB.lt {w : World} {g : Nat} {cs : Array Value} (h : LookB w g cs) : g < w.heap.size := (Array.getElem?_eq_some_iff.1 h).1
theorem LookB.upd {P : Nat → Prop} {w w1 : World} {g : Nat} {cs : Array Value} (h : LookB w g cs) (hu : Upd P w w1) (hn : ¬ P g) : LookB w1 g cs := by
  unfold LookB
  rw [hu.block g h.lt hn]; exact h
theorem LookB.below {w w1 : World} {g : Nat} {cs : Array Value} (h : LookB w g cs) (hb : Below w.heap.size w w1) : LookB w1 g cs := h.upd (P := fun _ => False) (Upd.of_below hb) (fun f => f)
theorem LookB.new (w : World) (cs : Array Value) : LookB (w.alloc (.cells cs 70)) w.heap.size cs := heap_alloc_new w _
theorem LookB.put {w : World} {g : Nat} {x0 x1 x2 x3 x4 x5 a b c d e f : Value} (h : LookB w g #[x0, x1, x2, x3, x4, x5]) : LookB ((((((w.setCell ⟨g, 0, none⟩ a).setCell ⟨g, 1, none⟩ b).setCell ⟨g, 2, none⟩ c).setCell ⟨g, 3, none⟩ d).setCell ⟨g, 4, none⟩ e).setCell ⟨g, 5, none⟩ f) g #[a, b, c, d, e, f] := by
  unfold LookB
  rw [heap_setCell_row _ g 5 _ _ _ (heap_setCell_row _ g 4 _ _ _ (heap_setCell_row _ g 3 _ _ _ (heap_setCell_row _ g 2 _ _ _ (heap_setCell_row _ g 1 _ _ _ (heap_setCell_row w g 0 _ _ _ h)))))]
  rfl
theorem upd_put (w : World) (g : Nat) (a b c d e f : Value) : Upd (fun k => k = g) w ((((((w.setCell ⟨g, 0, none⟩ a).setCell ⟨g, 1, none⟩ b).setCell ⟨g, 2, none⟩ c).setCell ⟨g, 3, none⟩ d).setCell ⟨g, 4, none⟩ e).setCell ⟨g, 5, none⟩ f) :=
  ((((((Upd.refl (fun k => k = g) w).setCell (p := ⟨g, 0, none⟩) (fun _ => rfl) _).setCell (p := ⟨g, 1, none⟩) (fun _ => rfl) _).setCell (p := ⟨g, 2, none⟩) (fun _ => rfl) _).setCell (p := ⟨g, 3, none⟩) (fun _ => rfl) _).setCell (p := ⟨g, 4, none⟩) (fun _ => rfl) _).setCell (p := ⟨g, 5, none⟩) (fun _ => rfl) _
theorem two_upd {P : Nat → Prop} {w0 w w1 : World} {A B : Nat} {FA FB : Nat → Prop} {S : RefS} (h : TwoF w0 w A FA B FB S) (hu : Upd P w w1) (h0 : ∀ k, P k → w0.heap.size ≤ k) (hn : ∀ k, P k → ¬ FA k ∧ ¬ FB k) : TwoF w0 w1 A FA B FB S :=
  ⟨h.1.upd hu h0 (fun k hk hp => (hn k hp).1 hk), h.2.1.upd hu h0 (fun k hk hp => (hn k hp).2 hk), h.2.2⟩
theorem two_below {w0 w w1 : World} {A B : Nat} {FA FB : Nat → Prop} {S : RefS} (h : TwoF w0 w A FA B FB S) (hb : Below w.heap.size w w1) : TwoF w0 w1 A FA B FB S := ⟨h.1.below hb, h.2.1.below hb, h.2.2⟩
theorem turn_facts2 {D : ByteArray} {w3 w4 : World} {n cap : Nat} {c t : Int} (hb4 : Below w3.heap.size w3 w4) (hby : ∀ j, j < D.size → w4.cell? ⟨w3.heap.size, j, none⟩ = some (.int .u8 (D[j]!.toNat : Int)) ∧ w4.frozen? ⟨w3.heap.size, j, none⟩ = false) (hn : n < D.size) (hc : (D[n]!.toNat : Int) = c) (h1 : 1 ≤ t) (h2 : t < 256) :
    ∃ d, Damaged D d n ∧ (convert 63 9 (.slice (some ⟨w3.heap.size, 0, none⟩) D.size cap)).run Try.prog (w4.setCell ⟨w3.heap.size, n, none⟩ (.int .u8 ((c + t) % 256))) = .ok (.string d) (w4.setCell ⟨w3.heap.size, n, none⟩ (.int .u8 ((c + t) % 256))) ∧ Below w3.heap.size w3 (w4.setCell ⟨w3.heap.size, n, none⟩ (.int .u8 ((c + t) % 256))) := by
  have hcb := D[n]!.toNat_lt
  have hu : ((UInt8.ofNat ((c + t) % 256).toNat).toNat : Int) = (c + t) % 256 := by rw [UInt8.toNat_ofNat']; omega
  refine ⟨D.set! n (UInt8.ofNat ((c + t) % 256).toNat), .inr ⟨hn, ByteArray.size_set! _ _ _, fun i _ hne => ByteArray.getElem!_set!_ne _ _ _ _ (fun e => hne e.symm), ?_⟩, ?_, ?_⟩
  · rw [ByteArray.getElem!_set!_self _ _ _ hn]
    intro e
    rw [e, hc] at hu
    omega
  · refine bytes_back _ D w3.heap.size n cap _ hn (fun j hj => ?_)
    by_cases hjn : j = n
    · subst hjn
      rw [if_pos rfl, World.cell?_setCell_same _ _ _ (hby j hj).1, hu]
    · rw [if_neg hjn, World.cell?_setCell_other _ _ _ _ (by simp)]
      exact (hby j hj).1
  · exact hb4.setCell (Nat.le_refl _) _
end Go.Proofs.Ytmjdndhfmfjbiab

/-
  herald.New of any text.
-/
namespace Go.Proofs.Ytmjdndhfmfjbiab
open Go.RowKit

theorem val_lt (s : ByteArray) (k : Nat) (h : s.size ≤ k) : 0 ≤ valA s ∧ valA s < ((256 ^ k : Nat) : Int) := by
  have h1 := val_bd s.data.toList
  have h2 : s.data.toList.length ≤ k := by rw [← ba_size]; exact h
  have h3 : (256 : Nat) ^ s.data.toList.length ≤ 256 ^ k := Nat.pow_le_pow_right (by omega) h2
  have h4 : ((256 ^ s.data.toList.length : Nat) : Int) = (256 : Int) ^ s.data.toList.length := by simp [Int.natCast_pow]
  unfold valA
  omega
theorem find_clean {α : Type} (p : α → Bool) : ∀ (l : List α), ∀ b ∈ l.take (l.findIdx p), p b = false
  | [] => fun b hb => by simp at hb
  | a :: l => fun b hb => by
    rw [List.findIdx_cons] at hb
    cases ha : p a with
    | true => rw [ha] at hb; simp at hb
    | false =>
      rw [ha] at hb
      simp only [cond_false, List.take_succ_cons, List.mem_cons] at hb
      rcases hb with rfl | hb
      · exact ha
      · exact find_clean p l b hb
theorem unfill_clean (s : ByteArray) : ∀ b ∈ (unfillM s).data.toList, b ≠ 0 := fun b hb => by
  rw [unfillM, ba_extract, List.drop_zero] at hb
  have := find_clean (fun b => b == 0) s.data.toList b hb
  simpa using this
theorem valid_raw {t : ByteArray} (h : (rawR t).call ≠ 0) : Valid (rawR t) := by
  have x : ∀ a b k, b - a ≤ k → 0 ≤ valA (t.extract a b) ∧ valA (t.extract a b) < ((256 ^ k : Nat) : Int) := fun a b k hk => val_lt _ k (Nat.le_trans (ext_size t a b) hk)
  have b1 := x 1 2 1 (by omega)
  have b3 := x 17 19 2 (by omega)
  have b4 := x 19 23 4 (by omega)
  have b5 := x 23 29 6 (by omega)
  have b6 := x 29 35 6 (by omega)
  have b7 := x 35 41 6 (by omega)
  simp only [show (256 ^ 1 : Nat) = 256 from rfl, show (256 ^ 2 : Nat) = 65536 from rfl, show (256 ^ 4 : Nat) = 4294967296 from rfl, show (256 ^ 6 : Nat) = 281474976710656 from rfl] at b1 b3 b4 b5 b6 b7
  have hx : (unfillM (t.extract 2 17)).size ≤ 15 := Nat.le_trans (unfill_size _) (ext_size t 2 17)
  have hc := unfill_clean (t.extract 2 17)
  unfold rawR decM at h ⊢
  generalize valA (t.extract 0 1) = c0 at *
  generalize valA (t.extract 1 2) = c1 at *
  generalize unfillM (t.extract 2 17) = tx at *
  generalize valA (t.extract 17 19) = c3 at *
  generalize valA (t.extract 19 23) = c4 at *
  generalize valA (t.extract 23 29) = c5 at *
  generalize valA (t.extract 29 35) = c6 at *
  generalize valA (t.extract 35 41) = c7 at *
  unfold givenM at h ⊢
  simp only at h ⊢
  have hz : ∀ b ∈ (⟨#[]⟩ : ByteArray).data.toList, b ≠ 0 := fun b hb => by simp at hb
  have hs0 : (⟨#[]⟩ : ByteArray).size ≤ 15 := Nat.zero_le _
  split
  · exact ⟨by simp only; omega, by simp only; omega, hx, hc, by simp only; omega, by simp only; omega, by simp only; omega, by simp only; omega, by simp only; omega, rfl⟩
  split
  · exact ⟨by simp only; omega, by simp only; omega, hx, hc, by simp only; omega, by simp only; omega, by simp only; omega, by simp only; omega, by simp only; omega, rfl⟩
  split
  · exact ⟨by simp only; omega, by simp only; omega, hx, hc, by simp only; omega, by simp only; omega, by simp only; omega, by simp only; omega, by simp only; omega, rfl⟩
  split
  · exact ⟨by simp only; omega, by simp only; omega, hs0, hz, by simp only; omega, by simp only; omega, by simp only; omega, by simp only; omega, by simp only; omega, rfl⟩
  split
  · exact ⟨by simp only; omega, by simp only; omega, hs0, hz, by simp only; omega, by simp only; omega, by simp only; omega, by simp only; omega, by simp only; omega, rfl⟩
  split
  · exact ⟨by simp only; omega, by simp only; omega, hs0, hz, by simp only; omega, by simp only; omega, by simp only; omega, by simp only; omega, by simp only; omega, rfl⟩
  split
  · exact ⟨by simp only; omega, by simp only; omega, hs0, hz, by simp only; omega, by simp only; omega, by simp only; omega, by simp only; omega, by simp only; omega, rfl⟩
  · rename_i n1 n2 n3 n4 n5 n6 n7
    simp only [if_neg n1, if_neg n2, if_neg n3, if_neg n4, if_neg n5, if_neg n6, if_neg n7, nilRec] at h
    exact absurd rfl h
/-- A record tells an operation. -/
theorem op_of_rec {D : RecD} (h : Valid D) : ∃ o : OpD, recD o = D ∧ Fine o := by
  obtain ⟨c, cl, tx, nu, va, de, li, to⟩ := D
  obtain ⟨hc, -, htx, -, -, -, -, -, -, hg⟩ := h
  simp only at hc htx
  have f0 : (⟨#[]⟩ : ByteArray).size ≤ 1048576 := Nat.zero_le _
  rcases (show c = 1 ∨ c = 2 ∨ c = 3 ∨ c = 4 ∨ c = 5 ∨ c = 6 ∨ c = 7 from by omega) with rfl | rfl | rfl | rfl | rfl | rfl | rfl
  · exact ⟨⟨1, cl, 0, 0, 0, tx⟩, hg, ⟨by simp only; omega, by simp only; omega⟩, by simp only; omega⟩
  · exact ⟨⟨2, cl, 0, 0, 0, tx⟩, hg, ⟨by simp only; omega, by simp only; omega⟩, by simp only; omega⟩
  · exact ⟨⟨3, 0, va, de, li, tx⟩, hg, ⟨by simp only; omega, by simp only; omega⟩, by simp only; omega⟩
  · exact ⟨⟨4, 0, nu, 0, 0, ⟨#[]⟩⟩, hg, ⟨by simp only; omega, by simp only; omega⟩, f0⟩
  · exact ⟨⟨5, 0, nu, de, 0, ⟨#[]⟩⟩, hg, ⟨by simp only; omega, by simp only; omega⟩, f0⟩
  · exact ⟨⟨6, 0, to, 0, 0, ⟨#[]⟩⟩, hg, ⟨by simp only; omega, by simp only; omega⟩, f0⟩
  · exact ⟨⟨7, cl, nu, 0, 0, ⟨#[]⟩⟩, hg, ⟨by simp only; omega, by simp only; omega⟩, f0⟩
theorem op_of_chunk {t : ByteArray} (h : isRec t = true) : ∃ o, t = recOf o ∧ Valid (recD o) ∧ Fine o := by
  unfold isRec at h
  rw [Bool.and_eq_true] at h
  obtain ⟨h1, h2⟩ := h
  have hv := valid_raw (t := t) (by simpa using h1)
  obtain ⟨o, ho, hf⟩ := op_of_rec hv
  refine ⟨o, ?_, by rw [ho]; exact hv, hf⟩
  rw [beq_iff_eq, ByteArray.toList_eq, ByteArray.toList_eq] at h2
  rw [recOf, ho]
  exact (ba_ext h2).symm

structure Pre (d : ByteArray) (St : Nat → RefS) (n : Nat) : Prop where
  first : St 0 = refNew 500
  steps : ∀ i, i < n → ∃ o, 42 * i + 42 ≤ d.size ∧ chunk d i = recOf o ∧ Valid (recD o) ∧ Fine o ∧ doneB (St i) o = true ∧ St (i + 1) = doS (St i) o
  good : ∀ i, i ≤ n → Good (St i)
  len : ∀ i, i ≤ n → (St i).done.length = i
theorem pre_any (d : ByteArray) : ∀ f n St, Pre d St n → d.size < 42 * n + 42 + 42 * f → ∃ St n, Chain d St n
  | 0, n, St, h, hf => ⟨St, n, h.first, h.steps, h.good, h.len, .inl (by omega)⟩
  | f + 1, n, St, h, hf => by
    by_cases hs : d.size < 42 * n + 42
    · exact ⟨St, n, h.first, h.steps, h.good, h.len, .inl hs⟩
    cases hr : isRec (chunk d n) with
    | false => exact ⟨St, n, h.first, h.steps, h.good, h.len, .inr (.inl ⟨by omega, hr⟩)⟩
    | true =>
      obtain ⟨o, ho, hv, hfi⟩ := op_of_chunk hr
      cases hd : doneB (St n) o with
      | false => exact ⟨St, n, h.first, h.steps, h.good, h.len, .inr (.inr ⟨by omega, o, ho, hv, hfi, hd⟩)⟩
      | true =>
        obtain ⟨Q, old, new⟩ : ∃ Q : Nat → RefS, (∀ i, i ≤ n → Q i = St i) ∧ Q (n + 1) = doS (St n) o := ⟨fun i => if i ≤ n then St i else doS (St n) o, fun i hi => if_pos hi, if_neg (by omega)⟩
        refine pre_any d f (n + 1) Q ⟨?_, fun i hi => ?_, fun i hi => ?_, fun i hi => ?_⟩ (by omega)
        · rw [old 0 (Nat.zero_le _)]; exact h.first
        · by_cases hin : i < n
          · rw [old i (by omega), old (i + 1) (by omega)]; exact h.steps i hin
          · obtain rfl : i = n := by omega
            rw [old i (Nat.le_refl _), new]
            exact ⟨o, by omega, ho, hv, hfi, hd, rfl⟩
        · by_cases hin : i ≤ n
          · rw [old i hin]; exact h.good i hin
          · obtain rfl : i = n + 1 := by omega
            rw [new]; exact (h.good n (Nat.le_refl _)).does hfi
        · by_cases hin : i ≤ n
          · rw [old i hin]; exact h.len i hin
          · obtain rfl : i = n + 1 := by omega
            rw [new, do_done, if_pos hd, List.length_append, h.len n (Nat.le_refl _)]; rfl
theorem chain_any (d : ByteArray) : ∃ St n, Chain d St n :=
  pre_any d d.size 0 (fun _ => refNew 500) ⟨rfl, fun i hi => by omega, fun i _ => good_new (by omega) (by omega), fun i hi => (show 0 = i from by omega)⟩ (by omega)

set_option maxRecDepth 100000 in
set_option maxHeartbeats 4000000 in
theorem hrRedoAllL {w : World} {H : Nat} {F : Nat → Prop} {d : ByteArray} {St : Nat → RefS} {n : Nat} (hc : Chain d St n) (hd : d.size ≤ 1152921504606846976) (hp : PRc w H F (St 0) []) :
    Calls Try.prog 69 #[.pointer (some ⟨H, 0, none⟩), .string d] w fun e w' => e = .returned (.tuple #[]) ∧ Outcome PRc w H F [] (St n) w' := by
  have HC : Hid (Chain d St n) := hc
  have HP : Hid (PRc w H F (St 0) []) := hp
  clear hc hp
  go_enter Try.func69, Try.ntmps69
  go_wp2_with fail
  go_loopw [4] (fun m wr => ∃ i : Nat, i ≤ n ∧ 42 * i ≤ d.size ∧ m = .int .i64 ((42 * i : Nat) : Int) ∧ Outcome PRc w H F [] (St i) wr) (fun m _ => d.size + 42 - (intOf m).toNat)
  case atStart => exact ⟨0, Nat.zero_le _, Nat.zero_le _, rfl, F, [], HP.out, Upd.refl _ _, fun k hk => .inl hk⟩
  case round =>
    obtain ⟨i, hi, hid, rfl, hout⟩ := hrel
    have HO : Hid (Outcome PRc w H F [] (St i) wr) := hout
    obtain ⟨F1, R1, hp1, hu1, hk1⟩ := hout
    rw [List.nil_append] at hp1
    have HP1 : Hid (PRc wr H F1 (St i) R1) := hp1
    have HTH : Hid (∀ S2 w2, Outcome PRc wr H F1 R1 S2 w2 → Outcome PRc w H F [] S2 w2) := fun S2 w2 h => by
      obtain ⟨F2, R2, hp2, hu2, hk2⟩ := h
      refine ⟨F2, R1 ++ R2, by rw [List.nil_append]; exact hp2, hu1.trans hu2 (fun k hk t => (hk1 k t).resolve_right (by omega)), fun k h2 => ?_⟩
      rcases hk2 k h2 with h3 | h3
      · exact hk1 k h3
      · exact .inr (Nat.le_trans hu1.size h3)
    clear hp1 hu1 hk1
    have hgi := HC.out.good i hi
    have HG : Hid (Good (St i)) := hgi
    clear hgi
    by_cases hshort : d.size < 42 * i + 42
    · have HN : Hid (i = n) := by
        rcases Nat.lt_or_ge i n with h | h
        · obtain ⟨o, h1, -⟩ := HC.out.steps i h
          omega
        · exact Nat.le_antisymm hi h
      go_wp2_with fail
      go_end0
      exact ⟨rfl, by rw [← HN.out]; exact HO.out⟩
    · have hck : 42 * i + 42 ≤ d.size := by omega
      have HSZ : Hid ((chunk d i).size = 42) := chunk_size hck
      have HCK : Hid (d.extract (42 * i) (42 * i + 42) = chunk d i) := rfl
      have HDL : Hid ((St i).done.length = i) := HC.out.len i hi
      by_cases hin : i < n
      · obtain ⟨o, -, hco, hval, hfine, hdone, hnext⟩ := HC.out.steps i hin
        have HRV : Hid (readV (chunk d i) = .tuple #[recV (recD o), .bool true]) := by show _ = _; rw [hco, read_rec hval]
        have HFI : Hid (Fine o) := hfine
        have HNX : Hid (St (i + 1) = doS (St i) o) := hnext
        have HD2 : Hid ((doS (St i) o).done.length = i + 1) := by show _ = _; rw [← hnext]; exact HC.out.len (i + 1) hin
        clear hco hval hfine hdone hnext hshort
        have HMI : Hid (i + 1 ≤ n) := hin
        generalize hm : 42 * i = m at *
        have HM2 : Hid (42 * i = m) := hm
        have HM3 : Hid (42 * (i + 1) = m + 42) := by show _ = _; omega
        clear hm
        go_wp2_with fail
        rw [HCK.out]
        refine (recRead (chunk d i) wr HSZ.out).mono ?_
        rintro e w1 ⟨rfl, hb1⟩
        rw [HRV.out]
        have HB1 : Hid (Below wr.heap.size wr w1) := hb1
        have HBA : Hid (∀ o, Below wr.heap.size wr (w1.alloc o)) := fun o => hb1.alloc hb1.size _
        clear hb1
        go_wp2_with fail
        refine (hrRedo o HFI.out (HP1.out.below (HBA.out _)) HG.out).mono ?_
        rintro e w2 ⟨rfl, ho2⟩
        have HO2 : Hid (Outcome PRc w H F [] (St (i + 1)) w2) := by rw [HNX.out]; exact HTH.out _ _ (out_later (HBA.out _) ho2)
        have hdk : ∃ ao c, w2.cell? ⟨H, 1, none⟩ = some (.slice ao (m + 42) c) := by
          obtain ⟨F2, R2, hp2, -, -⟩ := ho2
          obtain ⟨ao, c, h1, -⟩ := hp2.disk
          rw [HD2.out, HM3.out] at h1
          exact ⟨ao, c, h1⟩
        obtain ⟨ao, c, hcd⟩ := hdk
        clear ho2
        go_wp2_with fail
        go_roundw
        case rel => exact ⟨i + 1, HMI.out, by rw [HM3.out]; exact hck, by rw [HM3.out]; go_num, HO2.out⟩
        case measure => simp [intOf]; omega
      · obtain rfl : i = n := by omega
        rcases HC.out.last with h | ⟨-, h⟩ | ⟨-, o, hco, hval, hfine, hno⟩
        · omega
        · have HRV : Hid (readV (chunk d i) = .tuple #[recV nilRec, .bool false]) := readV_not h
          clear h hshort
          generalize hm : 42 * i = m at *
          clear hm
          go_wp2_with fail
          rw [HCK.out]
          refine (recRead (chunk d i) wr HSZ.out).mono ?_
          rintro e w1 ⟨rfl, hb1⟩
          rw [HRV.out]
          have HBA : Hid (∀ o, Below wr.heap.size wr (w1.alloc o)) := fun o => hb1.alloc hb1.size _
          clear hb1
          go_wp2_with fail
          exact bodyPost_ret (results_none rfl _ _ _) rfl ⟨rfl, HTH.out _ _ (out_same HP1.out (HBA.out _) rfl)⟩
        · have HRV : Hid (readV (chunk d i) = .tuple #[recV (recD o), .bool true]) := by show _ = _; rw [hco, read_rec hval]
          have HFI : Hid (Fine o) := hfine
          have HNX : Hid (doS (St i) o = St i) := by show _ = _; unfold doS; rw [hno]; rfl
          clear hco hval hfine hno hshort
          generalize hm : 42 * i = m at *
          have HM2 : Hid (42 * i = m) := hm
          clear hm
          go_wp2_with fail
          rw [HCK.out]
          refine (recRead (chunk d i) wr HSZ.out).mono ?_
          rintro e w1 ⟨rfl, hb1⟩
          rw [HRV.out]
          have HBA : Hid (∀ o, Below wr.heap.size wr (w1.alloc o)) := fun o => hb1.alloc hb1.size _
          clear hb1
          go_wp2_with fail
          refine (hrRedo o HFI.out (HP1.out.below (HBA.out _)) HG.out).mono ?_
          rintro e w2 ⟨rfl, ho2⟩
          rw [HNX.out] at ho2
          have HO2 : Hid (Outcome PRc w H F [] (St i) w2) := HTH.out _ _ (out_later (HBA.out _) ho2)
          have hdk : ∃ ao c, w2.cell? ⟨H, 1, none⟩ = some (.slice ao m c) := by
            obtain ⟨F2, R2, hp2, -, -⟩ := ho2
            obtain ⟨ao, c, h1, -⟩ := hp2.disk
            rw [HDL.out, HM2.out] at h1
            exact ⟨ao, c, h1⟩
          obtain ⟨ao, c, hcd⟩ := hdk
          clear ho2
          go_wp2_with fail
          exact bodyPost_ret (results_none rfl _ _ _) rfl ⟨rfl, HO2.out⟩

set_option maxRecDepth 100000 in
set_option maxHeartbeats 4000000 in
theorem hrNewL {d : ByteArray} {St : Nat → RefS} {n : Nat} (w : World) (room : Int) (hc : Chain d St n) (hd : d.size ≤ 1152921504606846976) (h0 : 0 ≤ room) (h1 : room ≤ 500) :
    Calls Try.prog 30 #[.string d, .int .i64 room] w fun e w' =>
      ∃ H F, e = .returned (.tuple #[.pointer (some ⟨H, 0, none⟩), .int .i64 0]) ∧ PRc w' H F { St n with room := room } ((St n).done.map recOf) ∧ (∀ k, F k → w.heap.size ≤ k) ∧ Below w.heap.size w w' := by
  have HC : Hid (Chain d St n) := hc
  have HPN : Hid (PRc (w.alloc (.cells (newCells 500).toArray 96)) w.heap.size (fun k => k = w.heap.size) (St 0) []) := by rw [hc.first]; exact pr_new w 500
  have HBN : Hid (Below w.heap.size w (w.alloc (.cells (newCells 500).toArray 96))) := below_one _ _
  clear hc
  go_enter Try.func30, Try.ntmps30
  go_wp2_with fail
  refine (hrRedoAllL HC.out hd HPN.out).mono ?_
  rintro e w1 ⟨rfl, F1, R1, hp, hu, hk⟩
  rw [List.nil_append] at hp
  obtain ⟨k0, kf, hH⟩ := hp.room_cell
  have HP : Hid (PRc w1 w.heap.size F1 (St n) R1) := hp
  have HU : Hid (Below w.heap.size w w1) := ⟨hu.os, hu.tape, hu.output, Nat.le_trans (by simp) hu.size, fun k hk => (hu.block k (by simp; omega) (by omega)).trans (heap_alloc_old w _ hk)⟩
  have HK : Hid (∀ k, F1 k → w.heap.size ≤ k) := fun k h => by
    rcases hk k h with h2 | h2
    · omega
    · simp at h2; omega
  clear hp hu hk
  go_wp2_with fail
  go_ret2
  obtain ⟨F2, hp2, hk2⟩ := HP.out.roomed room
  refine ⟨w.heap.size, F2, rfl, ?_, fun k h => ?_, HU.out.setCell (p := ⟨w.heap.size, 0, none⟩) (Nat.le_refl _) _⟩
  · rw [HP.out.recs_eq] at hp2
    exact hp2
  · rcases hk2 k h with h2 | h2
    · exact HK.out k h2
    · exact Nat.le_trans HU.out.size h2

theorem Good.roomed {S : RefS} (h : Good S) {r : Int} (h0 : 0 ≤ r) (h1 : r ≤ 500) : Good { S with room := r } := by
  have hb := h.back S.done.length h0 h1
  rw [List.take_length] at hb
  have e : { S with room := r } = { replay S.done with room := r } := by
    have := h.again
    generalize replay S.done = Q at this ⊢
    rw [this]
  rw [e]; exact hb
/-- A broker out of any text. -/
theorem mineNew (d : ByteArray) (room : Int) (w : World) (hd : d.size ≤ 1152921504606846976) (h0 : 0 ≤ room) (h1 : room ≤ 500) :
    Calls Try.prog 30 #[.string d, .int .i64 room] w fun e w' => ∃ H1 F1 S, e = .returned (.tuple #[.pointer (some ⟨H1, 0, none⟩), .int .i64 0]) ∧ MineF w w' H1 F1 S ∧ S.room = room := by
  obtain ⟨St, n, hc⟩ := chain_any d
  refine (hrNewL w room hc hd h0 h1).mono ?_
  rintro e w' ⟨H1, F1, he, hp1, hk, hb⟩
  exact ⟨H1, F1, _, he, ⟨_, hp1, hk, hb, (hc.good n (Nat.le_refl _)).roomed h0 h1⟩, rfl⟩
/-- Out of its own disk comes the same. -/
theorem mineAgain {wa w : World} {H : Nat} {S : RefS} (hm : Mine wa w H S) :
    Calls Try.prog 30 #[.string (cat (S.done.map recOf)), .int .i64 S.room] w fun e w' => ∃ H1 F1, e = .returned (.tuple #[.pointer (some ⟨H1, 0, none⟩), .int .i64 0]) ∧ MineF w w' H1 F1 S := by
  have h42 := disk_size hm
  obtain ⟨F, R, hp, -, -, hg⟩ := hm
  have hR := hp.recs_eq
  rw [← hR] at h42 ⊢
  have hd : Damaged (cat R) (cat R) (cat R).size := .inl ⟨Nat.le_refl _, by
    apply ba_ext
    rw [ba_extract, List.drop_zero, ba_size, List.take_length]⟩
  obtain ⟨hc, -, hs⟩ := chain_back hp hg hd
  have hw : wholeN R (cat R).size = S.done.length := by
    have h1 : ∀ r ∈ R, r.size = 42 := by
      obtain ⟨x, fil, wait, hb, -⟩ := hp
      exact hb.r42
    rw [whole_all h1, h42, hR, List.length_map]
    omega
  rw [hw] at hc
  have e : { replay S.done with room := S.room } = S := hg.again.symm
  refine (hrNew w S.room hc hs hg.room0 hg.room).mono ?_
  rintro e' w' ⟨H1, F1, he, hp1, hk, hb⟩
  simp only [List.take_length] at hp1
  rw [e] at hp1
  exact ⟨H1, F1, he, _, hp1, hk, hb, hg⟩
end Go.Proofs.Ytmjdndhfmfjbiab

/-
  heraldkeep: bent, bounded.
-/
namespace Go.Proofs.Ytmjdndhfmfjbiab
open Go.RowKit

structure TurnD where
  at' : Int
  by' : Int
def TurnOk (y : TurnD) : Prop := (-9223372036854775808 ≤ y.at' ∧ y.at' ≤ 9223372036854775807) ∧ (-9223372036854775808 ≤ y.by' ∧ y.by' ≤ 9223372036854775807)
def TurnsAt (w : World) (ao : Option Addr) (l : List TurnD) : Prop := ∀ j y, l[j]? = some y → ∃ g off, ao = some ⟨g, off, none⟩ ∧ w.cell? ⟨g, off + j * 2, none⟩ = some (.int .i64 y.at') ∧ w.cell? ⟨g, off + j * 2 + 1, none⟩ = some (.int .i64 y.by')
/-- Bytes, as they lie. -/
def BytesAt (w : World) (g : Nat) (D : ByteArray) : Prop := ∀ j, j < D.size → w.cell? ⟨g, j, none⟩ = some (.int .u8 (D[j]!.toNat : Int)) ∧ w.frozen? ⟨g, j, none⟩ = false
theorem bytes_text {w : World} {g cap : Nat} {D : ByteArray} (h : BytesAt w g D) : (convert 63 9 (.slice (some ⟨g, 0, none⟩) D.size cap)).run Try.prog w = .ok (.string D) w := by
  have hsz : D.data.toList.length = D.size := by rw [Array.length_toList]; rfl
  have h2 := run_convert_bytes_back (P := Try.prog) w 63 9 5 ⟨g, 0, none⟩ cap D.data.toList Try.underlying63 Try.underlying5 Try.underlying9 (fun j hj => by
    rw [hsz] at hj
    have e : D.data.toList[j] = D[j]! := by
      rw [getElem!_pos D j hj]
      rfl
    rw [Addr.add_lit, Nat.zero_add, (h j hj).1, e])
  rw [hsz] at h2
  exact h2
theorem BytesAt.put {w : World} {g n : Nat} {D : ByteArray} {c : Int} (h : BytesAt w g D) (hn : n < D.size) (h0 : 0 ≤ c) (h1 : c < 256) : ∃ D1 : ByteArray, D1.size = D.size ∧ BytesAt (w.setCell ⟨g, n, none⟩ (.int .u8 c)) g D1 := by
  have hu : ((UInt8.ofNat c.toNat).toNat : Int) = c := by rw [UInt8.toNat_ofNat']; omega
  refine ⟨D.set! n (UInt8.ofNat c.toNat), ByteArray.size_set! _ _ _, fun j hj => ?_⟩
  rw [ByteArray.size_set!] at hj
  obtain ⟨c1, c2⟩ := h j hj
  refine ⟨?_, ?_⟩
  · by_cases hjn : j = n
    · subst hjn
      rw [World.cell?_setCell_same _ _ _ c1, ByteArray.getElem!_set!_self _ _ _ hn, hu]
    · rw [World.cell?_setCell_other _ _ _ _ (by simp), ByteArray.getElem!_set!_ne _ _ _ _ (fun e => hjn e.symm)]
      exact c1
  · rw [show (w.setCell ⟨g, n, none⟩ (.int .u8 c)).frozen? ⟨g, j, none⟩ = w.frozen? ⟨g, j, none⟩ from by simp]
    exact c2

set_option maxRecDepth 100000 in
set_option maxHeartbeats 1000000 in
theorem keepBent (s : ByteArray) (l : List TurnD) (ao : Option Addr) (m cap : Nat) (more : ByteArray) (w0 w : World) (hs : s.size ≤ 1048576) (hm : more.size ≤ 140737488351232) (hl : l.length = m) (hmm : m ≤ 9223372036854775807) (hsc : TurnsAt w0 ao l) (hok : ∀ y ∈ l, TurnOk y) (hb : Below w0.heap.size w0 w) :
    Calls Try.prog 35 #[.string s, .slice ao m cap, .string more] w fun e w' => (∃ t, e = .returned (.string t) ∧ t.size ≤ 140737489399808) ∧ Below w.heap.size w w' := by
  have HL : Hid (l.length = m) := hl
  have HSC : Hid (TurnsAt w0 ao l) := hsc
  have HOK : Hid (∀ y ∈ l, TurnOk y) := hok
  have HB0 : Hid (Below w0.heap.size w0 w) := hb
  clear hl hsc hok hb
  obtain ⟨cap3, w1, hcv, hb1, hs1, hcap, hby⟩ := bytes_of w s
  have B1 : Hid (BytesAt w1 w.heap.size s) := hby
  have HB1 : Hid (Below w.heap.size w w1) := hb1
  clear hb1 hby
  go_enter Try.func35, Try.ntmps35
  go_wp2_with fail
  go_loopw [8] (fun i wr => ∃ (k : Nat) (D : ByteArray), k ≤ m ∧ i = .int .i64 (k : Int) ∧ D.size = s.size ∧ BytesAt wr w.heap.size D ∧ Below w.heap.size w wr) (fun i _ => m - (intOf i).toNat)
  case atStart => exact ⟨0, s, Nat.zero_le _, rfl, rfl, B1.out, HB1.out⟩
  case round =>
    obtain ⟨k, D, hkm, rfl, hDs, hBD, hbr⟩ := hrel
    have BD : Hid (BytesAt wr w.heap.size D) := hBD
    have HBR : Hid (Below w.heap.size w wr) := hbr
    have HDS : Hid (D.size = s.size) := hDs
    clear hBD hbr hDs
    by_cases hlt : k < m ∧ 0 < s.size
    · obtain ⟨hlt1, hlt2⟩ := hlt
      obtain ⟨y, hy⟩ : ∃ y, l[k]? = some y := ⟨_, List.getElem?_eq_getElem (by rw [HL.out]; exact hlt1)⟩
      obtain ⟨⟨ya0, ya1⟩, yb0, yb1⟩ := HOK.out y (List.mem_of_getElem? hy)
      obtain ⟨gs, off, rfl, e0, e1⟩ := HSC.out k y hy
      have hbw0 : Below w0.heap.size w0 wr := HB0.out.trans (HBR.out.mono HB0.out.size)
      have f0 := cell_later hbw0 e0
      have f1 := cell_later hbw0 e1
      clear hy e0 e1 hbw0
      go_wp2_with fail
      refine (keepPick y.at' (s.size : Int) _ ya0 ya1 (by omega) (by omega)).mono ?_
      rintro e wr ⟨rfl, rfl⟩
      have hn1 := pick_bd y.at' (s.size : Int) (by omega)
      obtain ⟨n1, hn1e⟩ : ∃ n1 : Nat, pickM y.at' (s.size : Int) = (n1 : Int) := ⟨(pickM y.at' (s.size : Int)).toNat, by omega⟩
      rw [hn1e] at hn1 ⊢
      have hn1s : n1 < s.size := by omega
      obtain ⟨hbn, hbf⟩ := BD.out n1 (by rw [HDS.out]; exact hn1s)
      obtain ⟨c, hcc⟩ : ∃ c : Int, (D[n1]!.toNat : Int) = c := ⟨_, rfl⟩
      rw [hcc] at hbn
      have hcb : 0 ≤ c ∧ c ≤ 255 := by have := D[n1]!.toNat_lt; omega
      have hq := pick_bd y.by' 256 (by omega)
      obtain ⟨q, hqe⟩ : ∃ q, pickM y.by' 256 = q := ⟨_, rfl⟩
      rw [hqe] at hq
      have HQ : Hid (pickM y.by' 256 = q) := hqe
      have e4 : IntKind.u8.wrap q = q := by rw [IntKind.wrap_u8]; omega
      have hwr : 0 ≤ IntKind.u8.wrap (c + q) ∧ IntKind.u8.wrap (c + q) < 256 := by rw [IntKind.wrap_u8]; omega
      obtain ⟨D1, hD1, hBD1⟩ := BD.out.put (n := n1) (c := IntKind.u8.wrap (c + q)) (by rw [HDS.out]; exact hn1s) hwr.1 hwr.2
      have N1 : Hid (D1.size = s.size ∧ BytesAt (wr.setCell ⟨w.heap.size, n1, none⟩ (.int .u8 (IntKind.u8.wrap (c + q)))).drew w.heap.size D1 ∧ Below w.heap.size w (wr.setCell ⟨w.heap.size, n1, none⟩ (.int .u8 (IntKind.u8.wrap (c + q)))).drew) :=
        ⟨hD1.trans HDS.out, hBD1, (HBR.out.setCell (p := ⟨w.heap.size, n1, none⟩) (Nat.le_refl _) _).drew⟩
      have e1' : (0 : Int) < 256 := by omega
      have e2' : (256 : Int) ≤ 9223372036854775807 := by omega
      clear hn1e hcc f0 hqe hwr hD1 hBD1
      go_wp2_with fail
      go_region_with (go_at_call 18; refine (keepPick y.by' 256 _ yb0 yb1 e1' e2').mono ?_; rintro e w7 ⟨rfl, rfl⟩; rw [HQ.out])
      all_goals generalize hw4 : World.drew _ = w4
      all_goals rw [hw4] at N1
      all_goals clear hw4
      all_goals go_wp2_with fail
      all_goals go_roundw
      all_goals first
        | (case rel => exact ⟨k + 1, D1, by omega, by go_num, N1.out.1, N1.out.2.1, N1.out.2.2⟩)
        | (case measure => simp [intOf]; omega)
        | skip
    · have hcv2 := bytes_text (cap := cap3) BD.out
      rw [HDS.out] at hcv2
      have hDb : D.size ≤ 1048576 := by rw [HDS.out]; exact hs
      by_cases hk2 : k < m
      · have hs0 : ¬ 0 < s.size := fun h => hlt ⟨hk2, h⟩
        clear hlt
        go_wp2_with fail
        go_ret
        exact ⟨⟨_, rfl, by rw [ByteArray.size_append, HDS.out]; omega⟩, HBR.out⟩
      · clear hlt
        go_wp2_with fail
        go_ret
        exact ⟨⟨_, rfl, by rw [ByteArray.size_append, HDS.out]; omega⟩, HBR.out⟩
end Go.Proofs.Ytmjdndhfmfjbiab

namespace Go.Proofs.Ytmjdndhfmfjbiab
open Go.RowKit

structure LookOk (L : LookD) : Prop where
  time0 : 0 ≤ L.time
  time1 : L.time ≤ 1099511627776
  wait : L.wait.length ≤ 64
  recs : 0 ≤ L.recs
  fil : ∀ k, k < 8 → (L.fil k).length ≤ 6
  que : ∀ k, k < 8 → (L.que k).length ≤ 10
  lost : ∀ k, k < 8 → 0 ≤ L.lost k
theorem look_ok {w0 w : World} {H : Nat} {F : Nat → Prop} {S : RefS} (h : MineF w0 w H F S) : LookOk (lookM S) := by
  have hg := h.good
  have hkn : ∀ k : Nat, k < 8 → knownB (k : Int) = true := fun k hk => by unfold knownB; simp; omega
  obtain ⟨fl, hlk⟩ := h.lk
  refine ⟨hg.inv.time0, hg.inv.time1, ?_, ?_, fun k hk => ?_, fun k hk => ?_, fun k hk => ?_⟩
  · show (waitingM S).length ≤ _
    rw [waiting_len hlk]; exact hg.inv.wait.1
  · show 0 ≤ (S.done.length : Int)
    omega
  · show (filtersM S k).length ≤ _
    unfold filtersM
    rw [if_pos (hkn k hk), sel_len]
    exact (hg.inv.fil _ (by omega)).1
  · show (queueM S k).length ≤ _
    unfold queueM
    rw [if_pos (hkn k hk), List.length_map]
    exact (hg.inv.que _ (by omega)).1
  · show 0 ≤ lostM S k
    unfold lostM
    rw [if_pos (hkn k hk)]
    exact (hg.inv.lost _ (by omega)).1

set_option maxRecDepth 100000 in
set_option maxHeartbeats 1000000 in
theorem keepBounded (L : LookD) (hL : LookOk L) (w : World) (base top : Nat) (xa : Option Addr) (xc : Nat) (ya : Option Addr) (yc : Nat) (za : Option Addr) (zc : Nat) (ua : Option Addr) (uc : Nat) (FV QV : List Value) (h : LookIn w base top L (.slice xa 8 xc) (.slice ya 8 yc) (.slice za 8 zc) (.slice ua L.wait.length uc) FV QV) :
    Calls Try.prog 37 #[.agg #[.int .i64 L.time, .slice xa 8 xc, .slice ya 8 yc, .slice za 8 zc, .slice ua L.wait.length uc, .int .i64 L.recs]] w fun e w' => e = .returned (.bool true) ∧ Below w.heap.size w w' := by
  have HA : Hid (LookIn w base top L (.slice xa 8 xc) (.slice ya 8 yc) (.slice za 8 zc) (.slice ua L.wait.length uc) FV QV) := h
  have HL : Hid (LookOk L) := hL
  have ht0 : ¬ L.time < 0 := by have := hL.time0; omega
  have ht1 : ¬ 1099511627776 < L.time := by have := hL.time1; omega
  have hw : ¬ 64 < L.wait.length := by have := hL.wait; omega
  have hr : ¬ L.recs < 0 := by have := hL.recs; omega
  clear h hL
  generalize hwl : L.wait.length = wl at *
  generalize hti : L.time = ti at *
  generalize hre : L.recs = re at *
  clear hwl hti hre
  have hwI : ¬ (64 : Int) < (wl : Int) := by omega
  go_enter Try.func37, Try.ntmps37
  go_wp2_with fail
  go_loopw [3] (fun i wr => ∃ k : Nat, k ≤ 8 ∧ i = .int .i64 (k : Int) ∧ Below (w.heap.size + 1) (w.alloc (.cells #[.int .i64 ti, .slice xa 8 xc, .slice ya 8 yc, .slice za 8 zc, .slice ua wl uc, .int .i64 re] 70)) wr) (fun i _ => 8 - (intOf i).toNat)
  case atStart => exact ⟨0, by omega, rfl, Below.refl _ _⟩
  case round =>
    obtain ⟨k, hk, rfl, hbr⟩ := hrel
    have hsz : (w.alloc (.cells #[.int .i64 ti, .slice xa 8 xc, .slice ya 8 yc, .slice za 8 zc, .slice ua wl uc, .int .i64 re] 70)).heap.size = w.heap.size + 1 := by simp
    have hB : LookB wr w.heap.size #[.int .i64 ti, .slice xa 8 xc, .slice ya 8 yc, .slice za 8 zc, .slice ua wl uc, .int .i64 re] := (LookB.new w _).below (by rw [hsz]; exact hbr)
    have HBW : Hid (Below w.heap.size w wr) := (below_one w _).trans (hbr.mono (by omega))
    have HBR : Hid (Below (w.heap.size + 1) (w.alloc (.cells #[.int .i64 ti, .slice xa 8 xc, .slice ya 8 yc, .slice za 8 zc, .slice ua wl uc, .int .i64 re] 70)) wr) := hbr
    have c1 := hB.cell 1 _ rfl
    have c2 := hB.cell 2 _ rfl
    have c3 := hB.cell 3 _ rfl
    clear hsz hB hbr
    by_cases hlt : k < 8
    · obtain ⟨gf, gq, gl, cf, cq, cl, af, aq, df, dq, hp⟩ := (HA.out.below HBW.out).pick hlt
      obtain ⟨ef, eq, el, p1, p2, p3, -, -⟩ := hp
      simp only [Value.slice.injEq, true_and] at ef eq el
      obtain ⟨rfl, rfl⟩ := ef
      obtain ⟨rfl, rfl⟩ := eq
      obtain ⟨rfl, rfl⟩ := el
      have q1 := HL.out.fil k hlt
      have q2 := HL.out.que k hlt
      have q3 := HL.out.lost k hlt
      generalize (L.fil k).length = nf at *
      generalize (L.que k).length = nq at *
      generalize L.lost k = nl at *
      have d1 : decide ((6 : Int) < (nf : Int)) = false := decide_eq_false (by omega)
      have d2 : decide ((10 : Int) < (nq : Int)) = false := decide_eq_false (by omega)
      have d3 : decide (nl < 0) = false := decide_eq_false (by omega)
      have n1 : ¬ ((6 : Int) < (nf : Int)) := by omega
      have n2 : ¬ ((10 : Int) < (nq : Int)) := by omega
      have n3 : ¬ nl < 0 := by omega
      go_wp2_with fail
      go_roundw
      case rel => exact ⟨k + 1, by omega, by go_num, HBR.out⟩
      case measure => simp [intOf]; omega
    · go_wp2_with fail
      go_ret
      exact ⟨rfl, HBW.out⟩
end Go.Proofs.Ytmjdndhfmfjbiab

/-
  heraldkeep.goes: what an operation writes.
-/
namespace Go.Proofs.Ytmjdndhfmfjbiab
open Go.RowKit

theorem op_kind (o : StepD) : (opOf o).kind = 6 ↔ pickM o.kind 7 = 5 := by
  have hb := pick_bd o.kind 7 (by omega)
  unfold opOf opK
  generalize pickM o.kind 7 = k at *
  rcases (show k = 0 ∨ k = 1 ∨ k = 2 ∨ k = 3 ∨ k = 4 ∨ k = 5 ∨ k = 6 from by omega) with rfl | rfl | rfl | rfl | rfl | rfl | rfl <;> simp
theorem op_tick {o : StepD} (h : pickM o.kind 7 = 5) : opOf o = ⟨6, 0, pickM o.b 1099511627777, 0, 0, ⟨#[]⟩⟩ := by unfold opOf opK; rw [h]; rfl
/-- What is not done. -/
theorem goes_not {S : RefS} {o : StepD} (h : goE S o ≠ 0 ∨ (pickM o.kind 7 = 5 ∧ pickM o.b 1099511627777 ≤ S.time)) : goS S o = S := by
  rcases h with h | ⟨h1, h2⟩
  · exact (not_done h).2.1
  · unfold goS
    rw [op_tick h1]
    have hwb : writesB S ⟨6, 0, pickM o.b 1099511627777, 0, 0, ⟨#[]⟩⟩ = false := by simp [writesB]; omega
    unfold doS doneB
    rw [hwb, Bool.and_false]; rfl
theorem goes_done {S : RefS} {o : StepD} (h : goE S o = 0) (hn : ¬ (pickM o.kind 7 = 5 ∧ pickM o.b 1099511627777 ≤ S.time)) : (goS S o).done = S.done ++ [opOf o] := by
  have hw : wrongM S (opOf o) = 0 := by
    unfold goE doErr at h
    by_cases hz : wrongM S (opOf o) = 0
    · exact hz
    · rw [if_neg hz] at h; exact absurd h hz
  have hwb : writesB S (opOf o) = true := by
    by_cases h5 : pickM o.kind 7 = 5
    · have h6 : ¬ pickM o.b 1099511627777 ≤ S.time := fun h => hn ⟨h5, h⟩
      rw [op_tick h5]
      simp [writesB]; omega
    · exact writes_not (fun e => h5 ((op_kind o).1 e))
  have hr : (S.done.length : Int) < S.room := by
    unfold goE doErr at h
    rw [if_pos hw, if_pos hwb] at h
    by_cases hz : (S.done.length : Int) < S.room
    · exact hz
    · rw [if_neg hz] at h; exact absurd h (by decide)
  unfold goS
  rw [do_done, if_pos]
  unfold doneB
  rw [hw, hwb]
  simp [hr]
theorem extract_left (a b : ByteArray) : (a ++ b).extract 0 a.size = a := by
  apply ba_ext
  rw [ba_extract, List.drop_zero, ba_list, ba_size, List.take_left]
theorem disk_more {l : List OpD} {o : OpD} : cat ((l ++ [o]).map recOf) = cat (l.map recOf) ++ recOf o := by rw [List.map_append, List.map_singleton, cat_snoc]

set_option maxRecDepth 100000 in
set_option maxHeartbeats 1000000 in
theorem keepGoes {w0 w : World} {H : Nat} {F : Nat → Prop} {S : RefS} (o : StepD) (ho : StepOk o) (h : MineF w0 w H F S) :
    Calls Try.prog 36 #[.pointer (some ⟨H, 0, none⟩), stepV o] w fun e w' => e = .returned (.bool true) ∧ Mine w0 w' H (goS S o) := by
  have HM : Hid (MineF w0 w H F S) := h
  have HO : Hid (StepOk o) := ho
  have HB1 : Hid (∀ ob, MineF w0 (w.alloc ob) H F S) := fun ob => HM.out.below (below_one _ _)
  obtain ⟨kk, a, b, c, d, s⟩ := o
  obtain ⟨⟨k0, k1⟩, -, ⟨b0, b1⟩, -, -, -⟩ := ho
  simp only at k0 k1 b0 b1
  clear h
  have HN0 : Hid (goE S ⟨kk, a, b, c, d, s⟩ ≠ 0 → goS S ⟨kk, a, b, c, d, s⟩ = S) := fun h => goes_not (.inl h)
  have HN1 : Hid (pickM kk 7 = 5 → pickM b 1099511627777 ≤ S.time → goS S ⟨kk, a, b, c, d, s⟩ = S) := fun h1 h2 => goes_not (.inr ⟨h1, h2⟩)
  have HN2 : Hid (goE S ⟨kk, a, b, c, d, s⟩ = 0 → ¬ (pickM kk 7 = 5 ∧ pickM b 1099511627777 ≤ S.time) → (goS S ⟨kk, a, b, c, d, s⟩).done = S.done ++ [opOf ⟨kk, a, b, c, d, s⟩]) := fun h1 h2 => goes_done h1 h2
  have HDS : Hid ((cat (S.done.map recOf)).size = 42 * S.done.length) := disk_size HM.out.mine
  have hdl : S.done.length ≤ 500 := HM.out.good.inv.done
  generalize hGE : goE S ⟨kk, a, b, c, d, s⟩ = E at *
  generalize hGA : goA S ⟨kk, a, b, c, d, s⟩ = AN at *
  generalize hGS : goS S ⟨kk, a, b, c, d, s⟩ = S1 at *
  generalize hOP : opOf ⟨kk, a, b, c, d, s⟩ = OP at *
  have HGE : Hid (goE S ⟨kk, a, b, c, d, s⟩ = E) := hGE
  have HGA : Hid (goA S ⟨kk, a, b, c, d, s⟩ = AN) := hGA
  have HGS : Hid (goS S ⟨kk, a, b, c, d, s⟩ = S1) := hGS
  clear hGE hGA hGS hOP
  unfold stepV
  simp only
  go_enter Try.func36, Try.ntmps36
  go_wp2_with fail
  generalize hwA : w.alloc _ = wA
  have MA : Hid (MineF w0 wA H F S) := by rw [← hwA]; exact HB1.out _
  have c0 : wA.cell? ⟨w.heap.size, 0, none⟩ = some (.int .i64 kk) := by rw [← hwA]; simp
  have c1 : wA.cell? ⟨w.heap.size, 1, none⟩ = some (.int .i64 a) := by rw [← hwA]; simp
  have c2 : wA.cell? ⟨w.heap.size, 2, none⟩ = some (.int .i64 b) := by rw [← hwA]; simp
  have c3 : wA.cell? ⟨w.heap.size, 3, none⟩ = some (.int .i64 c) := by rw [← hwA]; simp
  have c4 : wA.cell? ⟨w.heap.size, 4, none⟩ = some (.int .i64 d) := by rw [← hwA]; simp
  have c5 : wA.cell? ⟨w.heap.size, 5, none⟩ = some (.string s) := by rw [← hwA]; simp
  clear hwA
  refine (mineDisk MA.out.mine).mono ?_
  rintro e wA ⟨rfl, rfl⟩
  generalize hdk : cat (S.done.map recOf) = dk at *
  have HDK : Hid (cat (S.done.map recOf) = dk) := hdk
  have hdks : dk.size ≤ 21000 := by rw [HDS.out]; omega
  clear hdk
  go_wp2_with fail
  refine (mineRecords MA.out.mine).mono ?_
  rintro e wA ⟨rfl, rfl⟩
  generalize hrl : S.done.length = rl at *
  have HRL : Hid (S.done.length = rl) := hrl
  clear hrl
  go_wp2_with fail
  refine (mineTime MA.out.mine).mono ?_
  rintro e wA ⟨rfl, rfl⟩
  generalize hti : S.time = ti at *
  clear hti
  go_wp2_with fail
  refine (keepPick kk 7 _ k0 k1 (by omega) (by omega)).mono ?_
  rintro e wA ⟨rfl, rfl⟩
  generalize pickM kk 7 = K at *
  go_wp2_with fail
  refine (keepPick b 1099511627777 _ b0 b1 (by omega) (by omega)).mono ?_
  rintro e wA ⟨rfl, rfl⟩
  generalize pickM b 1099511627777 = T at *
  have HDO : Hid (Calls Try.prog 68 #[.pointer (some ⟨H, 0, none⟩), .agg #[.int .i64 kk, .int .i64 a, .int .i64 b, .int .i64 c, .int .i64 d, .string s]] wA fun e w' => e = .returned (.tuple #[.int .i64 AN, .int .i64 E]) ∧ MineStep w0 wA H F S1 w') := by
    have h := keepDo _ HO.out MA.out
    rw [HGA.out, HGE.out, HGS.out] at h
    exact h
  by_cases hE : E = 0
  · by_cases hK : K = 5
    · by_cases hT : T ≤ ti
      · have HS1 : Hid (S1 = S) := HN1.out hK hT
        subst hE hK
        go_wp2_with fail
        refine HDO.out.mono ?_
        rintro e w4 ⟨rfl, hm4⟩
        have M4 : Hid (Mine w0 w4 H S1) := hm4.mine
        have M4s : Hid (Mine w0 w4 H S) := by have h := hm4.mine; rw [HS1.out] at h; exact h
        clear hm4 c0 c1 c2 c3 c4 c5
        go_wp2_with fail
        refine (mineDisk M4s.out).mono ?_
        rintro e w4 ⟨rfl, rfl⟩
        rw [HDK.out]
        go_wp2_with fail
        refine (mineRecords M4s.out).mono ?_
        rintro e w4 ⟨rfl, rfl⟩
        rw [HRL.out]
        go_wp2_with fail
        go_ret
        exact ⟨rfl, M4.out⟩
      · have HD1 : Hid (S1.done = S.done ++ [OP]) := HN2.out hE (fun h => hT h.2)
        subst hE hK
        go_wp2_with fail
        refine HDO.out.mono ?_
        rintro e w4 ⟨rfl, hm4⟩
        have M4 : Hid (Mine w0 w4 H S1) := hm4.mine
        have hl1 : S1.done.length = rl + 1 := by rw [HD1.out, List.length_append, HRL.out]; rfl
        have hnd : cat (S1.done.map recOf) = dk ++ recOf OP := by rw [HD1.out, disk_more, HDK.out]
        have hns := disk_size hm4.mine
        rw [hnd, hl1] at hns
        have hex := extract_left dk (recOf OP)
        have HND : Hid (cat (S1.done.map recOf) = dk ++ recOf OP) := hnd
        have HL1 : Hid (S1.done.length = rl + 1) := hl1
        have hrl5 : rl + 1 ≤ 500 := by rw [← hl1]; exact hm4.mine.good.inv.done
        generalize dk ++ recOf OP = nd at *
        have hlt : dk.size < nd.size := by rw [HDS.out]; omega
        have hnb : nd.size ≤ 21000 := by omega
        clear hm4 hl1 hnd hns c0 c1 c2 c3 c4 c5
        go_wp2_with fail
        refine (mineDisk M4.out).mono ?_
        rintro e w4 ⟨rfl, rfl⟩
        rw [HND.out]
        go_wp2_with fail
        refine (mineRecords M4.out).mono ?_
        rintro e w4 ⟨rfl, rfl⟩
        rw [HL1.out]
        go_wp2_with fail
        go_ret
        exact ⟨rfl, M4.out⟩
    · have HD1 : Hid (S1.done = S.done ++ [OP]) := HN2.out hE (fun h => hK h.1)
      subst hE
      go_wp2_with fail
      refine HDO.out.mono ?_
      rintro e w4 ⟨rfl, hm4⟩
      have M4 : Hid (Mine w0 w4 H S1) := hm4.mine
      have hl1 : S1.done.length = rl + 1 := by rw [HD1.out, List.length_append, HRL.out]; rfl
      have hnd : cat (S1.done.map recOf) = dk ++ recOf OP := by rw [HD1.out, disk_more, HDK.out]
      have hns := disk_size hm4.mine
      rw [hnd, hl1] at hns
      have hex := extract_left dk (recOf OP)
      have HND : Hid (cat (S1.done.map recOf) = dk ++ recOf OP) := hnd
      have HL1 : Hid (S1.done.length = rl + 1) := hl1
      have hrl5 : rl + 1 ≤ 500 := by rw [← hl1]; exact hm4.mine.good.inv.done
      generalize dk ++ recOf OP = nd at *
      have hlt : dk.size < nd.size := by rw [HDS.out]; omega
      have hnb : nd.size ≤ 21000 := by omega
      clear hm4 hl1 hnd hns c0 c1 c2 c3 c4 c5
      go_wp2_with fail
      refine (mineDisk M4.out).mono ?_
      rintro e w4 ⟨rfl, rfl⟩
      rw [HND.out]
      go_wp2_with fail
      refine (mineRecords M4.out).mono ?_
      rintro e w4 ⟨rfl, rfl⟩
      rw [HL1.out]
      go_wp2_with fail
      go_ret
      exact ⟨rfl, M4.out⟩
  · have HS1 : Hid (S1 = S) := HN0.out hE
    by_cases hK : K = 5
    · subst hK
      by_cases hT : T ≤ ti
      all_goals
        go_wp2_with fail
        refine HDO.out.mono ?_
        rintro e w4 ⟨rfl, hm4⟩
        have M4 : Hid (Mine w0 w4 H S1) := hm4.mine
        have M4s : Hid (Mine w0 w4 H S) := by have h := hm4.mine; rw [HS1.out] at h; exact h
        clear hm4 c0 c1 c2 c3 c4 c5
        go_wp2_with fail
        refine (mineDisk M4s.out).mono ?_
        rintro e w4 ⟨rfl, rfl⟩
        rw [HDK.out]
        go_wp2_with fail
        refine (mineRecords M4s.out).mono ?_
        rintro e w4 ⟨rfl, rfl⟩
        rw [HRL.out]
        go_wp2_with fail
        go_ret
        exact ⟨rfl, M4.out⟩
    · skip
      go_wp2_with fail
      refine HDO.out.mono ?_
      rintro e w4 ⟨rfl, hm4⟩
      have M4 : Hid (Mine w0 w4 H S1) := hm4.mine
      have M4s : Hid (Mine w0 w4 H S) := by have h := hm4.mine; rw [HS1.out] at h; exact h
      clear hm4 c0 c1 c2 c3 c4 c5
      go_wp2_with fail
      refine (mineDisk M4s.out).mono ?_
      rintro e w4 ⟨rfl, rfl⟩
      rw [HDK.out]
      go_wp2_with fail
      refine (mineRecords M4s.out).mono ?_
      rintro e w4 ⟨rfl, rfl⟩
      rw [HRL.out]
      go_wp2_with fail
      go_ret
      exact ⟨rfl, M4.out⟩
end Go.Proofs.Ytmjdndhfmfjbiab

namespace Go.Proofs.Ytmjdndhfmfjbiab
open Go.RowKit

set_option maxRecDepth 100000 in
set_option maxHeartbeats 1000000 in
theorem othersWalk (l : List StepD) (ao : Option Addr) (m cap : Nat) (cut : Int) (tl : List TurnD) (to : Option Addr) (tm tcap : Nat) (more : ByteArray) (room : Int) (r : List StepD) (bo : Option Addr) (p cap2 : Nat) (w : World) (hl : l.length = m) (hm : m * 56 ≤ 140737488351232) (hsc : StepsAt w ao l) (hok : ∀ o ∈ l, StepOk o) (hn : ao = none → m = 0 ∧ cap = 0)
    (htl : tl.length = tm) (htm : tm ≤ 9223372036854775807) (htsc : TurnsAt w to tl) (htok : ∀ y ∈ tl, TurnOk y) (hmo : more.size ≤ 140737488351232)
    (hl2 : r.length = p) (hp : p ≤ 9223372036854775807) (hsc2 : StepsAt w bo r) (hok2 : ∀ o ∈ r, StepOk o) (ha0 : -9223372036854775808 ≤ cut) (ha1 : cut ≤ 9223372036854775807) (hr0 : -9223372036854775808 ≤ room) (hr1 : room ≤ 9223372036854775807) :
    Calls Try.prog 6 #[.slice ao m cap, .int .i64 cut, .slice to tm tcap, .string more, .int .i64 room, .slice bo p cap2] w fun e w' => e = .returned (.bool true) ∧ Below w.heap.size w w' := by
  have HTS : Hid (tl.length = tm ∧ TurnsAt w to tl ∧ ∀ y ∈ tl, TurnOk y) := ⟨htl, htsc, htok⟩
  clear htl htsc htok
  obtain ⟨v1, w1, hrun, hown, hbw1⟩ := all_run w hl hm hsc hn
  have HRS : Hid (r.length = p ∧ StepsAt w bo r ∧ ∀ o ∈ r, StepOk o) := ⟨hl2, hsc2, hok2⟩
  have HOK : Hid (∀ o ∈ stepA :: stepB :: stepC :: l, StepOk o) := fun o ho => by
    simp only [List.mem_cons] at ho
    rcases ho with rfl | rfl | rfl | ho
    · exact ⟨by decide, by decide, by decide, by decide, by decide, by unfold maxLen; show 1 ≤ _; omega⟩
    · exact ⟨by decide, by decide, by decide, by decide, by decide, by unfold maxLen; show 1 ≤ _; omega⟩
    · exact ⟨by decide, by decide, by decide, by decide, by decide, by unfold maxLen; show 0 ≤ _; omega⟩
    · exact hok o ho
  obtain ⟨t1, t2, t3⟩ := first_three l
  have hNl : (stepA :: stepB :: stepC :: l).length = m + 3 := by simp [hl]
  generalize hL : stepA :: stepB :: stepC :: l = L at *
  rw [hNl] at hown
  obtain ⟨a1, c1, rfl, -, -, hc1⟩ := Row.form (own_mono hown (Nat.zero_le _))
  have SA1 : Hid (StepsAt w1 a1 L) := steps_of_row hc1
  have HNL : Hid (L.length = m + 3) := hNl
  have HBW1 : Hid (Below w.heap.size w w1) := hbw1
  have x0 : endAt L 0 = 0 := rfl
  have x1 : endAt L 1 = 42 := by unfold endAt; rw [t1]; rfl
  have x2 : endAt L 2 = 84 := by unfold endAt; rw [t2]; rfl
  have x3 : endAt L 3 = 126 := by unfold endAt; rw [t3]; rfl
  have X0 : Hid (endAt L 0 = 0 ∧ endAt L 1 = 42 ∧ endAt L 2 = 84 ∧ endAt L 3 = 126) := ⟨x0, x1, x2, x3⟩
  have T3 : Hid (doneN L 3 = 3) := t3
  clear hl hsc hok hn hl2 hsc2 hok2 hown hc1 hNl hL t1 t2 t3 x0 x1 x2 x3 hbw1
  unfold litCells at hrun
  go_enter Try.func6, Try.ntmps6
  go_wp2_with (first | (at_builtin; refine wpList_append_run rfl _ _ 57 rfl _ _ _ _ rfl rfl hrun ?_))
  refine (keepPlayed L a1 (m + 3) c1 w1 HNL.out (by omega) SA1.out HOK.out).mono ?_
  rintro e w2 ⟨H, F, v2, rfl, hm2, ho2, hap2⟩
  generalize hSS : runS (refNew 500) L = S at *
  have HSS : Hid (runS (refNew 500) L = S) := hSS
  have M2 : Hid (MineF w1 w2 H F S) := hm2
  obtain ⟨a2, c2, rfl, hc2, -, hce⟩ := Row.form (own_mono ho2 (Nat.zero_le _))
  obtain ⟨ge, he, -⟩ := hce 0 (.int .i64 (endAt L 0)) (by unfold endsV; simp)
  subst he
  have HCE : Hid (CellsAt w2 (some ⟨ge, 0, none⟩) (endsV L (m + 3 + 1))) := hce
  have HDC : Hid (doneN L (m + 3) = S.done.length) := by show _ = _; rw [doneN_all HNL.out, hSS]
  have hdc3 : 3 ≤ S.done.length := by rw [← HDC.out]; exact Nat.le_trans (Nat.le_of_eq T3.out.symm) (doneN_mono L (by omega))
  have hdc5 : S.done.length ≤ 500 := hm2.good.inv.done
  have HDS : Hid ((cat (S.done.map recOf)).size = 42 * S.done.length) := disk_size hm2.mine
  have H42 : Hid (∀ r ∈ S.done.map recOf, r.size = 42) := rec42 hm2.mine
  have z0 : w2.cell? ⟨ge, 0, none⟩ = some (.int .i64 0) := by rw [ends_cell hce (by omega), X0.out.1]
  have z1 : w2.cell? ⟨ge, 1, none⟩ = some (.int .i64 42) := by rw [ends_cell hce (by omega), X0.out.2.1]
  have z2 : w2.cell? ⟨ge, 2, none⟩ = some (.int .i64 84) := by rw [ends_cell hce (by omega), X0.out.2.2.1]
  have z3 : w2.cell? ⟨ge, 3, none⟩ = some (.int .i64 126) := by rw [ends_cell hce (by omega), X0.out.2.2.2]
  have HEB0 : Hid (∀ q, endAt L q ≤ 9223372036854775807 ∧ 0 ≤ endAt L q) := fun q => by
    obtain ⟨D, hD⟩ := run_more (L.drop q) (runS (refNew 500) (L.take q))
    rw [← run_split, hSS] at hD
    have h1 : doneN L q ≤ S.done.length := by unfold doneN; rw [hD, List.length_append]; omega
    unfold endAt
    omega
  clear hSS hm2 ho2 hap2 hce hrun
  generalize hNE : m + 3 + 1 = NE at *
  have HNE : Hid (m + 3 + 1 = NE) := hNE
  have hne4 : ¬ ((NE : Int) < 4) := by omega
  have hne5 : (0 : Int) < (NE : Int) ∧ (1 : Int) < (NE : Int) ∧ (2 : Int) < (NE : Int) ∧ (3 : Int) < (NE : Int) := by omega
  obtain ⟨q0, q1, q2, q3⟩ := hne5
  have hneb : decide ((NE : Int) < 4) = false := decide_eq_false hne4
  have hneu : (NE : Int) ≤ 2600000000010 := by omega
  clear hNE
  go_wp2_with fail
  go_quiet (fail)
  generalize hw3 : w2.drewN nq = w3
  have hb3 : Below w2.heap.size w2 w3 := by rw [← hw3]; exact below_drewN (Below.refl _ _)
  have M3 : Hid (MineF w1 w3 H F S) := M2.out.below hb3
  have HCE3 : Hid (CellsAt w3 (some ⟨ge, 0, none⟩) (endsV L NE)) := HCE.out.below hb3
  clear hw3 hb3 z0 z1 z2 z3
  go_wp2_with fail
  refine (mineDisk M3.out.mine).mono ?_
  rintro e w3 ⟨rfl, rfl⟩
  have hds := HDS.out
  generalize hdk : cat (S.done.map recOf) = dk at *
  have HDK : Hid (cat (S.done.map recOf) = dk) := hdk
  have HDZ : Hid (dk.size = 42 * S.done.length) := hds
  have hdz1 : 126 ≤ dk.size := by omega
  have hdz2 : dk.size ≤ 21000 := by omega
  clear hdk hds
  go_wp2_with fail
  refine (keepPick cut ((dk.size : Int) + 1) _ ha0 ha1 (by omega) (by omega)).mono ?_
  rintro e w3 ⟨rfl, rfl⟩
  have hk1 := pick_bd cut ((dk.size : Int) + 1) (by omega)
  obtain ⟨k1, hk1e⟩ : ∃ k1 : Nat, pickM cut ((dk.size : Int) + 1) = (k1 : Int) := ⟨(pickM cut ((dk.size : Int) + 1)).toNat, by omega⟩
  rw [hk1e] at hk1 ⊢
  have hk1s : k1 ≤ dk.size := by omega
  have hwh : (dk.extract 0 k1).size ≤ 1048576 := by
    rw [ba_size, ba_extract, List.drop_zero, List.length_take]
    omega
  have HBW3 : Hid (Below w.heap.size w w3) := HBW1.out.trans (M3.out.mine.out.mono HBW1.out.size)
  clear hk1e
  go_wp2_with fail
  generalize dk.extract 0 k1 = wh at *
  refine (keepBent wh tl to tm tcap more w _ hwh hmo HTS.out.1 (by omega) HTS.out.2.1 HTS.out.2.2 HBW3.out).mono ?_
  rintro e w4 ⟨⟨tx, rfl, htx⟩, hb4⟩
  have HBW4 : Hid (Below w.heap.size w w4) := HBW3.out.trans (hb4.mono HBW3.out.size)
  clear hb4
  by_cases hroom : room < 0 ∨ 500 < room
  · have HBAD : Hid (Calls Try.prog 30 #[.string tx, .int .i64 room] w4 fun e w' => e = .returned (.tuple #[.pointer none, .int .i64 1]) ∧ Below w4.heap.size w4 w') := hrNewBad w4 tx room hroom
    rcases hroom with hroom | hroom
    all_goals
      go_wp2_with fail
      refine HBAD.out.mono ?_
      rintro e w5 ⟨rfl, hb5⟩
      have HB5 : Hid (Below w.heap.size w w5) := HBW4.out.trans (hb5.mono HBW4.out.size)
      clear hb5
      go_wp2_with fail
      go_ret
      exact ⟨rfl, HB5.out⟩
  · have hrm0 : 0 ≤ room := by omega
    have hrm1 : room ≤ 500 := by omega
    have hrm2 : ¬ room < 0 := by omega
    have hrm3 : ¬ 500 < room := by omega
    clear hroom
    go_wp2_with fail
    refine (mineNew tx room w4 (by omega) hrm0 hrm1).mono ?_
    rintro e w5 ⟨Hx, Fx, SX, rfl, hx5, hxr⟩
    have X5 : Hid (Mine w w5 Hx SX) := (hx5.base HBW4.out).mine
    have HXR : Hid (SX.room = room) := hxr
    clear hx5 hxr
    go_wp2_with fail
    go_loopw [22] (fun i wr => ∃ q : Nat, q ≤ p ∧ i = .int .i64 (q : Int) ∧ Mine w wr Hx (runS SX (r.take q))) (fun i _ => p - (intOf i).toNat)
    case atStart => exact ⟨0, Nat.zero_le _, rfl, X5.out⟩
    case round =>
      obtain ⟨q, hqp, rfl, hM⟩ := hrel
      by_cases hlt : q < p
      · obtain ⟨o, ho⟩ : ∃ o, r[q]? = some o := ⟨_, List.getElem?_eq_getElem (by rw [HRS.out.1]; exact hlt)⟩
        have HO : Hid (StepOk o) := HRS.out.2.2 o (List.mem_of_getElem? ho)
        obtain ⟨gs, off, rfl, e0, e1, e2, e3, e4, e5⟩ := HRS.out.2.1 q o ho
        have f0 := cell_later hM.out e0
        have f1 := cell_later hM.out e1
        have f2 := cell_later hM.out e2
        have f3 := cell_later hM.out e3
        have f4 := cell_later hM.out e4
        have f5 := cell_later hM.out e5
        have HN : Hid (runS SX (r.take (q + 1)) = goS (runS SX (r.take q)) o) := run_next ho
        obtain ⟨Fq, hM⟩ := hM.mineF
        have MM : Hid (MineF w wr Hx Fq (runS SX (r.take q))) := hM
        clear ho e0 e1 e2 e3 e4 e5 hM
        generalize runS SX (r.take q) = SQ at *
        go_wp2_with fail
        refine (keepGoes o HO.out MM.out).mono ?_
        rintro e w6 ⟨rfl, hm6⟩
        have M6 : Hid (Mine w w6 Hx (runS SX (r.take (q + 1)))) := by rw [HN.out]; exact hm6
        clear hm6 f0 f1 f2 f3 f4 f5
        go_wp2_with fail
        go_roundw
        case rel => exact ⟨q + 1, by omega, by go_num, M6.out⟩
        case measure => simp [intOf]; omega
      · obtain rfl : q = p := by omega
        have HR2 : Hid ((runS SX (r.take q)).room = room) := by show _ = _; rw [run_room]; exact HXR.out
        generalize runS SX (r.take q) = S2 at *
        have M5 : Hid (Mine w wr Hx S2) := hM
        clear hM
        go_wp2_with fail
        refine (mineDisk M5.out).mono ?_
        rintro e wr ⟨rfl, rfl⟩
        have hNEW := mineAgain M5.out
        rw [HR2.out] at hNEW
        generalize hdo : cat (S2.done.map recOf) = own at *
        have HDO : Hid (cat (S2.done.map recOf) = own) := hdo
        have HMF : Hid (∃ F, MineF w wr Hx F S2) := M5.out.mineF
        generalize hLK : lookM S2 = LK
        have HLK : Hid (lookM S2 = LK) := hLK
        have HFW : Hid (LookFew LK) := by obtain ⟨F, hF⟩ := HMF.out; rw [← hLK]; exact look_good hF
        have HOKL : Hid (LookOk LK) := by obtain ⟨F, hF⟩ := HMF.out; rw [← hLK]; exact look_ok hF
        clear hNEW hdo hLK
        go_wp2_with fail
        refine (keepLookF HLK.out M5.out).mono ?_
        rintro e w6 ⟨xa, xc, ya, yc, za, zc, ua, uc, FV, QV, rfl, hl6, hb6⟩
        have L6 : Hid (LookIn w6 wr.heap.size w6.heap.size LK (.slice xa 8 xc) (.slice ya 8 yc) (.slice za 8 zc) (.slice ua LK.wait.length uc) FV QV) := hl6
        have M6 : Hid (Mine w w6 Hx S2) := M5.out.below hb6
        clear hl6 hb6
        go_wp2_with fail
        generalize hwA : w6.alloc _ = wA
        have hbA : Below w6.heap.size w6 wA := by rw [← hwA]; exact below_one _ _
        have BA : Hid (LookB wA w6.heap.size #[.int .i64 LK.time, .slice xa 8 xc, .slice ya 8 yc, .slice za 8 zc, .slice ua LK.wait.length uc, .int .i64 LK.recs]) := by rw [← hwA]; exact LookB.new _ _
        have MA : Hid (Mine w wA Hx S2) := M6.out.below hbA
        have LA : Hid (LookIn wA wr.heap.size w6.heap.size LK (.slice xa 8 xc) (.slice ya 8 yc) (.slice za 8 zc) (.slice ua LK.wait.length uc) FV QV) := L6.out.below hbA
        have HNEW : Hid (Calls Try.prog 30 #[.string own, .int .i64 room] wA fun e w' => ∃ H1 F1, e = .returned (.tuple #[.pointer (some ⟨H1, 0, none⟩), .int .i64 0]) ∧ MineF wA w' H1 F1 S2) := by
          have h := mineAgain MA.out
          rw [HR2.out, HDO.out] at h
          exact h
        clear hwA hbA
        refine HNEW.out.mono ?_
        rintro e w7 ⟨Hy, Fy, rfl, hy7⟩
        have Y7 : Hid (Mine wA w7 Hy S2) := hy7.mine
        have BA7 : Hid (LookB w7 w6.heap.size #[.int .i64 LK.time, .slice xa 8 xc, .slice ya 8 yc, .slice za 8 zc, .slice ua LK.wait.length uc, .int .i64 LK.recs]) := BA.out.below hy7.mine.out
        have LA7 : Hid (LookIn w7 wr.heap.size w6.heap.size LK (.slice xa 8 xc) (.slice ya 8 yc) (.slice za 8 zc) (.slice ua LK.wait.length uc) FV QV) := LA.out.below hy7.mine.out
        have HBW7 : Hid (Below w.heap.size w w7) := MA.out.out.trans (hy7.mine.out.mono MA.out.out.size)
        clear hy7
        go_wp2_with fail
        refine (keepLookF HLK.out Y7.out).mono ?_
        rintro e w8 ⟨xa', xc', ya', yc', za', zc', ua', uc', FV', QV', rfl, hl8, hb8⟩
        have L8 : Hid (LookIn w8 w7.heap.size w8.heap.size LK (.slice xa' 8 xc') (.slice ya' 8 yc') (.slice za' 8 zc') (.slice ua' LK.wait.length uc') FV' QV') := hl8
        have LA8 : Hid (LookIn w8 wr.heap.size w6.heap.size LK (.slice xa 8 xc) (.slice ya 8 yc) (.slice za 8 zc) (.slice ua LK.wait.length uc) FV QV) := LA7.out.below hb8
        have BA8 : Hid (LookB w8 w6.heap.size #[.int .i64 LK.time, .slice xa 8 xc, .slice ya 8 yc, .slice za 8 zc, .slice ua LK.wait.length uc, .int .i64 LK.recs]) := BA7.out.below hb8
        have HBW8 : Hid (Below w.heap.size w w8) := HBW7.out.trans (hb8.mono HBW7.out.size)
        have MB : Hid (∀ ob, Mine wA (w8.alloc ob) Hy S2) := fun ob => (Y7.out.below hb8).below (below_one _ _)
        clear hl8 hb8
        go_wp2_with fail
        refine (mineDisk (MB.out _)).mono ?_
        rintro e w9 ⟨rfl, hw9⟩
        rw [HDO.out]
        have hbB : Below w8.heap.size w8 w9 := by rw [hw9]; exact below_one _ _
        have BY9 : Hid (LookB w9 w8.heap.size #[.int .i64 LK.time, .slice xa' 8 xc', .slice ya' 8 yc', .slice za' 8 zc', .slice ua' LK.wait.length uc', .int .i64 LK.recs]) := by rw [hw9]; exact LookB.new _ _
        have BA9 : Hid (LookB w9 w6.heap.size #[.int .i64 LK.time, .slice xa 8 xc, .slice ya 8 yc, .slice za 8 zc, .slice ua LK.wait.length uc, .int .i64 LK.recs]) := BA8.out.below hbB
        have L9 : Hid (LookIn w9 w7.heap.size w8.heap.size LK (.slice xa' 8 xc') (.slice ya' 8 yc') (.slice za' 8 zc') (.slice ua' LK.wait.length uc') FV' QV') := L8.out.below hbB
        have LA9 : Hid (LookIn w9 wr.heap.size w6.heap.size LK (.slice xa 8 xc) (.slice ya 8 yc) (.slice za 8 zc) (.slice ua LK.wait.length uc) FV QV) := LA8.out.below hbB
        have HBW9 : Hid (Below w.heap.size w w9) := HBW8.out.trans (hbB.mono HBW8.out.size)
        have s0 := BA9.out.cell 0 _ rfl
        have s1 := BA9.out.cell 1 _ rfl
        have s2 := BA9.out.cell 2 _ rfl
        have s3 := BA9.out.cell 3 _ rfl
        have s4 := BA9.out.cell 4 _ rfl
        have s5 := BA9.out.cell 5 _ rfl
        clear hw9 hbB
        go_wp2_with fail
        refine (keepBounded LK HOKL.out w9 _ _ xa xc ya yc za zc ua uc FV QV LA9.out).mono ?_
        rintro e w10 ⟨rfl, hb10⟩
        have BY10 : Hid (LookB w10 w8.heap.size #[.int .i64 LK.time, .slice xa' 8 xc', .slice ya' 8 yc', .slice za' 8 zc', .slice ua' LK.wait.length uc', .int .i64 LK.recs]) := BY9.out.below hb10
        have BA10 : Hid (LookB w10 w6.heap.size #[.int .i64 LK.time, .slice xa 8 xc, .slice ya 8 yc, .slice za 8 zc, .slice ua LK.wait.length uc, .int .i64 LK.recs]) := BA9.out.below hb10
        have HALD : Hid (Calls Try.prog 33 #[.agg #[.int .i64 LK.time, .slice xa 8 xc, .slice ya 8 yc, .slice za 8 zc, .slice ua LK.wait.length uc, .int .i64 LK.recs], .agg #[.int .i64 LK.time, .slice xa' 8 xc', .slice ya' 8 yc', .slice za' 8 zc', .slice ua' LK.wait.length uc', .int .i64 LK.recs]] w10 fun e w' => e = .returned (.bool true) ∧ Below w10.heap.size w10 w') :=
          keepAlike LK HFW.out _ _ w10 _ _ _ _ ⟨_, _, _, _, FV, QV, rfl, LA9.out.below hb10⟩ ⟨_, _, _, _, FV', QV', rfl, L9.out.below hb10⟩
        have HBW10 : Hid (Below w.heap.size w w10) := HBW9.out.trans (hb10.mono HBW9.out.size)
        clear hb10 s0 s1 s2 s3 s4 s5
        have s0 := BA10.out.cell 0 _ rfl
        have s1 := BA10.out.cell 1 _ rfl
        have s2 := BA10.out.cell 2 _ rfl
        have s3 := BA10.out.cell 3 _ rfl
        have s4 := BA10.out.cell 4 _ rfl
        have s5 := BA10.out.cell 5 _ rfl
        have g0 := BY10.out.cell 0 _ rfl
        have g1 := BY10.out.cell 1 _ rfl
        have g2 := BY10.out.cell 2 _ rfl
        have g3 := BY10.out.cell 3 _ rfl
        have g4 := BY10.out.cell 4 _ rfl
        have g5 := BY10.out.cell 5 _ rfl
        go_wp2_with fail
        refine HALD.out.mono ?_
        rintro e w11 ⟨rfl, hb11⟩
        have HB11 : Hid (Below w.heap.size w w11) := HBW10.out.trans (hb11.mono HBW10.out.size)
        clear hb11 s0 s1 s2 s3 s4 s5 g0 g1 g2 g3 g4 g5
        go_wp2_with fail
        go_ret
        exact ⟨rfl, HB11.out⟩
end Go.Proofs.Ytmjdndhfmfjbiab

namespace Go.Proofs.Ytmjdndhfmfjbiab
open Go.RowKit
open Go.Deep Go.ChangeShapes Go.WideShapes Go.ChangeAt
open Go.ChangeMaps (open_string shut_string)

theorem laidOutS : laidOutB Try.prog = true := by kernel_rfl
theorem cellsIntS : Try.prog.cellsOf 3 = 1 := by kernel_rfl
theorem cellsStrS : Try.prog.cellsOf 9 = 1 := by kernel_rfl
theorem cellsStepS : Try.prog.cellsOf 59 = 6 := by kernel_rfl
set_option maxRecDepth 100000 in
theorem open_kstep {H : Type} {enc : TypeId × Value → H} {W : World} {base : Nat} {spare : Nat → Bool} {held : Bool} {fuel : Nat} {cs : List Value} {x : DataW H × List MemPlace} (h : DataW.trod enc Try.prog W base spare held fuel 59 cs = some x) :
    ∃ y : StepD, cs = [.int .i64 y.kind, .int .i64 y.a, .int .i64 y.b, .int .i64 y.c, .int .i64 y.d, .string y.s] ∧ StepOk y := by
  obtain ⟨xs, n, -, hx, hl, hlen, hf⟩ := DataW.trod_struct Try.underlying59 h
  rw [cellsStepS] at hl
  match cs, hl with
  | [v0, v1, v2, v3, v4, v5], _ =>
    match xs, hlen with
    | [y0, y1, y2, y3, y4, y5], _ =>
      have f0 : DataW.trod enc Try.prog W base spare held n 3 (([v0, v1, v2, v3, v4, v5].drop 0).take (Try.prog.cellsOf 3)) = some y0 := hf 0 _ rfl
      have f1 : DataW.trod enc Try.prog W base spare held n 3 (([v0, v1, v2, v3, v4, v5].drop 1).take (Try.prog.cellsOf 3)) = some y1 := hf 1 _ rfl
      have f2 : DataW.trod enc Try.prog W base spare held n 3 (([v0, v1, v2, v3, v4, v5].drop 2).take (Try.prog.cellsOf 3)) = some y2 := hf 2 _ rfl
      have f3 : DataW.trod enc Try.prog W base spare held n 3 (([v0, v1, v2, v3, v4, v5].drop 3).take (Try.prog.cellsOf 3)) = some y3 := hf 3 _ rfl
      have f4 : DataW.trod enc Try.prog W base spare held n 3 (([v0, v1, v2, v3, v4, v5].drop 4).take (Try.prog.cellsOf 3)) = some y4 := hf 4 _ rfl
      have f5 : DataW.trod enc Try.prog W base spare held n 9 (([v0, v1, v2, v3, v4, v5].drop 5).take (Try.prog.cellsOf 9)) = some y5 := hf 5 _ rfl
      rw [cellsIntS] at f0 f1 f2 f3 f4
      rw [cellsStrS] at f5
      simp only [List.drop_zero, List.drop_succ_cons, List.take_succ_cons, List.take_zero] at f0 f1 f2 f3 f4 f5
      obtain ⟨n0, e0, -, w0⟩ := DataW.trod_int Try.underlying3 f0
      obtain ⟨n1, e1, -, w1⟩ := DataW.trod_int Try.underlying3 f1
      obtain ⟨n2, e2, -, w2⟩ := DataW.trod_int Try.underlying3 f2
      obtain ⟨n3, e3, -, w3⟩ := DataW.trod_int Try.underlying3 f3
      obtain ⟨n4, e4, -, w4⟩ := DataW.trod_int Try.underlying3 f4
      obtain ⟨s5, e5, -, w5⟩ := DataW.trod_string Try.underlying9 f5
      simp only [List.cons.injEq, and_true] at e0 e1 e2 e3 e4 e5
      subst e0 e1 e2 e3 e4 e5
      exact ⟨⟨n0, n1, n2, n3, n4, s5⟩, rfl, bounds_i64 w0, bounds_i64 w1, bounds_i64 w2, bounds_i64 w3, bounds_i64 w4, w5⟩

set_option maxRecDepth 100000 in
theorem open_kstepsF {H : Type} {enc : TypeId × Value → H} {W : World} {base : Nat} {v : Value} {d : DataW H} {p : List MemPlace} (hval : Value.okWide Try.prog W .any base 57 v) (h : DataW.Trod enc Try.prog W 0 (fun _ => true) true 57 v d p) :
    ∃ ao n cap, ∃ l : List StepD, v = .slice ao n cap ∧ l.length = n ∧ n ≤ maxLen ∧ (n = 0 ∨ ∃ el sp, d = .slice el sp ∧ el.length = n) ∧ (ao = none → n = 0 ∧ cap = 0) ∧ StepsAt W ao l ∧ ∀ o ∈ l, StepOk o := by
  obtain ⟨a0, len, cap, rfl⟩ := okWide_slice Try.underlying57 hval
  obtain ⟨fuel, hf⟩ := h
  rcases open_slice Try.underlying57 hf with ⟨hcs, hx⟩ | ⟨a, len', cap', m, n, D, Pl, hcs, -, hl, hm, hmm, hx, hel⟩
  · simp [Value.cells] at hcs
    obtain ⟨rfl, rfl, rfl⟩ := hcs
    exact ⟨none, 0, 0, [], rfl, rfl, Nat.zero_le _, .inl rfl, fun _ => ⟨rfl, rfl⟩, fun j o ho => by simp at ho, fun o ho => by simp at ho⟩
  · simp [Value.cells] at hcs
    obtain ⟨rfl, rfl, rfl⟩ := hcs
    simp only [if_true] at hmm
    subst hmm
    simp only [Prod.mk.injEq] at hx
    obtain ⟨rfl, -⟩ := hx
    obtain ⟨b, off, spot⟩ := a
    haveI : Inhabited StepD := ⟨⟨0, 0, 0, 0, 0, ⟨#[]⟩⟩⟩
    obtain ⟨f, hfo⟩ := choose_lt (α := StepD) (n := len) (p := fun i o => W.cells? 0 ((⟨b, off, spot⟩ : Addr).add (i * 6)) 6 = some ([.int .i64 o.kind, .int .i64 o.a, .int .i64 o.b, .int .i64 o.c, .int .i64 o.d, .string o.s]) ∧ StepOk o) (fun i hi => by
      obtain ⟨cs', h1, h2⟩ := hel i (by omega)
      rw [cellsStepS] at h1
      obtain ⟨o, rfl, ho⟩ := open_kstep h2
      exact ⟨o, h1, ho⟩)
    refine ⟨some ⟨b, off, spot⟩, len, m, (List.range len).map f, rfl, by simp, by omega, .inr ⟨_, _, rfl, by simp⟩, fun h => (by cases h), fun j o ho => ?_, fun o ho => ?_⟩
    · obtain ⟨hj, rfl⟩ := List.getElem?_eq_some_iff.1 ho
      simp only [List.length_map, List.length_range] at hj
      simp only [List.getElem_map, List.getElem_range]
      obtain ⟨h1, -⟩ := hfo j hj
      obtain ⟨-, -, hcell⟩ := World.cells?_some h1
      obtain ⟨h01, -⟩ := hfo 0 (by omega)
      obtain ⟨-, -, hcell0⟩ := World.cells?_some h01
      have hspot : spot = none := by
        have := World.cell?_spot (hcell0 0 (by omega))
        simpa [Addr.add] using this
      subst hspot
      refine ⟨b, off, rfl, ?_⟩
      rw [Addr.add_lit] at hcell
      have c0 := hcell 0 (by omega)
      have c1 := hcell 1 (by omega)
      have c2 := hcell 2 (by omega)
      have c3 := hcell 3 (by omega)
      have c4 := hcell 4 (by omega)
      have c5 := hcell 5 (by omega)
      rw [Addr.add_lit] at c0 c1 c2 c3 c4 c5
      exact ⟨c0, c1, c2, c3, c4, c5⟩
    · obtain ⟨i, hi, rfl⟩ := List.mem_map.1 ho
      exact (hfo i (List.mem_range.1 hi)).2

theorem bytesStepS : Try.prog.bytesOf 59 = 56 := by kernel_rfl
end Go.Proofs.Ytmjdndhfmfjbiab

namespace Go.Proofs.Ytmjdndhfmfjbiab
open Go.RowKit
open Go.Deep Go.ChangeShapes Go.WideShapes Go.ChangeAt
open Go.ChangeMaps (open_string shut_string)

theorem cellsTurnS : Try.prog.cellsOf 120 = 2 := by kernel_rfl
theorem arr6p {args : Array Value} {a b c d e f : Value} (h : args.toList = [a, b, c, d, e, f]) : args = #[a, b, c, d, e, f] := by cases args; simp only at h; rw [h]

set_option maxRecDepth 100000 in
theorem open_turn {H : Type} {enc : TypeId × Value → H} {W : World} {base : Nat} {spare : Nat → Bool} {held : Bool} {fuel : Nat} {cs : List Value} {x : DataW H × List MemPlace} (h : DataW.trod enc Try.prog W base spare held fuel 120 cs = some x) :
    ∃ y : TurnD, cs = [.int .i64 y.at', .int .i64 y.by'] ∧ TurnOk y := by
  obtain ⟨xs, n, -, hx, hl, hlen, hf⟩ := DataW.trod_struct Try.underlying120 h
  rw [cellsTurnS] at hl
  match cs, hl with
  | [v0, v1], _ =>
    match xs, hlen with
    | [y0, y1], _ =>
      have f0 : DataW.trod enc Try.prog W base spare held n 3 (([v0, v1].drop 0).take (Try.prog.cellsOf 3)) = some y0 := hf 0 _ rfl
      have f1 : DataW.trod enc Try.prog W base spare held n 3 (([v0, v1].drop 1).take (Try.prog.cellsOf 3)) = some y1 := hf 1 _ rfl
      rw [cellsIntS] at f0 f1
      simp only [List.drop_zero, List.drop_succ_cons, List.take_succ_cons, List.take_zero] at f0 f1
      obtain ⟨n0, e0, -, w0⟩ := DataW.trod_int Try.underlying3 f0
      obtain ⟨n1, e1, -, w1⟩ := DataW.trod_int Try.underlying3 f1
      simp only [List.cons.injEq, and_true] at e0 e1
      subst e0 e1
      exact ⟨⟨n0, n1⟩, rfl, bounds_i64 w0, bounds_i64 w1⟩

set_option maxRecDepth 100000 in
theorem open_turns {H : Type} {enc : TypeId × Value → H} {W : World} {base : Nat} {v : Value} {d : DataW H} {p : List MemPlace} (hval : Value.okWide Try.prog W .any base 75 v) (h : DataW.Trod enc Try.prog W 0 (fun _ => true) true 75 v d p) :
    ∃ ao n cap, ∃ l : List TurnD, v = .slice ao n cap ∧ l.length = n ∧ n ≤ maxLen ∧ TurnsAt W ao l ∧ ∀ o ∈ l, TurnOk o := by
  obtain ⟨a0, len, cap, rfl⟩ := okWide_slice Try.underlying75 hval
  obtain ⟨fuel, hf⟩ := h
  rcases open_slice Try.underlying75 hf with ⟨hcs, hx⟩ | ⟨a, len', cap', m, n, D, Pl, hcs, -, hl, hm, hmm, hx, hel⟩
  · simp [Value.cells] at hcs
    obtain ⟨rfl, rfl, rfl⟩ := hcs
    exact ⟨none, 0, 0, [], rfl, rfl, Nat.zero_le _, fun j o ho => by simp at ho, fun o ho => by simp at ho⟩
  · simp [Value.cells] at hcs
    obtain ⟨rfl, rfl, rfl⟩ := hcs
    simp only [if_true] at hmm
    subst hmm
    obtain ⟨b, off, spot⟩ := a
    haveI : Inhabited TurnD := ⟨⟨0, 0⟩⟩
    obtain ⟨f, hfo⟩ := choose_lt (α := TurnD) (n := len) (p := fun i o => W.cells? 0 ((⟨b, off, spot⟩ : Addr).add (i * 2)) 2 = some ([.int .i64 o.at', .int .i64 o.by']) ∧ TurnOk o) (fun i hi => by
      obtain ⟨cs', h1, h2⟩ := hel i (by omega)
      rw [cellsTurnS] at h1
      obtain ⟨o, rfl, ho⟩ := open_turn h2
      exact ⟨o, h1, ho⟩)
    refine ⟨some ⟨b, off, spot⟩, len, m, (List.range len).map f, rfl, by simp, by omega, fun j o ho => ?_, fun o ho => ?_⟩
    · obtain ⟨hj, rfl⟩ := List.getElem?_eq_some_iff.1 ho
      simp only [List.length_map, List.length_range] at hj
      simp only [List.getElem_map, List.getElem_range]
      obtain ⟨h1, -⟩ := hfo j hj
      obtain ⟨-, -, hcell⟩ := World.cells?_some h1
      obtain ⟨h01, -⟩ := hfo 0 (by omega)
      obtain ⟨-, -, hcell0⟩ := World.cells?_some h01
      have hspot : spot = none := by
        have := World.cell?_spot (hcell0 0 (by omega))
        simpa [Addr.add] using this
      subst hspot
      refine ⟨b, off, rfl, ?_⟩
      rw [Addr.add_lit] at hcell
      have c0 := hcell 0 (by omega)
      have c1 := hcell 1 (by omega)
      rw [Addr.add_lit] at c0 c1
      exact ⟨c0, c1⟩
    · obtain ⟨i, hi, rfl⟩ := List.mem_map.1 ho
      exact (hfo i (List.mem_range.1 hi)).2

set_option maxRecDepth 100000 in
theorem othersLifted (os : Os) (started : os.Started) (H : Type) (enc : TypeId × Value → H) :
    ReturnsInHanded {} Try.checked os 6 .any (Rows.othersSpec.pre6 enc Try.prog Try.f6 Rows.othersRow.domain false) (Rows.othersSpec.post enc Try.prog Try.f6 false true false false) := by
  refine returnsInHanded_of_change_sized (C := Try.checked) ownK started (by kernel_rfl) Try.func6
    (ChangeSpec.witness6 (enc := enc) (C := Try.checked) false ⟨#[], #[.slice none 0 0, .int .i64 0, .slice none 0 0, .string .empty, .int .i64 0, .slice none 0 0], []⟩ 8 (by kernel_rfl) (by kernel_rfl) (by kernel_rfl) (by kernel_rfl)) ?_
  intro W base args ds gs before hval0 hW hcnd hsz0 _
  have hval : ∀ (j : Nat) t v, Try.f6.params[j]? = some t → args[j]? = some v → Value.okWide Try.prog W .any base t v := hval0
  have hsz : (DataW.weightsEach Try.prog (Try.f6.params.toList ++ Rows.othersSpec.plain.varTypes Try.prog) (ds ++ gs)).all (· ≤ reachBytes) = true := hsz0
  have hW' := hW
  obtain ⟨p, q, hA0, hV, rfl, hfz, hnd⟩ := hW
  have hA : DataW.TrodAll enc Try.prog W 0 (fun _ => true) true Try.f6.params.toList args.toList ds p := hA0
  rw [Try.params6] at hA hval hsz
  obtain ⟨v0, vs0, d0, ds0, p0, q0, hargs, rfl, rfl, h0, r0⟩ := trodAll_cons hA
  obtain ⟨v1, vs1, d1, ds1, p1, q1, rfl, rfl, rfl, h1, r1⟩ := trodAll_cons r0
  obtain ⟨v2, vs2, d2, ds2, p2, q2, rfl, rfl, rfl, h2, r2⟩ := trodAll_cons r1
  obtain ⟨v3, vs3, d3, ds3, p3, q3, rfl, rfl, rfl, h3, r3⟩ := trodAll_cons r2
  obtain ⟨v4, vs4, d4, ds4, p4, q4, rfl, rfl, rfl, h4, r4⟩ := trodAll_cons r3
  obtain ⟨v5, vs5, d5, ds5, p5, q5, rfl, rfl, rfl, h5, r5⟩ := trodAll_cons r4
  obtain ⟨rfl, rfl, rfl⟩ := trodAll_nil r5
  obtain rfl := arr6p hargs
  obtain ⟨rfl, rfl⟩ := trodVars_none hV
  obtain ⟨ao, m, cap, l, rfl, hl, hlm, hds, hno, hsc, hok⟩ := open_kstepsF (hval 0 57 v0 rfl rfl) h0
  obtain ⟨n1, rfl, rfl, rfl, w1⟩ := open_int Try.underlying3 (hval 1 3 v1 rfl rfl) h1
  obtain ⟨to, tm, tcap, tl, rfl, htl, htm, htsc, htok⟩ := open_turns (hval 2 75 v2 rfl rfl) h2
  obtain ⟨s, rfl, rfl, rfl, hmax⟩ := open_string Try.underlying9 (hval 3 9 v3 rfl rfl) h3
  obtain ⟨n4, rfl, rfl, rfl, w4⟩ := open_int Try.underlying3 (hval 4 3 v4 rfl rfl) h4
  obtain ⟨bo, pp, cap2, r, rfl, hl2, hlm2, -, -, hsc2, hok2⟩ := open_kstepsF (hval 5 57 v5 rfl rfl) h5
  have hm56 : m * 56 ≤ 140737488351232 := by
    rcases hds with rfl | ⟨el, sp, rfl, hel⟩
    · omega
    · have h := sized_slice hsz (j := 0) (t := 57) (e := 59) rfl rfl Try.underlying57
      rw [bytesStepS, hel] at h
      unfold reachBytes at h
      omega
  have hssz : s.size ≤ 140737488351232 := by
    have h := sized_string hsz (j := 3) (t := 9) rfl rfl
    have e : s.data.toList.length = s.size := by rw [Array.length_toList]; rfl
    unfold reachBytes at h
    omega
  clear hA0 hval0 hcnd hsz hsz0 hds
  simp only [List.append_nil] at hW'
  have hlt0 : ∀ x ∈ p0, x.block < W.heap.size := fun x hx => hW'.lt x (by simp [hx])
  have hlt2 : ∀ x ∈ p2, x.block < W.heap.size := fun x hx => hW'.lt x (by simp [hx])
  have hlt5 : ∀ x ∈ p5, x.block < W.heap.size := fun x hx => hW'.lt x (by simp [hx])
  refine (othersWalk l ao m cap n1 tl to tm tcap s n4 r bo pp cap2 W hl hm56 hsc hok hno htl (by unfold maxLen at htm; omega) htsc htok hssz hl2 (by unfold maxLen at hlm2; omega) hsc2 hok2 (bounds_i64 w1).1 (bounds_i64 w1).2 (bounds_i64 w4).1 (bounds_i64 w4).2).mono fun e W' ⟨he, hg⟩ => ?_
  subst he
  exact ⟨_, rfl, _, _, _, [], _, [], hW', trodAll_mk1 (shut_bool Try.underlying4 _), trodAll_cons_mk (Below.trod laidOutS (by kernel_rfl) (of_decide_eq_true (by kernel_rfl)) h0 hg hlt0) (trodAll_cons_mk (shut_int Try.underlying3 w1) (trodAll_cons_mk (Below.trod laidOutS (by kernel_rfl) (of_decide_eq_true (by kernel_rfl)) h2 hg hlt2) (trodAll_cons_mk (shut_string Try.underlying9 hmax) (trodAll_cons_mk (shut_int Try.underlying3 w4) (trodAll_cons_mk (Below.trod laidOutS (by kernel_rfl) (of_decide_eq_true (by kernel_rfl)) h5 hg hlt5) trodAll_mk0))))), rfl, hg.frame _, fun h => by cases h⟩

theorem others_holds : Rows.OthersSaid :=
  OpenClaim.holds_of_wide 6 Try.f6 rfl rfl rfl rfl rfl rfl rfl ⟨rfl, rfl, rfl, rfl, rfl⟩ rfl rfl rfl rfl rfl (by kernel_rfl) Try.func6 (by kernel_rfl)
    (of_decide_eq_true (by kernel_rfl)) (by unfold Func.isWrapper; first | (rw [if_pos (by decide +kernel)]; kernel_rfl) | (rw [if_neg (by decide +kernel)]; exact ⟨rfl, rfl⟩))
    (fun os started H enc _ => othersLifted os started H enc)
end Go.Proofs.Ytmjdndhfmfjbiab
