import Derived.Test.YtmjdndhfmfjbiabM09
import Derived.Test.YtmjdndhfmfjbiabM06
import Derived.ProofKit
import Derived.OpenShut
import Derived.JoinedCond
import Derived.Test.YtmjdndhfmfjbiabM03
import Derived.Test.YtmjdndhfmfjbiabM01
import Derived.Deep.OwnRows
import Derived.Laws.BytesArg
import Derived.Test.YtmjdndhfmfjbiabM02
/-
  PLAIN MATHEMATICS: what Fits answers of a filter and a topic cut at their first strokes.
-/
namespace Go.Proofs.Ytmjdndhfmfjbiab.M

/-- What Fits answers, and its error. -/
def fitsM (f t : ByteArray) : Bool := isPathM true f && isPathM false t && alongM (wordsM f) (wordsM t)
def fitsE (f t : ByteArray) : Int := if isPathM true f then (if isPathM false t then 0 else 3) else 4

theorem fits_ok {f t : ByteArray} (hf : isPathL true (L f) = true) (ht : isPathL false (L t) = true) : fitsE f t = 0 ∧ fitsM f t = alongL (splitL (L f)) (splitL (L t)) := by
  unfold fitsE fitsM
  rw [isPath_L, isPath_L, hf, ht, along_L, words_L, words_L]
  simp

/-- No stroke stands in it. -/
def Plain (s : ByteArray) : Prop := (47 : UInt8) ∉ L s
/-- The first stroke stands at k. -/
def CutAt (s : ByteArray) (k : Nat) : Prop := k < s.size ∧ L s = (L s).take k ++ 47 :: (L s).drop (k + 1) ∧ (47 : UInt8) ∉ (L s).take k

theorem L_left (s : ByteArray) (k : Nat) : L (s.extract 0 k) = (L s).take k := by rw [L_extract]; simp
theorem L_right (s : ByteArray) (k : Nat) : L (s.extract (k + 1) s.size) = (L s).drop (k + 1) := by
  rw [L_extract, List.take_of_length_le (by rw [L_len]; exact Nat.le_refl _)]

theorem lev_self {t : ByteArray} (ht : isPathM false t = true) : fitsE t t = 0 ∧ fitsM t t = true := by
  rw [isPath_L] at ht
  obtain ⟨h1, h2⟩ := fits_ok (path_wild ht) ht
  exact ⟨h1, by rw [h2, along_self]⟩

theorem lev_hash {t : ByteArray} (ht : isPathM false t = true) : fitsE ⟨#[35]⟩ t = 0 ∧ fitsM ⟨#[35]⟩ t = true := by
  rw [isPath_L] at ht
  obtain ⟨h1, h2⟩ := fits_ok (f := ⟨#[35]⟩) (by decide) ht
  refine ⟨h1, ?_⟩
  rw [h2]
  have e : splitL (L ⟨#[35]⟩) = [[35]] := by decide
  rw [e]
  cases h : splitL (L t) with
  | nil => rfl
  | cons _ _ => rfl

theorem lev_one {f t : ByteArray} (hf : isPathM true f = true) (ht : isPathM false t = true) (hn : Plain f) (h35 : (f.toList == [35]) = false) (hp : Plain t) :
    fitsE f t = 0 ∧ fitsM f t = ((f.toList == [43]) || (f.toList == t.toList)) := by
  rw [isPath_L] at hf ht
  rw [L_toList] at h35 ⊢
  rw [L_toList]
  obtain ⟨h1, h2⟩ := fits_ok hf ht
  exact ⟨h1, by rw [h2, split_none hn, split_none hp, alongL, h35]; simp [alongL]⟩

theorem lev_one_cut {f t : ByteArray} {j : Nat} (hf : isPathM true f = true) (ht : isPathM false t = true) (hn : Plain f) (h35 : (f.toList == [35]) = false) (hp : CutAt t j) :
    fitsE f t = 0 ∧ fitsM f t = false := by
  rw [isPath_L] at hf ht
  rw [L_toList] at h35
  obtain ⟨h1, h2⟩ := fits_ok hf ht
  refine ⟨h1, ?_⟩
  obtain ⟨-, e, hq⟩ := hp
  rw [h2, split_none hn, e, split_cons hq, alongL, h35]
  cases h : splitL ((L t).drop (j + 1)) with
  | nil => exact absurd h (splitL_ne _)
  | cons _ _ => simp [alongL]

theorem lev_cut_one {f t : ByteArray} {i : Nat} (hf : isPathM true f = true) (ht : isPathM false t = true) (hn : CutAt f i) (hp : Plain t) :
    fitsE (f.extract 0 i) t = 0 ∧ fitsE f t = 0 ∧ fitsM f t = (fitsM (f.extract 0 i) t && ((f.extract (i + 1) f.size).toList == [35])) := by
  rw [isPath_L] at hf ht
  rw [L_toList, L_right]
  obtain ⟨-, e, hq⟩ := hn
  have hf' := hf
  rw [e] at hf'
  obtain ⟨p1, p2, p3, p4, p5⟩ := path_cut hq hf'
  obtain ⟨h1, h2⟩ := fits_ok hf ht
  obtain ⟨h3, h4⟩ := fits_ok (f := f.extract 0 i) (by rw [L_left]; exact p1) ht
  refine ⟨h3, h1, ?_⟩
  rw [h2, h4, L_left, p5]
  have e2 : splitL (L f) = (L f).take i :: splitL ((L f).drop (i + 1)) := (congrArg splitL e).trans p4
  rw [e2, split_none hp, alongL, alongL, p3, head_hash p2]
  simp [alongL]

theorem lev_cut_cut {f t : ByteArray} {i j : Nat} (hf : isPathM true f = true) (ht : isPathM false t = true) (hn : CutAt f i) (hp : CutAt t j) :
    fitsE (f.extract 0 i) (t.extract 0 j) = 0 ∧ fitsE (f.extract (i + 1) f.size) (t.extract (j + 1) t.size) = 0 ∧ fitsE f t = 0 ∧
      fitsM f t = (fitsM (f.extract 0 i) (t.extract 0 j) && fitsM (f.extract (i + 1) f.size) (t.extract (j + 1) t.size)) := by
  rw [isPath_L] at hf ht
  obtain ⟨-, e, hq⟩ := hn
  obtain ⟨-, d, hr⟩ := hp
  have hf' := hf
  rw [e] at hf'
  have ht' := ht
  rw [d] at ht'
  obtain ⟨p1, p2, p3, p4, p5⟩ := path_cut hq hf'
  obtain ⟨q1, q2, -, q4, q5⟩ := path_cut hr ht'
  obtain ⟨h1, h2⟩ := fits_ok hf ht
  obtain ⟨h3, h4⟩ := fits_ok (f := f.extract 0 i) (t := t.extract 0 j) (by rw [L_left]; exact p1) (by rw [L_left]; exact q1)
  obtain ⟨h5, h6⟩ := fits_ok (f := f.extract (i + 1) f.size) (t := t.extract (j + 1) t.size) (by rw [L_right]; exact p2) (by rw [L_right]; exact q2)
  refine ⟨h3, h5, h1, ?_⟩
  rw [h2, h4, h6, L_left, L_left, L_right, L_right, p5, q5]
  have e2 : splitL (L f) = (L f).take i :: splitL ((L f).drop (i + 1)) := (congrArg splitL e).trans p4
  have d2 : splitL (L t) = (L t).take j :: splitL ((L t).drop (j + 1)) := (congrArg splitL d).trans q4
  rw [e2, d2, alongL, alongL, p3]
  simp [alongL]

end Go.Proofs.Ytmjdndhfmfjbiab.M

namespace Go.Proofs.Ytmjdndhfmfjbiab
open Go.RowKit Go.ChangeShapes Go.WideShapes Go.ChangeAt
open Go.ChangeMaps (open_string shut_string)


theorem topIsFilter (s : ByteArray) (w : World) (hs : s.size ≤ maxLen) :
    Calls Try.prog 47 #[.string s] w fun e w' => e = .returned (.bool (M.isPathM true s)) ∧ Below w.heap.size w w' := by
  go_enter Try.func47, Try.ntmps47
  go_wp2_with fail
  refine (topIsPath s true _ hs).mono ?_
  rintro e w1 ⟨rfl, hb⟩
  go_wp2_with fail
  go_ret
  exact ⟨rfl, hb⟩

theorem topIsTopic (s : ByteArray) (w : World) (hs : s.size ≤ maxLen) :
    Calls Try.prog 55 #[.string s] w fun e w' => e = .returned (.bool (M.isPathM false s)) ∧ Below w.heap.size w w' := by
  go_enter Try.func55, Try.ntmps55
  go_wp2_with fail
  refine (topIsPath s false _ hs).mono ?_
  rintro e w1 ⟨rfl, hb⟩
  go_wp2_with fail
  go_ret
  exact ⟨rfl, hb⟩

theorem isPathM_size {wild : Bool} {s : ByteArray} (h : M.isPathM wild s = true) : s.size ≤ 15 := by
  simp [M.isPathM] at h
  exact h.1.1

/-- The program's Fits, at every two texts. -/
theorem heraldFits (f t : ByteArray) (w : World) (hf : f.size ≤ maxLen) (ht : t.size ≤ maxLen) :
    Calls Try.prog 40 #[.string f, .string t] w fun e w' => e = .returned (.tuple #[.bool (M.fitsM f t), .int .i64 (M.fitsE f t)]) ∧ Below w.heap.size w w' := by
  cases h1 : M.isPathM true f
  · have HV : Hid (M.fitsM f t = false ∧ M.fitsE f t = 4) := by simp [M.fitsM, M.fitsE, h1, Hid]
    go_enter Try.func40, Try.ntmps40
    go_wp2_with fail
    refine (topIsFilter f _ hf).mono ?_
    rintro e w1 ⟨rfl, hb⟩
    go_wp2_with fail
    go_ret2
    exact ⟨by rw [HV.out.1, HV.out.2]; rfl, hb⟩
  · have HS1 := isPathM_size h1
    cases h2 : M.isPathM false t
    · have HV : Hid (M.fitsM f t = false ∧ M.fitsE f t = 3) := by simp [M.fitsM, M.fitsE, h1, h2, Hid]
      go_enter Try.func40, Try.ntmps40
      go_wp2_with fail
      refine (topIsFilter f _ hf).mono ?_
      rintro e w1 ⟨rfl, hb⟩
      go_wp2_with fail
      refine (topIsTopic t _ ht).mono ?_
      rintro e w2 ⟨rfl, hb2⟩
      go_wp2_with fail
      go_ret2
      exact ⟨by rw [HV.out.1, HV.out.2]; rfl, hb.trans (hb2.mono hb.size)⟩
    · have HS2 := isPathM_size h2
      have HV : Hid (M.fitsM f t = M.alongM (M.wordsM f) (M.wordsM t) ∧ M.fitsE f t = 0) := by simp [M.fitsM, M.fitsE, h1, h2, Hid]
      go_enter Try.func40, Try.ntmps40
      go_wp2_with fail
      refine (topIsFilter f _ hf).mono ?_
      rintro e w1 ⟨rfl, hb⟩
      go_wp2_with fail
      refine (topIsTopic t _ ht).mono ?_
      rintro e w2 ⟨rfl, hb2⟩
      go_wp2_with fail
      refine (topFits f t _ (by omega) (by omega)).mono ?_
      rintro e w3 ⟨rfl, hb3⟩
      have hb12 := hb.trans (hb2.mono hb.size)
      go_wp2_with fail
      go_ret2
      exact ⟨by rw [HV.out.1, HV.out.2]; rfl, hb12.trans (hb3.mono hb12.size)⟩

theorem arr2 {args : Array Value} {a b : Value} (h : args.toList = [a, b]) : args = #[a, b] := by cases args; simp only at h; rw [h]

theorem own : ownKnob Try.prog.godebug = none := by kernel_rfl

theorem short2 {H : Type} {s t : ByteArray} (hk : Rows.uptoSmall H [.lit (.string s.data.toList), .lit (.string t.data.toList)] = true) : s.size ≤ 1048576 ∧ t.size ≤ 1048576 := by
  have h : Rows.uptoBulkAll [DataW.lit (H := H) (.string s.data.toList), DataW.lit (H := H) (.string t.data.toList)] ≤ 1048576 := of_decide_eq_true hk
  simp only [Rows.uptoBulkAll, Rows.uptoBulk] at h
  have e : s.data.toList.length = s.size := by rw [Array.length_toList]; rfl
  have e' : t.data.toList.length = t.size := by rw [Array.length_toList]; rfl
  omega

end Go.Proofs.Ytmjdndhfmfjbiab

namespace Go.Proofs.Ytmjdndhfmfjbiab
open Go.RowKit

theorem word_ok (cs : List Int) (h1 : 1 ≤ cs.length) (h3 : cs.length ≤ 3) (h : ∀ c ∈ cs, 97 ≤ c ∧ c ≤ 122) : M.isWordL (M.L ⟨(cs.map fun n => UInt8.ofNat n.toNat).toArray⟩) = true := by
  simp only [M.isWordL, M.L, List.length_map, h1, h3, decide_true, Bool.and_true, List.all_map, List.all_eq_true]
  intro c hc
  obtain ⟨a, b⟩ := h c hc
  have e : (UInt8.ofNat c.toNat).toNat = c.toNat := by
    rw [UInt8.toNat_ofNat']; omega
  simp only [Function.comp, M.letterU, M.letterB, e, Bool.and_eq_true, decide_eq_true_eq]
  omega

set_option maxRecDepth 100000 in
set_option maxHeartbeats 1000000 in
theorem keepWord1 (b : Int) (w : World) (h0 : 0 ≤ b) (h1 : b ≤ 255) (hn : b / 9 % 3 = 0) :
    Calls Try.prog 45 #[.int .i64 b] w fun e w' => (∃ x, e = .returned (.string x) ∧ M.isWordL (M.L x) = true) ∧ Below w.heap.size w w' := by
  have hmk : ∀ w : World, (Instr.makeSlice 63 (.int .i64 1) (.int .i64 1)).run Try.prog w = .ok (.slice (some ⟨w.heap.size, 0, none⟩) 1 1) (w.alloc (.cells #[(.int .u8 0)] 5)) := fun w => by kernel_rfl
  have hcv := conv_new w [97 + b % 3]
  simp only [List.length_cons, List.length_nil, List.map_cons, List.map_nil, Nat.zero_add] at hcv
  go_enter Try.func45, Try.ntmps45
  go_wp2_with fail
  refine wp_loop_rounds 2 ?_
  rw [rounds_succ]
  go_wp2_with fail
  rw [rounds_succ]
  go_wp2_with fail
  go_ret
  exact ⟨⟨_, rfl, word_ok [97 + b % 3] (by simp) (by simp) (by simp; omega)⟩, (Below.refl _ _).alloc (Nat.le_refl _) _⟩

set_option maxRecDepth 100000 in
set_option maxHeartbeats 1000000 in
theorem keepWord2 (b : Int) (w : World) (h0 : 0 ≤ b) (h1 : b ≤ 255) (hn : b / 9 % 3 = 1) :
    Calls Try.prog 45 #[.int .i64 b] w fun e w' => (∃ x, e = .returned (.string x) ∧ M.isWordL (M.L x) = true) ∧ Below w.heap.size w w' := by
  have hmk : ∀ w : World, (Instr.makeSlice 63 (.int .i64 2) (.int .i64 2)).run Try.prog w = .ok (.slice (some ⟨w.heap.size, 0, none⟩) 2 2) (w.alloc (.cells #[(.int .u8 0), (.int .u8 0)] 5)) := fun w => by kernel_rfl
  have hcv := conv_new w [97 + b % 3, 97 + (b + b / 3) % 3]
  simp only [List.length_cons, List.length_nil, List.map_cons, List.map_nil, Nat.zero_add, Nat.reduceAdd] at hcv
  go_enter Try.func45, Try.ntmps45
  go_wp2_with fail
  refine wp_loop_rounds 3 ?_
  rw [rounds_succ]
  go_wp2_with fail
  rw [rounds_succ]
  go_wp2_with fail
  rw [rounds_succ]
  go_wp2_with fail
  go_ret
  exact ⟨⟨_, rfl, word_ok [97 + b % 3, 97 + (b + b / 3) % 3] (by simp) (by simp) (by simp; omega)⟩, (Below.refl _ _).alloc (Nat.le_refl _) _⟩

set_option maxRecDepth 100000 in
set_option maxHeartbeats 1000000 in
theorem keepWord3 (b : Int) (w : World) (h0 : 0 ≤ b) (h1 : b ≤ 255) (hn : b / 9 % 3 = 2) :
    Calls Try.prog 45 #[.int .i64 b] w fun e w' => (∃ x, e = .returned (.string x) ∧ M.isWordL (M.L x) = true) ∧ Below w.heap.size w w' := by
  have hmk : ∀ w : World, (Instr.makeSlice 63 (.int .i64 3) (.int .i64 3)).run Try.prog w = .ok (.slice (some ⟨w.heap.size, 0, none⟩) 3 3) (w.alloc (.cells #[(.int .u8 0), (.int .u8 0), (.int .u8 0)] 5)) := fun w => by kernel_rfl
  have hcv := conv_new w [97 + b % 3, 97 + (b + b / 3) % 3, 97 + (b + 2 * (b / 3)) % 3]
  simp only [List.length_cons, List.length_nil, List.map_cons, List.map_nil, Nat.zero_add, Nat.reduceAdd] at hcv
  go_enter Try.func45, Try.ntmps45
  go_wp2_with fail
  refine wp_loop_rounds 4 ?_
  rw [rounds_succ]
  go_wp2_with fail
  rw [rounds_succ]
  go_wp2_with fail
  rw [rounds_succ]
  go_wp2_with fail
  rw [rounds_succ]
  go_wp2_with fail
  go_ret
  exact ⟨⟨_, rfl, word_ok [97 + b % 3, 97 + (b + b / 3) % 3, 97 + (b + 2 * (b / 3)) % 3] (by simp) (by simp) (by simp; omega)⟩, (Below.refl _ _).alloc (Nat.le_refl _) _⟩

theorem keepWord (b : Int) (w : World) (h0 : 0 ≤ b) (h1 : b ≤ 255) :
    Calls Try.prog 45 #[.int .i64 b] w fun e w' => (∃ x, e = .returned (.string x) ∧ M.isWordL (M.L x) = true) ∧ Below w.heap.size w w' := by
  rcases (show b / 9 % 3 = 0 ∨ b / 9 % 3 = 1 ∨ b / 9 % 3 = 2 from by omega) with h | h | h
  · exact keepWord1 b w h0 h1 h
  · exact keepWord2 b w h0 h1 h
  · exact keepWord3 b w h0 h1 h
end Go.Proofs.Ytmjdndhfmfjbiab

namespace Go.Proofs.Ytmjdndhfmfjbiab
open Go.RowKit

theorem word_size {x : ByteArray} (h : M.isWordL (M.L x) = true) : x.size ≤ 3 := by rw [← M.L_len]; exact (M.word_len h).2

set_option maxRecDepth 100000 in
set_option maxHeartbeats 1000000 in
theorem keepTopic (s : ByteArray) (w : World) (hs : s.size ≤ maxLen) :
    Calls Try.prog 10 #[.string s] w fun e w' => (∃ x, e = .returned (.string x) ∧ M.isPathM false x = true) ∧ Below w.heap.size w w' := by
  unfold maxLen at hs
  cases h0 : s.toList.isEmpty
  · have hp : 0 < s.size := by
      rw [M.L_toList] at h0
      rw [← M.L_len]
      cases hl : M.L s with
      | nil => rw [hl] at h0; cases h0
      | cons _ _ => simp
    have hby := (s[0]'hp).toNat_lt
    go_enter Try.func10, Try.ntmps10
    go_wp2_with fail
    refine (keepWord _ _ (by omega) (by omega)).mono ?_
    rintro e w1 ⟨⟨x, rfl, hx⟩, hb1⟩
    go_wp2_with fail
    go_loopw [3, 4] (fun v i wr => ∃ (k : Nat) (x : ByteArray), 1 ≤ k ∧ k ≤ 4 ∧ k ≤ s.size ∧ i = .int .i64 k ∧ v = .string x ∧ M.TInv k x ∧ Below w.heap.size w wr) (fun _ i _ => s.size - (intOf i).toNat)
    case atStart => exact ⟨1, x, by omega, by omega, by omega, rfl, rfl, M.tinv_one hx, hb1⟩
    case round =>
      obtain ⟨k, y, hk1, hk4, hks, rfl, rfl, hy, hbr⟩ := hrel
      have HY : Hid (M.TInv k y) := hy
      have hyz := hy.1
      clear hy hx hb1
      by_cases hlt : k < s.size
      · by_cases hl4 : k < 4
        · have hby := (s[k]'hlt).toNat_lt
          go_wp2_with (go_at_call 45; refine (keepWord _ _ (by omega) (by omega)).mono ?_; rintro e w2 ⟨⟨z, rfl, hz⟩, hb2⟩; have hzz := word_size hz)
          go_roundw
          case rel => exact ⟨k + 1, _, by omega, by omega, by omega, by go_num, rfl, M.tinv_succ HY.out hl4 (by assumption), hbr.trans ((by assumption : Below wr.heap.size wr _).mono hbr.size)⟩
          case measure => simp [intOf]; omega
        · go_wp2_with fail
          go_ret
          exact ⟨⟨_, rfl, M.tinv_end HY.out hk4⟩, hbr⟩
      · go_wp2_with fail
        go_ret
        exact ⟨⟨_, rfl, M.tinv_end HY.out hk4⟩, hbr⟩
  · go_enter Try.func10, Try.ntmps10
    go_wp2_with fail
    go_ret
    exact ⟨⟨_, rfl, by rw [M.isPath_L]; decide⟩, Below.refl _ _⟩

theorem byte_le (c : UInt8) : (c.toNat : Int) ≤ 255 := by have := c.toNat_lt; omega

theorem okW_word {x : ByteArray} (h : M.isWordL (M.L x) = true) : M.okW (M.L x) = true := by simp [M.okW, h]
theorem hash_path : M.isPathM true ⟨#[35]⟩ = true := by rw [M.isPath_L]; decide
theorem plus_ok : M.okW (M.L ⟨#[43]⟩) = true := by decide

set_option maxRecDepth 100000 in
set_option maxHeartbeats 2000000 in
theorem keepFilter (s : ByteArray) (w : World) (hs : s.size ≤ maxLen) :
    Calls Try.prog 72 #[.string s] w fun e w' => (∃ x, e = .returned (.string x) ∧ M.isPathM true x = true) ∧ Below w.heap.size w w' := by
  unfold maxLen at hs
  go_enter Try.func72, Try.ntmps72
  go_wp2_with fail
  go_loopw [3, 4] (fun v i wr => ∃ (k : Nat) (x : ByteArray), k ≤ 4 ∧ k ≤ s.size ∧ i = .int .i64 k ∧ v = .string x ∧ M.FInv k x ∧ Below w.heap.size w wr) (fun _ i _ => s.size - (intOf i).toNat)
  case atStart => exact ⟨0, _, by omega, by omega, rfl, rfl, ⟨by decide, .inl ⟨rfl, rfl⟩⟩, Below.refl _ _⟩
  case round =>
    obtain ⟨k, y, hk4, hks, rfl, rfl, hy, hbr⟩ := hrel
    have HY : Hid (M.FInv k y) := hy
    have hyz := hy.1
    clear hy
    by_cases hlt : k < s.size
    · by_cases hl4 : k < 4
      · have hby := (s[k]'hlt).toNat_lt
        generalize hcc : (((s[k]'hlt).toNat : Nat) : Int) = c
        by_cases hk0 : 0 < k
        · go_wp2_with (go_at_call 45; refine (keepWord _ _ (by omega) (by omega)).mono ?_; rintro e w2 ⟨⟨z, rfl, hz⟩, hb2⟩; have hzz := word_size hz)
          · go_roundw
            case rel => exact ⟨k + 1, _, by omega, by omega, by go_num, rfl, M.finv_succ HY.out hk0 hl4 plus_ok, hbr⟩
            case measure => simp [intOf]; omega
          · go_roundw
            case rel => exact ⟨k + 1, _, by omega, by omega, by go_num, rfl, M.finv_succ HY.out hk0 hl4 plus_ok, hbr⟩
            case measure => simp [intOf]; omega
          · go_ret
            exact ⟨⟨_, rfl, M.finv_hash HY.out hk0 hl4⟩, hbr⟩
          · go_roundw
            case rel => exact ⟨k + 1, _, by omega, by omega, by go_num, rfl, M.finv_succ HY.out hk0 hl4 (okW_word (by assumption)), hbr.trans ((by assumption : Below wr.heap.size wr _).mono hbr.size)⟩
            case measure => simp [intOf]; omega
        · obtain rfl : k = 0 := by omega
          go_wp2_with (go_at_call 45; refine (keepWord _ _ (by omega) (by omega)).mono ?_; rintro e w2 ⟨⟨z, rfl, hz⟩, hb2⟩; have hzz := word_size hz)
          · go_roundw
            case rel => exact ⟨1, _, by omega, by omega, by go_num, rfl, M.finv_zero HY.out plus_ok, hbr⟩
            case measure => simp [intOf]; omega
          · go_roundw
            case rel => exact ⟨1, _, by omega, by omega, by go_num, rfl, M.finv_zero HY.out plus_ok, hbr⟩
            case measure => simp [intOf]; omega
          · go_ret
            exact ⟨⟨_, rfl, M.finv_hash0 HY.out⟩, hbr⟩
          · go_roundw
            case rel => exact ⟨1, _, by omega, by omega, by go_num, rfl, M.finv_zero HY.out (okW_word (by assumption)), hbr.trans ((by assumption : Below wr.heap.size wr _).mono hbr.size)⟩
            case measure => simp [intOf]; omega
      · rcases M.finv_end HY.out hk4 with he | ⟨he, hp⟩
        all_goals
          go_wp2_with fail
          go_ret
        · exact ⟨⟨_, rfl, hash_path⟩, hbr⟩
        · exact ⟨⟨_, rfl, hp⟩, hbr⟩
    · rcases M.finv_end HY.out hk4 with he | ⟨he, hp⟩
      all_goals
        go_wp2_with fail
        go_ret
      · exact ⟨⟨_, rfl, hash_path⟩, hbr⟩
      · exact ⟨⟨_, rfl, hp⟩, hbr⟩
end Go.Proofs.Ytmjdndhfmfjbiab

/-
  heraldkeep's own helpers.
-/
namespace Go.Proofs.Ytmjdndhfmfjbiab
open Go.RowKit

theorem keepPick (c n : Int) (w : World) (h0 : -9223372036854775808 ≤ c) (h1 : c ≤ 9223372036854775807) (hn : 0 < n) (hn1 : n ≤ 9223372036854775807) :
    Calls Try.prog 18 #[.int .i64 c, .int .i64 n] w fun e w' => e = .returned (.int .i64 (pickM c n)) ∧ w' = w := by
  by_cases hc : c < 0
  · have HE : Hid (pickM c n = (-(c + 1)) % n) := by simp [Hid, pickM, hc]
    go_enter Try.func18, Try.ntmps18
    go_wp2
    all_goals go_ret
    all_goals exact ⟨ret_int (by rw [HE.out, ← Int.neg_tmod, Int.tmod_eq_emod_of_nonneg (by omega)]), rfl⟩
  · have HE : Hid (pickM c n = c % n) := by simp [Hid, pickM, hc]
    go_enter Try.func18, Try.ntmps18
    go_wp2
    all_goals go_ret
    all_goals exact ⟨ret_int (by rw [HE.out]), rfl⟩


set_option maxRecDepth 100000 in
set_option maxHeartbeats 1000000 in
/-- Two rows of the same texts. -/
theorem keepSameTexts (xs : List ByteArray) (a b : Option Addr) (c d : Nat) (w : World) (hl : xs.length ≤ 1048576) (ha : CellsAt w a (xs.map Value.string)) (hb : CellsAt w b (xs.map Value.string)) :
    Calls Try.prog 70 #[.slice a xs.length c, .slice b xs.length d] w fun e w' => e = .returned (.bool true) ∧ Below w.heap.size w w' := by
  have HA : Hid (CellsAt w a (xs.map Value.string)) := ha
  have HB : Hid (CellsAt w b (xs.map Value.string)) := hb
  clear ha hb
  go_enter Try.func70, Try.ntmps70
  go_wp2_with fail
  go_loopw [5] (fun i wr => ∃ k : Nat, k ≤ xs.length ∧ i = .int .i64 k ∧ ∃ n, wr = w.drewN n) (fun i _ => xs.length - (intOf i).toNat)
  case atStart => exact ⟨0, Nat.zero_le _, rfl, 0, rfl⟩
  case round =>
    obtain ⟨k, hk, rfl, n, rfl⟩ := hrel
    by_cases hlt : k < xs.length
    · obtain ⟨y, hy⟩ : ∃ y, xs[k]? = some y := ⟨_, List.getElem?_eq_getElem hlt⟩
      obtain ⟨g, rfl, hg⟩ := HA.out k _ (strs_get hy)
      obtain ⟨g', rfl, hg'⟩ := HB.out k _ (strs_get hy)
      clear hy
      go_wp2_with fail
      go_quiet (fail)
      go_wp2_with fail
      go_roundw
      case rel => exact ⟨k + 1, by omega, by go_num, _, rfl⟩
      case measure => simp [intOf]; omega
    · go_wp2_with fail
      go_ret
      exact ⟨rfl, below_drewN (Below.refl _ _)⟩


set_option maxRecDepth 100000 in
set_option maxHeartbeats 1000000 in
theorem keepSameMails (xs : List MailD) (a b : Option Addr) (c d : Nat) (w : World) (hl : xs.length ≤ 1048576) (ha : CellsAt w a (xs.flatMap mailCells)) (hb : CellsAt w b (xs.flatMap mailCells)) :
    Calls Try.prog 17 #[.slice a xs.length c, .slice b xs.length d] w fun e w' => e = .returned (.bool true) ∧ Below w.heap.size w w' := by
  have HA : Hid (CellsAt w a (xs.flatMap mailCells)) := ha
  have HB : Hid (CellsAt w b (xs.flatMap mailCells)) := hb
  clear ha hb
  go_enter Try.func17, Try.ntmps17
  go_wp2_with fail
  go_loopw [5] (fun i wr => ∃ k : Nat, k ≤ xs.length ∧ i = .int .i64 k ∧ ∃ n, wr = w.drewN n) (fun i _ => xs.length - (intOf i).toNat)
  case atStart => exact ⟨0, Nat.zero_le _, rfl, 0, rfl⟩
  case round =>
    obtain ⟨k, hk, rfl, n, rfl⟩ := hrel
    by_cases hlt : k < xs.length
    · obtain ⟨y, hy⟩ : ∃ y, xs[k]? = some y := ⟨_, List.getElem?_eq_getElem hlt⟩
      obtain ⟨g, rfl, hg, c0, c1, c2, c3, c4⟩ := mail_cells HA.out hy
      obtain ⟨g', rfl, hg', d0, d1, d2, d3, d4⟩ := mail_cells HB.out hy
      clear hy
      go_wp2_with fail
      go_quiet (fail)
      go_wp2_with fail
      go_roundw
      case rel => exact ⟨k + 1, by omega, by go_num, _, rfl⟩
      case measure => simp [intOf]; omega
    · go_wp2_with fail
      go_ret
      exact ⟨rfl, below_drewN (Below.refl _ _)⟩


set_option maxRecDepth 100000 in
set_option maxHeartbeats 1000000 in
theorem keepSameWaits (xs : List WaitD) (a b : Option Addr) (c d : Nat) (w : World) (hl : xs.length ≤ 1048576) (ha : CellsAt w a (xs.flatMap waitCells)) (hb : CellsAt w b (xs.flatMap waitCells)) :
    Calls Try.prog 27 #[.slice a xs.length c, .slice b xs.length d] w fun e w' => e = .returned (.bool true) ∧ Below w.heap.size w w' := by
  have HA : Hid (CellsAt w a (xs.flatMap waitCells)) := ha
  have HB : Hid (CellsAt w b (xs.flatMap waitCells)) := hb
  clear ha hb
  go_enter Try.func27, Try.ntmps27
  go_wp2_with fail
  go_loopw [5] (fun i wr => ∃ k : Nat, k ≤ xs.length ∧ i = .int .i64 k ∧ ∃ n, wr = w.drewN n) (fun i _ => xs.length - (intOf i).toNat)
  case atStart => exact ⟨0, Nat.zero_le _, rfl, 0, rfl⟩
  case round =>
    obtain ⟨k, hk, rfl, n, rfl⟩ := hrel
    by_cases hlt : k < xs.length
    · obtain ⟨y, hy⟩ : ∃ y, xs[k]? = some y := ⟨_, List.getElem?_eq_getElem hlt⟩
      obtain ⟨g, rfl, hg, c0, c1, c2, c3, c4⟩ := wait_cells HA.out hy
      obtain ⟨g', rfl, hg', d0, d1, d2, d3, d4⟩ := wait_cells HB.out hy
      clear hy
      go_wp2_with fail
      go_quiet (fail)
      go_wp2_with fail
      go_roundw
      case rel => exact ⟨k + 1, by omega, by go_num, _, rfl⟩
      case measure => simp [intOf]; omega
    · go_wp2_with fail
      go_ret
      exact ⟨rfl, below_drewN (Below.refl _ _)⟩


set_option maxRecDepth 100000 in
theorem keepLater (t d : Int) (w : World) (h0 : 0 ≤ t) (h1 : t ≤ 1099511627776) (h2 : 0 ≤ d) (h3 : d ≤ 1099511627776) :
    Calls Try.prog 24 #[.int .i64 t, .int .i64 d] w fun e w' => e = .returned (.int .i64 (laterM t d)) ∧ w' = w := by
  by_cases hgt : 1099511627776 < t + d
  · have HE : Hid (laterM t d = 1099511627776) := if_pos hgt
    go_enter Try.func24, Try.ntmps24
    go_wp2_with fail
    go_ret
    exact ⟨ret_int HE.out.symm, rfl⟩
  · have HE : Hid (laterM t d = t + d) := if_neg hgt
    go_enter Try.func24, Try.ntmps24
    go_wp2_with fail
    go_ret
    exact ⟨ret_int HE.out.symm, rfl⟩


set_option maxRecDepth 100000 in
theorem keepAhead (x y : WaitD) (w : World) : Calls Try.prog 66 #[waitV x, waitV y] w fun e w' => e = .returned (.bool (aheadB x y)) ∧ Below w.heap.size w w' := by
  obtain ⟨xn, xt, xv, xd, xl⟩ := x
  obtain ⟨yn, yt, yv, yd, yl⟩ := y
  have two : ∀ o1 o2 : Obj, Below w.heap.size w ((w.alloc o1).alloc o2) := fun o1 o2 => ((Below.refl _ _).alloc (Nat.le_refl _) _).alloc (by simp) _
  have TW : Hid (∀ o1 o2 : Obj, Below w.heap.size w ((w.alloc o1).alloc o2)) := two
  clear two
  by_cases hd : xd = yd
  · subst hd
    have HE : Hid (aheadB ⟨xn, xt, xv, xd, xl⟩ ⟨yn, yt, yv, xd, yl⟩ = decide (xn < yn)) := by simp [Hid, aheadB]
    go_enter Try.func66, Try.ntmps66
    go_wp2_with fail
    go_ret
    exact ⟨ret_bool' HE.out.symm, TW.out _ _⟩
  · have hd' : (xd == yd) = false := by simp [hd]
    by_cases hl : xd < yd
    · have HE : Hid (aheadB ⟨xn, xt, xv, xd, xl⟩ ⟨yn, yt, yv, yd, yl⟩ = true) := by simp [Hid, aheadB, hl]
      go_enter Try.func66, Try.ntmps66
      go_wp2_with fail
      go_ret
      exact ⟨ret_bool' HE.out.symm, TW.out _ _⟩
    · have HE : Hid (aheadB ⟨xn, xt, xv, xd, xl⟩ ⟨yn, yt, yv, yd, yl⟩ = false) := by simp [Hid, aheadB, hl, hd]
      go_enter Try.func66, Try.ntmps66
      go_wp2_with fail
      go_ret
      exact ⟨ret_bool' HE.out.symm, TW.out _ _⟩
end Go.Proofs.Ytmjdndhfmfjbiab

/-
  heraldkeep: a broker is opened; what a Tick does where nothing waits.
-/
namespace Go.Proofs.Ytmjdndhfmfjbiab
open Go.RowKit

set_option maxRecDepth 100000 in
theorem keepOpened (room : Int) (w : World) (h0 : 0 ≤ room) (h1 : room ≤ 500) : Calls Try.prog 9 #[.int .i64 room] w fun e w' =>
    ∃ H F, e = .returned (.pointer (some ⟨H, 0, none⟩)) ∧ PRc w' H F (refNew room) [] ∧ (∀ k, F k → w.heap.size ≤ k) ∧ Below w.heap.size w w' := by
  go_enter Try.func9, Try.ntmps9
  go_wp2_with fail
  refine (hrNew _ room chain_nil (by show 0 ≤ _; omega) h0 h1).mono ?_
  rintro e w1 ⟨H, F, rfl, hp, hF, hb⟩
  have HP : Hid (PRc w1 H F (refNew room) []) := hp
  have HF : Hid (∀ k, F k → w.heap.size ≤ k) := hF
  have HB : Hid (Below w.heap.size w w1) := hb
  clear hp hF hb
  go_wp2_with fail
  go_ret
  exact ⟨H, F, rfl, HP.out, HF.out, HB.out⟩

theorem deliver_nil {S : RefS} (to : Int) (h : S.wait = []) : deliver to S = S := by
  unfold deliver
  rw [h]
  rfl

/-- A Tick where nothing waits. -/
theorem tick_plain {S : RefS} {b : Int} (a c d : Int) (s : ByteArray) (hw : S.wait = []) (h0 : 0 ≤ b) (h1 : b ≤ 1099511627776) (hr : (S.done.length : Int) < S.room) :
    doErr S ⟨6, a, b, c, d, s⟩ = 0 ∧ (S.time < b → doS S ⟨6, a, b, c, d, s⟩ = agedTo { S with done := S.done ++ [⟨6, a, b, c, d, s⟩] } b 8) ∧ (¬ S.time < b → doS S ⟨6, a, b, c, d, s⟩ = S) := by
  have hz : wrongM S ⟨6, a, b, c, d, s⟩ = 0 := by
    have ht : isTimeM b = true := by simp [isTimeM]; omega
    simp [wrongM, tickErr, ht]
  have hwb : writesB S ⟨6, a, b, c, d, s⟩ = decide (S.time < b) := by simp [writesB]
  by_cases hlt : S.time < b
  · rw [decide_eq_true hlt] at hwb
    obtain ⟨-, q2, q3⟩ := is_done hz hwb hr
    refine ⟨q2, fun _ => ?_, fun h => absurd hlt h⟩
    rw [q3]
    have e : turnM { S with done := S.done ++ [⟨6, a, b, c, d, s⟩] } ⟨6, a, b, c, d, s⟩ = tickM { S with done := S.done ++ [⟨6, a, b, c, d, s⟩] } b := by simp [turnM]
    rw [e, tickM]
    exact deliver_nil b ((aged_keeps _ b 8).2.2.2.1.trans hw)
  · rw [decide_eq_false hlt] at hwb
    have hd : doneB S ⟨6, a, b, c, d, s⟩ = false := by unfold doneB; rw [hwb, Bool.and_false]; rfl
    refine ⟨by unfold doErr; rw [if_pos hz, hwb]; rfl, fun h => absurd h hlt, fun _ => by unfold doS; rw [hd]; rfl⟩

structure Calm (S : RefS) (n : Nat) : Prop where
  wait : S.wait = []
  done : S.done.length ≤ n

theorem tick_calm {S : RefS} {b : Int} {n : Nat} (a c d : Int) (s : ByteArray) (hc : Calm S n) (h0 : 0 ≤ b) (h1 : b ≤ 1099511627776) (hr : (S.done.length : Int) < S.room) :
    ∃ S1, doS S ⟨6, a, b, c, d, s⟩ = S1 ∧ doErr S ⟨6, a, b, c, d, s⟩ = 0 ∧ Calm S1 (n + 1) ∧ S1.time = (if S.time < b then b else S.time) ∧ S1.fil = S.fil ∧ S1.pub = S.pub ∧ S1.room = S.room ∧ S1.lost = S.lost ∧
      (∀ k, k < 8 → S1.que k = if S.time < b then (S.que k).filter (aliveB b) else S.que k) := by
  obtain ⟨h2, h3, h4⟩ := tick_plain a c d s hc.wait h0 h1 hr
  by_cases hlt : S.time < b
  · obtain ⟨g1, g2, g3, g4, g5, g6, g7, g8⟩ := aged_keeps { S with done := S.done ++ [⟨6, a, b, c, d, s⟩] } b 8
    refine ⟨_, h3 hlt, h2, ⟨g4.trans hc.wait, ?_⟩, by rw [g2, if_pos hlt], g1, g6, g5, g7, fun k hk => by rw [g8, if_pos hk, if_pos hlt]⟩
    rw [g3]
    have := hc.done
    simp
    omega
  · exact ⟨S, h4 hlt, h2, ⟨hc.wait, Nat.le_succ_of_le hc.done⟩, by rw [if_neg hlt], rfl, rfl, rfl, rfl, fun k _ => by rw [if_neg hlt]⟩
end Go.Proofs.Ytmjdndhfmfjbiab

/-
  heraldkeep: a broker of one's own, and what may be asked of it.
-/
namespace Go.Proofs.Ytmjdndhfmfjbiab
open Go.RowKit

/-- A broker that was made since. -/
def Mine (w0 w : World) (H : Nat) (S : RefS) : Prop := ∃ F R, PRc w H F S R ∧ (∀ k, F k → w0.heap.size ≤ k) ∧ Below w0.heap.size w0 w ∧ Good S
theorem Mine.below {w0 w w1 : World} {H : Nat} {S : RefS} (h : Mine w0 w H S) (hb : Below w.heap.size w w1) : Mine w0 w1 H S := by
  obtain ⟨F, R, hp, hF, hbw, hg⟩ := h
  exact ⟨F, R, hp.below hb, hF, hbw.trans (hb.mono hbw.size), hg⟩
theorem Mine.out {w0 w : World} {H : Nat} {S : RefS} (h : Mine w0 w H S) : Below w0.heap.size w0 w := by
  obtain ⟨F, R, hp, hF, hbw, hg⟩ := h
  exact hbw
theorem Mine.good {w0 w : World} {H : Nat} {S : RefS} (h : Mine w0 w H S) : Good S := by
  obtain ⟨F, R, hp, hF, hbw, hg⟩ := h
  exact hg
theorem Mine.step {w0 w w1 : World} {H : Nat} {F : Nat → Prop} {S1 : RefS} {R : List ByteArray} (hF : ∀ k, F k → w0.heap.size ≤ k) (hbw : Below w0.heap.size w0 w) (hg : Good S1) (ho : Outcome PRc w H F R S1 w1) : Mine w0 w1 H S1 := by
  obtain ⟨F1, R1, hp, hu, hk⟩ := ho
  refine ⟨F1, R ++ R1, hp, fun k h => ?_, hbw.trans (below_of_upd hu hbw.size hF), hg⟩
  rcases hk k h with h1 | h1
  · exact hF k h1
  · exact Nat.le_trans hbw.size h1
/-- An operation on it touches nothing but it. -/
theorem Mine.open {w0 w : World} {H : Nat} {F : Nat → Prop} {S : RefS} {R : List ByteArray} (hp : PRc w H F S R) (hF : ∀ k, F k → w0.heap.size ≤ k) (hb : Below w0.heap.size w0 w) (hg : Good S) : Mine w0 w H S := ⟨F, R, hp, hF, hb, hg⟩

theorem mineSub {w0 w : World} {H : Nat} {S : RefS} (a b c d : Int) (s : ByteArray) (h : Mine w0 w H S) (hs : s.size ≤ 1048576) :
    Calls Try.prog 11 #[.pointer (some ⟨H, 0, none⟩), .int .i64 a, .string s] w fun e w' => e = .returned (.int .i64 (doErr S ⟨1, a, b, c, d, s⟩)) ∧ Mine w0 w' H (doS S ⟨1, a, b, c, d, s⟩) := by
  obtain ⟨F, R, hp, hF, hbw, hg⟩ := h
  refine (hrSubscribe a b c d s hp hg hs).mono ?_
  rintro e w1 ⟨rfl, ho⟩
  exact ⟨rfl, Mine.step hF hbw (hg.does ⟨⟨by show (1 : Int) ≤ 1; omega, by show (1 : Int) ≤ 7; omega⟩, hs⟩) ho⟩

theorem mineUnsub {w0 w : World} {H : Nat} {S : RefS} (a b c d : Int) (s : ByteArray) (h : Mine w0 w H S) (hs : s.size ≤ 1048576) :
    Calls Try.prog 73 #[.pointer (some ⟨H, 0, none⟩), .int .i64 a, .string s] w fun e w' => e = .returned (.int .i64 (doErr S ⟨2, a, b, c, d, s⟩)) ∧ Mine w0 w' H (doS S ⟨2, a, b, c, d, s⟩) := by
  obtain ⟨F, R, hp, hF, hbw, hg⟩ := h
  refine (hrUnsubscribe a b c d s hp hg hs).mono ?_
  rintro e w1 ⟨rfl, ho⟩
  exact ⟨rfl, Mine.step hF hbw (hg.does ⟨⟨by show (1 : Int) ≤ 2; omega, by show (2 : Int) ≤ 7; omega⟩, hs⟩) ho⟩

theorem mineCancel {w0 w : World} {H : Nat} {S : RefS} (a b c d : Int) (s : ByteArray) (h : Mine w0 w H S) (hs : s.size ≤ 1048576) :
    Calls Try.prog 22 #[.pointer (some ⟨H, 0, none⟩), .int .i64 b] w fun e w' => e = .returned (.int .i64 (doErr S ⟨4, a, b, c, d, s⟩)) ∧ Mine w0 w' H (doS S ⟨4, a, b, c, d, s⟩) := by
  obtain ⟨F, R, hp, hF, hbw, hg⟩ := h
  refine (hrCancel a b c d s hp hg).mono ?_
  rintro e w1 ⟨rfl, ho⟩
  exact ⟨rfl, Mine.step hF hbw (hg.does ⟨⟨by show (1 : Int) ≤ 4; omega, by show (4 : Int) ≤ 7; omega⟩, hs⟩) ho⟩

theorem mineMove {w0 w : World} {H : Nat} {S : RefS} (a b c d : Int) (s : ByteArray) (h : Mine w0 w H S) (hs : s.size ≤ 1048576) :
    Calls Try.prog 23 #[.pointer (some ⟨H, 0, none⟩), .int .i64 b, .int .i64 c] w fun e w' => e = .returned (.int .i64 (doErr S ⟨5, a, b, c, d, s⟩)) ∧ Mine w0 w' H (doS S ⟨5, a, b, c, d, s⟩) := by
  obtain ⟨F, R, hp, hF, hbw, hg⟩ := h
  refine (hrMove a b c d s hp hg).mono ?_
  rintro e w1 ⟨rfl, ho⟩
  exact ⟨rfl, Mine.step hF hbw (hg.does ⟨⟨by show (1 : Int) ≤ 5; omega, by show (5 : Int) ≤ 7; omega⟩, hs⟩) ho⟩

theorem mineTick {w0 w : World} {H : Nat} {S : RefS} (a b c d : Int) (s : ByteArray) (h : Mine w0 w H S) (hs : s.size ≤ 1048576) :
    Calls Try.prog 19 #[.pointer (some ⟨H, 0, none⟩), .int .i64 b] w fun e w' => e = .returned (.int .i64 (doErr S ⟨6, a, b, c, d, s⟩)) ∧ Mine w0 w' H (doS S ⟨6, a, b, c, d, s⟩) := by
  obtain ⟨F, R, hp, hF, hbw, hg⟩ := h
  refine (hrTick a b c d s hp hg).mono ?_
  rintro e w1 ⟨rfl, ho⟩
  exact ⟨rfl, Mine.step hF hbw (hg.does ⟨⟨by show (1 : Int) ≤ 6; omega, by show (6 : Int) ≤ 7; omega⟩, hs⟩) ho⟩

theorem mineAck {w0 w : World} {H : Nat} {S : RefS} (a b c d : Int) (s : ByteArray) (h : Mine w0 w H S) (hs : s.size ≤ 1048576) :
    Calls Try.prog 13 #[.pointer (some ⟨H, 0, none⟩), .int .i64 a, .int .i64 b] w fun e w' => e = .returned (.int .i64 (doErr S ⟨7, a, b, c, d, s⟩)) ∧ Mine w0 w' H (doS S ⟨7, a, b, c, d, s⟩) := by
  obtain ⟨F, R, hp, hF, hbw, hg⟩ := h
  refine (hrAck a b c d s hp hg).mono ?_
  rintro e w1 ⟨rfl, ho⟩
  exact ⟨rfl, Mine.step hF hbw (hg.does ⟨⟨by show (1 : Int) ≤ 7; omega, by show (7 : Int) ≤ 7; omega⟩, hs⟩) ho⟩

theorem minePub {w0 w : World} {H : Nat} {S : RefS} (a b c d : Int) (s : ByteArray) (h : Mine w0 w H S) (hs : s.size ≤ 1048576) :
    Calls Try.prog 14 #[.pointer (some ⟨H, 0, none⟩), .string s, .int .i64 b, .int .i64 c, .int .i64 d] w fun e w' => e = .returned (.tuple #[.int .i64 (doAns S ⟨3, a, b, c, d, s⟩), .int .i64 (doErr S ⟨3, a, b, c, d, s⟩)]) ∧ Mine w0 w' H (doS S ⟨3, a, b, c, d, s⟩) := by
  obtain ⟨F, R, hp, hF, hbw, hg⟩ := h
  refine (hrPublish a b c d s hp hg hs).mono ?_
  rintro e w1 ⟨rfl, ho⟩
  exact ⟨rfl, Mine.step hF hbw (hg.does ⟨⟨by show (1 : Int) ≤ 3; omega, by show (3 : Int) ≤ 7; omega⟩, hs⟩) ho⟩

theorem mineTime {w0 w : World} {H : Nat} {S : RefS} (h : Mine w0 w H S) : Calls Try.prog 42 #[.pointer (some ⟨H, 0, none⟩)] w fun e w' => e = .returned (.int .i64 S.time) ∧ w' = w := by
  obtain ⟨F, R, ⟨x, fil, wait, hb, hF⟩, -, -, -⟩ := h
  exact hrTime _ x (lk S fil wait) _ _ hb.rep

theorem mineFilters {w0 w : World} {H : Nat} {S : RefS} (k : Int) (h : Mine w0 w H S) : Calls Try.prog 44 #[.pointer (some ⟨H, 0, none⟩), .int .i64 k] w fun e w' =>
    ∃ v, e = .returned v ∧ w'.ownsRow w.heap.size 9 1 v (filtersM S k).length ((filtersM S k).flatMap (fun f => [Value.string f])) ∧ Below w.heap.size w w' := by
  obtain ⟨F, R, ⟨x, fil, wait, hb, hF⟩, -, -, hg⟩ := h
  refine (hrFilters _ x _ _ k _ hb.rep (fun n hn => ?_)).mono ?_
  · exact Nat.le_trans (Nat.le_of_eq (hb.lk.filP n hn).length_eq) (Nat.le_trans (hg.inv.fil n hn).1 (by omega))
  rintro e w' ⟨v, rfl, ho, hbw⟩
  refine ⟨v, rfl, ?_, hbw⟩
  rw [← filP_eq hb.lk k]
  exact ho

theorem mineQueue {w0 w : World} {H : Nat} {S : RefS} (k : Int) (h : Mine w0 w H S) : Calls Try.prog 15 #[.pointer (some ⟨H, 0, none⟩), .int .i64 k] w fun e w' =>
    ∃ v, e = .returned v ∧ w'.ownsRow w.heap.size 35 5 v (queueM S k).length ((queueM S k).flatMap mailCells) ∧ Below w.heap.size w w' := by
  obtain ⟨F, R, ⟨x, fil, wait, hb, hF⟩, -, -, hg⟩ := h
  refine (hrQueue _ x _ _ k _ hb.rep hg.inv.time0 hg.inv.time1 (fun n hn => ?_)).mono ?_
  · exact ⟨Nat.le_trans (hg.inv.que n hn).1 (by omega), (hg.inv.que n hn).2⟩
  rintro e w' ⟨v, rfl, ho, hbw⟩
  exact ⟨v, rfl, ho, hbw⟩

theorem mineLost {w0 w : World} {H : Nat} {S : RefS} (k : Int) (h : Mine w0 w H S) : Calls Try.prog 16 #[.pointer (some ⟨H, 0, none⟩), .int .i64 k] w fun e w' => e = .returned (.int .i64 (lostM S k)) ∧ w' = w := by
  obtain ⟨F, R, ⟨x, fil, wait, hb, hF⟩, -, -, -⟩ := h
  exact hrLost _ x (lk S fil wait) _ k _ hb.rep

theorem mineWaiting {w0 w : World} {H : Nat} {S : RefS} (h : Mine w0 w H S) : Calls Try.prog 26 #[.pointer (some ⟨H, 0, none⟩)] w fun e w' =>
    ∃ v, e = .returned v ∧ w'.ownsRow w.heap.size 50 5 v (waitingM S).length ((waitingM S).flatMap waitCells) ∧ Below w.heap.size w w' := by
  obtain ⟨F, R, ⟨x, fil, wait, hb, hF⟩, -, -, hg⟩ := h
  refine (hrWaiting _ x _ _ _ hb.rep ?_).mono ?_
  · show wait.length ≤ _
    rw [hb.lk.waitP.length_eq]; exact Nat.le_trans hg.inv.wait.1 (by omega)
  rintro e w' ⟨v, rfl, ho, hbw⟩
  refine ⟨v, rfl, ?_, hbw⟩
  rw [hb.lk.waiting]
  exact ho

theorem mineRecords {w0 w : World} {H : Nat} {S : RefS} (h : Mine w0 w H S) : Calls Try.prog 43 #[.pointer (some ⟨H, 0, none⟩)] w fun e w' => e = .returned (.int .i64 (S.done.length : Int)) ∧ w' = w := by
  obtain ⟨F, R, ⟨x, fil, wait, hb, hF⟩, -, -, -⟩ := h
  refine (hrRecords _ x _ _ _ hb.rep hb.len).mono ?_
  rintro e w' ⟨rfl, rfl⟩
  exact ⟨ret_int (by rw [hb.size]; omega), rfl⟩

theorem mineDisk {w0 w : World} {H : Nat} {S : RefS} (h : Mine w0 w H S) : Calls Try.prog 29 #[.pointer (some ⟨H, 0, none⟩)] w fun e w' => e = .returned (.string (cat (S.done.map recOf))) ∧ w' = w := by
  obtain ⟨F, R, ⟨x, fil, wait, hb, hF⟩, -, -, -⟩ := h
  have := hrDisk _ x _ _ _ hb.rep
  rw [hb.recs] at this
  exact this

theorem mineOpened (room : Int) (w : World) (h0 : 0 ≤ room) (h1 : room ≤ 500) : Calls Try.prog 9 #[.int .i64 room] w fun e w' => ∃ H, e = .returned (.pointer (some ⟨H, 0, none⟩)) ∧ Mine w w' H (refNew room) := by
  refine (keepOpened room w h0 h1).mono ?_
  rintro e w1 ⟨H, F, rfl, hp, hF, hb⟩
  exact ⟨H, rfl, F, [], hp, hF, hb, good_new h0 h1⟩
end Go.Proofs.Ytmjdndhfmfjbiab
