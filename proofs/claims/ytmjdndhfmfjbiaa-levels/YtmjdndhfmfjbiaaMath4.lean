/-
  PLAIN MATHEMATICS: what Fits answers of a filter and a topic cut at their first strokes.
-/
import Derived.Test.YtmjdndhfmfjbiaaMath3
namespace Go.Proofs.Ytmjdndhfmfjbiaa.M

/-- What Fits answers, and its error. -/
def fitsM (f t : ByteArray) : Bool := isPathM true f && isPathM false t && alongM (wordsM f) (wordsM t)
def fitsE (f t : ByteArray) : Int := if isPathM true f then (if isPathM false t then 0 else 3) else 4

theorem fits_ok {f t : ByteArray} (hf : isPathL true (L f) = true) (ht : isPathL false (L t) = true) : fitsE f t = 0 ∧ fitsM f t = alongL (splitL (L f)) (splitL (L t)) := by
  unfold fitsE fitsM
  rw [isPath_L, isPath_L, hf, ht, along_L, words_L, words_L]
  simp

/-- No stroke stands in it. -/
def Plain (s : ByteArray) : Prop := (47 : UInt8) ∉ L s
/-- The first stroke stands at k. -/
def CutAt (s : ByteArray) (k : Nat) : Prop := k < s.size ∧ L s = (L s).take k ++ 47 :: (L s).drop (k + 1) ∧ (47 : UInt8) ∉ (L s).take k

theorem L_left (s : ByteArray) (k : Nat) : L (s.extract 0 k) = (L s).take k := by rw [L_extract]; simp
theorem L_right (s : ByteArray) (k : Nat) : L (s.extract (k + 1) s.size) = (L s).drop (k + 1) := by
  rw [L_extract, List.take_of_length_le (by rw [L_len]; exact Nat.le_refl _)]

theorem lev_self {t : ByteArray} (ht : isPathM false t = true) : fitsE t t = 0 ∧ fitsM t t = true := by
  rw [isPath_L] at ht
  obtain ⟨h1, h2⟩ := fits_ok (path_wild ht) ht
  exact ⟨h1, by rw [h2, along_self]⟩

theorem lev_hash {t : ByteArray} (ht : isPathM false t = true) : fitsE ⟨#[35]⟩ t = 0 ∧ fitsM ⟨#[35]⟩ t = true := by
  rw [isPath_L] at ht
  obtain ⟨h1, h2⟩ := fits_ok (f := ⟨#[35]⟩) (by decide) ht
  refine ⟨h1, ?_⟩
  rw [h2]
  have e : splitL (L ⟨#[35]⟩) = [[35]] := by decide
  rw [e]
  cases h : splitL (L t) with
  | nil => rfl
  | cons _ _ => rfl

theorem lev_one {f t : ByteArray} (hf : isPathM true f = true) (ht : isPathM false t = true) (hn : Plain f) (h35 : (f.toList == [35]) = false) (hp : Plain t) :
    fitsE f t = 0 ∧ fitsM f t = ((f.toList == [43]) || (f.toList == t.toList)) := by
  rw [isPath_L] at hf ht
  rw [L_toList] at h35 ⊢
  rw [L_toList]
  obtain ⟨h1, h2⟩ := fits_ok hf ht
  exact ⟨h1, by rw [h2, split_none hn, split_none hp, alongL, h35]; simp [alongL]⟩

theorem lev_one_cut {f t : ByteArray} {j : Nat} (hf : isPathM true f = true) (ht : isPathM false t = true) (hn : Plain f) (h35 : (f.toList == [35]) = false) (hp : CutAt t j) :
    fitsE f t = 0 ∧ fitsM f t = false := by
  rw [isPath_L] at hf ht
  rw [L_toList] at h35
  obtain ⟨h1, h2⟩ := fits_ok hf ht
  refine ⟨h1, ?_⟩
  obtain ⟨-, e, hq⟩ := hp
  rw [h2, split_none hn, e, split_cons hq, alongL, h35]
  cases h : splitL ((L t).drop (j + 1)) with
  | nil => exact absurd h (splitL_ne _)
  | cons _ _ => simp [alongL]

theorem lev_cut_one {f t : ByteArray} {i : Nat} (hf : isPathM true f = true) (ht : isPathM false t = true) (hn : CutAt f i) (hp : Plain t) :
    fitsE (f.extract 0 i) t = 0 ∧ fitsE f t = 0 ∧ fitsM f t = (fitsM (f.extract 0 i) t && ((f.extract (i + 1) f.size).toList == [35])) := by
  rw [isPath_L] at hf ht
  rw [L_toList, L_right]
  obtain ⟨-, e, hq⟩ := hn
  have hf' := hf
  rw [e] at hf'
  obtain ⟨p1, p2, p3, p4, p5⟩ := path_cut hq hf'
  obtain ⟨h1, h2⟩ := fits_ok hf ht
  obtain ⟨h3, h4⟩ := fits_ok (f := f.extract 0 i) (by rw [L_left]; exact p1) ht
  refine ⟨h3, h1, ?_⟩
  rw [h2, h4, L_left, p5]
  have e2 : splitL (L f) = (L f).take i :: splitL ((L f).drop (i + 1)) := (congrArg splitL e).trans p4
  rw [e2, split_none hp, alongL, alongL, p3, head_hash p2]
  simp [alongL]

theorem lev_cut_cut {f t : ByteArray} {i j : Nat} (hf : isPathM true f = true) (ht : isPathM false t = true) (hn : CutAt f i) (hp : CutAt t j) :
    fitsE (f.extract 0 i) (t.extract 0 j) = 0 ∧ fitsE (f.extract (i + 1) f.size) (t.extract (j + 1) t.size) = 0 ∧ fitsE f t = 0 ∧
      fitsM f t = (fitsM (f.extract 0 i) (t.extract 0 j) && fitsM (f.extract (i + 1) f.size) (t.extract (j + 1) t.size)) := by
  rw [isPath_L] at hf ht
  obtain ⟨-, e, hq⟩ := hn
  obtain ⟨-, d, hr⟩ := hp
  have hf' := hf
  rw [e] at hf'
  have ht' := ht
  rw [d] at ht'
  obtain ⟨p1, p2, p3, p4, p5⟩ := path_cut hq hf'
  obtain ⟨q1, q2, -, q4, q5⟩ := path_cut hr ht'
  obtain ⟨h1, h2⟩ := fits_ok hf ht
  obtain ⟨h3, h4⟩ := fits_ok (f := f.extract 0 i) (t := t.extract 0 j) (by rw [L_left]; exact p1) (by rw [L_left]; exact q1)
  obtain ⟨h5, h6⟩ := fits_ok (f := f.extract (i + 1) f.size) (t := t.extract (j + 1) t.size) (by rw [L_right]; exact p2) (by rw [L_right]; exact q2)
  refine ⟨h3, h5, h1, ?_⟩
  rw [h2, h4, h6, L_left, L_left, L_right, L_right, p5, q5]
  have e2 : splitL (L f) = (L f).take i :: splitL ((L f).drop (i + 1)) := (congrArg splitL e).trans p4
  have d2 : splitL (L t) = (L t).take j :: splitL ((L t).drop (j + 1)) := (congrArg splitL d).trans q4
  rw [e2, d2, alongL, alongL, p3]
  simp [alongL]

end Go.Proofs.Ytmjdndhfmfjbiaa.M
