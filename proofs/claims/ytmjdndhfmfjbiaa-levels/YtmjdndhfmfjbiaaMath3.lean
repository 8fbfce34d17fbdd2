/-
  PLAIN MATHEMATICS: texts that are built word by word are paths.
-/
import Derived.Test.YtmjdndhfmfjbiaaMath2
namespace Go.Proofs.Ytmjdndhfmfjbiaa.M

theorem split_snoc (l x : List UInt8) : splitL (l ++ 47 :: x) = splitL l ++ splitL x := by
  induction l with
  | nil => simp [splitL]
  | cons c l ih =>
    rw [List.cons_append, splitL, splitL, ih]
    split
    · rfl
    · cases h : splitL l with
      | nil => exact absurd h (splitL_ne l)
      | cons a t => simp

theorem word_no47 {x : List UInt8} (h : isWordL x = true) : (47 : UInt8) ∉ x := by
  intro hm
  simp only [isWordL, Bool.and_eq_true, List.all_eq_true] at h
  have := h.1 47 hm
  revert this; decide

theorem word_len {x : List UInt8} (h : isWordL x = true) : 1 ≤ x.length ∧ x.length ≤ 3 := by
  simp only [isWordL, Bool.and_eq_true, decide_eq_true_eq] at h
  exact h.2

/-- A word, or the sign for any one. -/
def okW (a : List UInt8) : Bool := isWordL a || (a == [43])

theorem okW_split {x : List UInt8} (h : okW x = true) : splitL x = [x] ∧ x.length ≤ 3 := by
  simp only [okW, Bool.or_eq_true] at h
  rcases h with h | h
  · exact ⟨split_none (word_no47 h), (word_len h).2⟩
  · have : x = [43] := by simpa using h
    subst this; exact ⟨by decide, by decide⟩

/-- k words, each as p allows, with strokes between. -/
def Built (p : List UInt8 → Bool) (k : Nat) (l : List UInt8) : Prop := 1 ≤ k ∧ (splitL l).length = k ∧ (splitL l).all p = true ∧ l.length + 1 ≤ 4 * k

theorem built_one {p : List UInt8 → Bool} {x : List UInt8} (hs : splitL x = [x]) (hl : x.length ≤ 3) (hp : p x = true) : Built p 1 x :=
  ⟨Nat.le_refl _, by rw [hs]; rfl, by rw [hs]; simp [hp], by omega⟩

theorem built_snoc {p : List UInt8 → Bool} {k : Nat} {l x : List UInt8} (h : Built p k l) (hs : splitL x = [x]) (hl : x.length ≤ 3) (hp : p x = true) : Built p (k + 1) (l ++ 47 :: x) := by
  obtain ⟨h1, h2, h3, h4⟩ := h
  refine ⟨by omega, by rw [split_snoc, hs]; simp [h2], by rw [split_snoc, hs]; simp [h3, hp], by simp; omega⟩

theorem parts_words {wild : Bool} (ws : List (List UInt8)) (h : ws.all isWordL = true) : partsL wild ws = true := by
  induction ws with
  | nil => rfl
  | cons a l ih =>
    simp only [List.all_cons, Bool.and_eq_true] at h
    simp [partsL, partL, h.1, ih h.2]

theorem parts_ok (ws : List (List UInt8)) (h : ws.all okW = true) : partsL true ws = true ∧ partsL true (ws ++ [[35]]) = true := by
  induction ws with
  | nil => decide
  | cons a l ih =>
    simp only [List.all_cons, Bool.and_eq_true] at h
    obtain ⟨i1, i2⟩ := ih h.2
    have ha : ∀ last, partL true last a = true := by
      intro last
      have := h.1
      simp only [okW, Bool.or_eq_true] at this
      simp only [partL, Bool.or_eq_true, Bool.and_eq_true]
      rcases this with t | t
      · exact .inl t
      · exact .inr ⟨trivial, .inl t⟩
    rw [List.cons_append, partsL, partsL, ha, ha, i1, i2]
    exact ⟨rfl, rfl⟩

theorem built_topic {k : Nat} {l : List UInt8} (h : Built isWordL k l) (hk : k ≤ 4) : isPathL false l = true := by
  obtain ⟨h1, h2, h3, h4⟩ := h
  simp only [isPathL, Bool.and_eq_true, decide_eq_true_eq]
  exact ⟨⟨by omega, by omega⟩, parts_words _ h3⟩

theorem built_filter {k : Nat} {l : List UInt8} (h : Built okW k l) (hk : k ≤ 4) : isPathL true l = true := by
  obtain ⟨h1, h2, h3, h4⟩ := h
  simp only [isPathL, Bool.and_eq_true, decide_eq_true_eq]
  exact ⟨⟨by omega, by omega⟩, (parts_ok _ h3).1⟩

theorem built_hash {k : Nat} {l : List UInt8} (h : Built okW k l) (hk : k ≤ 3) : isPathL true (l ++ 47 :: [35]) = true := by
  obtain ⟨h1, h2, h3, h4⟩ := h
  simp only [isPathL, Bool.and_eq_true, decide_eq_true_eq, split_snoc]
  have e : splitL [35] = [[35]] := by decide
  rw [e]
  exact ⟨⟨by simp; omega, by simp; omega⟩, (parts_ok _ h3).2⟩

theorem built_ne {k : Nat} {l : List UInt8} (h : Built okW k l) : l.isEmpty = false := by
  obtain ⟨h1, h2, h3, h4⟩ := h
  cases l with
  | nil => revert h3; decide
  | cons _ _ => rfl

theorem L_app (a b : ByteArray) : L (a ++ b) = L a ++ L b := by simp [L]

/-- What the loop of 'filter' holds. -/
def FInv (k : Nat) (s : ByteArray) : Prop := s.size ≤ 15 ∧ ((k = 0 ∧ L s = []) ∨ Built okW k (L s))

theorem finv_size {k : Nat} {l : List UInt8} (h : Built okW k l) (hk : k ≤ 4) : l.length ≤ 15 := by have := h.2.2.2; omega

theorem finv_zero {s x : ByteArray} (h : FInv 0 s) (hx : okW (L x) = true) : FInv 1 (s ++ x) := by
  have hs := okW_split hx
  rcases h.2 with ⟨-, h⟩ | h
  · have hb := built_one hs.1 hs.2 hx
    refine ⟨by rw [← L_len, L_app, h, List.nil_append]; exact finv_size hb (by omega), .inr (by rw [L_app, h, List.nil_append]; exact hb)⟩
  · exact absurd h.1 (by omega)

theorem finv_succ {k : Nat} {s x : ByteArray} (h : FInv k s) (hk : 0 < k) (hk4 : k < 4) (hx : okW (L x) = true) : FInv (k + 1) (s ++ ⟨#[47]⟩ ++ x) := by
  have hs := okW_split hx
  rcases h.2 with ⟨h0, -⟩ | h
  · omega
  · have hb := built_snoc h hs.1 hs.2 hx
    have e : L (s ++ ⟨#[47]⟩ ++ x) = L s ++ 47 :: L x := by rw [L_app, L_app, List.append_assoc]; rfl
    exact ⟨by rw [← L_len, e]; exact finv_size hb (by omega), .inr (by rw [e]; exact hb)⟩

theorem finv_hash0 {s : ByteArray} (h : FInv 0 s) : isPathM true (s ++ ⟨#[35]⟩) = true := by
  rw [isPath_L, L_app]
  rcases h.2 with ⟨-, h⟩ | h
  · rw [h]; decide
  · exact absurd h.1 (by omega)

theorem finv_hash {k : Nat} {s : ByteArray} (h : FInv k s) (hk : 0 < k) (hk4 : k < 4) : isPathM true (s ++ ⟨#[47]⟩ ++ ⟨#[35]⟩) = true := by
  rw [isPath_L, L_app, L_app]
  rcases h.2 with ⟨h0, -⟩ | h
  · omega
  · rw [List.append_assoc]; exact built_hash h (by omega)

theorem finv_end {k : Nat} {s : ByteArray} (h : FInv k s) (hk4 : k ≤ 4) : (s.toList.isEmpty = true ∨ (s.toList.isEmpty = false ∧ isPathM true s = true)) := by
  rw [L_toList]
  rcases h.2 with ⟨-, h⟩ | h
  · rw [h]; exact .inl rfl
  · exact .inr ⟨built_ne h, by rw [isPath_L]; exact built_filter h hk4⟩

/-- What the loop of 'topic' holds. -/
def TInv (k : Nat) (s : ByteArray) : Prop := s.size ≤ 15 ∧ Built isWordL k (L s)
theorem tinv_one {x : ByteArray} (hx : isWordL (L x) = true) : TInv 1 x := by
  have hb := built_one (p := isWordL) (split_none (word_no47 hx)) (word_len hx).2 hx
  exact ⟨by rw [← L_len]; have := hb.2.2.2; omega, hb⟩
theorem tinv_succ {k : Nat} {s x : ByteArray} (h : TInv k s) (hk4 : k < 4) (hx : isWordL (L x) = true) : TInv (k + 1) (s ++ ⟨#[47]⟩ ++ x) := by
  have hb := built_snoc h.2 (split_none (word_no47 hx)) (word_len hx).2 hx
  have e : L (s ++ ⟨#[47]⟩ ++ x) = L s ++ 47 :: L x := by rw [L_app, L_app, List.append_assoc]; rfl
  exact ⟨by rw [← L_len, e]; have := hb.2.2.2; omega, by rw [e]; exact hb⟩
theorem tinv_end {k : Nat} {s : ByteArray} (h : TInv k s) (hk4 : k ≤ 4) : isPathM false s = true := by
  rw [isPath_L]; exact built_topic h.2 hk4

end Go.Proofs.Ytmjdndhfmfjbiaa.M
