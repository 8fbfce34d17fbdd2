/-
  PLAIN MATHEMATICS: texts as lists of bytes; the cut at each stroke; what a filter and its first word have to do with one another.
-/
import Derived.Test.YtmjdndhfmfjbiaaMath
import Derived.Laws.Strings
namespace Go.Proofs.Ytmjdndhfmfjbiaa.M

/-- A text's bytes. -/
abbrev L (s : ByteArray) : List UInt8 := s.data.toList

theorem L_toList (s : ByteArray) : s.toList = L s := ByteArray.toList_eq s
theorem L_len (s : ByteArray) : (L s).length = s.size := by rw [Array.length_toList]; rfl
theorem L_get (s : ByteArray) (k : Nat) (h : k < s.size) : (L s)[k]? = some (s[k]'h) := by
  rw [List.getElem?_eq_getElem (by rw [L_len]; exact h)]; rfl
theorem L_extract (s : ByteArray) (a b : Nat) : L (s.extract a b) = ((L s).take b).drop a := by
  simp [L, ByteArray.data_extract, Array.toList_extract, List.take_drop]
  rcases Nat.le_total a b with h | h
  · rw [show a + (b - a) = b from by omega]
  · rw [show a + (b - a) = a from by omega]
    rw [List.drop_eq_nil_of_le (by simp; omega), List.drop_eq_nil_of_le (by simp; omega)]
theorem L_inj {a b : ByteArray} (h : L a = L b) : a = b := by
  cases a; cases b; simp only [L] at h
  congr 1
  exact Array.toList_inj.1 h

def letterU (c : UInt8) : Bool := letterB c.toNat
def isWordL (l : List UInt8) : Bool := l.all letterU && (decide (1 ≤ l.length) && decide (l.length ≤ 3))

theorem bt_L (s : ByteArray) (k : Nat) (h : k < s.size) : ∃ c, (L s)[k]? = some c ∧ bt s k = c.toNat := ⟨_, L_get s k h, (bt_get s k h).symm⟩

theorem lettersTo_L (s : ByteArray) : ∀ k, k ≤ s.size → lettersTo s k = ((L s).take k).all letterU := by
  intro k
  induction k with
  | zero => intro _; simp [lettersTo]
  | succ k ih =>
    intro hk
    obtain ⟨c, hc, hb⟩ := bt_L s k (by omega)
    have hk' : k < (L s).length := by rw [L_len]; omega
    rw [lettersTo, ih (by omega), hb, List.take_add_one, hc]
    simp [letterU]

theorem isWordM_L (s : ByteArray) : isWordM s = isWordL (L s) := by
  unfold isWordM isWordL
  rw [lettersTo_L s s.size (Nat.le_refl _), L_len, List.take_of_length_le (by rw [L_len]; exact Nat.le_refl _)]

/-- What stands between the strokes. -/
def splitL : List UInt8 → List (List UInt8)
  | [] => [[]]
  | c :: l => if c = 47 then [] :: splitL l else match splitL l with
    | [] => [[c]]
    | h :: t => (c :: h) :: t

theorem splitL_ne (l : List UInt8) : splitL l ≠ [] := by
  cases l with
  | nil => simp [splitL]
  | cons c l => unfold splitL; split <;> (try split) <;> simp

theorem split_none {a : List UInt8} (h : (47 : UInt8) ∉ a) : splitL a = [a] := by
  induction a with
  | nil => rfl
  | cons c a ih =>
    simp only [List.mem_cons, not_or] at h
    rw [splitL, if_neg (fun e => h.1 e.symm), ih h.2]

theorem split_cons {a r : List UInt8} (h : (47 : UInt8) ∉ a) : splitL (a ++ 47 :: r) = a :: splitL r := by
  induction a with
  | nil => simp [splitL]
  | cons c a ih =>
    simp only [List.mem_cons, not_or] at h
    rw [List.cons_append, splitL, if_neg (fun e => h.1 e.symm), ih h.2]

/-- What the program's loop holds, as lists. -/
theorem cutTo_L (s : ByteArray) : ∀ k, k ≤ s.size →
    splitL (L s) = (cutTo s k).1.map L ++ splitL ((L s).drop (cutTo s k).2) ∧ (47 : UInt8) ∉ ((L s).take k).drop (cutTo s k).2 := by
  intro k
  induction k with
  | zero => intro _; simp [cutTo]
  | succ k ih =>
    intro hk
    obtain ⟨i1, i2⟩ := ih (by omega)
    have hle := (cutTo_le s k).1
    obtain ⟨c, hc, hb⟩ := bt_L s k (by omega)
    have hkl : k < (L s).length := by rw [L_len]; omega
    have hg : (L s)[k] = c := by rw [List.getElem?_eq_getElem hkl] at hc; exact Option.some.inj hc
    by_cases h : bt s k = 47
    · have hc47 : c = 47 := by apply UInt8.toNat.inj; rw [← hb, h]; rfl
      rw [cutTo_hit s k h]
      constructor
      · rw [i1]
        have e : (L s).drop (cutTo s k).2 = ((L s).take k).drop (cutTo s k).2 ++ 47 :: (L s).drop (k + 1) := by
          have e1 : L s = (L s).take k ++ (L s).drop k := (List.take_append_drop k (L s)).symm
          rw [List.drop_eq_getElem_cons hkl, hg, hc47] at e1
          have hl : (cutTo s k).2 ≤ ((L s).take k).length := by rw [List.length_take]; omega
          exact (congrArg (List.drop (cutTo s k).2) e1).trans (List.drop_append_of_le_length hl)
        rw [e, split_cons i2, List.map_append, List.append_assoc]
        simp [L_extract]
      · simp
    · have hc47 : c ≠ 47 := fun e => h (by rw [hb, e]; rfl)
      rw [cutTo_miss s k h]
      refine ⟨i1, ?_⟩
      rw [List.take_add_one, hc, List.drop_append_of_le_length (by rw [List.length_take]; omega)]
      simp only [List.mem_append, not_or]
      exact ⟨i2, by simp; exact fun e => hc47 e.symm⟩

theorem words_L (s : ByteArray) : (wordsM s).map L = splitL (L s) := by
  obtain ⟨h1, h2⟩ := cutTo_L s s.size (Nat.le_refl _)
  rw [List.take_of_length_le (by rw [L_len]; exact Nat.le_refl _)] at h2
  rw [h1, split_none h2, wordsM, List.map_append]
  simp only [List.map_cons, List.map_nil, L_extract]
  rw [List.take_of_length_le (by rw [L_len]; exact Nat.le_refl _)]

def alongL : List (List UInt8) → List (List UInt8) → Bool
  | [], t => t.isEmpty
  | a :: _, [] => (a == [35])
  | a :: f, b :: t => (a == [35]) || (((a == [43]) || (a == b)) && alongL f t)

theorem along_L : ∀ f t : List ByteArray, alongM f t = alongL (f.map L) (t.map L) := by
  intro f
  induction f with
  | nil => intro t; cases t <;> simp [alongM, alongL]
  | cons a f ih =>
    intro t
    cases t with
    | nil => simp [alongM, alongL, L_toList]
    | cons b t => simp [alongM, alongL, L_toList, ih]

def partL (wild last : Bool) (a : List UInt8) : Bool := isWordL a || (wild && ((a == [43]) || ((a == [35]) && last)))
def partsL (wild : Bool) : List (List UInt8) → Bool
  | [] => true
  | a :: l => partL wild l.isEmpty a && partsL wild l
theorem parts_L (wild : Bool) (ws : List ByteArray) : partsM wild ws = partsL wild (ws.map L) := by
  induction ws with
  | nil => rfl
  | cons a l ih => simp [partsM, partsL, ih, partM, partL, isWordM_L, L_toList]

def isPathL (wild : Bool) (l : List UInt8) : Bool := decide (l.length ≤ 15) && decide ((splitL l).length ≤ 4) && partsL wild (splitL l)
theorem isPath_L (wild : Bool) (s : ByteArray) : isPathM wild s = isPathL wild (L s) := by
  unfold isPathM isPathL
  rw [parts_L, words_L, L_len, ← words_L, List.length_map]

theorem parts_wild (l : List (List UInt8)) (h : partsL false l = true) : partsL true l = true := by
  induction l with
  | nil => rfl
  | cons a l ih =>
    simp only [partsL, partL, Bool.and_eq_true, Bool.false_and, Bool.or_false] at h
    simp [partsL, partL, h.1, ih h.2]

theorem path_wild {l : List UInt8} (h : isPathL false l = true) : isPathL true l = true := by
  simp only [isPathL, Bool.and_eq_true] at h ⊢
  exact ⟨h.1, parts_wild _ h.2⟩

theorem along_self (l : List (List UInt8)) : alongL l l = true := by
  induction l with
  | nil => rfl
  | cons a l ih => simp [alongL, ih]

/-- A path cut at its first stroke: the word ahead is a path, and so is the rest. -/
theorem path_cut {wild : Bool} {a r : List UInt8} (hn : (47 : UInt8) ∉ a) (h : isPathL wild (a ++ 47 :: r) = true) :
    isPathL wild a = true ∧ isPathL wild r = true ∧ (a == [35]) = false ∧ splitL (a ++ 47 :: r) = a :: splitL r ∧ splitL a = [a] := by
  have e := split_cons (r := r) hn
  have ha := split_none hn
  simp only [isPathL, Bool.and_eq_true, decide_eq_true_eq, e, partsL, List.length_append, List.length_cons] at h
  obtain ⟨⟨h1, h2⟩, h3, h4⟩ := h
  have hne : (splitL r).isEmpty = false := by
    cases hs : splitL r with
    | nil => exact absurd hs (splitL_ne r)
    | cons _ _ => rfl
  rw [hne] at h3
  have h35 : (a == [35]) = false := by
    cases hh : (a == [35])
    · rfl
    · have : a = [35] := by simpa using hh
      subst this
      cases wild <;> revert h3 <;> decide
  refine ⟨?_, ?_, h35, e, ha⟩
  · simp only [isPathL, ha, partsL, List.length_cons, List.length_nil, Bool.and_eq_true, decide_eq_true_eq, List.isEmpty_nil]
    refine ⟨⟨by omega, by omega⟩, ?_, trivial⟩
    simp only [partL, Bool.or_eq_true, Bool.and_eq_true] at h3 ⊢
    rcases h3 with h3 | ⟨hw, h3⟩
    · exact .inl h3
    · exact .inr ⟨hw, by rcases h3 with h3 | h3
                         · exact .inl h3
                         · exact .inr ⟨h3.1, trivial⟩⟩
  · simp only [isPathL, Bool.and_eq_true, decide_eq_true_eq]
    exact ⟨⟨by omega, by omega⟩, h4⟩

/-- The head of a filter's words is the sign for all that is left only where the filter is that sign. -/
theorem head_hash {r : List UInt8} (h : isPathL true r = true) : alongL (splitL r) [] = (r == [35]) := by
  by_cases hs : (47 : UInt8) ∈ r
  · obtain ⟨a, q, rfl, hn⟩ : ∃ a q, r = a ++ 47 :: q ∧ (47 : UInt8) ∉ a := by
      clear h
      induction r with
      | nil => simp at hs
      | cons c r ih =>
        by_cases hc : c = 47
        · exact ⟨[], r, by simp [hc], by simp⟩
        · obtain ⟨a, q, rfl, hn⟩ := ih (by simpa [Ne.symm hc] using hs)
          exact ⟨c :: a, q, rfl, by simp only [List.mem_cons, not_or]; exact ⟨fun e => hc e.symm, hn⟩⟩
    obtain ⟨-, -, h35, e, -⟩ := path_cut hn h
    rw [e, alongL, h35]
    symm
    cases a with
    | nil => simp
    | cons c a => simp
  · rw [split_none hs]; rfl

def fitsL (f t : List UInt8) : Bool := isPathL true f && isPathL false t && alongL (splitL f) (splitL t)

end Go.Proofs.Ytmjdndhfmfjbiaa.M
