/-
  PLAIN MATHEMATICS OF TOPICS AND FILTERS: no program is named here. Texts are byte arrays; 'wordsM' cuts at each stroke as both programs do.
-/
namespace Go.Proofs.Ytmjdndhfmfjbiaa.M

/-- The byte at a place, as a number; 0 behind the end. -/
def bt (s : ByteArray) (k : Nat) : Nat := if h : k < s.size then (s[k]'h).toNat else 0

theorem bt_get (s : ByteArray) (k : Nat) (h : k < s.size) : (s[k]'h).toNat = bt s k := by unfold bt; rw [dif_pos h]

/-- A letter a to z. -/
def letterB (n : Nat) : Bool := decide (97 ≤ n) && decide (n ≤ 122)

/-- Are the first k bytes letters? -/
def lettersTo (s : ByteArray) : Nat → Bool
  | 0 => true
  | k + 1 => lettersTo s k && letterB (bt s k)

def isWordM (s : ByteArray) : Bool := lettersTo s s.size && (decide (1 ≤ s.size) && decide (s.size ≤ 3))

theorem lettersTo_false (s : ByteArray) (j : Nat) (h : lettersTo s j = false) : ∀ k, j ≤ k → lettersTo s k = false := by
  intro k
  induction k with
  | zero => intro hk; have : j = 0 := by omega
            subst this; exact h
  | succ k ih =>
    intro hk
    by_cases e : j = k + 1
    · subst e; exact h
    · simp [lettersTo, ih (by omega)]

/-- What the loop over a text has cut off behind k bytes: the words, and where the next begins. -/
def cutTo (s : ByteArray) : Nat → List ByteArray × Nat
  | 0 => ([], 0)
  | k + 1 => if bt s k = 47 then ((cutTo s k).1 ++ [s.extract (cutTo s k).2 k], k + 1) else cutTo s k

def wordsM (s : ByteArray) : List ByteArray := (cutTo s s.size).1 ++ [s.extract (cutTo s s.size).2 s.size]

theorem cutTo_le (s : ByteArray) (k : Nat) : (cutTo s k).2 ≤ k ∧ (cutTo s k).1.length ≤ k := by
  induction k with
  | zero => simp [cutTo]
  | succ k ih =>
    unfold cutTo
    split
    · simp; omega
    · omega

theorem cutTo_hit (s : ByteArray) (k : Nat) (h : bt s k = 47) : cutTo s (k + 1) = ((cutTo s k).1 ++ [s.extract (cutTo s k).2 k], k + 1) := by
  rw [cutTo, if_pos h]
theorem cutTo_miss (s : ByteArray) (k : Nat) (h : ¬ bt s k = 47) : cutTo s (k + 1) = cutTo s k := by
  rw [cutTo, if_neg h]

theorem wordsM_len (s : ByteArray) : (wordsM s).length ≤ s.size + 1 := by
  have := cutTo_le s s.size
  simp [wordsM]; omega

/-- Does a filter, cut into its words, fit a topic's words? -/
def alongM : List ByteArray → List ByteArray → Bool
  | [], t => t.isEmpty
  | a :: _, [] => (a.toList == [35])
  | a :: f, b :: t => (a.toList == [35]) || (((a.toList == [43]) || (a.toList == b.toList)) && alongM f t)

/-- May the word stand at that place of a filter (wild), of a topic? -/
def partM (wild last : Bool) (a : ByteArray) : Bool := isWordM a || (wild && ((a.toList == [43]) || ((a.toList == [35]) && last)))

/-- May the words stand so, from one on? -/
def partsM (wild : Bool) : List ByteArray → Bool
  | [] => true
  | a :: l => partM wild l.isEmpty a && partsM wild l

def isPathM (wild : Bool) (s : ByteArray) : Bool := decide (s.size ≤ 15) && decide ((wordsM s).length ≤ 4) && partsM wild (wordsM s)

theorem isWordM_bad (s : ByteArray) (k : Nat) (h : k < s.size) (hb : ¬ (97 ≤ (s[k]'h).toNat ∧ (s[k]'h).toNat ≤ 122)) : isWordM s = false := by
  have h1 : lettersTo s (k + 1) = false := by
    rw [bt_get] at hb
    have : letterB (bt s k) = false := by
      unfold letterB
      by_cases a : 97 ≤ bt s k
      · have : ¬ bt s k ≤ 122 := by omega
        simp [a, this]
      · simp [a]
    simp [lettersTo, this]
  have := lettersTo_false s (k + 1) h1 s.size (by omega)
  simp [isWordM, this]

theorem lettersTo_step (s : ByteArray) (k : Nat) (h : k < s.size) (hl : lettersTo s k = true) (hb : 97 ≤ (s[k]'h).toNat ∧ (s[k]'h).toNat ≤ 122) : lettersTo s (k + 1) = true := by
  rw [bt_get] at hb
  simp [lettersTo, hl, letterB, hb]

theorem isWordM_end (s : ByteArray) (hl : lettersTo s s.size = true) : isWordM s = (decide (1 ≤ s.size) && decide (s.size ≤ 3)) := by
  simp [isWordM, hl]

/-- The words from a place on, one step. -/
theorem parts_drop (wild : Bool) (ws : List ByteArray) (k : Nat) (x : ByteArray) (h : ws[k]? = some x) :
    partsM wild (ws.drop k) = (partM wild ((k : Int) == (ws.length : Int) - 1) x && partsM wild (ws.drop (k + 1))) := by
  obtain ⟨hk, rfl⟩ := List.getElem?_eq_some_iff.1 h
  rw [List.drop_eq_getElem_cons hk, partsM]
  congr 2
  rw [Bool.eq_iff_iff]
  simp
  omega

theorem parts_end (wild : Bool) (ws : List ByteArray) (k : Nat) (h : ws.length ≤ k) : partsM wild (ws.drop k) = true := by
  rw [List.drop_of_length_le h]; rfl

theorem cutTo_mem (s : ByteArray) (k : Nat) : ∀ x ∈ (cutTo s k).1, x.size ≤ s.size := by
  induction k with
  | zero => simp [cutTo]
  | succ k ih =>
    unfold cutTo
    split
    · intro x hx
      simp only [List.mem_append, List.mem_singleton] at hx
      rcases hx with hx | rfl
      · exact ih x hx
      · simp only [ByteArray.size_extract]; omega
    · exact ih

theorem words_mem (s : ByteArray) : ∀ x ∈ wordsM s, x.size ≤ s.size := by
  intro x hx
  simp only [wordsM, List.mem_append, List.mem_singleton] at hx
  rcases hx with hx | rfl
  · exact cutTo_mem s _ x hx
  · simp only [ByteArray.size_extract]; omega

theorem isPathM_bad {wild : Bool} {s : ByteArray} (h : partsM wild (wordsM s) = false) : isPathM wild s = false := by simp [isPathM, h]
theorem isPathM_good {wild : Bool} {s : ByteArray} (h : partsM wild (wordsM s) = true) : isPathM wild s = (decide (s.size ≤ 15) && decide ((wordsM s).length ≤ 4)) := by simp [isPathM, h]

end Go.Proofs.Ytmjdndhfmfjbiaa.M
