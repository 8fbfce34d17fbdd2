import Derived.Test.YtmjdndhfmfjbiabM01
import Derived.Laws.Strings
import Derived.WalkKit
import Derived.Test.YtmjdndhfmfjbiabM02
import Derived.Laws.IdiomStrings
import Derived.ArgAppend
import Derived.Deep.RegionWith
import Derived.Laws.ResultCell
/-
  PLAIN MATHEMATICS: texts as lists of bytes; the cut at each stroke; what a filter and its first word have to do with one another.
-/
namespace Go.Proofs.Ytmjdndhfmfjbiab.M

/-- A text's bytes. -/
abbrev L (s : ByteArray) : List UInt8 := s.data.toList

theorem L_toList (s : ByteArray) : s.toList = L s := ByteArray.toList_eq s
theorem L_len (s : ByteArray) : (L s).length = s.size := by rw [Array.length_toList]; rfl
theorem L_get (s : ByteArray) (k : Nat) (h : k < s.size) : (L s)[k]? = some (s[k]'h) := by
  rw [List.getElem?_eq_getElem (by rw [L_len]; exact h)]; rfl
theorem L_extract (s : ByteArray) (a b : Nat) : L (s.extract a b) = ((L s).take b).drop a := by
  simp [L, ByteArray.data_extract, Array.toList_extract, List.take_drop]
  rcases Nat.le_total a b with h | h
  · rw [show a + (b - a) = b from by omega]
  · rw [show a + (b - a) = a from by omega]
    rw [List.drop_eq_nil_of_le (by simp; omega), List.drop_eq_nil_of_le (by simp; omega)]
theorem L_inj {a b : ByteArray} (h : L a = L b) : a = b := by
  cases a; cases b; simp only [L] at h
  congr 1
  exact Array.toList_inj.1 h

def letterU (c : UInt8) : Bool := letterB c.toNat
def isWordL (l : List UInt8) : Bool := l.all letterU && (decide (1 ≤ l.length) && decide (l.length ≤ 3))

theorem bt_L (s : ByteArray) (k : Nat) (h : k < s.size) : ∃ c, (L s)[k]? = some c ∧ bt s k = c.toNat := ⟨_, L_get s k h, (bt_get s k h).symm⟩

theorem lettersTo_L (s : ByteArray) : ∀ k, k ≤ s.size → lettersTo s k = ((L s).take k).all letterU := by
  intro k
  induction k with
  | zero => intro _; simp [lettersTo]
  | succ k ih =>
    intro hk
    obtain ⟨c, hc, hb⟩ := bt_L s k (by omega)
    have hk' : k < (L s).length := by rw [L_len]; omega
    rw [lettersTo, ih (by omega), hb, List.take_add_one, hc]
    simp [letterU]

theorem isWordM_L (s : ByteArray) : isWordM s = isWordL (L s) := by
  unfold isWordM isWordL
  rw [lettersTo_L s s.size (Nat.le_refl _), L_len, List.take_of_length_le (by rw [L_len]; exact Nat.le_refl _)]

/-- What stands between the strokes. -/
def splitL : List UInt8 → List (List UInt8)
  | [] => [[]]
  | c :: l => if c = 47 then [] :: splitL l else match splitL l with
    | [] => [[c]]
    | h :: t => (c :: h) :: t

theorem splitL_ne (l : List UInt8) : splitL l ≠ [] := by
  cases l with
  | nil => simp [splitL]
  | cons c l => unfold splitL; split <;> (try split) <;> simp

theorem split_none {a : List UInt8} (h : (47 : UInt8) ∉ a) : splitL a = [a] := by
  induction a with
  | nil => rfl
  | cons c a ih =>
    simp only [List.mem_cons, not_or] at h
    rw [splitL, if_neg (fun e => h.1 e.symm), ih h.2]

theorem split_cons {a r : List UInt8} (h : (47 : UInt8) ∉ a) : splitL (a ++ 47 :: r) = a :: splitL r := by
  induction a with
  | nil => simp [splitL]
  | cons c a ih =>
    simp only [List.mem_cons, not_or] at h
    rw [List.cons_append, splitL, if_neg (fun e => h.1 e.symm), ih h.2]

/-- What the program's loop holds, as lists. -/
theorem cutTo_L (s : ByteArray) : ∀ k, k ≤ s.size →
    splitL (L s) = (cutTo s k).1.map L ++ splitL ((L s).drop (cutTo s k).2) ∧ (47 : UInt8) ∉ ((L s).take k).drop (cutTo s k).2 := by
  intro k
  induction k with
  | zero => intro _; simp [cutTo]
  | succ k ih =>
    intro hk
    obtain ⟨i1, i2⟩ := ih (by omega)
    have hle := (cutTo_le s k).1
    obtain ⟨c, hc, hb⟩ := bt_L s k (by omega)
    have hkl : k < (L s).length := by rw [L_len]; omega
    have hg : (L s)[k] = c := by rw [List.getElem?_eq_getElem hkl] at hc; exact Option.some.inj hc
    by_cases h : bt s k = 47
    · have hc47 : c = 47 := by apply UInt8.toNat.inj; rw [← hb, h]; rfl
      rw [cutTo_hit s k h]
      constructor
      · rw [i1]
        have e : (L s).drop (cutTo s k).2 = ((L s).take k).drop (cutTo s k).2 ++ 47 :: (L s).drop (k + 1) := by
          have e1 : L s = (L s).take k ++ (L s).drop k := (List.take_append_drop k (L s)).symm
          rw [List.drop_eq_getElem_cons hkl, hg, hc47] at e1
          have hl : (cutTo s k).2 ≤ ((L s).take k).length := by rw [List.length_take]; omega
          exact (congrArg (List.drop (cutTo s k).2) e1).trans (List.drop_append_of_le_length hl)
        rw [e, split_cons i2, List.map_append, List.append_assoc]
        simp [L_extract]
      · simp
    · have hc47 : c ≠ 47 := fun e => h (by rw [hb, e]; rfl)
      rw [cutTo_miss s k h]
      refine ⟨i1, ?_⟩
      rw [List.take_add_one, hc, List.drop_append_of_le_length (by rw [List.length_take]; omega)]
      simp only [List.mem_append, not_or]
      exact ⟨i2, by simp; exact fun e => hc47 e.symm⟩

theorem words_L (s : ByteArray) : (wordsM s).map L = splitL (L s) := by
  obtain ⟨h1, h2⟩ := cutTo_L s s.size (Nat.le_refl _)
  rw [List.take_of_length_le (by rw [L_len]; exact Nat.le_refl _)] at h2
  rw [h1, split_none h2, wordsM, List.map_append]
  simp only [List.map_cons, List.map_nil, L_extract]
  rw [List.take_of_length_le (by rw [L_len]; exact Nat.le_refl _)]

def alongL : List (List UInt8) → List (List UInt8) → Bool
  | [], t => t.isEmpty
  | a :: _, [] => (a == [35])
  | a :: f, b :: t => (a == [35]) || (((a == [43]) || (a == b)) && alongL f t)

theorem along_L : ∀ f t : List ByteArray, alongM f t = alongL (f.map L) (t.map L) := by
  intro f
  induction f with
  | nil => intro t; cases t <;> simp [alongM, alongL]
  | cons a f ih =>
    intro t
    cases t with
    | nil => simp [alongM, alongL, L_toList]
    | cons b t => simp [alongM, alongL, L_toList, ih]

def partL (wild last : Bool) (a : List UInt8) : Bool := isWordL a || (wild && ((a == [43]) || ((a == [35]) && last)))
def partsL (wild : Bool) : List (List UInt8) → Bool
  | [] => true
  | a :: l => partL wild l.isEmpty a && partsL wild l
theorem parts_L (wild : Bool) (ws : List ByteArray) : partsM wild ws = partsL wild (ws.map L) := by
  induction ws with
  | nil => rfl
  | cons a l ih => simp [partsM, partsL, ih, partM, partL, isWordM_L, L_toList]

def isPathL (wild : Bool) (l : List UInt8) : Bool := decide (l.length ≤ 15) && decide ((splitL l).length ≤ 4) && partsL wild (splitL l)
theorem isPath_L (wild : Bool) (s : ByteArray) : isPathM wild s = isPathL wild (L s) := by
  unfold isPathM isPathL
  rw [parts_L, words_L, L_len, ← words_L, List.length_map]

theorem parts_wild (l : List (List UInt8)) (h : partsL false l = true) : partsL true l = true := by
  induction l with
  | nil => rfl
  | cons a l ih =>
    simp only [partsL, partL, Bool.and_eq_true, Bool.false_and, Bool.or_false] at h
    simp [partsL, partL, h.1, ih h.2]

theorem path_wild {l : List UInt8} (h : isPathL false l = true) : isPathL true l = true := by
  simp only [isPathL, Bool.and_eq_true] at h ⊢
  exact ⟨h.1, parts_wild _ h.2⟩

theorem along_self (l : List (List UInt8)) : alongL l l = true := by
  induction l with
  | nil => rfl
  | cons a l ih => simp [alongL, ih]

/-- A path cut at its first stroke: the word ahead is a path, and so is the rest. -/
theorem path_cut {wild : Bool} {a r : List UInt8} (hn : (47 : UInt8) ∉ a) (h : isPathL wild (a ++ 47 :: r) = true) :
    isPathL wild a = true ∧ isPathL wild r = true ∧ (a == [35]) = false ∧ splitL (a ++ 47 :: r) = a :: splitL r ∧ splitL a = [a] := by
  have e := split_cons (r := r) hn
  have ha := split_none hn
  simp only [isPathL, Bool.and_eq_true, decide_eq_true_eq, e, partsL, List.length_append, List.length_cons] at h
  obtain ⟨⟨h1, h2⟩, h3, h4⟩ := h
  have hne : (splitL r).isEmpty = false := by
    cases hs : splitL r with
    | nil => exact absurd hs (splitL_ne r)
    | cons _ _ => rfl
  rw [hne] at h3
  have h35 : (a == [35]) = false := by
    cases hh : (a == [35])
    · rfl
    · have : a = [35] := by simpa using hh
      subst this
      cases wild <;> revert h3 <;> decide
  refine ⟨?_, ?_, h35, e, ha⟩
  · simp only [isPathL, ha, partsL, List.length_cons, List.length_nil, Bool.and_eq_true, decide_eq_true_eq, List.isEmpty_nil]
    refine ⟨⟨by omega, by omega⟩, ?_, trivial⟩
    simp only [partL, Bool.or_eq_true, Bool.and_eq_true] at h3 ⊢
    rcases h3 with h3 | ⟨hw, h3⟩
    · exact .inl h3
    · exact .inr ⟨hw, by rcases h3 with h3 | h3
                         · exact .inl h3
                         · exact .inr ⟨h3.1, trivial⟩⟩
  · simp only [isPathL, Bool.and_eq_true, decide_eq_true_eq]
    exact ⟨⟨by omega, by omega⟩, h4⟩

/-- The head of a filter's words is the sign for all that is left only where the filter is that sign. -/
theorem head_hash {r : List UInt8} (h : isPathL true r = true) : alongL (splitL r) [] = (r == [35]) := by
  by_cases hs : (47 : UInt8) ∈ r
  · obtain ⟨a, q, rfl, hn⟩ : ∃ a q, r = a ++ 47 :: q ∧ (47 : UInt8) ∉ a := by
      clear h
      induction r with
      | nil => simp at hs
      | cons c r ih =>
        by_cases hc : c = 47
        · exact ⟨[], r, by simp [hc], by simp⟩
        · obtain ⟨a, q, rfl, hn⟩ := ih (by simpa [Ne.symm hc] using hs)
          exact ⟨c :: a, q, rfl, by simp only [List.mem_cons, not_or]; exact ⟨fun e => hc e.symm, hn⟩⟩
    obtain ⟨-, -, h35, e, -⟩ := path_cut hn h
    rw [e, alongL, h35]
    symm
    cases a with
    | nil => simp
    | cons c a => simp
  · rw [split_none hs]; rfl

def fitsL (f t : List UInt8) : Bool := isPathL true f && isPathL false t && alongL (splitL f) (splitL t)

end Go.Proofs.Ytmjdndhfmfjbiab.M

/-
  RECORDS: how they are written, as numbers and bytes. No program is named here.
-/
namespace Go.Proofs.Ytmjdndhfmfjbiab
open Go.RowKit

/-- A number of so many bytes, the least first. -/
def leM : Int → Nat → List UInt8
  | _, 0 => []
  | n, k + 1 => UInt8.ofNat (n % 256).toNat :: leM (n / 256) k
def valM : List UInt8 → Int
  | [] => 0
  | b :: l => valM l * 256 + (b.toNat : Int)
theorem le_len (n : Int) (k : Nat) : (leM n k).length = k := by
  induction k generalizing n with
  | zero => rfl
  | succ k ih => simp [leM, ih]
theorem le_snoc (n : Int) (k : Nat) : leM n (k + 1) = leM n k ++ [UInt8.ofNat (n / 256 ^ k % 256).toNat] := by
  induction k generalizing n with
  | zero => simp [leM]
  | succ k ih =>
    rw [leM, ih (n / 256), leM, List.cons_append]
    have : n / 256 / 256 ^ k = n / 256 ^ (k + 1) := by
      rw [Int.ediv_ediv_of_nonneg (by omega)]
      congr 1
      rw [Int.pow_succ, Int.mul_comm]
    rw [this]
theorem byte_back (n : Int) : ((UInt8.ofNat (n % 256).toNat).toNat : Int) = n % 256 := by
  have h0 : 0 ≤ n % 256 := Int.emod_nonneg _ (by omega)
  have h1 : n % 256 < 256 := Int.emod_lt_of_pos _ (by omega)
  rw [UInt8.toNat_ofNat']
  have : (n % 256).toNat % 2 ^ 8 = (n % 256).toNat := Nat.mod_eq_of_lt (by omega)
  rw [this]
  omega
theorem val_le (k : Nat) : ∀ (n : Int), 0 ≤ n → n < 256 ^ k → valM (leM n k) = n := by
  induction k with
  | zero => intro n h0 h1; simp at h1; simp [leM, valM]; omega
  | succ k ih =>
    intro n h0 h1
    rw [leM, valM, byte_back, ih (n / 256) (by omega) (by rw [Int.pow_succ] at h1; omega)]
    omega
theorem val_bd (l : List UInt8) : 0 ≤ valM l ∧ valM l < 256 ^ l.length := by
  induction l with
  | nil => simp [valM]
  | cons b l ih =>
    have hb : b.toNat < 256 := b.toNat_lt
    simp only [valM, List.length_cons, Int.pow_succ]
    omega

/-- A text, and zeros behind it. -/
def fillL (s : ByteArray) (n : Nat) : List UInt8 := s.data.toList ++ List.replicate (n - s.size) 0
def sumL (l : List UInt8) : Int := l.foldl (fun t b => (t + (b.toNat : Int)) % 256) 0
theorem sum_snoc (l : List UInt8) (b : UInt8) : sumL (l ++ [b]) = (sumL l + (b.toNat : Int)) % 256 := by simp [sumL]

structure RecD where
  call : Int
  client : Int
  text : ByteArray
  number : Int
  value : Int
  delay : Int
  life : Int
  to : Int
def nilRec : RecD := ⟨0, 0, ⟨#[]⟩, 0, 0, 0, 0, 0⟩

def leA (n : Int) (k : Nat) : ByteArray := ⟨(leM n k).toArray⟩
def fillA (s : ByteArray) (n : Nat) : ByteArray := ⟨(fillL s n).toArray⟩
def sumA (s : ByteArray) : Int := sumL s.data.toList
def valA (s : ByteArray) : Int := valM s.data.toList
def bodyA (r : RecD) : ByteArray := leA r.call 1 ++ leA r.client 1 ++ fillA r.text 15 ++ leA r.number 2 ++ leA r.value 4 ++ leA r.delay 6 ++ leA r.life 6 ++ leA r.to 6
def encM (r : RecD) : ByteArray := bodyA r ++ leA (sumA (bodyA r)) 1

/-- Where the first zero stands. -/
def zeroAt (s : ByteArray) : Nat := s.data.toList.findIdx (fun b => b == 0)
def unfillM (s : ByteArray) : ByteArray := s.extract 0 (zeroAt s)
def decM (t : ByteArray) : RecD :=
  ⟨valA (t.extract 0 1), valA (t.extract 1 2), unfillM (t.extract 2 17), valA (t.extract 17 19), valA (t.extract 19 23), valA (t.extract 23 29), valA (t.extract 29 35), valA (t.extract 35 41)⟩
def givenM (r : RecD) : RecD :=
  if r.call = 1 then ⟨1, r.client, r.text, 0, 0, 0, 0, 0⟩ else if r.call = 2 then ⟨2, r.client, r.text, 0, 0, 0, 0, 0⟩ else if r.call = 3 then ⟨3, 0, r.text, 0, r.value, r.delay, r.life, 0⟩
  else if r.call = 4 then ⟨4, 0, ⟨#[]⟩, r.number, 0, 0, 0, 0⟩ else if r.call = 5 then ⟨5, 0, ⟨#[]⟩, r.number, 0, r.delay, 0, 0⟩ else if r.call = 6 then ⟨6, 0, ⟨#[]⟩, 0, 0, 0, 0, r.to⟩
  else if r.call = 7 then ⟨7, r.client, ⟨#[]⟩, r.number, 0, 0, 0, 0⟩ else nilRec

structure Valid (r : RecD) : Prop where
  call : 1 ≤ r.call ∧ r.call ≤ 7
  client : 0 ≤ r.client ∧ r.client < 256
  text : r.text.size ≤ 15
  clean : ∀ b ∈ r.text.data.toList, b ≠ 0
  number : 0 ≤ r.number ∧ r.number < 65536
  value : 0 ≤ r.value ∧ r.value < 4294967296
  delay : 0 ≤ r.delay ∧ r.delay < 281474976710656
  life : 0 ≤ r.life ∧ r.life < 281474976710656
  to : 0 ≤ r.to ∧ r.to < 281474976710656
  given : givenM r = r

theorem ba_list (a b : ByteArray) : (a ++ b).data.toList = a.data.toList ++ b.data.toList := by simp
theorem ba_ext {a b : ByteArray} (h : a.data.toList = b.data.toList) : a = b := by
  obtain ⟨a⟩ := a
  obtain ⟨b⟩ := b
  simp only at h
  rw [Array.toList_inj] at h
  rw [h]
theorem ba_size (a : ByteArray) : a.size = a.data.toList.length := by rw [Array.length_toList]; rfl
theorem ba_extract (t : ByteArray) (a b : Nat) : (t.extract a b).data.toList = (t.data.toList.take b).drop a := by simp [List.drop_take, List.extract]

theorem fill_len (s : ByteArray) (n : Nat) (h : s.size ≤ n) : (fillL s n).length = n := by
  rw [ba_size] at h
  rw [fillL, List.length_append, List.length_replicate, ba_size]; omega
theorem body_list (r : RecD) : (bodyA r).data.toList = leM r.call 1 ++ (leM r.client 1 ++ (fillL r.text 15 ++ (leM r.number 2 ++ (leM r.value 4 ++ (leM r.delay 6 ++ (leM r.life 6 ++ leM r.to 6)))))) := by
  simp only [bodyA, ba_list, leA, fillA, List.append_assoc]
theorem body_len (r : RecD) (h : r.text.size ≤ 15) : (bodyA r).data.toList.length = 41 := by
  rw [body_list, List.length_append, List.length_append, List.length_append, List.length_append, List.length_append, List.length_append, List.length_append, fill_len _ _ h, le_len, le_len, le_len, le_len, le_len, le_len, le_len]
theorem enc_list (r : RecD) : (encM r).data.toList = (bodyA r).data.toList ++ leM (sumA (bodyA r)) 1 := by simp only [encM, ba_list, leA]
theorem enc_size (r : RecD) (h : r.text.size ≤ 15) : (encM r).size = 42 := by rw [ba_size, enc_list, List.length_append, body_len r h, le_len]

/-- Cutting a list that is made of parts. -/
theorem cut_mid {α : Type} (A B C : List α) (i j : Nat) (hi : i = A.length) (hj : j = i + B.length) : (((A ++ (B ++ C)).take j).drop i) = B := by
  subst hi hj
  rw [← List.append_assoc, List.take_append_of_le_length (by simp), List.take_of_length_le (by simp), List.drop_append_of_le_length (by simp), List.drop_length, List.nil_append]

theorem unfill_fill (s : ByteArray) (t : ByteArray) (n : Nat) (hc : ∀ b ∈ s.data.toList, b ≠ 0) (ht : t.data.toList = fillL s n) : unfillM t = s := by
  apply ba_ext
  rw [unfillM, ba_extract, List.drop_zero]
  have hz : zeroAt t = s.data.toList.length := by
    rw [zeroAt, ht, fillL]
    rw [List.findIdx_append]
    have h1 : s.data.toList.findIdx (fun b => b == 0) = s.data.toList.length := List.findIdx_eq_length.2 (fun b hb => by simp [hc b hb])
    rw [h1, if_neg (by omega)]
    cases hk : n - s.size with
    | zero => simp
    | succ k => simp [List.replicate_succ, List.findIdx_cons]
  rw [hz, ht, fillL]
  exact List.take_left

theorem dec_enc {r : RecD} (h : Valid r) : decM (encM r) = r := by
  have L := enc_list r
  rw [body_list] at L
  have hf := fill_len r.text 15 h.text
  have key : ∀ (A B C : List UInt8) (i j : Nat), (encM r).data.toList = A ++ (B ++ C) → i = A.length → j = i + B.length → ((encM r).extract i j).data.toList = B := fun A B C i j e hi hj => by
    rw [ba_extract, e]; exact cut_mid A B C i j hi hj
  have e0 := key [] (leM r.call 1) _ 0 1 (by rw [L]; simp only [List.append_assoc, List.nil_append]; rfl) rfl (by simp [le_len])
  have e1 := key (leM r.call 1) (leM r.client 1) _ 1 2 (by rw [L]; simp only [List.append_assoc]; rfl) (by simp [le_len]) (by simp [le_len])
  have e2 := key (leM r.call 1 ++ leM r.client 1) (fillL r.text 15) _ 2 17 (by rw [L]; simp only [List.append_assoc]; rfl) (by simp [le_len]) (by simp [hf])
  have e3 := key (leM r.call 1 ++ (leM r.client 1 ++ fillL r.text 15)) (leM r.number 2) _ 17 19 (by rw [L]; simp only [List.append_assoc]; rfl) (by simp [le_len, hf]) (by simp [le_len])
  have e4 := key (leM r.call 1 ++ (leM r.client 1 ++ (fillL r.text 15 ++ leM r.number 2))) (leM r.value 4) _ 19 23 (by rw [L]; simp only [List.append_assoc]; rfl) (by simp [le_len, hf]) (by simp [le_len])
  have e5 := key (leM r.call 1 ++ (leM r.client 1 ++ (fillL r.text 15 ++ (leM r.number 2 ++ leM r.value 4)))) (leM r.delay 6) _ 23 29 (by rw [L]; simp only [List.append_assoc]; rfl) (by simp [le_len, hf]) (by simp [le_len])
  have e6 := key (leM r.call 1 ++ (leM r.client 1 ++ (fillL r.text 15 ++ (leM r.number 2 ++ (leM r.value 4 ++ leM r.delay 6))))) (leM r.life 6) _ 29 35 (by rw [L]; simp only [List.append_assoc]; rfl) (by simp [le_len, hf]) (by simp [le_len])
  have e7 := key (leM r.call 1 ++ (leM r.client 1 ++ (fillL r.text 15 ++ (leM r.number 2 ++ (leM r.value 4 ++ (leM r.delay 6 ++ leM r.life 6)))))) (leM r.to 6) _ 35 41 (by rw [L]; simp only [List.append_assoc]; rfl) (by simp [le_len, hf]) (by simp [le_len])
  have v0 := val_le 1 r.call (by have := h.call; omega) (by have := h.call; omega)
  have v1 := val_le 1 r.client h.client.1 (by have := h.client; omega)
  have v3 := val_le 2 r.number h.number.1 (by have := h.number; omega)
  have v4 := val_le 4 r.value h.value.1 (by have := h.value; omega)
  have v5 := val_le 6 r.delay h.delay.1 (by have := h.delay; omega)
  have v6 := val_le 6 r.life h.life.1 (by have := h.life; omega)
  have v7 := val_le 6 r.to h.to.1 (by have := h.to; omega)
  obtain ⟨c, cl, tx, nu, va, de, li, to⟩ := r
  simp only [decM, valA, e0, e1, e3, e4, e5, e6, e7, unfill_fill _ _ 15 h.clean e2] at *
  rw [v0, v1, v3, v4, v5, v6, v7]

/-- A text that a record may be: its last byte is the sum of the others. -/
def Checked (t : ByteArray) : Prop := t.data.toList.length = 42 ∧ ∃ l b, t.data.toList = l ++ [b] ∧ (b.toNat : Int) = sumL l
theorem sum_bd (l : List UInt8) : 0 ≤ sumL l ∧ sumL l < 256 := by
  rcases List.eq_nil_or_concat l with rfl | ⟨l, b, rfl⟩
  · simp [sumL]
  · rw [List.concat_eq_append, sum_snoc]
    exact ⟨Int.emod_nonneg _ (by omega), Int.emod_lt_of_pos _ (by omega)⟩
theorem enc_checked (r : RecD) (h : r.text.size ≤ 15) : Checked (encM r) := by
  refine ⟨by rw [← ba_size]; exact enc_size r h, _, UInt8.ofNat (sumA (bodyA r) % 256).toNat, enc_list r, ?_⟩
  have := sum_bd (bodyA r).data.toList
  rw [byte_back]
  show sumA _ % 256 = _
  unfold sumA
  omega

def addL (l : List UInt8) : Int := (l.map (fun b => (b.toNat : Int))).sum
theorem sum_add (l : List UInt8) : sumL l = addL l % 256 := by
  suffices H : ∀ (l : List UInt8) (t : Int), 0 ≤ t → t < 256 → l.foldl (fun t b => (t + (b.toNat : Int)) % 256) t = (t + addL l) % 256 from by
    have := H l 0 (by omega) (by omega)
    rw [Int.zero_add] at this
    exact this
  intro l
  induction l with
  | nil => intro t h0 h1; simp [addL]; omega
  | cons b l ih =>
    intro t h0 h1
    rw [List.foldl_cons, ih _ (Int.emod_nonneg _ (by omega)) (Int.emod_lt_of_pos _ (by omega))]
    simp only [addL, List.map_cons, List.sum_cons]
    omega
theorem add_app (a b : List UInt8) : addL (a ++ b) = addL a + addL b := by simp [addL, List.sum_append]

/-- One byte that is another: not both are checked. -/
theorem one_turned {s t : ByteArray} (hs : Checked s) (ht : Checked t) (A C : List UInt8) (x y : UInt8) (es : s.data.toList = A ++ (x :: C)) (et : t.data.toList = A ++ (y :: C)) : x = y := by
  have hx : x.toNat < 256 := x.toNat_lt
  have hy : y.toNat < 256 := y.toNat_lt
  obtain ⟨-, l, b, e1, e2⟩ := hs
  obtain ⟨-, m, c, f1, f2⟩ := ht
  rcases List.eq_nil_or_concat C with rfl | ⟨D, z, rfl⟩
  · rw [es] at e1
    rw [et] at f1
    obtain ⟨rfl, h1⟩ := List.append_inj' e1 rfl
    obtain ⟨rfl, h2⟩ := List.append_inj' f1 rfl
    simp only [List.cons.injEq, and_true] at h1 h2
    subst h1 h2
    exact UInt8.toNat_inj.1 (by omega)
  · rw [List.concat_eq_append] at es et
    have es' : A ++ (x :: D) ++ [z] = l ++ [b] := by rw [← e1, es]; simp
    have et' : A ++ (y :: D) ++ [z] = m ++ [c] := by rw [← f1, et]; simp
    obtain ⟨g1, g2⟩ := List.append_inj' es' rfl
    obtain ⟨g3, g4⟩ := List.append_inj' et' rfl
    simp only [List.cons.injEq, and_true] at g2 g4
    rw [sum_add, ← g1, add_app] at e2
    rw [sum_add, ← g3, add_app] at f2
    rw [← g2] at e2
    rw [← g4] at f2
    simp only [addL, List.map_cons, List.sum_cons] at e2 f2
    exact UInt8.toNat_inj.1 (by omega)
end Go.Proofs.Ytmjdndhfmfjbiab

/-
  A DISK of records of one size: cut, or with one byte turned. No program is named here.
-/
namespace Go.Proofs.Ytmjdndhfmfjbiab
open Go.RowKit

theorem cat_list (R : List ByteArray) : (cat R).data.toList = R.flatMap (fun r => r.data.toList) := by
  induction R with
  | nil => rfl
  | cons r R ih => rw [cat, ba_list, ih, List.flatMap_cons]
theorem cat_one (r : ByteArray) : cat [r] = r := by
  apply ba_ext
  rw [cat_list]; simp
theorem cat_snoc (R : List ByteArray) (r : ByteArray) : cat (R ++ [r]) = cat R ++ r := by rw [cat_append, cat_one]
theorem cat_size {R : List ByteArray} (h : ∀ r ∈ R, r.size = 42) : (cat R).size = 42 * R.length := by
  induction R with
  | nil => rfl
  | cons r R ih =>
    have h1 := h r (by simp)
    have h2 := ih (fun q hq => h q (by simp [hq]))
    rw [ba_size] at h1 h2 ⊢
    rw [cat, ba_list, List.length_append, h1, h2, List.length_cons]
    omega

theorem whole_all {R : List ByteArray} (h : ∀ r ∈ R, r.size = 42) (k : Nat) : wholeN R k = min (k / 42) R.length := by
  induction R generalizing k with
  | nil => simp [wholeN]
  | cons r R ih =>
    rw [wholeN, h r (by simp), ih (fun q hq => h q (by simp [hq])), List.length_cons]
    split
    · omega
    · omega

/-- A record of a disk. -/
def chunk (d : ByteArray) (i : Nat) : ByteArray := d.extract (42 * i) (42 * i + 42)
theorem chunk_get (d : ByteArray) (i j : Nat) : (chunk d i).data.toList[j]? = if j < 42 then d.data.toList[42 * i + j]? else none := by
  rw [chunk, ba_extract, List.getElem?_drop, List.getElem?_take]
  by_cases h : j < 42
  · rw [if_pos h, if_pos (by omega)]
  · rw [if_neg h, if_neg (by omega)]

theorem cat_get {R : List ByteArray} (h : ∀ r ∈ R, r.size = 42) {i : Nat} {r : ByteArray} (hr : R[i]? = some r) (j : Nat) (hj : j < 42) : (cat R).data.toList[42 * i + j]? = r.data.toList[j]? := by
  induction R generalizing i with
  | nil => simp at hr
  | cons q R ih =>
    have hq : q.data.toList.length = 42 := by rw [← ba_size]; exact h q (by simp)
    rw [cat, ba_list]
    cases i with
    | zero =>
      simp only [List.getElem?_cons_zero, Option.some.injEq] at hr
      subst hr
      rw [Nat.mul_zero, Nat.zero_add, List.getElem?_append_left (by omega)]
    | succ i =>
      rw [List.getElem?_cons_succ] at hr
      rw [List.getElem?_append_right (by omega), hq, show 42 * (i + 1) + j - 42 = 42 * i + j from by omega]
      exact ih (fun p hp => h p (by simp [hp])) hr

theorem get_ba (d : ByteArray) (i : Nat) (h : i < d.size) : d.data.toList[i]? = some d[i]! := by
  have h' : i < d.data.size := h
  rw [Array.getElem?_toList, Array.getElem?_eq_getElem h', getElem!_pos d i h]
  rfl

/-- Two lists that differ in one place. -/
theorem differ_one {A B : List UInt8} {k : Nat} {x y : UInt8} (hx : A[k]? = some x) (hy : B[k]? = some y) (h : ∀ i, i ≠ k → A[i]? = B[i]?) : ∃ P Q, A = P ++ (x :: Q) ∧ B = P ++ (y :: Q) := by
  obtain ⟨ha, rfl⟩ := List.getElem?_eq_some_iff.1 hx
  obtain ⟨hb, rfl⟩ := List.getElem?_eq_some_iff.1 hy
  refine ⟨A.take k, A.drop (k + 1), ?_, ?_⟩
  · rw [← List.drop_eq_getElem_cons ha, List.take_append_drop]
  · have e1 : A.take k = B.take k := by
      apply List.ext_getElem?
      intro i
      rw [List.getElem?_take, List.getElem?_take]
      split
      · exact h i (by omega)
      · rfl
    have e2 : A.drop (k + 1) = B.drop (k + 1) := by
      apply List.ext_getElem?
      intro i
      rw [List.getElem?_drop, List.getElem?_drop]
      exact h _ (by omega)
    rw [e1, e2, ← List.drop_eq_getElem_cons hb, List.take_append_drop]

theorem chunk_eq {R : List ByteArray} (h : ∀ r ∈ R, r.size = 42) {i : Nat} {r : ByteArray} (hr : R[i]? = some r) (d : ByteArray) (hd : ∀ j, j < 42 → d.data.toList[42 * i + j]? = (cat R).data.toList[42 * i + j]?) : chunk d i = r := by
  apply ba_ext
  apply List.ext_getElem?
  intro j
  rw [chunk_get]
  by_cases hj : j < 42
  · rw [if_pos hj, hd j hj, cat_get h hr j hj]
  · have : r.data.toList.length = 42 := by rw [← ba_size]; exact h r (List.mem_of_getElem? hr)
    rw [if_neg hj, List.getElem?_eq_none (by omega)]

/-- A record of which one byte is another. -/
def Turned (r t : ByteArray) : Prop := ∃ P Q x y, r.data.toList = P ++ (x :: Q) ∧ t.data.toList = P ++ (y :: Q) ∧ x ≠ y

/-- What is left of a disk. -/
theorem damage {R : List ByteArray} (h : ∀ r ∈ R, r.size = 42) {d : ByteArray} {k : Nat} (hd : Damaged (cat R) d k) :
    wholeN R k ≤ R.length ∧ (∀ i r, i < wholeN R k → R[i]? = some r → chunk d i = r) ∧ 42 * wholeN R k ≤ d.size ∧ d.size ≤ 42 * R.length ∧
      (d.size < 42 * wholeN R k + 42 ∨ ∃ r, R[wholeN R k]? = some r ∧ 42 * wholeN R k + 42 ≤ d.size ∧ Turned r (chunk d (wholeN R k))) := by
  have hw := whole_all h k
  have hs := cat_size h
  rcases hd with ⟨hk, rfl⟩ | ⟨hk, hsz, hsame, hdiff⟩
  · have hn : wholeN R k = k / 42 := by omega
    have hsz : ((cat R).extract 0 k).size = k := by
      rw [ba_size] at hk
      rw [ba_size, ba_extract, List.drop_zero, List.length_take]; omega
    refine ⟨by omega, fun i r hi hr => chunk_eq h hr _ (fun j hj => ?_), by omega, by omega, .inl (by omega)⟩
    rw [ba_extract, List.drop_zero, List.getElem?_take, if_pos (by omega)]
  · have hn : wholeN R k = k / 42 := by omega
    have hlen : wholeN R k < R.length := by omega
    obtain ⟨r, hr⟩ : ∃ r, R[wholeN R k]? = some r := ⟨_, List.getElem?_eq_getElem hlen⟩
    have same : ∀ i, i ≠ k → d.data.toList[i]? = (cat R).data.toList[i]? := fun i hi => by
      by_cases hlt : i < (cat R).size
      · rw [get_ba d i (by omega), get_ba _ i hlt, hsame i hlt hi]
      · rw [List.getElem?_eq_none (by rw [← ba_size]; omega), List.getElem?_eq_none (by rw [← ba_size]; omega)]
    refine ⟨by omega, fun i q hi hq => chunk_eq h hq _ (fun j hj => same _ (by omega)), by omega, by omega, .inr ⟨r, hr, by omega, ?_⟩⟩
    have hj : k - 42 * wholeN R k < 42 := by omega
    have ek : 42 * wholeN R k + (k - 42 * wholeN R k) = k := by omega
    have hx : r.data.toList[k - 42 * wholeN R k]? = some (cat R)[k]! := by rw [← cat_get h hr _ hj, ek, get_ba _ k hk]
    have hy : (chunk d (wholeN R k)).data.toList[k - 42 * wholeN R k]? = some d[k]! := by rw [chunk_get, if_pos hj, ek, get_ba d k (by omega)]
    obtain ⟨P, Q, e1, e2⟩ := differ_one hx hy (fun i hi => by
      rw [chunk_get]
      by_cases hi2 : i < 42
      · rw [if_pos hi2, same _ (by omega), cat_get h hr i hi2]
      · have : r.data.toList.length = 42 := by rw [← ba_size]; exact h r (List.mem_of_getElem? hr)
        rw [if_neg hi2, List.getElem?_eq_none (by omega)])
    exact ⟨P, Q, _, _, e1, e2, fun e => hdiff e.symm⟩
end Go.Proofs.Ytmjdndhfmfjbiab

/-
  WHAT AN OPERATION WRITES, and numbers that stay small. No program is named here.
-/
namespace Go.Proofs.Ytmjdndhfmfjbiab
open Go.RowKit

theorem split_mem : ∀ (l : List UInt8) (b : UInt8), b ∈ l → b = 47 ∨ ∃ p ∈ M.splitL l, b ∈ p
  | [], b, h => by simp at h
  | c :: l, b, h => by
    unfold M.splitL
    by_cases hc : c = 47
    · rw [if_pos hc]
      rcases List.mem_cons.1 h with rfl | h
      · exact .inl hc
      · rcases split_mem l b h with e | ⟨p, hp, hb⟩
        · exact .inl e
        · exact .inr ⟨p, by simp [hp], hb⟩
    · rw [if_neg hc]
      have ih := split_mem l b
      cases hs : M.splitL l with
      | nil => exact absurd hs (M.splitL_ne l)
      | cons q t =>
        rw [hs] at ih
        simp only
        rcases List.mem_cons.1 h with rfl | h
        · exact .inr ⟨b :: q, by simp, by simp⟩
        · rcases ih h with e | ⟨p, hp, hb⟩
          · exact .inl e
          · rcases List.mem_cons.1 hp with rfl | hp
            · exact .inr ⟨c :: p, by simp, by simp [hb]⟩
            · exact .inr ⟨p, by simp [hp], hb⟩
theorem parts_mem {wild : Bool} : ∀ {ps : List (List UInt8)} {p : List UInt8}, M.partsL wild ps = true → p ∈ ps → ∃ last, M.partL wild last p = true
  | [], p, _, hp => by simp at hp
  | q :: ps, p, h, hp => by
    rw [M.partsL, Bool.and_eq_true] at h
    rcases List.mem_cons.1 hp with rfl | hp
    · exact ⟨_, h.1⟩
    · exact parts_mem h.2 hp
theorem path_parts {wild : Bool} {s : ByteArray} (h : M.isPathM wild s = true) : M.partsL wild (M.splitL s.data.toList) = true := by
  rw [M.isPath_L, M.isPathL, Bool.and_eq_true] at h
  exact h.2
theorem path_clean {wild : Bool} {s : ByteArray} (h : M.isPathM wild s = true) : ∀ b ∈ s.data.toList, b ≠ 0 := by
  intro b hb e
  subst e
  rcases split_mem _ _ hb with e | ⟨p, hp, hm⟩
  · exact absurd e (by decide)
  · obtain ⟨last, hl⟩ := parts_mem (path_parts h) hp
    rw [M.partL, Bool.or_eq_true] at hl
    rcases hl with hl | hl
    · rw [M.isWordL, Bool.and_eq_true, List.all_eq_true] at hl
      have := hl.1 0 hm
      exact absurd this (by decide)
    · rw [Bool.and_eq_true, Bool.or_eq_true, Bool.and_eq_true] at hl
      rcases hl.2 with e | ⟨e, _⟩
      · rw [beq_iff_eq] at e; subst e; simp at hm
      · rw [beq_iff_eq] at e; subst e; simp at hm
theorem path_some {wild : Bool} {s : ByteArray} (h : M.isPathM wild s = true) : s.toList ≠ [] := by
  intro e
  have hp := path_parts h
  rw [ByteArray.toList_eq] at e
  rw [e] at hp
  cases wild <;> exact absurd hp (by decide)

/-- The record of an operation. -/
def recD (o : OpD) : RecD :=
  if o.kind = 1 then ⟨1, o.a, o.s, 0, 0, 0, 0, 0⟩ else if o.kind = 2 then ⟨2, o.a, o.s, 0, 0, 0, 0, 0⟩ else if o.kind = 3 then ⟨3, 0, o.s, 0, o.b, o.c, o.d, 0⟩
  else if o.kind = 4 then ⟨4, 0, ⟨#[]⟩, o.b, 0, 0, 0, 0⟩ else if o.kind = 5 then ⟨5, 0, ⟨#[]⟩, o.b, 0, o.c, 0, 0⟩ else if o.kind = 6 then ⟨6, 0, ⟨#[]⟩, 0, 0, 0, 0, o.b⟩
  else ⟨7, o.a, ⟨#[]⟩, o.b, 0, 0, 0, 0⟩
def recOf (o : OpD) : ByteArray := encM (recD o)

/-- Numbers that are shown were given. -/
structure Num (S : RefS) : Prop where
  pub : 0 ≤ S.pub
  wait : ∀ m ∈ S.wait, 0 ≤ m.number ∧ m.number < S.pub
  que : ∀ a, ∀ m ∈ S.que a, 0 ≤ m.number ∧ m.number < S.pub
theorem Num.new (r : Int) : Num (refNew r) := ⟨Int.le_refl _, fun m hm => by simp [refNew] at hm, fun a m hm => by simp [refNew] at hm⟩
theorem Num.other {S S1 : RefS} (h : Num S) (e1 : S1.pub = S.pub) (e2 : S1.wait = S.wait) (e3 : S1.que = S.que) : Num S1 := ⟨by rw [e1]; exact h.pub, by rw [e1, e2]; exact h.wait, by rw [e1, e3]; exact h.que⟩
theorem Num.send {S : RefS} (h : Num S) (m : WaitD) (hm : 0 ≤ m.number ∧ m.number < S.pub) (n : Nat) : Num (sendTo S m n) := by
  obtain ⟨-, -, -, k4, -, k6, -⟩ := sendTo_keeps S m n
  refine ⟨by rw [k6]; exact h.pub, by rw [k4, k6]; exact h.wait, fun a y hy => ?_⟩
  rw [k6]
  rcases (sendTo_at S m n a).1 with e | ⟨-, e⟩
  · rw [e] at hy; exact h.que a y hy
  · rw [e] at hy
    rcases List.mem_append.1 hy with hy | hy
    · exact h.que a y hy
    · rw [List.mem_singleton] at hy; subst hy; exact hm
theorem Num.deliverN (to : Int) : ∀ (n : Nat) {S : RefS}, Num S → Num (deliverN to n S)
  | 0, S, h => h
  | n + 1, S, h => by
    unfold Go.Proofs.Ytmjdndhfmfjbiab.deliverN
    split
    · exact h
    · split
      · exact h
      · rename_i x hx
        split
        · exact h
        · have h2 : Num (waited S (S.wait.filter (fun m => m.number != x.number))) := ⟨h.pub, fun m hm => h.wait m (List.mem_filter.1 hm).1, h.que⟩
          have hx2 : 0 ≤ x.number ∧ x.number < (waited S (S.wait.filter (fun m => m.number != x.number))).pub := h.wait x (List.mem_of_getElem? hx)
          have h3 := h2.send x hx2 8
          exact Num.deliverN to n h3
theorem Num.aged {S : RefS} (h : Num S) (to : Int) (n : Nat) : Num (agedTo S to n) := by
  obtain ⟨-, -, -, k4, -, k6, -, k8⟩ := aged_keeps S to n
  refine ⟨by rw [k6]; exact h.pub, by rw [k4, k6]; exact h.wait, fun a y hy => ?_⟩
  rw [k6]
  rw [k8] at hy
  split at hy
  · exact h.que a y (List.mem_filter.1 hy).1
  · exact h.que a y hy
theorem Num.turn {S : RefS} (h : Num S) (o : OpD) : Num (turnM S o) := by
  have up : ∀ S1 : RefS, S1.pub = S.pub + 1 → S1.wait = S.wait → S1.que = S.que → Num S1 := fun S1 e1 e2 e3 =>
    ⟨by rw [e1]; have := h.pub; omega, by rw [e1, e2]; exact fun m hm => by have := h.wait m hm; omega, by rw [e1, e3]; exact fun a m hm => by have := h.que a m hm; omega⟩
  unfold turnM
  split
  · exact h.other rfl rfl rfl
  split
  · exact h.other rfl rfl rfl
  split
  · split
    · exact (up { S with pub := S.pub + 1 } rfl rfl rfl).send _ ⟨h.pub, by show S.pub < S.pub + 1; omega⟩ 8
    · have u := up { S with pub := S.pub + 1 } rfl rfl rfl
      refine ⟨u.pub, fun m hm => ?_, u.que⟩
      rcases List.mem_append.1 hm with hm | hm
      · exact u.wait m hm
      · rw [List.mem_singleton] at hm; subst hm
        exact ⟨h.pub, by show S.pub < S.pub + 1; omega⟩
  split
  · exact ⟨h.pub, fun m hm => h.wait m (List.mem_filter.1 hm).1, h.que⟩
  split
  · refine ⟨h.pub, fun m hm => ?_, h.que⟩
    have hm : m ∈ moveL S.wait o.b (laterM S.time o.c) := hm
    unfold moveL at hm
    split at hm
    · rename_i y hy
      rcases List.mem_or_eq_of_mem_set hm with hm | rfl
      · exact h.wait m hm
      · exact h.wait y (List.mem_of_getElem? hy)
    · exact h.wait m hm
  split
  · exact Num.deliverN _ _ (h.aged _ 8)
  · refine ⟨h.pub, h.wait, fun a m hm => ?_⟩
    have hm : m ∈ setAt S.que o.a.toNat ((S.que o.a.toNat).filter (fun m => m.number != o.b)) a := hm
    unfold setAt at hm
    split at hm
    · exact h.que _ m (List.mem_filter.1 hm).1
    · exact h.que a m hm
theorem Num.does {S : RefS} (h : Num S) (o : OpD) : Num (doS S o) := by
  unfold doS
  split
  · have h1 : Num { S with done := S.done ++ [o] } := ⟨h.pub, h.wait, h.que⟩
    exact h1.turn o
  · exact h
theorem Num.room {S : RefS} (h : Num S) (r : Int) : Num { S with room := r } := ⟨h.pub, h.wait, h.que⟩

theorem find_mem {α : Type} {p : α → Bool} {l : List α} (h : 0 ≤ findM p l 0) : ∃ a ∈ l, p a = true := by
  obtain ⟨k, a, -, h1, h2⟩ := find_some p l 0 (by omega) h
  exact ⟨a, List.mem_of_getElem? h1, h2⟩

theorem given_rec (o : OpD) : givenM (recD o) = recD o := by
  unfold recD
  split
  · rfl
  split
  · rfl
  split
  · rfl
  split
  · rfl
  split
  · rfl
  split
  · rfl
  · rfl

theorem nil_clean : ∀ b ∈ (⟨#[]⟩ : ByteArray).data.toList, b ≠ 0 := fun b hb => by simp at hb

/-- An operation that is not wrong has a record that can be read again. -/
theorem wrong_valid {S : RefS} {o : OpD} (hn : Num S) (hp : S.pub ≤ 500) (hw : wrongM S o = 0) : Valid (recD o) := by
  have hg := given_rec o
  unfold wrongM at hw
  unfold recD at hg ⊢
  have known : ∀ a, knownB a = true → 0 ≤ a ∧ a < 256 := fun a h => by obtain ⟨n, rfl, hn⟩ := known_nat h; omega
  by_cases h1 : o.kind = 1
  · simp only [if_pos h1] at hw hg ⊢
    split at hw
    · omega
    split at hw
    · omega
    rename_i a1 a2
    have hp2 : M.isPathM true o.s = true := by simpa using a2
    exact ⟨⟨by simp, by simp⟩, known _ (by simpa using a1), path15 hp2, path_clean hp2, by simp, by simp, by simp, by simp, by simp, hg⟩
  rw [if_neg h1] at hw hg ⊢
  by_cases h2 : o.kind = 2
  · simp only [if_pos h2] at hw hg ⊢
    split at hw
    · omega
    split at hw
    · omega
    rename_i a1 a2
    have hp2 : M.isPathM true o.s = true := by simpa using a2
    exact ⟨⟨by simp, by simp⟩, known _ (by simpa using a1), path15 hp2, path_clean hp2, by simp, by simp, by simp, by simp, by simp, hg⟩
  rw [if_neg h2] at hw hg ⊢
  by_cases h3 : o.kind = 3
  · simp only [if_pos h3] at hw hg ⊢
    obtain ⟨p1, p2, p3, p4, p5, -⟩ := pub_ok hw
    exact ⟨⟨by simp, by simp⟩, by simp, path15 p1, path_clean p1, by simp, ⟨p2, by simp only; omega⟩, ⟨p4.1, by simp only; omega⟩, ⟨p5.1, by simp only; omega⟩, by simp, hg⟩
  rw [if_neg h3] at hw hg ⊢
  by_cases h4 : o.kind = 4
  · simp only [if_pos h4] at hw hg ⊢
    obtain ⟨m, hm, he⟩ := find_mem (none_ok hw)
    have hb := hn.wait m hm
    have he : m.number = o.b := by simpa using he
    exact ⟨⟨by simp, by simp⟩, by simp, Nat.zero_le _, nil_clean, ⟨by simp only; omega, by simp only; omega⟩, by simp, by simp, by simp, by simp, hg⟩
  rw [if_neg h4] at hw hg ⊢
  by_cases h5 : o.kind = 5
  · simp only [if_pos h5] at hw hg ⊢
    obtain ⟨m1, m2, m3⟩ := move_ok hw
    obtain ⟨m, hm, he⟩ := find_mem m1
    have hb := hn.wait m hm
    have he : m.number = o.b := by simpa using he
    exact ⟨⟨by simp, by simp⟩, by simp, Nat.zero_le _, nil_clean, ⟨by simp only; omega, by simp only; omega⟩, by simp, ⟨by simp only; omega, by simp only; omega⟩, by simp, by simp, hg⟩
  rw [if_neg h5] at hw hg ⊢
  by_cases h6 : o.kind = 6
  · simp only [if_pos h6] at hw hg ⊢
    unfold tickErr at hw
    split at hw
    · omega
    rename_i a1
    have ht := time_ok (t := o.b) (by simpa using a1)
    exact ⟨⟨by simp, by simp⟩, by simp, Nat.zero_le _, nil_clean, by simp, by simp, by simp, by simp, ⟨by simp only; omega, by simp only; omega⟩, hg⟩
  rw [if_neg h6] at hw hg ⊢
  split at hw
  · omega
  rename_i a1
  obtain ⟨m, hm, he⟩ := find_mem (none_ok hw)
  have hb := hn.que _ m hm
  have he : m.number = o.b := by simpa using he
  exact ⟨⟨by simp, by simp⟩, known _ (by simpa using a1), Nat.zero_le _, nil_clean, ⟨by simp only; omega, by simp only; omega⟩, by simp, by simp, by simp, by simp, hg⟩

/-- The document's state with the lists as the program keeps them. -/
def lk (S : RefS) (fil : Nat → List ByteArray) (wait : List WaitD) : RefS := { S with fil := fil, wait := wait }
theorem lk_sendOne {S : RefS} {fil : Nat → List ByteArray} {wait : List WaitD} (m : WaitD) {a : Nat} (h : (fil a).Perm (S.fil a)) : sendOne (lk S fil wait) m a = lk (sendOne S m a) fil wait := by
  unfold sendOne
  have e : fitAny ((lk S fil wait).fil a) m.topic = fitAny (S.fil a) m.topic := fitAny_perm h m.topic
  rw [e]
  split
  · show (if 10 ≤ (S.que a).length then _ else _) = _
    split
    · rfl
    · rfl
  · rfl
theorem lk_sendTo {S : RefS} {fil : Nat → List ByteArray} {wait : List WaitD} (m : WaitD) (h : ∀ a, a < 8 → (fil a).Perm (S.fil a)) : ∀ n, n ≤ 8 → sendTo (lk S fil wait) m n = lk (sendTo S m n) fil wait
  | 0, _ => rfl
  | n + 1, hn => by
    rw [sendTo, lk_sendTo m h n (by omega), sendTo]
    exact lk_sendOne m (by rw [(sendTo_keeps S m n).1]; exact h n (by omega))
theorem lk_sendAll {fil : Nat → List ByteArray} {wait : List WaitD} : ∀ (D : List WaitD) {S : RefS}, (∀ a, a < 8 → (fil a).Perm (S.fil a)) → sendAll (lk S fil wait) D = lk (sendAll S D) fil wait
  | [], _, _ => rfl
  | x :: D, S, h => by
    rw [sendAll_cons, sendAll_cons, lk_sendTo x h 8 (by omega)]
    exact lk_sendAll D (by rw [(sendTo_keeps S x 8).1]; exact h)
theorem lk_aged {S : RefS} {fil : Nat → List ByteArray} {wait : List WaitD} (to : Int) : ∀ n, agedTo (lk S fil wait) to n = lk (agedTo S to n) fil wait
  | 0 => rfl
  | n + 1 => by rw [agedTo, lk_aged to n, agedTo]; rfl
end Go.Proofs.Ytmjdndhfmfjbiab

/-
  RECORDS: the program's own, walked: sum, numberOf, unfilledText, given.
-/
namespace Go.Proofs.Ytmjdndhfmfjbiab
open Go.RowKit

theorem ret_str {a b : ByteArray} (h : a = b) : Ending.returned (.string a) = .returned (.string b) := by rw [h]
theorem results_cell1 {fn : Func} {p : Tmp} {ty : TypeId} (h : fn.results = #[.cell p ty]) (tmps : Array Value) (P : Program) (w : World) :
    (results fn tmps).run P w = ((asAddr (tmps.getD p undef)).run P w).andThen fun a w₁ => (loadVar ty a).run P w₁ := by
  simp only [results, h]
  simp [Sem.run_bind, Result.andThen]
theorem byte_at (s : ByteArray) (k : Nat) (h : k < s.size) : s.data.toList[k]? = some s[k] := by
  have h' : k < s.data.size := h
  rw [Array.getElem?_toList, Array.getElem?_eq_getElem h']
  rfl

set_option maxRecDepth 100000 in
set_option maxHeartbeats 1000000 in
theorem recSum (s : ByteArray) (w : World) (hs : s.size ≤ 1048576) : Calls Try.prog 91 #[.string s] w fun e w' => e = .returned (.int .i64 (sumA s)) ∧ w' = w := by
  go_enter Try.func91, Try.ntmps91
  go_wp2_with fail
  go_loop [3, 4] (fun t i => ∃ k : Nat, k ≤ s.size ∧ i = .int .i64 k ∧ t = .int .i64 (sumL (s.data.toList.take k))) (fun _ i => s.size - (intOf i).toNat)
  case atStart => exact ⟨0, Nat.zero_le _, rfl, rfl⟩
  case round =>
    obtain ⟨k, hk, rfl, rfl⟩ := hrel
    have hbd := sum_bd (s.data.toList.take k)
    by_cases hlt : k < s.size
    · have HS : Hid (sumL (s.data.toList.take (k + 1)) = (sumL (s.data.toList.take k) + ((s[k]'hlt).toNat : Int)) % 256) := by show _ = _; rw [List.take_add_one, byte_at s k hlt]; exact sum_snoc _ _
      have hb : ((s[k]'hlt).toNat : Int) < 256 := by have := (s[k]'hlt).toNat_lt; omega
      generalize sumL (s.data.toList.take k) = t at *
      go_wp2_with fail
      go_round
      case rel => exact ⟨k + 1, by omega, by go_num, by rw [HS.out]⟩
      case measure => simp [intOf]; omega
    · have HS : Hid (sumL (s.data.toList.take k) = sumA s) := by show _ = _; rw [List.take_of_length_le (by rw [← ba_size]; omega)]; rfl
      go_wp2_with fail
      go_ret
      exact ⟨ret_int HS.out, rfl⟩

set_option maxRecDepth 100000 in
set_option maxHeartbeats 1000000 in
theorem recNumberOf (s : ByteArray) (w : World) (hs : s.size ≤ 6) : Calls Try.prog 93 #[.string s] w fun e w' => e = .returned (.int .i64 (valA s)) ∧ w' = w := by
  go_enter Try.func93, Try.ntmps93
  go_wp2_with fail
  go_loop [3, 4] (fun t i => ∃ k : Nat, k ≤ s.size ∧ i = .int .i64 ((k : Int) - 1) ∧ t = .int .i64 (valM (s.data.toList.drop k))) (fun _ i => (intOf i + 1).toNat)
  case atStart => exact ⟨s.size, Nat.le_refl _, rfl, by rw [List.drop_of_length_le (by rw [← ba_size]; omega)]; rfl⟩
  case round =>
    obtain ⟨k, hk, rfl, rfl⟩ := hrel
    cases k with
    | zero =>
      go_wp2_with fail
      go_ret
      exact ⟨rfl, rfl⟩
    | succ k =>
      have hlt : k < s.size := by omega
      have HS : Hid (valM (s.data.toList.drop k) = valM (s.data.toList.drop (k + 1)) * 256 + ((s[k]'hlt).toNat : Int)) := by
        show _ = _
        rw [List.drop_eq_getElem_cons (by rw [← ba_size]; exact hlt)]
        rfl
      have hb : ((s[k]'hlt).toNat : Int) < 256 := by have := (s[k]'hlt).toNat_lt; omega
      have hv : 0 ≤ valM (s.data.toList.drop (k + 1)) ∧ valM (s.data.toList.drop (k + 1)) < 1099511627776 := by
        have h1 := val_bd (s.data.toList.drop (k + 1))
        have h2 : (s.data.toList.drop (k + 1)).length ≤ 5 := by rw [List.length_drop, ← ba_size]; omega
        have h3 : (256 : Nat) ^ (s.data.toList.drop (k + 1)).length ≤ 256 ^ 5 := Nat.pow_le_pow_right (by omega) h2
        have h4 : ((256 ^ (s.data.toList.drop (k + 1)).length : Nat) : Int) = (256 : Int) ^ (s.data.toList.drop (k + 1)).length := by simp [Int.natCast_pow]
        have h5 : (256 : Nat) ^ 5 = 1099511627776 := by decide
        omega
      have hk1 : ((k + 1 : Nat) : Int) - 1 = (k : Int) := by omega
      rw [hk1]
      clear hk1
      generalize valM (s.data.toList.drop (k + 1)) = t at *
      go_wp2_with fail
      go_round
      case rel => exact ⟨k, by omega, by go_num, by rw [HS.out]⟩
      case measure => simp [intOf]

theorem zero_at {s : ByteArray} {k : Nat} (h : k < s.size) (hz : (s[k]'h) = 0) (hb : ∀ j (hj : j < s.size), j < k → (s[j]'hj) ≠ 0) : zeroAt s = k := by
  rw [zeroAt, List.findIdx_eq (by rw [← ba_size]; exact h)]
  have g : ∀ j (hj : j < s.size), s.data.toList[j]'(by rw [← ba_size]; exact hj) = s[j] := fun j hj => by rw [Array.getElem_toList]; rfl
  refine ⟨by rw [g k h, hz]; rfl, fun j hj => ?_⟩
  have := hb j (by omega) hj
  rw [g j (by omega)]
  simpa using this
theorem zero_none {s : ByteArray} (hb : ∀ j (hj : j < s.size), (s[j]'hj) ≠ 0) : zeroAt s = s.size := by
  rw [zeroAt, ba_size]
  refine List.findIdx_eq_length.2 (fun b hm => ?_)
  obtain ⟨j, hj, rfl⟩ := List.getElem_of_mem hm
  have hj' : j < s.size := by rw [ba_size]; exact hj
  have := hb j hj'
  have g : s.data.toList[j] = s[j] := by rw [Array.getElem_toList]; rfl
  rw [g]
  simpa using this
theorem u8_zero (b : UInt8) : ((b.toNat : Int) == 0) = (b == 0) := by
  rw [Bool.eq_iff_iff]
  simp only [beq_iff_eq]
  constructor
  · intro h; exact UInt8.toNat_inj.1 (by simpa using h)
  · intro h; subst h; rfl

set_option maxRecDepth 100000 in
set_option maxHeartbeats 1000000 in
theorem recUnfilled (s : ByteArray) (w : World) (hs : s.size ≤ 1048576) : Calls Try.prog 94 #[.string s] w fun e w' => e = .returned (.string (unfillM s)) ∧ w' = w := by
  go_enter Try.func94, Try.ntmps94
  go_wp2_with fail
  go_loop [3] (fun i => ∃ k : Nat, k ≤ s.size ∧ i = .int .i64 k ∧ ∀ j (hj : j < s.size), j < k → (s[j]'hj) ≠ 0) (fun i => s.size - (intOf i).toNat)
  case atStart => exact ⟨0, Nat.zero_le _, rfl, fun j _ h => by omega⟩
  case round =>
    obtain ⟨k, hk, rfl, hno⟩ := hrel
    have HN : Hid (∀ j (hj : j < s.size), j < k → (s[j]'hj) ≠ 0) := hno
    clear hno
    by_cases hlt : k < s.size
    · have hz := u8_zero (s[k]'hlt)
      cases hc : ((s[k]'hlt) == 0)
      · rw [hc] at hz
        have HS : Hid (∀ j (hj : j < s.size), j < k + 1 → (s[j]'hj) ≠ 0) := fun j hj h => by
          by_cases e : j = k
          · subst e; simpa using hc
          · exact HN.out j hj (by omega)
        clear hc
        go_wp2_with fail
        go_round
        case rel => exact ⟨k + 1, by omega, by go_num, HS.out⟩
        case measure => simp [intOf]; omega
      · rw [hc] at hz
        have HS : Hid (unfillM s = s.extract 0 k) := by show _ = _; rw [unfillM, zero_at hlt (by simpa using hc) HN.out]
        clear hc
        go_wp2_with fail
        go_ret
        exact ⟨ret_str HS.out.symm, rfl⟩
    · have HS : Hid (unfillM s = s) := by
        show _ = _
        rw [unfillM, zero_none (fun j hj => HN.out j hj (by omega))]
        apply ba_ext
        rw [ba_extract, List.drop_zero, List.take_of_length_le (by rw [ba_size]; exact Nat.le_refl _)]
      go_wp2_with fail
      go_ret
      exact ⟨ret_str HS.out.symm, rfl⟩

abbrev recV (r : RecD) : Value := .agg #[.int .i64 r.call, .int .i64 r.client, .string r.text, .int .i64 r.number, .int .i64 r.value, .int .i64 r.delay, .int .i64 r.life, .int .i64 r.to]

set_option maxRecDepth 100000 in
set_option maxHeartbeats 1000000 in
theorem recGiven (r : RecD) (w : World) : Calls Try.prog 95 #[recV r] w fun e w' => e = .returned (recV (givenM r)) ∧ Below w.heap.size w w' := by
  obtain ⟨k, cl, tx, nu, va, de, li, to⟩ := r
  have two : ∀ o1 o2 : Obj, Below w.heap.size w ((w.alloc o1).alloc o2) := fun o1 o2 => ((Below.refl _ _).alloc (Nat.le_refl _) _).alloc (by simp) _
  have TW : Hid (∀ o1 o2 : Obj, Below w.heap.size w ((w.alloc o1).alloc o2)) := two
  clear two
  by_cases h : 1 ≤ k ∧ k ≤ 7
  · rcases (show k = 1 ∨ k = 2 ∨ k = 3 ∨ k = 4 ∨ k = 5 ∨ k = 6 ∨ k = 7 from by omega) with rfl | rfl | rfl | rfl | rfl | rfl | rfl
    all_goals
      clear h
      go_enter Try.func95, Try.ntmps95
      go_wp2_with fail
      exact bodyPost_ret (v := recV (givenM _)) (by rw [results_cell1 rfl]; go_simp; exact ⟨rfl, rfl, rfl, rfl, rfl, rfl, rfl, rfl⟩) rfl ⟨rfl, TW.out _ _⟩
  · have HE : Hid (givenM ⟨k, cl, tx, nu, va, de, li, to⟩ = nilRec) := by
      show givenM _ = nilRec
      unfold givenM
      rw [if_neg (by simp only; omega), if_neg (by simp only; omega), if_neg (by simp only; omega), if_neg (by simp only; omega), if_neg (by simp only; omega), if_neg (by simp only; omega), if_neg (by simp only; omega)]
    have n1 : (k == 1) = false := by simp; omega
    have n2 : (k == 2) = false := by simp; omega
    have n3 : (k == 3) = false := by simp; omega
    have n4 : (k == 4) = false := by simp; omega
    have n5 : (k == 5) = false := by simp; omega
    have n6 : (k == 6) = false := by simp; omega
    have n7 : (k == 7) = false := by simp; omega
    clear h
    go_enter Try.func95, Try.ntmps95
    go_wp2_with fail
    exact bodyPost_ret (v := recV nilRec) (by rw [results_cell1 rfl]; go_simp; exact ⟨rfl, rfl, rfl, rfl, rfl, rfl, rfl, rfl⟩) rfl ⟨by rw [HE.out], TW.out _ _⟩
end Go.Proofs.Ytmjdndhfmfjbiab

/-
  RECORDS: the program's own, walked: numberText, filledText.
-/
namespace Go.Proofs.Ytmjdndhfmfjbiab
open Go.RowKit

abbrev u8f (b : UInt8) : List Value := [Value.int .u8 (b.toNat : Int)]
theorem u8_get {l : List UInt8} {j : Nat} {b : UInt8} (h : l[j]? = some b) : (l.flatMap u8f)[j]? = some (.int .u8 (b.toNat : Int)) := by
  have := flat_get u8f 1 (fun _ => rfl) l j 0 b h (by omega)
  rw [Nat.mul_one, Nat.add_zero] at this
  exact this

/-- A row of bytes, turned into a text. -/
theorem row_text {w : World} {base : Nat} {v : Value} {l : List UInt8} (h : w.ownsRow base 5 1 v l.length (l.flatMap u8f)) (hl : 0 < l.length) : (convert 63 9 v).run Try.prog w = .ok (.string ⟨l.toArray⟩) w := by
  rcases h.2 with ⟨-, h0⟩ | ⟨g, cap, cur, rfl, hb, hg, rest⟩
  · omega
  · refine run_convert_bytes_back (P := Try.prog) w 63 9 5 ⟨g, 0, none⟩ cap l Try.underlying63 Try.underlying5 Try.underlying9 (fun j hj => ?_)
    exact h.cells (g := g) rfl j _ (u8_get (List.getElem?_eq_getElem hj))

set_option maxRecDepth 100000 in
set_option maxHeartbeats 1000000 in
theorem recNumberText (n : Int) (k : Nat) (w : World) (h0 : 0 ≤ n) (h1 : n ≤ 4611686018427387904) (hk0 : 0 < k) (hk : k ≤ 6) : Calls Try.prog 89 #[.int .i64 n, .int .i64 (k : Int)] w fun e w' => e = .returned (.string (leA n k)) ∧ Below w.heap.size w w' := by
  obtain ⟨i0, hi, hz0, hz1, hz2⟩ := info_parts infoU8
  go_enter Try.func89, Try.ntmps89
  go_wp2_with fail
  go_loopw [0, 5, 6] (fun t v i wr => ∃ j : Nat, j ≤ k ∧ i = .int .i64 j ∧ t = .int .i64 (n / 256 ^ j) ∧ wr.ownsRow w.heap.size 5 1 v (leM n j).length ((leM n j).flatMap u8f) ∧ Below w.heap.size w wr) (fun _ _ i _ => k - (intOf i).toNat)
  case atStart => exact ⟨0, Nat.zero_le _, rfl, by simp, World.ownsRow_nil _ _ _ _, Below.refl _ _⟩
  case round =>
    obtain ⟨j, hj, rfl, rfl, hown, hbr⟩ := hrel
    have hsz := hbr.size
    have hlen := le_len n j
    have hq0 : 0 ≤ n / 256 ^ j := Int.ediv_nonneg h0 (Int.pow_nonneg (by omega))
    have hq1 : n / 256 ^ j ≤ n := Int.ediv_le_self _ h0
    by_cases hlt : j < k
    · have HK : Hid (leM n (j + 1) = leM n j ++ [UInt8.ofNat (n / 256 ^ j % 256).toNat]) := le_snoc n j
      have HQ : Hid (n / 256 ^ (j + 1) = n / 256 ^ j / 256) := by
        show _ = _
        rw [Int.ediv_ediv_of_nonneg (Int.pow_nonneg (by omega)), Int.pow_succ]
      have HB : Hid (u8f (UInt8.ofNat (n / 256 ^ j % 256).toNat) = [.int .u8 (n / 256 ^ j % 256)]) := by show u8f _ = _; rw [u8f, byte_back]
      have hlj : (leM n j).length ≤ 6 := by omega
      clear hlen
      generalize hT : leM n j = T at *
      generalize hQ : n / 256 ^ j = q at *
      clear hT hQ
      go_wp2_with (first | (at_builtin; refine wpList_append_own _ rfl _ _ 63 rfl w.heap.size 5 i0 _ 1 1 Try.underlying63 hi hz0 hz1 hz2 rfl (by decide) _ _ _ rfl (hown.alloc _) ⟨wr.heap.size, 0, none⟩ 1 1 [.int .u8 (q % 256)] rfl rfl (cells_new _ _ _) (by simp [Value.oneCell']) (by unfold maxLen; omega) (by omega) (by simp; omega) ?_))
      intro v' w1 hown' hgrow _
      rw [← HB.out] at hown'
      have R := grow_row (f := u8f) hown hbr hown' hgrow
      clear hown' hgrow hown
      go_wp2_with fail
      go_roundw
      case rel => exact ⟨j + 1, by omega, by go_num, by rw [HQ.out], by rw [HK.out]; exact R.1, R.2⟩
      case measure => simp [intOf]; omega
    · obtain rfl : j = k := by omega
      have hcv := row_text hown (by omega)
      have HL : Hid (leA n j = ⟨(leM n j).toArray⟩) := rfl
      clear hown hlen
      go_wp2_with fail
      go_ret
      exact ⟨ret_str HL.out.symm, hbr⟩

/-- A row of bytes of one's own, with room that may be written. -/
structure BRow (w : World) (g cap : Nat) (l : List UInt8) : Prop where
  le : l.length ≤ cap
  max : cap ≤ maxLen
  cells : ∀ j b, l[j]? = some b → w.cell? ⟨g, j, none⟩ = some (.int .u8 (b.toNat : Int))
  free : ∀ j, j < cap → (w.cell? ⟨g, j, none⟩).isSome = true ∧ w.frozen? ⟨g, j, none⟩ = false
end Go.Proofs.Ytmjdndhfmfjbiab

namespace Go.Proofs.Ytmjdndhfmfjbiab
open Go.RowKit

theorem brow_new (w : World) (s : ByteArray) (hs : s.size ≤ 1048576) : ∃ cap w1, (convert 9 63 (.string s)).run Try.prog w = .ok (.slice (some ⟨w.heap.size, 0, none⟩) s.data.toList.length cap) w1 ∧ BRow w1 w.heap.size cap s.data.toList ∧ Below w.heap.size w w1 ∧ w.heap.size < w1.heap.size := by
  have hge := grownCap_ge w s.size 0 5
  have hcm : grownCap w s.size 0 5 ≤ maxLen := grownCap_le_maxLen w s.size 0 5 (by unfold maxLen; omega)
  have hr := run_bytes_of_string (P := Try.prog) w 9 63 5 s Try.underlying9 Try.underlying63 Try.underlying5
  generalize grownCap w s.size 0 5 = cap at *
  have hsz : (bytesRow s cap).size = cap := by
    rw [bytesRow, Array.size_append, Array.size_map, Array.size_replicate]
    have : s.data.size = s.size := rfl
    omega
  rw [hsz] at hr
  have hn : (w.drew.alloc (.cells (bytesRow s cap) 5 (cap, cap + 1))).heap[w.heap.size]? = some (.cells (bytesRow s cap) 5 (cap, cap + 1)) := heap_alloc_new w.drew _
  have hcell : ∀ j, (w.drew.alloc (.cells (bytesRow s cap) 5 (cap, cap + 1))).cell? ⟨w.heap.size, j, none⟩ = (bytesRow s cap)[j]? := fun j => cell_of_row _ w.heap.size j _ _ _ hn
  refine ⟨cap, w.drew.alloc (.cells (bytesRow s cap) 5 (cap, cap + 1)), by rw [hr, ba_size], ⟨by rw [← ba_size]; exact hge, hcm, fun j b hb => ?_, fun j hj => ⟨?_, ?_⟩⟩, ⟨rfl, rfl, rfl, by simp, fun k hk => heap_alloc_old w.drew _ hk⟩, by simp⟩
  · rw [hcell]
    obtain ⟨hl, rfl⟩ := List.getElem?_eq_some_iff.1 hb
    have hl' : j < s.data.size := by rw [Array.length_toList] at hl; exact hl
    rw [bytesRow, Array.getElem?_append_left (by simpa using hl'), Array.getElem?_map, Array.getElem?_eq_getElem hl', Option.map_some, Array.getElem_toList]
  · rw [hcell, Array.getElem?_eq_getElem (by omega)]; rfl
  · unfold World.frozen?
    rw [hn]
    simp
    omega

theorem brow_alloc {w : World} {g cap : Nat} {l : List UInt8} (h : BRow w g cap l) (hg : g < w.heap.size) (o : Obj) : BRow (w.alloc o) g cap l :=
  ⟨h.le, h.max, fun j b hb => (World.cell?_alloc_past _ _ _ hg).trans (h.cells j b hb), fun j hj => by
    rw [World.cell?_alloc_past _ _ _ hg, World.frozen?_alloc_past _ _ _ hg]; exact h.free j hj⟩

/-- A byte more behind it: in its own room, or in a new one. -/
theorem brow_app {w : World} {g cap : Nat} {l : List UInt8} (h : BRow w g cap l) (hg : g < w.heap.size) (hl : l.length ≤ 1048576) (b : UInt8) (a : Addr) (ha : w.cell? (a.add 0) = some (.int .u8 (b.toNat : Int))) :
    ∃ g1 cap1 w1, (Builtin.append_ #[63, 63] 63 #[.slice (some ⟨g, 0, none⟩) l.length cap, .slice (some a) 1 1]).run Try.prog w = .ok (.slice (some ⟨g1, 0, none⟩) (l ++ [b]).length cap1) w1 ∧
      BRow w1 g1 cap1 (l ++ [b]) ∧ g1 < w1.heap.size ∧ (g1 = g ∨ w.heap.size ≤ g1) ∧ Upd (fun k => k = g) w w1 := by
  obtain ⟨i, hi, hz, h1, h2⟩ := info_parts infoU8
  have hnews : ∀ j u, [Value.int .u8 (b.toNat : Int)][j]? = some u → w.cell? (a.add j) = some u := fun j u hu => by
    cases j with
    | zero => simp at hu; subst hu; exact ha
    | succ j => simp at hu
  have hone : ∀ u ∈ [Value.int .u8 (b.toNat : Int)], u.oneCell' = true := fun u hu => by simp at hu; subst hu; rfl
  by_cases hroom : l.length + 1 ≤ cap
  · have hr := run_append_room_cells (P := Try.prog) w 63 63 5 i Try.underlying63 hi g 0 l.length cap a 1 1 [.int .u8 (b.toNat : Int)] (by rw [h1]; rfl) hnews hone hroom
      (fun j hj => by rw [h1]; simp at hj; subst hj; have := (h.free l.length (by omega)).1; simpa using this) (fun j hj => by rw [h1]; simp at hj; subst hj; have := (h.free l.length (by omega)).2; simpa using this)
    have e0 : 0 + l.length * i.size = l.length := by rw [h1]; omega
    rw [e0] at hr
    have hold := (h.free l.length (by omega)).1
    obtain ⟨u, hu⟩ := Option.isSome_iff_exists.1 hold
    have key : ∀ j, (w.setCell ⟨g, l.length, none⟩ (.int .u8 (b.toNat : Int))).cell? ⟨g, j, none⟩ = if j = l.length then some (.int .u8 (b.toNat : Int)) else w.cell? ⟨g, j, none⟩ := fun j => by
      by_cases e : j = l.length
      · subst e; rw [if_pos rfl]; exact World.cell?_setCell_same _ _ _ hu
      · rw [if_neg e, World.cell?_setCell_other _ _ _ _ (by simp)]
    refine ⟨g, cap, w.setCell ⟨g, l.length, none⟩ (.int .u8 (b.toNat : Int)), by rw [List.length_append]; exact hr, ⟨by simp; omega, h.max, fun j c hc => ?_, fun j hj => ⟨?_, ?_⟩⟩, by simp [World.setCell]; exact hg, .inl rfl, (Upd.refl (fun k => k = g) w).setCell (p := ⟨g, l.length, none⟩) (fun _ => rfl) _⟩
    · rw [key]
      by_cases e : j = l.length
      · subst e; simp at hc; subst hc; rw [if_pos rfl]
      · rw [if_neg e]
        have hjl : j < l.length := by
          have := (List.getElem?_eq_some_iff.1 hc).1
          simp at this; omega
        rw [List.getElem?_append_left hjl] at hc
        exact h.cells j c hc
    · rw [key]
      split
      · rfl
      · exact (h.free j hj).1
    · have := World.frozen?_setCells g [.int .u8 (b.toNat : Int)] l.length w ⟨g, j, none⟩
      exact this.trans (h.free j hj).2
  · have holds : ∀ j u, (l.flatMap u8f)[j]? = some u → w.cell? ((⟨g, 0, none⟩ : Addr).add j) = some u := fun j u hu => by
      have hjl : j < l.length := by
        have := (List.getElem?_eq_some_iff.1 hu).1
        rw [flat_len u8f 1 (fun _ => rfl)] at this; omega
      rw [u8_get (List.getElem?_eq_getElem hjl)] at hu
      rw [Addr.add_lit, Nat.zero_add, h.cells j _ (List.getElem?_eq_getElem hjl)]
      exact hu
    obtain ⟨v1, w1, hr, hown, hgr⟩ := run_append_arg_grows (P := Try.prog) w 63 63 5 i (.int .u8 0) 1 1 Try.underlying63 hi hz h1 h2 rfl (by omega) ⟨g, 0, none⟩ l.length cap (l.flatMap u8f) (flat_len u8f 1 (fun _ => rfl) l) holds a 1 1 [.int .u8 (b.toNat : Int)] rfl hnews (by omega) (by unfold maxLen; omega) (by omega)
    rcases hown.2 with ⟨-, h0⟩ | ⟨g1, cap1, cur, rfl, hb1, hg1, hc1, hm1, hs1, ht1⟩
    · omega
    have hcell : ∀ j, w1.cell? ⟨g1, j, none⟩ = cur[j]? := fun j => cell_of_row _ g1 j _ _ _ hg1
    have hlt1 := (hown.lt g1 rfl).2
    refine ⟨g1, cap1, w1, by rw [List.length_append]; exact hr, ⟨by simp; omega, hm1, fun j c hc => ?_, fun j hj => ⟨?_, ?_⟩⟩, hlt1, .inr hb1, ⟨hgr.os, hgr.tape, hgr.output, hgr.size, fun k hk _ => hgr.block k hk (by simp)⟩⟩
    · have e : (l ++ [b]).flatMap u8f = l.flatMap u8f ++ [.int .u8 (b.toNat : Int)] := by simp [u8f]
      have := hown.cells (g := g1) rfl j _ (by rw [← e]; exact u8_get hc)
      rwa [Addr.add_lit, Nat.zero_add] at this
    · rw [hcell, Array.getElem?_eq_getElem (by omega)]; rfl
    · exact frozen_of_row w1 g1 j cur _ hg1

/-- An append, by its run. -/
theorem wpList_append_run {P : Program} {w : World} {ops : Array Oper} {rest : List Oper} {o : Oper} {a : Act} {Q : Exit → Act → World → Prop} (hgd : o.guard = none) (s x : Operand) (t : TypeId)
    (ho : o.op = .call { callee := .builtin .append, args := #[s, x], argTypes := #[t, t] }) (u y v' : Value) (w' : World) (hs : a.eval s = u) (hx : a.eval x = y) (hr : (Builtin.append_ #[t, t] o.type #[u, y]).run P w = .ok v' w')
    (h : wpList P ops Q rest (a.put o.dst v') w') : wpList P ops Q (o :: rest) a w := by
  refine wpList_plain hgd fun K hK => ?_
  unfold Oper.wp execOp
  simp only [ho, resolve, invoke, builtin, Sem.run_bind, Sem.run_pure, Result.andThen_ok, List.map_toArray, List.map_cons, List.map_nil, hs, hx, hr]
  exact hK _ _ h

theorem brow_text {w : World} {g cap : Nat} {l : List UInt8} (h : BRow w g cap l) : (convert 63 9 (.slice (some ⟨g, 0, none⟩) l.length cap)).run Try.prog w = .ok (.string ⟨l.toArray⟩) w :=
  run_convert_bytes_back (P := Try.prog) w 63 9 5 ⟨g, 0, none⟩ cap l Try.underlying63 Try.underlying5 Try.underlying9 (fun j hj => by
    rw [Addr.add_lit, Nat.zero_add, h.cells j _ (List.getElem?_eq_getElem hj)])

theorem brow_below {w w1 : World} {g cap : Nat} {l : List UInt8} (h : BRow w g cap l) (hb : Below w.heap.size w w1) (hg : g < w.heap.size) : BRow w1 g cap l :=
  have e := hb.block g hg
  ⟨h.le, h.max, fun j b hb => (World.cell?_of_block (w := w) e).trans (h.cells j b hb), fun j hj => by
    rw [World.cell?_of_block (w := w) (a := ⟨g, j, none⟩) e, World.frozen?_of_block (w := w) (a := ⟨g, j, none⟩) e]; exact h.free j hj⟩

set_option maxRecDepth 100000 in
set_option maxHeartbeats 1000000 in
theorem recFilled (s : ByteArray) (n : Nat) (w : World) (hs : s.size ≤ n) (hn : n ≤ 1000) : Calls Try.prog 90 #[.string s, .int .i64 (n : Int)] w fun e w' => e = .returned (.string (fillA s n)) ∧ Below w.heap.size w w' := by
  obtain ⟨cap, w1, hcv, hbr, hb1, hlt1⟩ := brow_new w s (by omega)
  have HR : Hid (BRow w1 w.heap.size cap s.data.toList) := hbr
  have HB : Hid (Below w.heap.size w w1) := hb1
  have hsl : s.data.toList.length ≤ n := by rw [← ba_size]; exact hs
  clear hbr hb1
  go_enter Try.func90, Try.ntmps90
  go_wp2_with fail
  go_loopw [5] (fun v wr => ∃ (k g c : Nat), s.data.toList.length + k ≤ n ∧ v = .slice (some ⟨g, 0, none⟩) (s.data.toList ++ List.replicate k 0).length c ∧ BRow wr g c (s.data.toList ++ List.replicate k 0) ∧ w.heap.size ≤ g ∧ g < wr.heap.size ∧ Below w.heap.size w wr) (fun v _ => n - (match v with | .slice _ m _ => m | _ => 0))
  case atStart => exact ⟨0, w.heap.size, cap, by omega, by simp, by simpa using HR.out, Nat.le_refl _, hlt1, HB.out⟩
  case round =>
    obtain ⟨k, g, c, hk, rfl, hrow, hg0, hg1, hbw⟩ := hrel
    have HLEN : Hid ((s.data.toList ++ List.replicate k (0 : UInt8)).length = s.data.toList.length + k) := by show List.length _ = _; simp
    have HE : Hid (s.data.toList ++ List.replicate (k + 1) (0 : UInt8) = (s.data.toList ++ List.replicate k 0) ++ [0]) := by show _ = _; rw [List.replicate_succ', List.append_assoc]
    have HD : Hid (k = n - s.data.toList.length → s.data.toList ++ List.replicate k (0 : UInt8) = fillL s n) := by
      intro e; rw [fillL, e, ba_size]
    generalize hT : s.data.toList ++ List.replicate k (0 : UInt8) = T at *
    clear hT
    have hTn : T.length ≤ n := by have := HLEN.out; omega
    by_cases hlt : T.length < n
    · obtain ⟨g1, c1, w2, hr, hrow2, hg2, hor, hu⟩ := brow_app (brow_alloc hrow hg1 (.cells #[.int .u8 0] 5)) (by simp; omega) (by omega) 0 ⟨wr.heap.size, 0, none⟩ (cells_new wr [.int .u8 0] 5 0 _ rfl)
      have HR2 : Hid (BRow w2 g1 c1 (T ++ [0])) := hrow2
      have HB2 : Hid (Below w.heap.size w w2) := ⟨hu.os.trans hbw.os, hu.tape.trans hbw.tape, hu.output.trans hbw.output, Nat.le_trans hbw.size (Nat.le_trans (by simp) hu.size), fun i hi => (hu.block i (by have := hbw.size; simp; omega) (by omega)).trans ((heap_alloc_old wr _ (by have := hbw.size; omega)).trans (hbw.block i hi))⟩
      have hg3 : w.heap.size ≤ g1 := by
        rcases hor with e | e
        · omega
        · have := hbw.size; simp at e; omega
      have HLT : Hid ((T ++ [0]).length = T.length + 1) := by show List.length _ = _; simp
      clear hrow2 hu hor hrow
      generalize hT2 : T ++ [(0 : UInt8)] = T2 at *
      clear hT2
      go_wp2_with (first | (at_builtin; refine wpList_append_run rfl _ _ 63 rfl _ _ _ _ rfl rfl hr ?_))
      go_wp2_with fail
      go_roundw
      case rel => exact ⟨k + 1, g1, c1, by have := HLEN.out; omega, by rw [HE.out], by rw [HE.out]; exact HR2.out, hg3, hg2, HB2.out⟩
      case measure => have h1 := HLT.out; simp only; omega
    · have hcv := brow_text hrow
      have HL : Hid (fillA s n = ⟨T.toArray⟩) := by show fillA s n = _; rw [fillA, ← HD.out (by have := HLEN.out; omega)]
      clear hrow
      go_wp2_with fail
      go_ret
      exact ⟨ret_str HL.out.symm, hbw⟩
end Go.Proofs.Ytmjdndhfmfjbiab

namespace Go.Proofs.Ytmjdndhfmfjbiab
open Go.RowKit

/-- Numbers that can be written. -/
structure Small (r : RecD) : Prop where
  call : 0 ≤ r.call ∧ r.call ≤ 4611686018427387904
  client : 0 ≤ r.client ∧ r.client ≤ 4611686018427387904
  text : r.text.size ≤ 15
  number : 0 ≤ r.number ∧ r.number ≤ 4611686018427387904
  value : 0 ≤ r.value ∧ r.value ≤ 4611686018427387904
  delay : 0 ≤ r.delay ∧ r.delay ≤ 4611686018427387904
  life : 0 ≤ r.life ∧ r.life ≤ 4611686018427387904
  to : 0 ≤ r.to ∧ r.to ≤ 4611686018427387904

theorem leA_size (n : Int) (k : Nat) : (leA n k).size ≤ k := by rw [ba_size, leA, le_len]; exact Nat.le_refl _
theorem fillA_size (s : ByteArray) (h : s.size ≤ 15) : (fillA s 15).size ≤ 15 := by rw [ba_size, fillA, fill_len _ _ h]; exact Nat.le_refl _

set_option maxRecDepth 100000 in
set_option maxHeartbeats 1000000 in
theorem recWrite (r : RecD) (w : World) (hr : Small r) : Calls Try.prog 77 #[recV r] w fun e w' => e = .returned (.string (encM r)) ∧ Below w.heap.size w w' := by
  obtain ⟨⟨a0, a1⟩, ⟨b0, b1⟩, ht, ⟨c0, c1⟩, ⟨d0, d1⟩, ⟨e0, e1⟩, ⟨f0, f1⟩, ⟨g0, g1⟩⟩ := hr
  have s0 := leA_size r.call 1
  have s1 := leA_size r.client 1
  have s2 := fillA_size r.text ht
  have s3 := leA_size r.number 2
  have s4 := leA_size r.value 4
  have s5 := leA_size r.delay 6
  have s6 := leA_size r.life 6
  have s7 := leA_size r.to 6
  have s8 := leA_size (sumA (bodyA r)) 1
  go_enter Try.func77, Try.ntmps77
  go_wp2_with fail
  generalize hWA : w.alloc _ = wa
  have hbA : Below w.heap.size w wa := by rw [← hWA]; exact below_one _ _
  have x1 : wa.cell? ⟨w.heap.size, 1, none⟩ = some (.int .i64 r.client) := by rw [← hWA]; simp
  have x2 : wa.cell? ⟨w.heap.size, 2, none⟩ = some (.string r.text) := by rw [← hWA]; simp
  have x3 : wa.cell? ⟨w.heap.size, 3, none⟩ = some (.int .i64 r.number) := by rw [← hWA]; simp
  have x4 : wa.cell? ⟨w.heap.size, 4, none⟩ = some (.int .i64 r.value) := by rw [← hWA]; simp
  have x5 : wa.cell? ⟨w.heap.size, 5, none⟩ = some (.int .i64 r.delay) := by rw [← hWA]; simp
  have x6 : wa.cell? ⟨w.heap.size, 6, none⟩ = some (.int .i64 r.life) := by rw [← hWA]; simp
  have x7 : wa.cell? ⟨w.heap.size, 7, none⟩ = some (.int .i64 r.to) := by rw [← hWA]; simp
  have hsA : w.heap.size < wa.heap.size := by rw [← hWA]; simp
  clear hWA
  refine (recNumberText r.call 1 _ a0 a1 (by omega) (by omega)).mono ?_
  rintro e w1 ⟨rfl, hb1⟩
  have HB1 : Hid (Below w.heap.size w w1) := hbA.trans (hb1.mono hbA.size)
  have y11 := cell_later hb1 x1
  have y12 := cell_later hb1 x2
  have y13 := cell_later hb1 x3
  have y14 := cell_later hb1 x4
  have y15 := cell_later hb1 x5
  have y16 := cell_later hb1 x6
  have y17 := cell_later hb1 x7
  clear x1 x2 x3 x4 x5 x6 x7 hb1
  go_wp2_with fail
  refine (recNumberText r.client 1 _ b0 b1 (by omega) (by omega)).mono ?_
  rintro e w2 ⟨rfl, hb2⟩
  have HB2 : Hid (Below w.heap.size w w2) := HB1.out.trans (hb2.mono HB1.out.size)
  have y22 := cell_later hb2 y12
  have y23 := cell_later hb2 y13
  have y24 := cell_later hb2 y14
  have y25 := cell_later hb2 y15
  have y26 := cell_later hb2 y16
  have y27 := cell_later hb2 y17
  clear y12 y13 y14 y15 y16 y17 hb2
  go_wp2_with fail
  refine (recFilled r.text 15 _ ht (by omega)).mono ?_
  rintro e w3 ⟨rfl, hb3⟩
  have HB3 : Hid (Below w.heap.size w w3) := HB2.out.trans (hb3.mono HB2.out.size)
  have y33 := cell_later hb3 y23
  have y34 := cell_later hb3 y24
  have y35 := cell_later hb3 y25
  have y36 := cell_later hb3 y26
  have y37 := cell_later hb3 y27
  clear y23 y24 y25 y26 y27 hb3
  go_wp2_with fail
  refine (recNumberText r.number 2 _ c0 c1 (by omega) (by omega)).mono ?_
  rintro e w4 ⟨rfl, hb4⟩
  have HB4 : Hid (Below w.heap.size w w4) := HB3.out.trans (hb4.mono HB3.out.size)
  have y44 := cell_later hb4 y34
  have y45 := cell_later hb4 y35
  have y46 := cell_later hb4 y36
  have y47 := cell_later hb4 y37
  clear y34 y35 y36 y37 hb4
  go_wp2_with fail
  refine (recNumberText r.value 4 _ d0 d1 (by omega) (by omega)).mono ?_
  rintro e w5 ⟨rfl, hb5⟩
  have HB5 : Hid (Below w.heap.size w w5) := HB4.out.trans (hb5.mono HB4.out.size)
  have y55 := cell_later hb5 y45
  have y56 := cell_later hb5 y46
  have y57 := cell_later hb5 y47
  clear y45 y46 y47 hb5
  go_wp2_with fail
  refine (recNumberText r.delay 6 _ e0 e1 (by omega) (by omega)).mono ?_
  rintro e w6 ⟨rfl, hb6⟩
  have HB6 : Hid (Below w.heap.size w w6) := HB5.out.trans (hb6.mono HB5.out.size)
  have y66 := cell_later hb6 y56
  have y67 := cell_later hb6 y57
  clear y56 y57 hb6
  go_wp2_with fail
  refine (recNumberText r.life 6 _ f0 f1 (by omega) (by omega)).mono ?_
  rintro e w7 ⟨rfl, hb7⟩
  have HB7 : Hid (Below w.heap.size w w7) := HB6.out.trans (hb7.mono HB6.out.size)
  have y77 := cell_later hb7 y67
  clear y67 hb7
  go_wp2_with fail
  refine (recNumberText r.to 6 _ g0 g1 (by omega) (by omega)).mono ?_
  rintro e w8 ⟨rfl, hb8⟩
  have HB8 : Hid (Below w.heap.size w w8) := HB7.out.trans (hb8.mono HB7.out.size)
  clear hb8 y77
  go_wp2_with fail
  refine (recSum (bodyA r) _ (by rw [ba_size, body_len r ht]; omega)).mono ?_
  rintro e w9 ⟨rfl, rfl⟩
  have hsum := sum_bd (bodyA r).data.toList
  go_wp2_with fail
  refine (recNumberText (sumA (bodyA r)) 1 _ hsum.1 (by unfold sumA; omega) (by omega) (by omega)).mono ?_
  rintro e w10 ⟨rfl, hb10⟩
  clear hsum
  go_wp2_with fail
  go_ret
  exact ⟨rfl, HB8.out.trans (hb10.mono HB8.out.size)⟩
end Go.Proofs.Ytmjdndhfmfjbiab

namespace Go.Proofs.Ytmjdndhfmfjbiab
open Go.RowKit

/-- What stands in a text. -/
def rawR (t : ByteArray) : RecD := givenM (decM t)
def isRec (t : ByteArray) : Bool := (rawR t).call != 0 && (encM (rawR t)).toList == t.toList

theorem val_le2 (s : ByteArray) (h : s.size ≤ 6) : 0 ≤ valA s ∧ valA s ≤ 281474976710656 := by
  have h1 := val_bd s.data.toList
  have h2 : s.data.toList.length ≤ 6 := by rw [← ba_size]; exact h
  have h3 : (256 : Nat) ^ s.data.toList.length ≤ 256 ^ 6 := Nat.pow_le_pow_right (by omega) h2
  have h4 : ((256 ^ s.data.toList.length : Nat) : Int) = (256 : Int) ^ s.data.toList.length := by simp [Int.natCast_pow]
  have h5 : (256 : Nat) ^ 6 = 281474976710656 := by decide
  unfold valA
  omega
theorem ext_size (t : ByteArray) (a b : Nat) : (t.extract a b).size ≤ b - a := by rw [ba_size, ba_extract, List.length_drop, List.length_take]; omega
theorem unfill_size (s : ByteArray) : (unfillM s).size ≤ s.size := by rw [unfillM, ba_size, ba_extract, List.length_drop, List.length_take, ← ba_size]; omega
theorem given_small {r : RecD} (h : Small r) : Small (givenM r) := by
  have z : (0 : Int) ≤ 0 ∧ (0 : Int) ≤ 4611686018427387904 := by omega
  have zt : (⟨#[]⟩ : ByteArray).size ≤ 15 := Nat.zero_le _
  unfold givenM
  split
  · exact ⟨⟨by show (0 : Int) ≤ 1; omega, by show (1 : Int) ≤ _; omega⟩, h.client, h.text, z, z, z, z, z⟩
  split
  · exact ⟨⟨by show (0 : Int) ≤ 2; omega, by show (2 : Int) ≤ _; omega⟩, h.client, h.text, z, z, z, z, z⟩
  split
  · exact ⟨⟨by show (0 : Int) ≤ 3; omega, by show (3 : Int) ≤ _; omega⟩, z, h.text, z, h.value, h.delay, h.life, z⟩
  split
  · exact ⟨⟨by show (0 : Int) ≤ 4; omega, by show (4 : Int) ≤ _; omega⟩, z, zt, h.number, z, z, z, z⟩
  split
  · exact ⟨⟨by show (0 : Int) ≤ 5; omega, by show (5 : Int) ≤ _; omega⟩, z, zt, h.number, z, h.delay, z, z⟩
  split
  · exact ⟨⟨by show (0 : Int) ≤ 6; omega, by show (6 : Int) ≤ _; omega⟩, z, zt, z, z, z, z, h.to⟩
  split
  · exact ⟨⟨by show (0 : Int) ≤ 7; omega, by show (7 : Int) ≤ _; omega⟩, h.client, zt, h.number, z, z, z, z⟩
  · exact ⟨z, z, zt, z, z, z, z, z⟩
theorem raw_small (t : ByteArray) : Small (rawR t) := by
  have big : ∀ a b, b - a ≤ 6 → 0 ≤ valA (t.extract a b) ∧ valA (t.extract a b) ≤ 4611686018427387904 := fun a b h => by
    have h1 := val_le2 (t.extract a b) (Nat.le_trans (ext_size t a b) h)
    omega
  have hx : (unfillM (t.extract 2 17)).size ≤ 15 := Nat.le_trans (unfill_size _) (ext_size t 2 17)
  have b0 := big 0 1 (by omega)
  have b1 := big 1 2 (by omega)
  have b3 := big 17 19 (by omega)
  have b4 := big 19 23 (by omega)
  have b5 := big 23 29 (by omega)
  have b6 := big 29 35 (by omega)
  have b7 := big 35 41 (by omega)
  unfold rawR
  refine given_small ?_
  unfold decM
  generalize valA (t.extract 0 1) = v0 at *
  generalize valA (t.extract 1 2) = v1 at *
  generalize valA (t.extract 17 19) = v3 at *
  generalize valA (t.extract 19 23) = v4 at *
  generalize valA (t.extract 23 29) = v5 at *
  generalize valA (t.extract 29 35) = v6 at *
  generalize valA (t.extract 35 41) = v7 at *
  exact ⟨b0, b1, hx, b3, b4, b5, b6, b7⟩

/-- What Read answers. -/
def readV (t : ByteArray) : Value := .tuple #[recV (if isRec t then rawR t else nilRec), .bool (isRec t)]
theorem readV_not {t : ByteArray} (h : isRec t = false) : readV t = .tuple #[recV nilRec, .bool false] := by unfold readV; rw [h]; rfl
theorem readV_is {t : ByteArray} (h : isRec t = true) : readV t = .tuple #[recV (rawR t), .bool true] := by unfold readV; rw [h]; rfl
theorem below8 {B g : Nat} {w w2 : World} (h : Below B w w2) (hg : B ≤ g) (a0 a1 a2 a3 a4 a5 a6 a7 : Value) : Below B w ((((((((w2.setCell ⟨g, 0, none⟩ a0).setCell ⟨g, 1, none⟩ a1).setCell ⟨g, 2, none⟩ a2).setCell ⟨g, 3, none⟩ a3).setCell ⟨g, 4, none⟩ a4).setCell ⟨g, 5, none⟩ a5).setCell ⟨g, 6, none⟩ a6).setCell ⟨g, 7, none⟩ a7) :=
  (((((((h.setCell (p := ⟨g, 0, none⟩) hg a0).setCell (p := ⟨g, 1, none⟩) hg a1).setCell (p := ⟨g, 2, none⟩) hg a2).setCell (p := ⟨g, 3, none⟩) hg a3).setCell (p := ⟨g, 4, none⟩) hg a4).setCell (p := ⟨g, 5, none⟩) hg a5).setCell (p := ⟨g, 6, none⟩) hg a6).setCell (p := ⟨g, 7, none⟩) hg a7
def ZeroAt (w : World) (g : Nat) : Prop := w.heap[g]? = some (.cells #[.int .i64 0, .int .i64 0, .string ⟨#[]⟩, .int .i64 0, .int .i64 0, .int .i64 0, .int .i64 0, .int .i64 0] 102 (0, 0))
theorem zero8 {w : World} {g : Nat} (h : ZeroAt w g) : w.cell? ⟨g, 0, none⟩ = some (.int .i64 0) ∧ w.cell? ⟨g, 1, none⟩ = some (.int .i64 0) ∧ w.cell? ⟨g, 2, none⟩ = some (.string ⟨#[]⟩) ∧ w.cell? ⟨g, 3, none⟩ = some (.int .i64 0) ∧ w.cell? ⟨g, 4, none⟩ = some (.int .i64 0) ∧
    w.cell? ⟨g, 5, none⟩ = some (.int .i64 0) ∧ w.cell? ⟨g, 6, none⟩ = some (.int .i64 0) ∧ w.cell? ⟨g, 7, none⟩ = some (.int .i64 0) ∧ ∀ o, w.frozen? ⟨g, o, none⟩ = false :=
  ⟨cell_of_row w g 0 _ _ _ h, cell_of_row w g 1 _ _ _ h, cell_of_row w g 2 _ _ _ h, cell_of_row w g 3 _ _ _ h, cell_of_row w g 4 _ _ _ h, cell_of_row w g 5 _ _ _ h, cell_of_row w g 6 _ _ _ h, cell_of_row w g 7 _ _ _ h, fun o => frozen_of_row w g o _ _ h⟩

set_option maxRecDepth 100000 in
set_option maxHeartbeats 2000000 in
theorem recRead (t : ByteArray) (w : World) (ht : t.size = 42) : Calls Try.prog 83 #[.string t] w fun e w' => e = .returned (readV t) ∧ Below w.heap.size w w' := by
  go_enter Try.func83, Try.ntmps83
  go_wp2_with fail
  refine (recNumberOf (t.extract 0 1) _ (Nat.le_trans (ext_size _ _ _) (by omega))).mono ?_
  rintro e w1 ⟨rfl, rfl⟩
  go_wp2_with fail
  refine (recNumberOf (t.extract 1 2) _ (Nat.le_trans (ext_size _ _ _) (by omega))).mono ?_
  rintro e w1 ⟨rfl, rfl⟩
  go_wp2_with fail
  refine (recUnfilled (t.extract 2 17) _ (Nat.le_trans (ext_size _ _ _) (by omega))).mono ?_
  rintro e w1 ⟨rfl, rfl⟩
  go_wp2_with fail
  refine (recNumberOf (t.extract 17 19) _ (Nat.le_trans (ext_size _ _ _) (by omega))).mono ?_
  rintro e w1 ⟨rfl, rfl⟩
  go_wp2_with fail
  refine (recNumberOf (t.extract 19 23) _ (Nat.le_trans (ext_size _ _ _) (by omega))).mono ?_
  rintro e w1 ⟨rfl, rfl⟩
  go_wp2_with fail
  refine (recNumberOf (t.extract 23 29) _ (Nat.le_trans (ext_size _ _ _) (by omega))).mono ?_
  rintro e w1 ⟨rfl, rfl⟩
  go_wp2_with fail
  refine (recNumberOf (t.extract 29 35) _ (Nat.le_trans (ext_size _ _ _) (by omega))).mono ?_
  rintro e w1 ⟨rfl, rfl⟩
  go_wp2_with fail
  refine (recNumberOf (t.extract 35 41) _ (Nat.le_trans (ext_size _ _ _) (by omega))).mono ?_
  rintro e w1 ⟨rfl, rfl⟩
  go_wp2_with fail
  generalize hWA : (w.alloc _).alloc _ = wa
  have hbA : Below w.heap.size w wa := by rw [← hWA]; exact ((Below.refl _ _).alloc (Nat.le_refl _) _).alloc (by simp) _
  have hsA : w.heap.size < wa.heap.size := by rw [← hWA]; simp; omega
  have HZ : Hid (ZeroAt wa w.heap.size) := by
    show _ = _
    rw [← hWA, heap_alloc_old _ _ (by simp)]
    exact heap_alloc_new w _
  clear hWA
  refine (recGiven (decM t) _).mono ?_
  rintro e w1 ⟨rfl, hb1⟩
  have HR : Hid (givenM (decM t) = rawR t) := rfl
  rw [HR.out]
  have HB1 : Hid (Below w.heap.size w w1) := hbA.trans (hb1.mono hbA.size)
  have HZ1 : Hid (ZeroAt w1 w.heap.size) := (hb1.block _ hsA).trans HZ.out
  have hs1 : w.heap.size < w1.heap.size := Nat.lt_of_lt_of_le hsA hb1.size
  have hsm := raw_small t
  have HSM : Hid (Small (rawR t)) := hsm
  have HIS : Hid (isRec t = ((rawR t).call != 0 && (encM (rawR t)).toList == t.toList)) := rfl
  clear hb1 HZ hsA hbA hsm
  clear HR
  have HRD : Hid (∀ r, rawR t = r → isRec t = true → readV t = .tuple #[recV r, .bool true]) := fun r e h => by rw [readV_is h, e]
  generalize rawR t = r at *
  cases hc : (r.call == 0)
  · go_wp2_with fail
    refine (recWrite r _ HSM.out).mono ?_
    rintro e w2 ⟨rfl, hb2⟩
    have HB2 : Hid (Below w.heap.size w w2) := (HB1.out.alloc (by omega) _).trans (hb2.mono (by simp; omega))
    have HZ2 : Hid (ZeroAt w2 w.heap.size) := (hb2.block _ (by simp; omega)).trans ((heap_alloc_old w1 _ hs1).trans HZ1.out)
    have hr0 := cell_later hb2 (cells_new w1 [.int .i64 r.call, .int .i64 r.client, .string r.text, .int .i64 r.number, .int .i64 r.value, .int .i64 r.delay, .int .i64 r.life, .int .i64 r.to] 102 0 _ rfl)
    have hr1 := cell_later hb2 (cells_new w1 [.int .i64 r.call, .int .i64 r.client, .string r.text, .int .i64 r.number, .int .i64 r.value, .int .i64 r.delay, .int .i64 r.life, .int .i64 r.to] 102 1 _ rfl)
    have hr2 := cell_later hb2 (cells_new w1 [.int .i64 r.call, .int .i64 r.client, .string r.text, .int .i64 r.number, .int .i64 r.value, .int .i64 r.delay, .int .i64 r.life, .int .i64 r.to] 102 2 _ rfl)
    have hr3 := cell_later hb2 (cells_new w1 [.int .i64 r.call, .int .i64 r.client, .string r.text, .int .i64 r.number, .int .i64 r.value, .int .i64 r.delay, .int .i64 r.life, .int .i64 r.to] 102 3 _ rfl)
    have hr4 := cell_later hb2 (cells_new w1 [.int .i64 r.call, .int .i64 r.client, .string r.text, .int .i64 r.number, .int .i64 r.value, .int .i64 r.delay, .int .i64 r.life, .int .i64 r.to] 102 4 _ rfl)
    have hr5 := cell_later hb2 (cells_new w1 [.int .i64 r.call, .int .i64 r.client, .string r.text, .int .i64 r.number, .int .i64 r.value, .int .i64 r.delay, .int .i64 r.life, .int .i64 r.to] 102 5 _ rfl)
    have hr6 := cell_later hb2 (cells_new w1 [.int .i64 r.call, .int .i64 r.client, .string r.text, .int .i64 r.number, .int .i64 r.value, .int .i64 r.delay, .int .i64 r.life, .int .i64 r.to] 102 6 _ rfl)
    have hr7 := cell_later hb2 (cells_new w1 [.int .i64 r.call, .int .i64 r.client, .string r.text, .int .i64 r.number, .int .i64 r.value, .int .i64 r.delay, .int .i64 r.life, .int .i64 r.to] 102 7 _ rfl)
    simp only [Addr.add_lit, Nat.zero_add] at hr0 hr1 hr2 hr3 hr4 hr5 hr6 hr7
    obtain ⟨z0, z1, z2, z3, z4, z5, z6, z7, zf⟩ := zero8 HZ2.out
    have zf0 := zf 0
    have zf1 := zf 1
    have zf2 := zf 2
    have zf3 := zf 3
    have zf4 := zf 4
    have zf5 := zf 5
    have zf6 := zf 6
    have zf7 := zf 7
    have hne : w1.heap.size ≠ w.heap.size := by omega
    clear hb2 zf
    cases he : ((encM r).toList == t.toList)
    · have HI : Hid (isRec t = false) := by show _ = _; rw [HIS.out, he, Bool.and_false]
      go_wp2_with fail
      refine bodyPost_ret (v := .tuple #[recV nilRec, .bool false]) (by rw [results_cell_tmp rfl]; go_simp; exact ⟨rfl, rfl, rfl, rfl, rfl, rfl, rfl, rfl⟩) rfl ⟨by rw [readV_not HI.out], below8 HB2.out (Nat.le_refl _) _ _ _ _ _ _ _ _⟩
    · have HI : Hid (isRec t = true) := by show _ = _; rw [HIS.out, he, bne, hc]; rfl
      go_wp2_with fail
      refine bodyPost_ret (v := .tuple #[recV r, .bool true]) (by rw [results_cell_tmp rfl]; go_simp) rfl ⟨by rw [HRD.out r rfl HI.out], below8 HB2.out (Nat.le_refl _) _ _ _ _ _ _ _ _⟩
  · have HI : Hid (isRec t = false) := by show _ = _; rw [HIS.out]; simp only [bne, hc]; rfl
    obtain ⟨z0, z1, z2, z3, z4, z5, z6, z7, zf⟩ := zero8 HZ1.out
    have zf0 := zf 0
    have zf1 := zf 1
    have zf2 := zf 2
    have zf3 := zf 3
    have zf4 := zf 4
    have zf5 := zf 5
    have zf6 := zf 6
    have zf7 := zf 7
    clear zf
    go_wp2_with fail
    refine bodyPost_ret (v := .tuple #[recV nilRec, .bool false]) (by rw [results_cell_tmp rfl]; go_simp; exact ⟨rfl, rfl, rfl, rfl, rfl, rfl, rfl, rfl⟩) rfl ⟨by rw [readV_not HI.out], (below8 HB1.out (Nat.le_refl _) _ _ _ _ _ _ _ _).alloc (by simp; omega) _⟩
end Go.Proofs.Ytmjdndhfmfjbiab

/-
  The program's own lists of filters.
-/
namespace Go.Proofs.Ytmjdndhfmfjbiab
open Go.RowKit

theorem any_take {α : Type} {p : α → Bool} {l : List α} {k : Nat} {x : α} (hx : l[k]? = some x) : (l.take (k + 1)).any p = ((l.take k).any p || p x) := any_step p l k x hx

set_option maxRecDepth 100000 in
set_option maxHeartbeats 1000000 in
theorem hrHasFilter (fs : List ByteArray) (ao : Option Addr) (c : Nat) (s : ByteArray) (w : World) (hl : fs.length ≤ 1048576) (h : CellsAt w ao (fs.map Value.string)) :
    Calls Try.prog 48 #[.slice ao fs.length c, .string s] w fun e w' => e = .returned (.bool (fs.any (fun f => f.toList == s.toList))) ∧ w' = w := by
  have H : Hid (CellsAt w ao (fs.map Value.string)) := h
  clear h
  go_enter Try.func48, Try.ntmps48
  go_wp2_with fail
  go_loop [5] (fun i => ∃ k : Nat, k ≤ fs.length ∧ i = .int .i64 k ∧ (fs.take k).any (fun f => f.toList == s.toList) = false) (fun i => fs.length - (intOf i).toNat)
  case atStart => exact ⟨0, Nat.zero_le _, rfl, by simp⟩
  case round =>
    obtain ⟨k, hk, rfl, ha⟩ := hrel
    have HA : Hid ((fs.take k).any (fun f => f.toList == s.toList) = false) := ha
    clear ha
    by_cases hlt : k < fs.length
    · obtain ⟨f, hf⟩ : ∃ f, fs[k]? = some f := ⟨_, List.getElem?_eq_getElem hlt⟩
      obtain ⟨g, rfl, hc⟩ := H.out k _ (strs_get hf)
      cases he : (f.toList == s.toList)
      · have HS : Hid ((fs.take (k + 1)).any (fun f => f.toList == s.toList) = false) := by show _ = _; rw [any_take hf, HA.out, he]; rfl
        clear hf
        go_wp2_with fail
        go_round
        case rel => exact ⟨k + 1, by omega, by go_num, HS.out⟩
        case measure => simp [intOf]; omega
      · have HS : Hid (fs.any (fun f => f.toList == s.toList) = true) := List.any_eq_true.2 ⟨f, List.mem_of_getElem? hf, he⟩
        clear hf
        go_wp2_with fail
        go_ret
        exact ⟨ret_bool' HS.out.symm, rfl⟩
    · have HS : Hid (fs.any (fun f => f.toList == s.toList) = false) := by
        have := HA.out
        rw [List.take_of_length_le (by omega)] at this
        exact this
      go_wp2_with fail
      go_ret
      exact ⟨ret_bool' HS.out.symm, rfl⟩

set_option maxRecDepth 100000 in
set_option maxHeartbeats 1000000 in
theorem hrWithoutFilter (fs : List ByteArray) (ao : Option Addr) (c : Nat) (s : ByteArray) (w : World) (hl : fs.length ≤ 1048576) (h : CellsAt w ao (fs.map Value.string)) :
    Calls Try.prog 85 #[.slice ao fs.length c, .string s] w fun e w' => ∃ v, e = .returned v ∧
      w'.ownsRow w.heap.size 9 1 v (fs.filter (fun f => !(f.toList == s.toList))).length ((fs.filter (fun f => !(f.toList == s.toList))).flatMap (fun f => [Value.string f])) ∧ Below w.heap.size w w' := by
  obtain ⟨i0, hi, hz0, hz1, hz2⟩ := info_parts infoStr
  have H : Hid (CellsAt w ao (fs.map Value.string)) := h
  clear h
  go_enter Try.func85, Try.ntmps85
  go_wp2_with fail
  go_loopw [5, 6] (fun v i wr => ∃ k : Nat, k ≤ fs.length ∧ i = .int .i64 k ∧ wr.ownsRow w.heap.size 9 1 v (kept (fun f : ByteArray => !(f.toList == s.toList)) fs k).length ((kept (fun f : ByteArray => !(f.toList == s.toList)) fs k).flatMap (fun f => [Value.string f])) ∧ Below w.heap.size w wr) (fun _ i _ => fs.length - (intOf i).toNat)
  case atStart => exact ⟨0, Nat.zero_le _, rfl, World.ownsRow_nil _ _ _ _, Below.refl _ _⟩
  case round =>
    obtain ⟨k, hk, rfl, hown, hbr⟩ := hrel
    have hkl := kept_le (fun f : ByteArray => !(f.toList == s.toList)) fs k
    have hsz := hbr.size
    by_cases hlt : k < fs.length
    · obtain ⟨y, hy⟩ : ∃ y, fs[k]? = some y := ⟨_, List.getElem?_eq_getElem hlt⟩
      obtain ⟨g, rfl, hc⟩ := H.out.below hbr k _ (strs_get hy)
      cases hne : (y.toList == s.toList)
      · have HK : Hid (kept (fun f : ByteArray => !(f.toList == s.toList)) fs (k + 1) = kept (fun f : ByteArray => !(f.toList == s.toList)) fs k ++ [y]) := kept_hit hy (by simp only [hne]; rfl)
        clear hy
        go_wp2_with (first | (at_builtin; refine wpList_append_own _ rfl _ _ 86 rfl w.heap.size 9 i0 _ 1 16 Try.underlying86 hi hz0 hz1 hz2 rfl (by decide) _ _ _ rfl (hown.alloc _) ⟨wr.heap.size, 0, none⟩ 1 1 [.string y] rfl rfl (cells_new _ _ _) (by simp [Value.oneCell']) (by unfold maxLen; omega) (by omega) (by simp; omega) ?_))
        intro v' w1 hown' hgrow _
        have R := grow_row (f := fun f => [Value.string f]) hown hbr hown' hgrow
        clear hown' hgrow hown
        go_wp2_with fail
        go_roundw
        case rel => exact ⟨k + 1, by omega, by go_num, by rw [HK.out]; exact R.1, R.2⟩
        case measure => simp [intOf]; omega
      · have HK : Hid (kept (fun f : ByteArray => !(f.toList == s.toList)) fs (k + 1) = kept (fun f : ByteArray => !(f.toList == s.toList)) fs k) := kept_miss hy (by simp only [hne]; rfl)
        clear hy
        go_wp2_with fail
        go_roundw
        case rel => exact ⟨k + 1, by omega, by go_num, by rw [HK.out]; exact hown, hbr⟩
        case measure => simp [intOf]; omega
    · have HK : Hid (kept (fun f : ByteArray => !(f.toList == s.toList)) fs k = fs.filter (fun f : ByteArray => !(f.toList == s.toList))) := kept_end _ _ _ (by omega)
      go_wp2_with fail
      go_ret
      exact ⟨_, rfl, by rw [← HK.out]; exact hown, hbr⟩

set_option maxRecDepth 100000 in
set_option maxHeartbeats 1000000 in
theorem hrCopyFilters (fs : List ByteArray) (ao : Option Addr) (c : Nat) (w : World) (hl : fs.length ≤ 1048576) (h : CellsAt w ao (fs.map Value.string)) :
    Calls Try.prog 75 #[.slice ao fs.length c] w fun e w' => ∃ v, e = .returned v ∧ w'.ownsRow w.heap.size 9 1 v fs.length (fs.flatMap (fun f => [Value.string f])) ∧ Below w.heap.size w w' := by
  obtain ⟨i0, hi, hz0, hz1, hz2⟩ := info_parts infoStr
  have H : Hid (CellsAt w ao (fs.map Value.string)) := h
  clear h
  go_enter Try.func75, Try.ntmps75
  go_wp2_with fail
  go_loopw [3, 4] (fun v i wr => ∃ k : Nat, k ≤ fs.length ∧ i = .int .i64 k ∧ wr.ownsRow w.heap.size 9 1 v (fs.take k).length ((fs.take k).flatMap (fun f => [Value.string f])) ∧ Below w.heap.size w wr) (fun _ i _ => fs.length - (intOf i).toNat)
  case atStart => exact ⟨0, Nat.zero_le _, rfl, World.ownsRow_nil _ _ _ _, Below.refl _ _⟩
  case round =>
    obtain ⟨k, hk, rfl, hown, hbr⟩ := hrel
    have hsz := hbr.size
    have htl : (fs.take k).length ≤ 1048576 := by rw [List.length_take]; omega
    by_cases hlt : k < fs.length
    · obtain ⟨y, hy⟩ : ∃ y, fs[k]? = some y := ⟨_, List.getElem?_eq_getElem hlt⟩
      obtain ⟨g, rfl, hc⟩ := H.out.below hbr k _ (strs_get hy)
      have HK : Hid (fs.take (k + 1) = fs.take k ++ [y]) := by show _ = _; rw [List.take_add_one, hy]; rfl
      clear hy
      generalize hT : fs.take k = T at *
      clear hT
      go_wp2_with (first | (at_builtin; refine wpList_append_own _ rfl _ _ 86 rfl w.heap.size 9 i0 _ 1 16 Try.underlying86 hi hz0 hz1 hz2 rfl (by decide) _ _ _ rfl (hown.alloc _) ⟨wr.heap.size, 0, none⟩ 1 1 [.string y] rfl rfl (cells_new _ _ _) (by simp [Value.oneCell']) (by unfold maxLen; omega) (by omega) (by simp; omega) ?_))
      intro v' w1 hown' hgrow _
      have R := grow_row (f := fun f => [Value.string f]) hown hbr hown' hgrow
      clear hown' hgrow hown
      go_wp2_with fail
      go_roundw
      case rel => exact ⟨k + 1, by omega, by go_num, by rw [HK.out]; exact R.1, R.2⟩
      case measure => simp [intOf]; omega
    · have HK : Hid (fs.take k = fs) := List.take_of_length_le (by omega)
      go_wp2_with fail
      go_ret
      exact ⟨_, rfl, by rw [HK.out] at hown; exact hown, hbr⟩

set_option maxRecDepth 100000 in
set_option maxHeartbeats 1000000 in
theorem hrCopyText (s : ByteArray) (w : World) : Calls Try.prog 50 #[.string s] w fun e w' => e = .returned (.string s) ∧ Below w.heap.size w w' := by
  obtain ⟨cap, w1, hcv, b1, hs1, hcap, hby⟩ := bytes_of w s
  have hback : (convert 63 9 (.slice (some ⟨w.heap.size, 0, none⟩) s.size cap)).run Try.prog w1 = .ok (.string s) w1 := by
    have h := run_convert_bytes_back (P := Try.prog) w1 63 9 5 ⟨w.heap.size, 0, none⟩ cap s.data.toList Try.underlying63 Try.underlying5 Try.underlying9 (fun j hj => by
      have hj' : j < s.size := by rw [Array.length_toList] at hj; exact hj
      rw [Addr.add_lit, Nat.zero_add, (hby j hj').1, getElem!_pos s j hj']
      rfl)
    have e : s.data.toList.length = s.size := by rw [Array.length_toList]; rfl
    rw [e] at h
    rw [h]
  have HB : Hid (Below w.heap.size w w1) := b1
  clear b1 hby
  go_enter Try.func50, Try.ntmps50
  go_wp2_with fail
  go_ret
  exact ⟨rfl, HB.out⟩
end Go.Proofs.Ytmjdndhfmfjbiab

namespace Go.Proofs.Ytmjdndhfmfjbiab
open Go.RowKit

theorem sing_flat (l : List ByteArray) (x : ByteArray) : (l ++ [x]).flatMap (fun f => [Value.string f]) = l.flatMap (fun f => [Value.string f]) ++ [Value.string x] := by simp

set_option maxRecDepth 100000 in
set_option maxHeartbeats 1000000 in
theorem hrWithFilter (fs : List ByteArray) (ao : Option Addr) (c : Nat) (s : ByteArray) (w : World) (hl : fs.length ≤ 1048576) (h : CellsAt w ao (fs.map Value.string)) :
    Calls Try.prog 51 #[.slice ao fs.length c, .string s] w fun e w' => ∃ v, e = .returned v ∧
      w'.ownsRow w.heap.size 9 1 v (insM ltB s fs).length ((insM ltB s fs).flatMap (fun f => [Value.string f])) ∧ Below w.heap.size w w' := by
  obtain ⟨i0, hi, hz0, hz1, hz2⟩ := info_parts infoStr
  have H : Hid (CellsAt w ao (fs.map Value.string)) := h
  clear h
  go_enter Try.func51, Try.ntmps51
  go_wp2_with fail
  go_loopw [5, 6, 7] (fun v p i wr => ∃ k : Nat, k ≤ fs.length ∧ i = .int .i64 k ∧ p = .bool (insTo ltB s fs k).2 ∧ wr.ownsRow w.heap.size 9 1 v (insTo ltB s fs k).1.length ((insTo ltB s fs k).1.flatMap (fun f => [Value.string f])) ∧ Below w.heap.size w wr) (fun _ _ i _ => fs.length - (intOf i).toNat)
  case atStart => exact ⟨0, Nat.zero_le _, rfl, rfl, World.ownsRow_nil _ _ _ _, Below.refl _ _⟩
  case round =>
    obtain ⟨k, hk, rfl, rfl, hown, hbr⟩ := hrel
    have hkl := (insTo_len ltB s fs k).1
    have hsz := hbr.size
    by_cases hlt : k < fs.length
    · obtain ⟨y, hy⟩ : ∃ y, fs[k]? = some y := ⟨_, List.getElem?_eq_getElem hlt⟩
      obtain ⟨g, rfl, hc0⟩ := H.out k _ (strs_get hy)
      have hc := cell_later hbr hc0
      have C0 : Hid (w.cell? ⟨g, k, none⟩ = some (.string y)) := hc0
      clear hc0
      have HST : Hid (insTo ltB s fs (k + 1) = if !(insTo ltB s fs k).2 && ltB s y then ((insTo ltB s fs k).1 ++ [s] ++ [y], true) else ((insTo ltB s fs k).1 ++ [y], (insTo ltB s fs k).2)) := insTo_step hy
      clear hy
      generalize hT : insTo ltB s fs k = T at *
      obtain ⟨T1, T2⟩ := T
      clear hT
      simp only at hown hkl
      cases T2
      · cases hlt' : ltB s y
        · have HK : Hid (insTo ltB s fs (k + 1) = (T1 ++ [y], false)) := by show _ = _; rw [HST.out, hlt']; rfl
          have hbl : Op.bytesLess s.toList y.toList = false := hlt'
          clear hlt'
          go_wp2_with (first | (at_builtin; refine wpList_append_own _ rfl _ _ 86 rfl w.heap.size 9 i0 _ 1 16 Try.underlying86 hi hz0 hz1 hz2 rfl (by decide) _ _ _ rfl (hown.alloc _) ⟨wr.heap.size, 0, none⟩ 1 1 [.string y] rfl rfl (cells_new _ _ _) (by simp [Value.oneCell']) (by unfold maxLen; omega) (by omega) (by simp; omega) ?_))
          intro v' w1 hown' hgrow _
          have R := grow_row (f := fun f => [Value.string f]) hown hbr hown' hgrow
          clear hown' hgrow hown
          go_wp2_with fail
          go_roundw
          case rel => exact ⟨k + 1, by omega, by go_num, by rw [HK.out], by rw [HK.out]; exact R.1, R.2⟩
          case measure => simp [intOf]; omega
        · have HK : Hid (insTo ltB s fs (k + 1) = (T1 ++ [s] ++ [y], true)) := by show _ = _; rw [HST.out, hlt']; rfl
          have hbl : Op.bytesLess s.toList y.toList = true := hlt'
          clear hlt'
          go_wp2_with (first | (at_builtin; refine wpList_append_own _ rfl _ _ 86 rfl w.heap.size 9 i0 _ 1 16 Try.underlying86 hi hz0 hz1 hz2 rfl (by decide) _ _ _ rfl (hown.alloc _) ⟨wr.heap.size, 0, none⟩ 1 1 [.string s] rfl rfl (cells_new _ _ _) (by simp [Value.oneCell']) (by unfold maxLen; omega) (by omega) (by simp; omega) ?_))
          intro v' w1 hown' hgrow _
          have R := grow_row (f := fun f => [Value.string f]) hown hbr hown' hgrow
          have hown1 := R.1
          have hbr1 := R.2
          have hsz1 := hbr1.size
          have hc1 := cell_later hbr1 C0.out
          obtain ⟨T3, hT3⟩ : ∃ T3, T1 ++ [s] = T3 := ⟨_, rfl⟩
          have HK2 : Hid (insTo ltB s fs (k + 1) = (T3 ++ [y], true)) := by show _ = _; rw [HK.out, hT3]
          have hl3 : T3.length ≤ k + 2 := by rw [← hT3]; simp; omega
          rw [hT3] at hown1
          clear hown' hgrow hown R hc hT3
          go_wp2_with (first | (at_builtin; refine wpList_append_own _ rfl _ _ 86 rfl w.heap.size 9 i0 _ 1 16 Try.underlying86 hi hz0 hz1 hz2 rfl (by decide) _ _ _ rfl (hown1.alloc _) ⟨w1.heap.size, 0, none⟩ 1 1 [.string y] rfl rfl (cells_new _ _ _) (by simp [Value.oneCell']) (by unfold maxLen; omega) (by omega) (by simp; omega) ?_))
          intro v2 w2 hown2 hgrow2 _
          have R2 := grow_row (f := fun f => [Value.string f]) hown1 hbr1 hown2 hgrow2
          clear hown2 hgrow2 hown1
          go_wp2_with fail
          go_roundw
          case rel => exact ⟨k + 1, by omega, by go_num, by rw [HK2.out], by rw [HK2.out]; exact R2.1, R2.2⟩
          case measure => simp [intOf]; omega
      · have HK : Hid (insTo ltB s fs (k + 1) = (T1 ++ [y], true)) := by show _ = _; rw [HST.out]; rfl
        go_wp2_with (first | (at_builtin; refine wpList_append_own _ rfl _ _ 86 rfl w.heap.size 9 i0 _ 1 16 Try.underlying86 hi hz0 hz1 hz2 rfl (by decide) _ _ _ rfl (hown.alloc _) ⟨wr.heap.size, 0, none⟩ 1 1 [.string y] rfl rfl (cells_new _ _ _) (by simp [Value.oneCell']) (by unfold maxLen; omega) (by omega) (by simp; omega) ?_))
        intro v' w1 hown' hgrow _
        have R := grow_row (f := fun f => [Value.string f]) hown hbr hown' hgrow
        clear hown' hgrow hown
        go_wp2_with fail
        go_roundw
        case rel => exact ⟨k + 1, by omega, by go_num, by rw [HK.out], by rw [HK.out]; exact R.1, R.2⟩
        case measure => simp [intOf]; omega
    · obtain rfl : k = fs.length := by omega
      have HEND : Hid (insM ltB s fs = if (insTo ltB s fs fs.length).2 then (insTo ltB s fs fs.length).1 else (insTo ltB s fs fs.length).1 ++ [s]) := insTo_end ltB s fs
      generalize hT : insTo ltB s fs fs.length = T at *
      obtain ⟨T1, T2⟩ := T
      clear hT
      simp only at hown hkl
      cases T2
      · have HE : Hid (insM ltB s fs = T1 ++ [s]) := HEND.out
        clear HEND
        go_wp2_with (first | (at_builtin; refine wpList_append_own _ rfl _ _ 86 rfl w.heap.size 9 i0 _ 1 16 Try.underlying86 hi hz0 hz1 hz2 rfl (by decide) _ _ _ rfl (hown.alloc _) ⟨wr.heap.size, 0, none⟩ 1 1 [.string s] rfl rfl (cells_new _ _ _) (by simp [Value.oneCell']) (by unfold maxLen; omega) (by omega) (by simp; omega) ?_))
        intro v' w1 hown' hgrow _
        have R := grow_row (f := fun f => [Value.string f]) hown hbr hown' hgrow
        clear hown' hgrow hown
        go_wp2_with fail
        go_ret
        exact ⟨_, rfl, by rw [HE.out]; exact R.1, R.2⟩
      · have HE : Hid (insM ltB s fs = T1) := HEND.out
        clear HEND
        go_wp2_with fail
        go_ret
        exact ⟨_, rfl, by rw [HE.out]; exact hown, hbr⟩
end Go.Proofs.Ytmjdndhfmfjbiab
