import Derived.Test.YtmjdndhfmfjbiaaGreatM14
import Derived.Test.YtmjdndhfmfjbiaaGreatM22
import Derived.Test.YtmjdndhfmfjbiaaGreatM01
import Derived.Test.YtmjdndhfmfjbiaaGreatM02
import Derived.Laws.IdiomStrings
import Derived.ArgAppend
/-
  A DISK of records of one size: cut, or with one byte turned. No program is named here.
-/
namespace Go.Proofs.YtmjdndhfmfjbiaaGreat
open Go.RowKit

theorem cat_list (R : List ByteArray) : (cat R).data.toList = R.flatMap (fun r => r.data.toList) := by
  induction R with
  | nil => rfl
  | cons r R ih => rw [cat, ba_list, ih, List.flatMap_cons]
theorem cat_one (r : ByteArray) : cat [r] = r := by
  apply ba_ext
  rw [cat_list]; simp
theorem cat_snoc (R : List ByteArray) (r : ByteArray) : cat (R ++ [r]) = cat R ++ r := by rw [cat_append, cat_one]
theorem cat_size {R : List ByteArray} (h : ∀ r ∈ R, r.size = 42) : (cat R).size = 42 * R.length := by
  induction R with
  | nil => rfl
  | cons r R ih =>
    have h1 := h r (by simp)
    have h2 := ih (fun q hq => h q (by simp [hq]))
    rw [ba_size] at h1 h2 ⊢
    rw [cat, ba_list, List.length_append, h1, h2, List.length_cons]
    omega

theorem whole_all {R : List ByteArray} (h : ∀ r ∈ R, r.size = 42) (k : Nat) : wholeN R k = min (k / 42) R.length := by
  induction R generalizing k with
  | nil => simp [wholeN]
  | cons r R ih =>
    rw [wholeN, h r (by simp), ih (fun q hq => h q (by simp [hq])), List.length_cons]
    split
    · omega
    · omega

/-- A record of a disk. -/
def chunk (d : ByteArray) (i : Nat) : ByteArray := d.extract (42 * i) (42 * i + 42)
theorem chunk_get (d : ByteArray) (i j : Nat) : (chunk d i).data.toList[j]? = if j < 42 then d.data.toList[42 * i + j]? else none := by
  rw [chunk, ba_extract, List.getElem?_drop, List.getElem?_take]
  by_cases h : j < 42
  · rw [if_pos h, if_pos (by omega)]
  · rw [if_neg h, if_neg (by omega)]

theorem cat_get {R : List ByteArray} (h : ∀ r ∈ R, r.size = 42) {i : Nat} {r : ByteArray} (hr : R[i]? = some r) (j : Nat) (hj : j < 42) : (cat R).data.toList[42 * i + j]? = r.data.toList[j]? := by
  induction R generalizing i with
  | nil => simp at hr
  | cons q R ih =>
    have hq : q.data.toList.length = 42 := by rw [← ba_size]; exact h q (by simp)
    rw [cat, ba_list]
    cases i with
    | zero =>
      simp only [List.getElem?_cons_zero, Option.some.injEq] at hr
      subst hr
      rw [Nat.mul_zero, Nat.zero_add, List.getElem?_append_left (by omega)]
    | succ i =>
      rw [List.getElem?_cons_succ] at hr
      rw [List.getElem?_append_right (by omega), hq, show 42 * (i + 1) + j - 42 = 42 * i + j from by omega]
      exact ih (fun p hp => h p (by simp [hp])) hr

theorem get_ba (d : ByteArray) (i : Nat) (h : i < d.size) : d.data.toList[i]? = some d[i]! := by
  have h' : i < d.data.size := h
  rw [Array.getElem?_toList, Array.getElem?_eq_getElem h', getElem!_pos d i h]
  rfl

/-- Two lists that differ in one place. -/
theorem differ_one {A B : List UInt8} {k : Nat} {x y : UInt8} (hx : A[k]? = some x) (hy : B[k]? = some y) (h : ∀ i, i ≠ k → A[i]? = B[i]?) : ∃ P Q, A = P ++ (x :: Q) ∧ B = P ++ (y :: Q) := by
  obtain ⟨ha, rfl⟩ := List.getElem?_eq_some_iff.1 hx
  obtain ⟨hb, rfl⟩ := List.getElem?_eq_some_iff.1 hy
  refine ⟨A.take k, A.drop (k + 1), ?_, ?_⟩
  · rw [← List.drop_eq_getElem_cons ha, List.take_append_drop]
  · have e1 : A.take k = B.take k := by
      apply List.ext_getElem?
      intro i
      rw [List.getElem?_take, List.getElem?_take]
      split
      · exact h i (by omega)
      · rfl
    have e2 : A.drop (k + 1) = B.drop (k + 1) := by
      apply List.ext_getElem?
      intro i
      rw [List.getElem?_drop, List.getElem?_drop]
      exact h _ (by omega)
    rw [e1, e2, ← List.drop_eq_getElem_cons hb, List.take_append_drop]

theorem chunk_eq {R : List ByteArray} (h : ∀ r ∈ R, r.size = 42) {i : Nat} {r : ByteArray} (hr : R[i]? = some r) (d : ByteArray) (hd : ∀ j, j < 42 → d.data.toList[42 * i + j]? = (cat R).data.toList[42 * i + j]?) : chunk d i = r := by
  apply ba_ext
  apply List.ext_getElem?
  intro j
  rw [chunk_get]
  by_cases hj : j < 42
  · rw [if_pos hj, hd j hj, cat_get h hr j hj]
  · have : r.data.toList.length = 42 := by rw [← ba_size]; exact h r (List.mem_of_getElem? hr)
    rw [if_neg hj, List.getElem?_eq_none (by omega)]

/-- A record of which one byte is another. -/
def Turned (r t : ByteArray) : Prop := ∃ P Q x y, r.data.toList = P ++ (x :: Q) ∧ t.data.toList = P ++ (y :: Q) ∧ x ≠ y

/-- What is left of a disk. -/
theorem damage {R : List ByteArray} (h : ∀ r ∈ R, r.size = 42) {d : ByteArray} {k : Nat} (hd : Damaged (cat R) d k) :
    wholeN R k ≤ R.length ∧ (∀ i r, i < wholeN R k → R[i]? = some r → chunk d i = r) ∧ 42 * wholeN R k ≤ d.size ∧ d.size ≤ 42 * R.length ∧
      (d.size < 42 * wholeN R k + 42 ∨ ∃ r, R[wholeN R k]? = some r ∧ 42 * wholeN R k + 42 ≤ d.size ∧ Turned r (chunk d (wholeN R k))) := by
  have hw := whole_all h k
  have hs := cat_size h
  rcases hd with ⟨hk, rfl⟩ | ⟨hk, hsz, hsame, hdiff⟩
  · have hn : wholeN R k = k / 42 := by omega
    have hsz : ((cat R).extract 0 k).size = k := by
      rw [ba_size] at hk
      rw [ba_size, ba_extract, List.drop_zero, List.length_take]; omega
    refine ⟨by omega, fun i r hi hr => chunk_eq h hr _ (fun j hj => ?_), by omega, by omega, .inl (by omega)⟩
    rw [ba_extract, List.drop_zero, List.getElem?_take, if_pos (by omega)]
  · have hn : wholeN R k = k / 42 := by omega
    have hlen : wholeN R k < R.length := by omega
    obtain ⟨r, hr⟩ : ∃ r, R[wholeN R k]? = some r := ⟨_, List.getElem?_eq_getElem hlen⟩
    have same : ∀ i, i ≠ k → d.data.toList[i]? = (cat R).data.toList[i]? := fun i hi => by
      by_cases hlt : i < (cat R).size
      · rw [get_ba d i (by omega), get_ba _ i hlt, hsame i hlt hi]
      · rw [List.getElem?_eq_none (by rw [← ba_size]; omega), List.getElem?_eq_none (by rw [← ba_size]; omega)]
    refine ⟨by omega, fun i q hi hq => chunk_eq h hq _ (fun j hj => same _ (by omega)), by omega, by omega, .inr ⟨r, hr, by omega, ?_⟩⟩
    have hj : k - 42 * wholeN R k < 42 := by omega
    have ek : 42 * wholeN R k + (k - 42 * wholeN R k) = k := by omega
    have hx : r.data.toList[k - 42 * wholeN R k]? = some (cat R)[k]! := by rw [← cat_get h hr _ hj, ek, get_ba _ k hk]
    have hy : (chunk d (wholeN R k)).data.toList[k - 42 * wholeN R k]? = some d[k]! := by rw [chunk_get, if_pos hj, ek, get_ba d k (by omega)]
    obtain ⟨P, Q, e1, e2⟩ := differ_one hx hy (fun i hi => by
      rw [chunk_get]
      by_cases hi2 : i < 42
      · rw [if_pos hi2, same _ (by omega), cat_get h hr i hi2]
      · have : r.data.toList.length = 42 := by rw [← ba_size]; exact h r (List.mem_of_getElem? hr)
        rw [if_neg hi2, List.getElem?_eq_none (by omega)])
    exact ⟨P, Q, _, _, e1, e2, fun e => hdiff e.symm⟩
end Go.Proofs.YtmjdndhfmfjbiaaGreat

/-
  WHAT AN OPERATION WRITES, and numbers that stay small. No program is named here.
-/
namespace Go.Proofs.YtmjdndhfmfjbiaaGreat
open Go.RowKit

theorem split_mem : ∀ (l : List UInt8) (b : UInt8), b ∈ l → b = 47 ∨ ∃ p ∈ M.splitL l, b ∈ p
  | [], b, h => by simp at h
  | c :: l, b, h => by
    unfold M.splitL
    by_cases hc : c = 47
    · rw [if_pos hc]
      rcases List.mem_cons.1 h with rfl | h
      · exact .inl hc
      · rcases split_mem l b h with e | ⟨p, hp, hb⟩
        · exact .inl e
        · exact .inr ⟨p, by simp [hp], hb⟩
    · rw [if_neg hc]
      have ih := split_mem l b
      cases hs : M.splitL l with
      | nil => exact absurd hs (M.splitL_ne l)
      | cons q t =>
        rw [hs] at ih
        simp only
        rcases List.mem_cons.1 h with rfl | h
        · exact .inr ⟨b :: q, by simp, by simp⟩
        · rcases ih h with e | ⟨p, hp, hb⟩
          · exact .inl e
          · rcases List.mem_cons.1 hp with rfl | hp
            · exact .inr ⟨c :: p, by simp, by simp [hb]⟩
            · exact .inr ⟨p, by simp [hp], hb⟩
theorem parts_mem {wild : Bool} : ∀ {ps : List (List UInt8)} {p : List UInt8}, M.partsL wild ps = true → p ∈ ps → ∃ last, M.partL wild last p = true
  | [], p, _, hp => by simp at hp
  | q :: ps, p, h, hp => by
    rw [M.partsL, Bool.and_eq_true] at h
    rcases List.mem_cons.1 hp with rfl | hp
    · exact ⟨_, h.1⟩
    · exact parts_mem h.2 hp
theorem path_parts {wild : Bool} {s : ByteArray} (h : M.isPathM wild s = true) : M.partsL wild (M.splitL s.data.toList) = true := by
  rw [M.isPath_L, M.isPathL, Bool.and_eq_true] at h
  exact h.2
theorem path_clean {wild : Bool} {s : ByteArray} (h : M.isPathM wild s = true) : ∀ b ∈ s.data.toList, b ≠ 0 := by
  intro b hb e
  subst e
  rcases split_mem _ _ hb with e | ⟨p, hp, hm⟩
  · exact absurd e (by decide)
  · obtain ⟨last, hl⟩ := parts_mem (path_parts h) hp
    rw [M.partL, Bool.or_eq_true] at hl
    rcases hl with hl | hl
    · rw [M.isWordL, Bool.and_eq_true, List.all_eq_true] at hl
      have := hl.1 0 hm
      exact absurd this (by decide)
    · rw [Bool.and_eq_true, Bool.or_eq_true, Bool.and_eq_true] at hl
      rcases hl.2 with e | ⟨e, _⟩
      · rw [beq_iff_eq] at e; subst e; simp at hm
      · rw [beq_iff_eq] at e; subst e; simp at hm
theorem path_some {wild : Bool} {s : ByteArray} (h : M.isPathM wild s = true) : s.toList ≠ [] := by
  intro e
  have hp := path_parts h
  rw [ByteArray.toList_eq] at e
  rw [e] at hp
  cases wild <;> exact absurd hp (by decide)

/-- The record of an operation. -/
def recD (o : OpD) : RecD :=
  if o.kind = 1 then ⟨1, o.a, o.s, 0, 0, 0, 0, 0⟩ else if o.kind = 2 then ⟨2, o.a, o.s, 0, 0, 0, 0, 0⟩ else if o.kind = 3 then ⟨3, 0, o.s, 0, o.b, o.c, o.d, 0⟩
  else if o.kind = 4 then ⟨4, 0, ⟨#[]⟩, o.b, 0, 0, 0, 0⟩ else if o.kind = 5 then ⟨5, 0, ⟨#[]⟩, o.b, 0, o.c, 0, 0⟩ else if o.kind = 6 then ⟨6, 0, ⟨#[]⟩, 0, 0, 0, 0, o.b⟩
  else ⟨7, o.a, ⟨#[]⟩, o.b, 0, 0, 0, 0⟩
def recOf (o : OpD) : ByteArray := encM (recD o)

/-- Numbers that are shown were given. -/
structure Num (S : RefS) : Prop where
  pub : 0 ≤ S.pub
  wait : ∀ m ∈ S.wait, 0 ≤ m.number ∧ m.number < S.pub
  que : ∀ a, ∀ m ∈ S.que a, 0 ≤ m.number ∧ m.number < S.pub
theorem Num.new (r : Int) : Num (refNew r) := ⟨Int.le_refl _, fun m hm => by simp [refNew] at hm, fun a m hm => by simp [refNew] at hm⟩
theorem Num.other {S S1 : RefS} (h : Num S) (e1 : S1.pub = S.pub) (e2 : S1.wait = S.wait) (e3 : S1.que = S.que) : Num S1 := ⟨by rw [e1]; exact h.pub, by rw [e1, e2]; exact h.wait, by rw [e1, e3]; exact h.que⟩
theorem Num.send {S : RefS} (h : Num S) (m : WaitD) (hm : 0 ≤ m.number ∧ m.number < S.pub) (n : Nat) : Num (sendTo S m n) := by
  obtain ⟨-, -, -, k4, -, k6, -⟩ := sendTo_keeps S m n
  refine ⟨by rw [k6]; exact h.pub, by rw [k4, k6]; exact h.wait, fun a y hy => ?_⟩
  rw [k6]
  rcases (sendTo_at S m n a).1 with e | ⟨-, e⟩
  · rw [e] at hy; exact h.que a y hy
  · rw [e] at hy
    rcases List.mem_append.1 hy with hy | hy
    · exact h.que a y hy
    · rw [List.mem_singleton] at hy; subst hy; exact hm
theorem Num.deliverN (to : Int) : ∀ (n : Nat) {S : RefS}, Num S → Num (deliverN to n S)
  | 0, S, h => h
  | n + 1, S, h => by
    unfold Go.Proofs.YtmjdndhfmfjbiaaGreat.deliverN
    split
    · exact h
    · split
      · exact h
      · rename_i x hx
        split
        · exact h
        · have h2 : Num (waited S (S.wait.filter (fun m => m.number != x.number))) := ⟨h.pub, fun m hm => h.wait m (List.mem_filter.1 hm).1, h.que⟩
          have hx2 : 0 ≤ x.number ∧ x.number < (waited S (S.wait.filter (fun m => m.number != x.number))).pub := h.wait x (List.mem_of_getElem? hx)
          have h3 := h2.send x hx2 8
          exact Num.deliverN to n h3
theorem Num.aged {S : RefS} (h : Num S) (to : Int) (n : Nat) : Num (agedTo S to n) := by
  obtain ⟨-, -, -, k4, -, k6, -, k8⟩ := aged_keeps S to n
  refine ⟨by rw [k6]; exact h.pub, by rw [k4, k6]; exact h.wait, fun a y hy => ?_⟩
  rw [k6]
  rw [k8] at hy
  split at hy
  · exact h.que a y (List.mem_filter.1 hy).1
  · exact h.que a y hy
theorem Num.turn {S : RefS} (h : Num S) (o : OpD) : Num (turnM S o) := by
  have up : ∀ S1 : RefS, S1.pub = S.pub + 1 → S1.wait = S.wait → S1.que = S.que → Num S1 := fun S1 e1 e2 e3 =>
    ⟨by rw [e1]; have := h.pub; omega, by rw [e1, e2]; exact fun m hm => by have := h.wait m hm; omega, by rw [e1, e3]; exact fun a m hm => by have := h.que a m hm; omega⟩
  unfold turnM
  split
  · exact h.other rfl rfl rfl
  split
  · exact h.other rfl rfl rfl
  split
  · split
    · exact (up { S with pub := S.pub + 1 } rfl rfl rfl).send _ ⟨h.pub, by show S.pub < S.pub + 1; omega⟩ 8
    · have u := up { S with pub := S.pub + 1 } rfl rfl rfl
      refine ⟨u.pub, fun m hm => ?_, u.que⟩
      rcases List.mem_append.1 hm with hm | hm
      · exact u.wait m hm
      · rw [List.mem_singleton] at hm; subst hm
        exact ⟨h.pub, by show S.pub < S.pub + 1; omega⟩
  split
  · exact ⟨h.pub, fun m hm => h.wait m (List.mem_filter.1 hm).1, h.que⟩
  split
  · refine ⟨h.pub, fun m hm => ?_, h.que⟩
    have hm : m ∈ moveL S.wait o.b (laterM S.time o.c) := hm
    unfold moveL at hm
    split at hm
    · rename_i y hy
      rcases List.mem_or_eq_of_mem_set hm with hm | rfl
      · exact h.wait m hm
      · exact h.wait y (List.mem_of_getElem? hy)
    · exact h.wait m hm
  split
  · exact Num.deliverN _ _ (h.aged _ 8)
  · refine ⟨h.pub, h.wait, fun a m hm => ?_⟩
    have hm : m ∈ setAt S.que o.a.toNat ((S.que o.a.toNat).filter (fun m => m.number != o.b)) a := hm
    unfold setAt at hm
    split at hm
    · exact h.que _ m (List.mem_filter.1 hm).1
    · exact h.que a m hm
theorem Num.does {S : RefS} (h : Num S) (o : OpD) : Num (doS S o) := by
  unfold doS
  split
  · have h1 : Num { S with done := S.done ++ [o] } := ⟨h.pub, h.wait, h.que⟩
    exact h1.turn o
  · exact h
theorem Num.room {S : RefS} (h : Num S) (r : Int) : Num { S with room := r } := ⟨h.pub, h.wait, h.que⟩

theorem find_mem {α : Type} {p : α → Bool} {l : List α} (h : 0 ≤ findM p l 0) : ∃ a ∈ l, p a = true := by
  obtain ⟨k, a, -, h1, h2⟩ := find_some p l 0 (by omega) h
  exact ⟨a, List.mem_of_getElem? h1, h2⟩

theorem given_rec (o : OpD) : givenM (recD o) = recD o := by
  unfold recD
  split
  · rfl
  split
  · rfl
  split
  · rfl
  split
  · rfl
  split
  · rfl
  split
  · rfl
  · rfl

theorem nil_clean : ∀ b ∈ (⟨#[]⟩ : ByteArray).data.toList, b ≠ 0 := fun b hb => by simp at hb

/-- An operation that is not wrong has a record that can be read again. -/
theorem wrong_valid {S : RefS} {o : OpD} (hn : Num S) (hp : S.pub ≤ 500) (hw : wrongM S o = 0) : Valid (recD o) := by
  have hg := given_rec o
  unfold wrongM at hw
  unfold recD at hg ⊢
  have known : ∀ a, knownB a = true → 0 ≤ a ∧ a < 256 := fun a h => by obtain ⟨n, rfl, hn⟩ := known_nat h; omega
  by_cases h1 : o.kind = 1
  · simp only [if_pos h1] at hw hg ⊢
    split at hw
    · omega
    split at hw
    · omega
    rename_i a1 a2
    have hp2 : M.isPathM true o.s = true := by simpa using a2
    exact ⟨⟨by simp, by simp⟩, known _ (by simpa using a1), path15 hp2, path_clean hp2, by simp, by simp, by simp, by simp, by simp, hg⟩
  rw [if_neg h1] at hw hg ⊢
  by_cases h2 : o.kind = 2
  · simp only [if_pos h2] at hw hg ⊢
    split at hw
    · omega
    split at hw
    · omega
    rename_i a1 a2
    have hp2 : M.isPathM true o.s = true := by simpa using a2
    exact ⟨⟨by simp, by simp⟩, known _ (by simpa using a1), path15 hp2, path_clean hp2, by simp, by simp, by simp, by simp, by simp, hg⟩
  rw [if_neg h2] at hw hg ⊢
  by_cases h3 : o.kind = 3
  · simp only [if_pos h3] at hw hg ⊢
    obtain ⟨p1, p2, p3, p4, p5, -⟩ := pub_ok hw
    exact ⟨⟨by simp, by simp⟩, by simp, path15 p1, path_clean p1, by simp, ⟨p2, by simp only; omega⟩, ⟨p4.1, by simp only; omega⟩, ⟨p5.1, by simp only; omega⟩, by simp, hg⟩
  rw [if_neg h3] at hw hg ⊢
  by_cases h4 : o.kind = 4
  · simp only [if_pos h4] at hw hg ⊢
    obtain ⟨m, hm, he⟩ := find_mem (none_ok hw)
    have hb := hn.wait m hm
    have he : m.number = o.b := by simpa using he
    exact ⟨⟨by simp, by simp⟩, by simp, Nat.zero_le _, nil_clean, ⟨by simp only; omega, by simp only; omega⟩, by simp, by simp, by simp, by simp, hg⟩
  rw [if_neg h4] at hw hg ⊢
  by_cases h5 : o.kind = 5
  · simp only [if_pos h5] at hw hg ⊢
    obtain ⟨m1, m2, m3⟩ := move_ok hw
    obtain ⟨m, hm, he⟩ := find_mem m1
    have hb := hn.wait m hm
    have he : m.number = o.b := by simpa using he
    exact ⟨⟨by simp, by simp⟩, by simp, Nat.zero_le _, nil_clean, ⟨by simp only; omega, by simp only; omega⟩, by simp, ⟨by simp only; omega, by simp only; omega⟩, by simp, by simp, hg⟩
  rw [if_neg h5] at hw hg ⊢
  by_cases h6 : o.kind = 6
  · simp only [if_pos h6] at hw hg ⊢
    unfold tickErr at hw
    split at hw
    · omega
    rename_i a1
    have ht := time_ok (t := o.b) (by simpa using a1)
    exact ⟨⟨by simp, by simp⟩, by simp, Nat.zero_le _, nil_clean, by simp, by simp, by simp, by simp, ⟨by simp only; omega, by simp only; omega⟩, hg⟩
  rw [if_neg h6] at hw hg ⊢
  split at hw
  · omega
  rename_i a1
  obtain ⟨m, hm, he⟩ := find_mem (none_ok hw)
  have hb := hn.que _ m hm
  have he : m.number = o.b := by simpa using he
  exact ⟨⟨by simp, by simp⟩, known _ (by simpa using a1), Nat.zero_le _, nil_clean, ⟨by simp only; omega, by simp only; omega⟩, by simp, by simp, by simp, by simp, hg⟩

/-- The document's state with the lists as the program keeps them. -/
def lk (S : RefS) (fil : Nat → List ByteArray) (wait : List WaitD) : RefS := { S with fil := fil, wait := wait }
theorem lk_sendOne {S : RefS} {fil : Nat → List ByteArray} {wait : List WaitD} (m : WaitD) {a : Nat} (h : (fil a).Perm (S.fil a)) : sendOne (lk S fil wait) m a = lk (sendOne S m a) fil wait := by
  unfold sendOne
  have e : fitAny ((lk S fil wait).fil a) m.topic = fitAny (S.fil a) m.topic := fitAny_perm h m.topic
  rw [e]
  split
  · show (if 10 ≤ (S.que a).length then _ else _) = _
    split
    · rfl
    · rfl
  · rfl
theorem lk_sendTo {S : RefS} {fil : Nat → List ByteArray} {wait : List WaitD} (m : WaitD) (h : ∀ a, a < 8 → (fil a).Perm (S.fil a)) : ∀ n, n ≤ 8 → sendTo (lk S fil wait) m n = lk (sendTo S m n) fil wait
  | 0, _ => rfl
  | n + 1, hn => by
    rw [sendTo, lk_sendTo m h n (by omega), sendTo]
    exact lk_sendOne m (by rw [(sendTo_keeps S m n).1]; exact h n (by omega))
theorem lk_sendAll {fil : Nat → List ByteArray} {wait : List WaitD} : ∀ (D : List WaitD) {S : RefS}, (∀ a, a < 8 → (fil a).Perm (S.fil a)) → sendAll (lk S fil wait) D = lk (sendAll S D) fil wait
  | [], _, _ => rfl
  | x :: D, S, h => by
    rw [sendAll_cons, sendAll_cons, lk_sendTo x h 8 (by omega)]
    exact lk_sendAll D (by rw [(sendTo_keeps S x 8).1]; exact h)
theorem lk_aged {S : RefS} {fil : Nat → List ByteArray} {wait : List WaitD} (to : Int) : ∀ n, agedTo (lk S fil wait) to n = lk (agedTo S to n) fil wait
  | 0 => rfl
  | n + 1 => by rw [agedTo, lk_aged to n, agedTo]; rfl
end Go.Proofs.YtmjdndhfmfjbiaaGreat

/-
  RECORDS: the program's own, walked: sum, numberOf, unfilledText, given.
-/
namespace Go.Proofs.YtmjdndhfmfjbiaaGreat
open Go.RowKit

theorem ret_str {a b : ByteArray} (h : a = b) : Ending.returned (.string a) = .returned (.string b) := by rw [h]
theorem results_cell1 {fn : Func} {p : Tmp} {ty : TypeId} (h : fn.results = #[.cell p ty]) (tmps : Array Value) (P : Program) (w : World) :
    (results fn tmps).run P w = ((asAddr (tmps.getD p undef)).run P w).andThen fun a w₁ => (loadVar ty a).run P w₁ := by
  simp only [results, h]
  simp [Sem.run_bind, Result.andThen]
theorem byte_at (s : ByteArray) (k : Nat) (h : k < s.size) : s.data.toList[k]? = some s[k] := by
  have h' : k < s.data.size := h
  rw [Array.getElem?_toList, Array.getElem?_eq_getElem h']
  rfl

set_option maxRecDepth 100000 in
set_option maxHeartbeats 1000000 in
theorem recSum (s : ByteArray) (w : World) (hs : s.size ≤ 1048576) : Calls Tryz.prog 108 #[.string s] w fun e w' => e = .returned (.int .i64 (sumA s)) ∧ w' = w := by
  go_enter Tryz.func108, Tryz.ntmps108
  go_wp2_with fail
  go_loop [3, 4] (fun t i => ∃ k : Nat, k ≤ s.size ∧ i = .int .i64 k ∧ t = .int .i64 (sumL (s.data.toList.take k))) (fun _ i => s.size - (intOf i).toNat)
  case atStart => exact ⟨0, Nat.zero_le _, rfl, rfl⟩
  case round =>
    obtain ⟨k, hk, rfl, rfl⟩ := hrel
    have hbd := sum_bd (s.data.toList.take k)
    by_cases hlt : k < s.size
    · have HS : Hid (sumL (s.data.toList.take (k + 1)) = (sumL (s.data.toList.take k) + ((s[k]'hlt).toNat : Int)) % 256) := by show _ = _; rw [List.take_add_one, byte_at s k hlt]; exact sum_snoc _ _
      have hb : ((s[k]'hlt).toNat : Int) < 256 := by have := (s[k]'hlt).toNat_lt; omega
      generalize sumL (s.data.toList.take k) = t at *
      go_wp2_with fail
      go_round
      case rel => exact ⟨k + 1, by omega, by go_num, by rw [HS.out]⟩
      case measure => simp [intOf]; omega
    · have HS : Hid (sumL (s.data.toList.take k) = sumA s) := by show _ = _; rw [List.take_of_length_le (by rw [← ba_size]; omega)]; rfl
      go_wp2_with fail
      go_ret
      exact ⟨ret_int HS.out, rfl⟩

set_option maxRecDepth 100000 in
set_option maxHeartbeats 1000000 in
theorem recNumberOf (s : ByteArray) (w : World) (hs : s.size ≤ 6) : Calls Tryz.prog 71 #[.string s] w fun e w' => e = .returned (.int .i64 (valA s)) ∧ w' = w := by
  go_enter Tryz.func71, Tryz.ntmps71
  go_wp2_with fail
  go_loop [3, 4] (fun t i => ∃ k : Nat, k ≤ s.size ∧ i = .int .i64 ((k : Int) - 1) ∧ t = .int .i64 (valM (s.data.toList.drop k))) (fun _ i => (intOf i + 1).toNat)
  case atStart => exact ⟨s.size, Nat.le_refl _, rfl, by rw [List.drop_of_length_le (by rw [← ba_size]; omega)]; rfl⟩
  case round =>
    obtain ⟨k, hk, rfl, rfl⟩ := hrel
    cases k with
    | zero =>
      go_wp2_with fail
      go_ret
      exact ⟨rfl, rfl⟩
    | succ k =>
      have hlt : k < s.size := by omega
      have HS : Hid (valM (s.data.toList.drop k) = valM (s.data.toList.drop (k + 1)) * 256 + ((s[k]'hlt).toNat : Int)) := by
        show _ = _
        rw [List.drop_eq_getElem_cons (by rw [← ba_size]; exact hlt)]
        rfl
      have hb : ((s[k]'hlt).toNat : Int) < 256 := by have := (s[k]'hlt).toNat_lt; omega
      have hv : 0 ≤ valM (s.data.toList.drop (k + 1)) ∧ valM (s.data.toList.drop (k + 1)) < 1099511627776 := by
        have h1 := val_bd (s.data.toList.drop (k + 1))
        have h2 : (s.data.toList.drop (k + 1)).length ≤ 5 := by rw [List.length_drop, ← ba_size]; omega
        have h3 : (256 : Nat) ^ (s.data.toList.drop (k + 1)).length ≤ 256 ^ 5 := Nat.pow_le_pow_right (by omega) h2
        have h4 : ((256 ^ (s.data.toList.drop (k + 1)).length : Nat) : Int) = (256 : Int) ^ (s.data.toList.drop (k + 1)).length := by simp [Int.natCast_pow]
        have h5 : (256 : Nat) ^ 5 = 1099511627776 := by decide
        omega
      have hk1 : ((k + 1 : Nat) : Int) - 1 = (k : Int) := by omega
      rw [hk1]
      clear hk1
      generalize valM (s.data.toList.drop (k + 1)) = t at *
      go_wp2_with fail
      go_round
      case rel => exact ⟨k, by omega, by go_num, by rw [HS.out]⟩
      case measure => simp [intOf]

theorem zero_at {s : ByteArray} {k : Nat} (h : k < s.size) (hz : (s[k]'h) = 0) (hb : ∀ j (hj : j < s.size), j < k → (s[j]'hj) ≠ 0) : zeroAt s = k := by
  rw [zeroAt, List.findIdx_eq (by rw [← ba_size]; exact h)]
  have g : ∀ j (hj : j < s.size), s.data.toList[j]'(by rw [← ba_size]; exact hj) = s[j] := fun j hj => by rw [Array.getElem_toList]; rfl
  refine ⟨by rw [g k h, hz]; rfl, fun j hj => ?_⟩
  have := hb j (by omega) hj
  rw [g j (by omega)]
  simpa using this
theorem zero_none {s : ByteArray} (hb : ∀ j (hj : j < s.size), (s[j]'hj) ≠ 0) : zeroAt s = s.size := by
  rw [zeroAt, ba_size]
  refine List.findIdx_eq_length.2 (fun b hm => ?_)
  obtain ⟨j, hj, rfl⟩ := List.getElem_of_mem hm
  have hj' : j < s.size := by rw [ba_size]; exact hj
  have := hb j hj'
  have g : s.data.toList[j] = s[j] := by rw [Array.getElem_toList]; rfl
  rw [g]
  simpa using this
theorem u8_zero (b : UInt8) : ((b.toNat : Int) == 0) = (b == 0) := by
  rw [Bool.eq_iff_iff]
  simp only [beq_iff_eq]
  constructor
  · intro h; exact UInt8.toNat_inj.1 (by simpa using h)
  · intro h; subst h; rfl

set_option maxRecDepth 100000 in
set_option maxHeartbeats 1000000 in
theorem recUnfilled (s : ByteArray) (w : World) (hs : s.size ≤ 1048576) : Calls Tryz.prog 72 #[.string s] w fun e w' => e = .returned (.string (unfillM s)) ∧ w' = w := by
  go_enter Tryz.func72, Tryz.ntmps72
  go_wp2_with fail
  go_loop [3] (fun i => ∃ k : Nat, k ≤ s.size ∧ i = .int .i64 k ∧ ∀ j (hj : j < s.size), j < k → (s[j]'hj) ≠ 0) (fun i => s.size - (intOf i).toNat)
  case atStart => exact ⟨0, Nat.zero_le _, rfl, fun j _ h => by omega⟩
  case round =>
    obtain ⟨k, hk, rfl, hno⟩ := hrel
    have HN : Hid (∀ j (hj : j < s.size), j < k → (s[j]'hj) ≠ 0) := hno
    clear hno
    by_cases hlt : k < s.size
    · have hz := u8_zero (s[k]'hlt)
      cases hc : ((s[k]'hlt) == 0)
      · rw [hc] at hz
        have HS : Hid (∀ j (hj : j < s.size), j < k + 1 → (s[j]'hj) ≠ 0) := fun j hj h => by
          by_cases e : j = k
          · subst e; simpa using hc
          · exact HN.out j hj (by omega)
        clear hc
        go_wp2_with fail
        go_round
        case rel => exact ⟨k + 1, by omega, by go_num, HS.out⟩
        case measure => simp [intOf]; omega
      · rw [hc] at hz
        have HS : Hid (unfillM s = s.extract 0 k) := by show _ = _; rw [unfillM, zero_at hlt (by simpa using hc) HN.out]
        clear hc
        go_wp2_with fail
        go_ret
        exact ⟨ret_str HS.out.symm, rfl⟩
    · have HS : Hid (unfillM s = s) := by
        show _ = _
        rw [unfillM, zero_none (fun j hj => HN.out j hj (by omega))]
        apply ba_ext
        rw [ba_extract, List.drop_zero, List.take_of_length_le (by rw [ba_size]; exact Nat.le_refl _)]
      go_wp2_with fail
      go_ret
      exact ⟨ret_str HS.out.symm, rfl⟩

abbrev recV (r : RecD) : Value := .agg #[.int .i64 r.call, .int .i64 r.client, .string r.text, .int .i64 r.number, .int .i64 r.value, .int .i64 r.delay, .int .i64 r.life, .int .i64 r.to]

set_option maxRecDepth 100000 in
set_option maxHeartbeats 1000000 in
theorem recGiven (r : RecD) (w : World) : Calls Tryz.prog 73 #[recV r] w fun e w' => e = .returned (recV (givenM r)) ∧ Below w.heap.size w w' := by
  obtain ⟨k, cl, tx, nu, va, de, li, to⟩ := r
  have two : ∀ o1 o2 : Obj, Below w.heap.size w ((w.alloc o1).alloc o2) := fun o1 o2 => ((Below.refl _ _).alloc (Nat.le_refl _) _).alloc (by simp) _
  have TW : Hid (∀ o1 o2 : Obj, Below w.heap.size w ((w.alloc o1).alloc o2)) := two
  clear two
  by_cases h : 1 ≤ k ∧ k ≤ 7
  · rcases (show k = 1 ∨ k = 2 ∨ k = 3 ∨ k = 4 ∨ k = 5 ∨ k = 6 ∨ k = 7 from by omega) with rfl | rfl | rfl | rfl | rfl | rfl | rfl
    all_goals
      clear h
      go_enter Tryz.func73, Tryz.ntmps73
      go_wp2_with fail
      exact bodyPost_ret (v := recV (givenM _)) (by rw [results_cell1 rfl]; go_simp; exact ⟨rfl, rfl, rfl, rfl, rfl, rfl, rfl, rfl⟩) rfl ⟨rfl, TW.out _ _⟩
  · have HE : Hid (givenM ⟨k, cl, tx, nu, va, de, li, to⟩ = nilRec) := by
      show givenM _ = nilRec
      unfold givenM
      rw [if_neg (by simp only; omega), if_neg (by simp only; omega), if_neg (by simp only; omega), if_neg (by simp only; omega), if_neg (by simp only; omega), if_neg (by simp only; omega), if_neg (by simp only; omega)]
    have n1 : (k == 1) = false := by simp; omega
    have n2 : (k == 2) = false := by simp; omega
    have n3 : (k == 3) = false := by simp; omega
    have n4 : (k == 4) = false := by simp; omega
    have n5 : (k == 5) = false := by simp; omega
    have n6 : (k == 6) = false := by simp; omega
    have n7 : (k == 7) = false := by simp; omega
    clear h
    go_enter Tryz.func73, Tryz.ntmps73
    go_wp2_with fail
    exact bodyPost_ret (v := recV nilRec) (by rw [results_cell1 rfl]; go_simp; exact ⟨rfl, rfl, rfl, rfl, rfl, rfl, rfl, rfl⟩) rfl ⟨by rw [HE.out], TW.out _ _⟩
end Go.Proofs.YtmjdndhfmfjbiaaGreat

/-
  RECORDS: the program's own, walked: numberText, filledText.
-/
namespace Go.Proofs.YtmjdndhfmfjbiaaGreat
open Go.RowKit

abbrev u8f (b : UInt8) : List Value := [Value.int .u8 (b.toNat : Int)]
theorem u8_get {l : List UInt8} {j : Nat} {b : UInt8} (h : l[j]? = some b) : (l.flatMap u8f)[j]? = some (.int .u8 (b.toNat : Int)) := by
  have := flat_get u8f 1 (fun _ => rfl) l j 0 b h (by omega)
  rw [Nat.mul_one, Nat.add_zero] at this
  exact this

/-- A row of bytes, turned into a text. -/
theorem row_text {w : World} {base : Nat} {v : Value} {l : List UInt8} (h : w.ownsRow base 5 1 v l.length (l.flatMap u8f)) (hl : 0 < l.length) : (convert 50 9 v).run Tryz.prog w = .ok (.string ⟨l.toArray⟩) w := by
  rcases h.2 with ⟨-, h0⟩ | ⟨g, cap, cur, rfl, hb, hg, rest⟩
  · omega
  · refine run_convert_bytes_back (P := Tryz.prog) w 50 9 5 ⟨g, 0, none⟩ cap l Tryz.underlying50 Tryz.underlying5 Tryz.underlying9 (fun j hj => ?_)
    exact h.cells (g := g) rfl j _ (u8_get (List.getElem?_eq_getElem hj))

set_option maxRecDepth 100000 in
set_option maxHeartbeats 1000000 in
theorem recNumberText (n : Int) (k : Nat) (w : World) (h0 : 0 ≤ n) (h1 : n ≤ 4611686018427387904) (hk0 : 0 < k) (hk : k ≤ 6) : Calls Tryz.prog 106 #[.int .i64 n, .int .i64 (k : Int)] w fun e w' => e = .returned (.string (leA n k)) ∧ Below w.heap.size w w' := by
  obtain ⟨i0, hi, hz0, hz1, hz2⟩ := info_parts infoU8
  go_enter Tryz.func106, Tryz.ntmps106
  go_wp2_with fail
  go_loopw [0, 5, 6] (fun t v i wr => ∃ j : Nat, j ≤ k ∧ i = .int .i64 j ∧ t = .int .i64 (n / 256 ^ j) ∧ wr.ownsRow w.heap.size 5 1 v (leM n j).length ((leM n j).flatMap u8f) ∧ Below w.heap.size w wr) (fun _ _ i _ => k - (intOf i).toNat)
  case atStart => exact ⟨0, Nat.zero_le _, rfl, by simp, World.ownsRow_nil _ _ _ _, Below.refl _ _⟩
  case round =>
    obtain ⟨j, hj, rfl, rfl, hown, hbr⟩ := hrel
    have hsz := hbr.size
    have hlen := le_len n j
    have hq0 : 0 ≤ n / 256 ^ j := Int.ediv_nonneg h0 (Int.pow_nonneg (by omega))
    have hq1 : n / 256 ^ j ≤ n := Int.ediv_le_self _ h0
    by_cases hlt : j < k
    · have HK : Hid (leM n (j + 1) = leM n j ++ [UInt8.ofNat (n / 256 ^ j % 256).toNat]) := le_snoc n j
      have HQ : Hid (n / 256 ^ (j + 1) = n / 256 ^ j / 256) := by
        show _ = _
        rw [Int.ediv_ediv_of_nonneg (Int.pow_nonneg (by omega)), Int.pow_succ]
      have HB : Hid (u8f (UInt8.ofNat (n / 256 ^ j % 256).toNat) = [.int .u8 (n / 256 ^ j % 256)]) := by show u8f _ = _; rw [u8f, byte_back]
      have hlj : (leM n j).length ≤ 6 := by omega
      clear hlen
      generalize hT : leM n j = T at *
      generalize hQ : n / 256 ^ j = q at *
      clear hT hQ
      go_wp2_with (first | (at_builtin; refine wpList_append_own _ rfl _ _ 50 rfl w.heap.size 5 i0 _ 1 1 Tryz.underlying50 hi hz0 hz1 hz2 rfl (by decide) _ _ _ rfl (hown.alloc _) ⟨wr.heap.size, 0, none⟩ 1 1 [.int .u8 (q % 256)] rfl rfl (cells_new _ _ _) (by simp [Value.oneCell']) (by unfold maxLen; omega) (by omega) (by simp; omega) ?_))
      intro v' w1 hown' hgrow _
      rw [← HB.out] at hown'
      have R := grow_row (f := u8f) hown hbr hown' hgrow
      clear hown' hgrow hown
      go_wp2_with fail
      go_roundw
      case rel => exact ⟨j + 1, by omega, by go_num, by rw [HQ.out], by rw [HK.out]; exact R.1, R.2⟩
      case measure => simp [intOf]; omega
    · obtain rfl : j = k := by omega
      have hcv := row_text hown (by omega)
      have HL : Hid (leA n j = ⟨(leM n j).toArray⟩) := rfl
      clear hown hlen
      go_wp2_with fail
      go_ret
      exact ⟨ret_str HL.out.symm, hbr⟩

/-- A row of bytes of one's own, with room that may be written. -/
structure BRow (w : World) (g cap : Nat) (l : List UInt8) : Prop where
  le : l.length ≤ cap
  max : cap ≤ maxLen
  cells : ∀ j b, l[j]? = some b → w.cell? ⟨g, j, none⟩ = some (.int .u8 (b.toNat : Int))
  free : ∀ j, j < cap → (w.cell? ⟨g, j, none⟩).isSome = true ∧ w.frozen? ⟨g, j, none⟩ = false
end Go.Proofs.YtmjdndhfmfjbiaaGreat
