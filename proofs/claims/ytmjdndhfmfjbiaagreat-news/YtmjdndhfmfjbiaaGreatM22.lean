import Derived.Test.YtmjdndhfmfjbiaaGreatM11
import Derived.Test.YtmjdndhfmfjbiaaGreatM14
import Derived.Test.YtmjdndhfmfjbiaaGreatM01
import Derived.Laws.Strings
import Derived.WalkKit
/-
  Lists that are kept in their order, and the document's picking of the least: the same.
-/
namespace Go.Proofs.YtmjdndhfmfjbiaaGreat
open Go.RowKit

theorem tl_inj {f g : ByteArray} (h : f.toList = g.toList) : f = g := by
  rw [ByteArray.toList_eq, ByteArray.toList_eq] at h
  exact ByteArray.ext (Array.toList_inj.1 h)
theorem tl_empty : (⟨#[]⟩ : ByteArray).toList = [] := by rw [ByteArray.toList_eq]
theorem tl_nil {f : ByteArray} (h : f.toList = []) : f = ⟨#[]⟩ := tl_inj (by rw [h, tl_empty])

theorem less_irrefl : ∀ x : List UInt8, Op.bytesLess x x = false
  | [] => rfl
  | a :: x => by simp [Op.bytesLess, less_irrefl x]
theorem less_trans : ∀ {x y z : List UInt8}, Op.bytesLess x y = true → Op.bytesLess y z = true → Op.bytesLess x z = true
  | _, [], _, h, _ => by simp [Op.bytesLess] at h
  | _, _ :: _, [], _, h => by simp [Op.bytesLess] at h
  | [], _ :: _, _ :: _, _, _ => rfl
  | a :: x, b :: y, c :: z, h1, h2 => by
    simp only [Op.bytesLess, Bool.or_eq_true, decide_eq_true_eq, Bool.and_eq_true, beq_iff_eq] at h1 h2 ⊢
    rcases h1 with h1 | ⟨rfl, h1⟩
    · rcases h2 with h2 | ⟨rfl, h2⟩
      · exact .inl (UInt8.lt_trans h1 h2)
      · exact .inl h1
    · rcases h2 with h2 | ⟨rfl, h2⟩
      · exact .inl h2
      · exact .inr ⟨rfl, less_trans h1 h2⟩
theorem less_total : ∀ (x y : List UInt8), x = y ∨ Op.bytesLess x y = true ∨ Op.bytesLess y x = true
  | [], [] => .inl rfl
  | [], _ :: _ => .inr (.inl rfl)
  | _ :: _, [] => .inr (.inr rfl)
  | a :: x, b :: y => by
    simp only [Op.bytesLess, Bool.or_eq_true, decide_eq_true_eq, Bool.and_eq_true, beq_iff_eq]
    rcases UInt8.lt_or_lt_of_ne (a := a) (b := b) |> fun h => (Classical.em (a = b)).imp id h with rfl | h | h
    · rcases less_total x y with rfl | h | h
      · exact .inl rfl
      · exact .inr (.inl (.inr ⟨rfl, h⟩))
      · exact .inr (.inr (.inr ⟨rfl, h⟩))
    · exact .inr (.inl (.inl h))
    · exact .inr (.inr (.inl h))

theorem lt_irrefl (f : ByteArray) : ltB f f = false := less_irrefl _
theorem lt_trans {f g h : ByteArray} (a : ltB f g = true) (b : ltB g h = true) : ltB f h = true := less_trans a b
theorem lt_asymm {f g : ByteArray} (a : ltB f g = true) : ltB g f = false := by
  cases h : ltB g f with
  | false => rfl
  | true => have := lt_trans a h; rw [lt_irrefl] at this; cases this
theorem lt_total (f g : ByteArray) : f = g ∨ ltB f g = true ∨ ltB g f = true := by
  rcases less_total f.toList g.toList with h | h | h
  · exact .inl (tl_inj h)
  · exact .inr (.inl h)
  · exact .inr (.inr h)
theorem gt_lt (f g : ByteArray) : gtB f g = ltB g f := by
  rcases lt_total f g with rfl | h | h
  · simp [gtB, lt_irrefl]
  · rw [lt_asymm h]
    have : Op.bytesLess f.toList g.toList = true := h
    simp [gtB, this]
  · rw [h]
    have h1 : Op.bytesLess f.toList g.toList = false := lt_asymm h
    have h2 : f.toList ≠ g.toList := fun e => by have := tl_inj e; subst this; rw [lt_irrefl] at h; cases h
    simp [gtB, h1, h2]
theorem empty_lt {f : ByteArray} (h : f.toList ≠ []) : ltB ⟨#[]⟩ f = true := by
  unfold ltB
  rw [tl_empty]
  cases hf : f.toList with
  | nil => exact absurd hf h
  | cons a l => rfl

/-- What is picked of the first k. -/
theorem pick_spec {L : List ByteArray} (hne : ∀ f ∈ L, f.toList ≠ []) (last : ByteArray) : ∀ k, k ≤ L.length →
    (pickTo L last k = ⟨#[]⟩ ∧ ∀ f ∈ L.take k, ltB last f = false) ∨ (pickTo L last k ∈ L.take k ∧ ltB last (pickTo L last k) = true ∧ ∀ f ∈ L.take k, ltB last f = true → f = pickTo L last k ∨ ltB (pickTo L last k) f = true)
  | 0, _ => .inl ⟨rfl, fun f hf => by simp at hf⟩
  | k + 1, hk => by
    have hx : L[k]? = some L[k] := List.getElem?_eq_getElem (by omega)
    generalize hf : L[k] = f at hx
    have hmem : f ∈ L := List.mem_of_getElem? hx
    rw [pick_step hx, List.take_add_one, hx]
    simp only [Option.toList_some, takesB, gt_lt]
    have hpn : ∀ g, g ∈ L.take k → g.toList.isEmpty = false := fun g hg => by
      have := hne g (List.mem_of_mem_take hg)
      cases h : g.toList with
      | nil => exact absurd h this
      | cons _ _ => rfl
    cases hl : ltB last f with
    | false =>
      simp only [Bool.false_and, Bool.false_eq_true, if_false]
      rcases pick_spec hne last k (by omega) with ⟨h1, h2⟩ | ⟨h1, h2, h3⟩
      · refine .inl ⟨h1, fun g hg => ?_⟩
        rcases List.mem_append.1 hg with hg | hg
        · exact h2 g hg
        · simp at hg; subst hg; exact hl
      · refine .inr ⟨List.mem_append_left _ h1, h2, fun g hg hlt => ?_⟩
        rcases List.mem_append.1 hg with hg | hg
        · exact h3 g hg hlt
        · simp at hg; subst hg; rw [hl] at hlt; cases hlt
    | true =>
      rcases pick_spec hne last k (by omega) with ⟨h1, h2⟩ | ⟨h1, h2, h3⟩
      · have he : (pickTo L last k).toList.isEmpty = true := by rw [h1, tl_empty]; rfl
        rw [he]
        simp only [Bool.true_or, Bool.and_self, if_true]
        refine .inr ⟨by simp, hl, fun g hg hlt => ?_⟩
        rcases List.mem_append.1 hg with hg | hg
        · rw [h2 g hg] at hlt; cases hlt
        · simp at hg; exact .inl hg
      · rw [hpn _ h1]
        simp only [Bool.true_and, Bool.false_or]
        cases hb : ltB f (pickTo L last k) with
        | true =>
          simp only [if_true]
          refine .inr ⟨by simp, hl, fun g hg hlt => ?_⟩
          rcases List.mem_append.1 hg with hg | hg
          · rcases h3 g hg hlt with rfl | h
            · exact .inr hb
            · exact .inr (lt_trans hb h)
          · simp at hg; exact .inl hg
        | false =>
          simp only [Bool.false_eq_true, if_false]
          refine .inr ⟨List.mem_append_left _ h1, h2, fun g hg hlt => ?_⟩
          rcases List.mem_append.1 hg with hg | hg
          · exact h3 g hg hlt
          · simp at hg
            subst hg
            rcases lt_total g (pickTo L last k) with h | h | h
            · exact .inl h
            · rw [h] at hb; cases hb
            · exact .inr h

/-- Texts, each less than the next. -/
abbrev SortedT (l : List ByteArray) : Prop := l.Pairwise (fun a b => ltB a b = true)

theorem sorted_lt {l : List ByteArray} (h : SortedT l) {i j : Nat} {a b : ByteArray} (hij : i < j) (ha : l[i]? = some a) (hb : l[j]? = some b) : ltB a b = true := by
  obtain ⟨hi, rfl⟩ := List.getElem?_eq_some_iff.1 ha
  obtain ⟨hj, rfl⟩ := List.getElem?_eq_some_iff.1 hb
  exact List.pairwise_iff_getElem.1 h i j hi hj hij

theorem sel_sorted {L Q : List ByteArray} (hne : ∀ f ∈ L, f.toList ≠ []) (hs : SortedT Q) (hp : Q.Perm L) : ∀ n, n ≤ Q.length → (selTo L n).1 = Q.take n ∧ ((n = 0 ∧ (selTo L n).2 = ⟨#[]⟩) ∨ ∃ m, n = m + 1 ∧ Q[m]? = some (selTo L n).2)
  | 0, _ => ⟨rfl, .inl ⟨rfl, rfl⟩⟩
  | n + 1, hn => by
    obtain ⟨ih1, ih2⟩ := sel_sorted hne hs hp n (by omega)
    have hq : Q[n]? = some Q[n] := List.getElem?_eq_getElem (by omega)
    generalize hf : Q[n] = q at hq
    have hqL : q ∈ L := hp.mem_iff.1 (List.mem_of_getElem? hq)
    -- what stands ahead is not above the last, what is left is
    have habove : ∀ i f, Q[i]? = some f → (ltB (selTo L n).2 f = true ↔ n ≤ i) := by
      intro i f hi
      have hfL : f ∈ L := hp.mem_iff.1 (List.mem_of_getElem? hi)
      rcases ih2 with ⟨rfl, h2⟩ | ⟨m, rfl, h2⟩
      · rw [h2]
        exact ⟨fun _ => Nat.zero_le _, fun _ => empty_lt (hne f hfL)⟩
      · constructor
        · intro h
          rcases Nat.lt_or_ge m i with h3 | h3
          · omega
          · rcases Nat.lt_or_eq_of_le h3 with h4 | h4
            · have := lt_asymm (sorted_lt hs h4 hi h2)
              rw [h] at this; cases this
            · subst h4
              rw [h2] at hi
              cases hi
              rw [lt_irrefl] at h; cases h
        · intro h
          exact sorted_lt hs (by omega) h2 hi
    have hpick : pickTo L (selTo L n).2 L.length = q := by
      rcases pick_spec hne (selTo L n).2 L.length (Nat.le_refl _) with ⟨-, h2⟩ | ⟨h1, h2, h3⟩
      · rw [List.take_length] at h2
        have := h2 q hqL
        rw [(habove n q hq).2 (Nat.le_refl _)] at this; cases this
      · rw [List.take_length] at h1 h3
        rcases h3 q hqL ((habove n q hq).2 (Nat.le_refl _)) with h | h
        · exact h.symm
        · obtain ⟨i, hi⟩ := List.getElem?_of_mem (hp.mem_iff.2 h1)
          have hin := (habove i _ hi).1 h2
          rcases Nat.lt_or_eq_of_le hin with h4 | h4
          · have := lt_asymm (sorted_lt hs h4 hq hi)
            rw [h] at this; cases this
          · subst h4
            rw [hq] at hi
            cases hi
            simp [lt_irrefl] at h
    refine ⟨?_, .inr ⟨n, rfl, ?_⟩⟩
    · rw [selTo, hpick, ih1, List.take_add_one, hq]
      rfl
    · rw [selTo, hpick]
      exact hq

/-- The document's list of filters is the one that is kept in order. -/
theorem sel_eq {L Q : List ByteArray} (hne : ∀ f ∈ L, f.toList ≠ []) (hs : SortedT Q) (hp : Q.Perm L) : (selTo L L.length).1 = Q := by
  have := (sel_sorted hne hs hp Q.length (Nat.le_refl _)).1
  rw [← hp.length_eq, this, List.take_length]
end Go.Proofs.YtmjdndhfmfjbiaaGreat

namespace Go.Proofs.YtmjdndhfmfjbiaaGreat
open Go.RowKit

theorem ahead_irrefl (x : WaitD) : aheadB x x = false := by simp [aheadB]
theorem ahead_trans {x y z : WaitD} (h1 : aheadB x y = true) (h2 : aheadB y z = true) : aheadB x z = true := by
  simp only [aheadB, Bool.or_eq_true, decide_eq_true_eq, Bool.and_eq_true, beq_iff_eq] at *
  omega
theorem ahead_asymm {x y : WaitD} (h1 : aheadB x y = true) : aheadB y x = false := by
  cases h : aheadB y x with
  | false => rfl
  | true => have := ahead_trans h1 h; rw [ahead_irrefl] at this; cases this
theorem ahead_total {x y : WaitD} (h : x.number ≠ y.number) : aheadB x y = true ∨ aheadB y x = true := by
  simp only [aheadB, Bool.or_eq_true, decide_eq_true_eq, Bool.and_eq_true, beq_iff_eq]
  omega
theorem ahead_le {x y : WaitD} (h : aheadB x y = true) : x.deadline ≤ y.deadline := by
  simp only [aheadB, Bool.or_eq_true, decide_eq_true_eq, Bool.and_eq_true, beq_iff_eq] at h
  omega

/-- The best is ahead of the others. -/
theorem best_min {l : List WaitD} : ∀ k, k ≤ l.length → ∀ b y, bestTo l k = some b → l[b]? = some y → ∀ x ∈ l.take k, aheadB x y = false
  | 0, _, b, y, h, _ => by simp [bestTo] at h
  | k + 1, hk, b, y, h, hy => by
    have hx : l[k]? = some l[k] := List.getElem?_eq_getElem (by omega)
    generalize hz : l[k] = z at hx
    intro x hxm
    rw [List.take_add_one, hx] at hxm
    cases hb : bestTo l k with
    | none =>
      rw [best_first hx hb] at h
      cases h
      have hk0 : k = 0 := by
        cases k with
        | zero => rfl
        | succ k =>
          obtain ⟨b', hb'⟩ := best_some l (k + 1) (by omega) (by omega)
          rw [hb'] at hb; cases hb
      subst hk0
      simp at hxm
      rw [hx] at hy
      cases hy
      subst hxm
      exact ahead_irrefl _
    | some b' =>
      have hb'l := best_lt l k b' hb
      obtain ⟨y', hy'⟩ : ∃ y', l[b']? = some y' := ⟨_, List.getElem?_eq_getElem (by omega)⟩
      have ih := best_min k (by omega) b' y' hb hy'
      rw [best_next hx hb hy'] at h
      cases ha : aheadB z y' with
      | true =>
        rw [ha] at h
        simp only [if_true, Option.some.injEq] at h
        subst h
        rw [hx] at hy
        cases hy
        rcases List.mem_append.1 hxm with hm | hm
        · have h1 := ih x hm
          cases h2 : aheadB x y with
          | false => rfl
          | true => have := ahead_trans h2 ha; rw [h1] at this; cases this
        · simp at hm; subst hm; exact ahead_irrefl _
      | false =>
        rw [ha] at h
        simp only [Bool.false_eq_true, if_false, Option.some.injEq] at h
        subst h
        rw [hy'] at hy
        cases hy
        rcases List.mem_append.1 hxm with hm | hm
        · exact ih x hm
        · simp at hm; subst hm; exact ha

theorem set_perm {α : Type} : ∀ (l : List α) (b : Nat) (x z : α), l[b]? = some x → (x :: l.set b z).Perm (z :: l)
  | [], b, x, z, h => by simp at h
  | a :: t, 0, x, z, h => by
    simp at h
    subst h
    exact List.Perm.swap _ _ _
  | a :: t, b + 1, x, z, h => by
    rw [List.getElem?_cons_succ] at h
    rw [List.set_cons_succ]
    exact ((List.Perm.swap _ _ _).trans ((set_perm t b x z h).cons a)).trans (List.Perm.swap _ _ _)

theorem pop_perm {l : List WaitD} {b : Nat} {x : WaitD} (h : l[b]? = some x) : (x :: popAt l b).Perm l := by
  obtain ⟨hb, -⟩ := List.getElem?_eq_some_iff.1 h
  have hne : l ≠ [] := fun e => by subst e; simp at hb
  unfold popAt
  rw [List.getLast?_eq_some_getLast hne]
  simp only
  generalize hz : l.getLast hne = z
  have hp := set_perm l b x z h
  have hne2 : l.set b z ≠ [] := fun e => by have := congrArg List.length e; simp at this; exact hne this
  have hz' : l[l.length - 1]? = some z := by rw [← List.getLast?_eq_getElem?, List.getLast?_eq_some_getLast hne, hz]
  have hl : (l.set b z).getLast hne2 = z := by
    have h3 : (l.set b z).getLast? = some z := by
      rw [List.getLast?_eq_getElem?, List.length_set, List.getElem?_set]
      split
      · rfl
      · exact hz'
    rw [List.getLast?_eq_some_getLast hne2] at h3
    exact Option.some.inj h3
  have hd : (l.set b z).dropLast ++ [z] = l.set b z := by
    have := List.dropLast_concat_getLast hne2
    rw [hl] at this
    exact this
  rw [← hd] at hp
  have h2 : (z :: (x :: (l.set b z).dropLast)).Perm (z :: l) := (List.Perm.trans (by
    have : (x :: ((l.set b z).dropLast ++ [z])) = (x :: (l.set b z).dropLast) ++ [z] := rfl
    rw [this]
    exact (List.perm_append_comm (l₁ := [z]))) hp)
  exact h2.cons_inv

/-- Messages, each sent ahead of the next. -/
abbrev SortedW (l : List WaitD) : Prop := l.Pairwise (fun a b => aheadB a b = true)

/-- The best of a list is the head of the same that is kept in order. -/
theorem best_head {l Q : List WaitD} {p : WaitD} (hs : SortedW (p :: Q)) (hp : (p :: Q).Perm l) : ∃ b, bestTo l l.length = some b ∧ l[b]? = some p := by
  have hlen : 0 < l.length := by rw [← hp.length_eq]; simp
  obtain ⟨b, hb⟩ := best_some l l.length hlen (Nat.le_refl _)
  have hbl := best_lt l _ b hb
  obtain ⟨y, hy⟩ : ∃ y, l[b]? = some y := ⟨_, List.getElem?_eq_getElem hbl⟩
  have hmin := best_min l.length (Nat.le_refl _) b y hb hy
  rw [List.take_length] at hmin
  have hyl : y ∈ p :: Q := hp.mem_iff.2 (List.mem_of_getElem? hy)
  rcases List.mem_cons.1 hyl with rfl | hyQ
  · exact ⟨b, hb, hy⟩
  · have h1 := (List.pairwise_cons.1 hs).1 y hyQ
    rw [hmin p (hp.mem_iff.1 (by simp))] at h1
    cases h1

/-- What waits, by the document, is the list that is kept in order. -/
theorem selN_eq : ∀ {Q l : List WaitD}, SortedW Q → Q.Perm l → selN l.length l = Q
  | [], l, _, hp => by
    have : l = [] := hp.symm.eq_nil
    subst this; rfl
  | p :: Q, l, hs, hp => by
    obtain ⟨b, hb, hy⟩ := best_head hs hp
    rw [sel_step hb hy]
    congr 1
    exact selN_eq (List.pairwise_cons.1 hs).2 ((hp.trans (pop_perm hy).symm).cons_inv)
end Go.Proofs.YtmjdndhfmfjbiaaGreat

namespace Go.Proofs.YtmjdndhfmfjbiaaGreat
open Go.RowKit

/-- A thing more, in its place: ahead of the first that it goes ahead of. -/
def insM {α : Type} (lt : α → α → Bool) (x : α) : List α → List α
  | [] => [x]
  | y :: l => if lt x y then x :: y :: l else y :: insM lt x l

theorem ins_perm {α : Type} (lt : α → α → Bool) (x : α) : ∀ l : List α, (insM lt x l).Perm (x :: l)
  | [] => List.Perm.refl _
  | y :: l => by
    rw [insM]
    split
    · exact List.Perm.refl _
    · exact ((ins_perm lt x l).cons y).trans (List.Perm.swap _ _ _)

theorem ins_sorted {α : Type} {lt : α → α → Bool} (htr : ∀ a b c, lt a b = true → lt b c = true → lt a c = true) {x : α} : ∀ {l : List α}, l.Pairwise (fun a b => lt a b = true) → (∀ y ∈ l, lt x y = true ∨ lt y x = true) → (insM lt x l).Pairwise (fun a b => lt a b = true)
  | [], _, _ => by simp [insM]
  | y :: l, hs, ht => by
    obtain ⟨h1, h2⟩ := List.pairwise_cons.1 hs
    rw [insM]
    split
    · rename_i hxy
      refine List.pairwise_cons.2 ⟨fun z hz => ?_, hs⟩
      rcases List.mem_cons.1 hz with rfl | hz
      · exact hxy
      · exact htr _ _ _ hxy (h1 z hz)
    · rename_i hxy
      refine List.pairwise_cons.2 ⟨fun z hz => ?_, ins_sorted htr h2 (fun w hw => ht w (by simp [hw]))⟩
      rcases List.mem_cons.1 ((ins_perm lt x l).mem_iff.1 hz) with rfl | hz
      · rcases ht y (by simp) with h | h
        · exact absurd h hxy
        · exact h
      · exact h1 z hz

/-- The list as a loop lays it: what stands ahead of the thing; the thing, where it is placed; what stands behind. -/
def insTo {α : Type} (lt : α → α → Bool) (x : α) (l : List α) : Nat → List α × Bool
  | 0 => ([], false)
  | k + 1 => match l[k]? with
    | none => insTo lt x l k
    | some y => if !(insTo lt x l k).2 && lt x y then ((insTo lt x l k).1 ++ [x] ++ [y], true) else ((insTo lt x l k).1 ++ [y], (insTo lt x l k).2)
theorem insTo_step {α : Type} {lt : α → α → Bool} {x y : α} {l : List α} {k : Nat} (h : l[k]? = some y) : insTo lt x l (k + 1) = if !(insTo lt x l k).2 && lt x y then ((insTo lt x l k).1 ++ [x] ++ [y], true) else ((insTo lt x l k).1 ++ [y], (insTo lt x l k).2) := by
  rw [insTo, h]
theorem insTo_len {α : Type} (lt : α → α → Bool) (x : α) (l : List α) : ∀ k, (insTo lt x l k).1.length ≤ k + 1 ∧ ((insTo lt x l k).2 = false → (insTo lt x l k).1.length ≤ k)
  | 0 => ⟨by simp [insTo], fun _ => by simp [insTo]⟩
  | k + 1 => by
    obtain ⟨h1, h2⟩ := insTo_len lt x l k
    rw [insTo]
    cases l[k]? with
    | none => exact ⟨by simp only; omega, fun h => by have := h2 h; simp only; omega⟩
    | some y =>
      simp only
      split
      · rename_i h
        simp only [Bool.and_eq_true, Bool.not_eq_true'] at h
        have := h2 h.1
        exact ⟨by simp; omega, fun h => by cases h⟩
      · exact ⟨by simp; omega, fun h => by have := h2 h; simp; omega⟩

/-- What the loop has laid is the inserted list's beginning. -/
theorem insTo_spec {α : Type} (lt : α → α → Bool) (x : α) (l : List α) : ∀ k, k ≤ l.length →
    ((insTo lt x l k).2 = true → insM lt x l = (insTo lt x l k).1 ++ l.drop k) ∧ ((insTo lt x l k).2 = false → (insTo lt x l k).1 = l.take k ∧ insM lt x l = l.take k ++ insM lt x (l.drop k))
  | 0, _ => ⟨fun h => (by cases h), fun _ => ⟨rfl, rfl⟩⟩
  | k + 1, hk => by
    have hy : l[k]? = some l[k] := List.getElem?_eq_getElem (by omega)
    have hd : l.drop k = l[k] :: l.drop (k + 1) := List.drop_eq_getElem_cons (by omega)
    generalize l[k] = y at hy hd
    obtain ⟨h1, h2⟩ := insTo_spec lt x l k (by omega)
    rw [insTo_step hy]
    cases hp : (insTo lt x l k).2 with
    | true =>
      simp only [Bool.not_true, Bool.false_and, Bool.false_eq_true, if_false]
      refine ⟨fun _ => ?_, fun h => by cases h⟩
      rw [h1 hp, hd, List.append_assoc]
      rfl
    | false =>
      obtain ⟨h3, h4⟩ := h2 hp
      cases hxy : lt x y with
      | true =>
        simp only [Bool.not_false, Bool.and_self, if_true]
        refine ⟨fun _ => ?_, fun h => by cases h⟩
        rw [h4, h3, hd, insM, if_pos hxy]
        simp
      | false =>
        simp only [Bool.not_false, Bool.and_false, Bool.false_eq_true, if_false]
        refine ⟨fun h => (by cases h), fun _ => ?_⟩
        have ht : l.take (k + 1) = l.take k ++ [y] := by rw [List.take_add_one, hy]; rfl
        refine ⟨by rw [h3, ht], ?_⟩
        rw [h4, hd, insM, hxy, ht]
        simp
/-- .. and at the end the whole of it. -/
theorem insTo_end {α : Type} (lt : α → α → Bool) (x : α) (l : List α) : insM lt x l = if (insTo lt x l l.length).2 then (insTo lt x l l.length).1 else (insTo lt x l l.length).1 ++ [x] := by
  obtain ⟨h1, h2⟩ := insTo_spec lt x l l.length (Nat.le_refl _)
  cases hp : (insTo lt x l l.length).2 with
  | true => rw [h1 hp]; simp
  | false =>
    obtain ⟨h3, h4⟩ := h2 hp
    rw [h4, h3]
    simp [insM]
end Go.Proofs.YtmjdndhfmfjbiaaGreat

namespace Go.Proofs.YtmjdndhfmfjbiaaGreat
open Go.RowKit

/-- What waits is nothing to what is sent. -/
def waited (T : RefS) (W : List WaitD) : RefS := { T with wait := W }
theorem waited_same (T : RefS) : waited T T.wait = T := rfl
theorem waited_twice (T : RefS) (V W : List WaitD) : waited (waited T V) W = waited T W := rfl
theorem sendOne_wait (T : RefS) (m : WaitD) (a : Nat) (W : List WaitD) : sendOne (waited T W) m a = waited (sendOne T m a) W := by
  unfold sendOne waited
  simp only
  split
  · split <;> rfl
  · rfl
theorem sendTo_wait (T : RefS) (m : WaitD) (W : List WaitD) : ∀ a, sendTo (waited T W) m a = waited (sendTo T m a) W
  | 0 => rfl
  | a + 1 => by rw [sendTo, sendTo, sendTo_wait T m W a, sendOne_wait]
/-- Messages are sent, one by one. -/
def sendAll (T : RefS) (D : List WaitD) : RefS := D.foldl (fun T x => sendTo T x 8) T
theorem sendAll_cons (T : RefS) (x : WaitD) (D : List WaitD) : sendAll T (x :: D) = sendAll (sendTo T x 8) D := by
  unfold sendAll
  rw [List.foldl_cons]
theorem sendAll_wait (W : List WaitD) : ∀ (D : List WaitD) (T : RefS), sendAll (waited T W) D = waited (sendAll T D) W
  | [], _ => rfl
  | x :: D, T => by
    rw [sendAll_cons, sendAll_cons, sendTo_wait, sendAll_wait W D]
theorem sendAll_snoc (T : RefS) (D : List WaitD) (x : WaitD) : sendAll T (D ++ [x]) = sendTo (sendAll T D) x 8 := by simp [sendAll]

def dueB (to : Int) (x : WaitD) : Bool := decide (x.deadline ≤ to)

/-- A Tick's sending, out of the list that is kept in order. -/
theorem deliver_sorted (to : Int) : ∀ (Q : List WaitD) (T : RefS) (n : Nat), SortedW Q → Q.Pairwise (fun a b => a.number ≠ b.number) → Q.Perm T.wait → Q.length ≤ n →
    ∃ W, deliverN to n T = waited (sendAll T (Q.filter (dueB to))) W ∧ (Q.filter (fun x => !dueB to x)).Perm W
  | [], T, n, _, _, hp, _ => by
    have hw : T.wait = [] := hp.symm.eq_nil
    refine ⟨T.wait, ?_, by rw [hw]; exact List.Perm.refl _⟩
    show deliverN to n T = T
    cases n with
    | zero => rfl
    | succ n => rw [deliverN, hw]; rfl
  | p :: Q, T, 0, _, _, _, hn => by simp at hn
  | p :: Q, T, n + 1, hs, hd, hp, hn => by
    obtain ⟨b, hb, hy⟩ := best_head hs hp
    obtain ⟨s1, s2⟩ := List.pairwise_cons.1 hs
    obtain ⟨d1, d2⟩ := List.pairwise_cons.1 hd
    rw [deliverN, hb]
    simp only [hy]
    by_cases ht : to < p.deadline
    · rw [if_pos ht]
      have hall : ∀ q ∈ p :: Q, dueB to q = false := fun q hq => by
        rcases List.mem_cons.1 hq with rfl | hq
        · simp [dueB]; omega
        · have := ahead_le (s1 q hq)
          simp [dueB]; omega
      refine ⟨T.wait, ?_, ?_⟩
      · rw [List.filter_eq_nil_iff.2 (fun q hq => by simp [hall q hq])]
        rfl
      · rw [List.filter_eq_self.2 (fun q hq => by simp [hall q hq])]
        exact hp
    · rw [if_neg ht]
      have hdp : dueB to p = true := by simp [dueB]; omega
      have hT : sendTo { T with wait := T.wait.filter (fun m => m.number != p.number) } p 8 = waited (sendTo T p 8) (T.wait.filter (fun m => m.number != p.number)) := sendTo_wait T p _ 8
      have hQ : Q.Perm (T.wait.filter (fun m => m.number != p.number)) := by
        have h1 := hp.filter (fun m => m.number != p.number)
        rw [List.filter_cons_of_neg (by simp)] at h1
        rw [List.filter_eq_self.2 (fun q hq => by simp; exact fun e => d1 q hq e.symm)] at h1
        exact h1
      obtain ⟨W, h1, h2⟩ := deliver_sorted to Q (waited (sendTo T p 8) (T.wait.filter (fun m => m.number != p.number))) n s2 d2 hQ (by simpa using hn)
      refine ⟨W, ?_, ?_⟩
      · rw [hT, h1, sendAll_wait, waited_twice, List.filter_cons_of_pos hdp, sendAll_cons]
      · rw [List.filter_cons_of_neg (by simp [hdp])]
        exact h2

/-- Who has a filter that fits does not hang on the filters' order. -/
theorem fitAny_perm {A B : List ByteArray} (h : A.Perm B) (t : ByteArray) : fitAny A t = fitAny B t := by
  unfold fitAny
  exact h.any_eq

theorem find_neg {α : Type} (p : α → Bool) : ∀ (l : List α) (i : Int), 0 ≤ i → (findM p l i < 0 ↔ ∀ a ∈ l, p a = false)
  | [], i, _ => by simp [findM]
  | a :: l, i, hi => by
    rw [findM]
    split
    · rename_i h
      constructor
      · intro h'; omega
      · intro h'; have := h' a (by simp); rw [h] at this; cases this
    · rename_i h
      rw [find_neg p l (i + 1) (by omega)]
      constructor
      · intro h' b hb
        rcases List.mem_cons.1 hb with rfl | hb
        · simpa using h
        · exact h' b hb
      · intro h' b hb
        exact h' b (by simp [hb])
theorem find_has {α : Type} (p : α → Bool) (l : List α) : decide (findM p l 0 < 0) = !l.any p := by
  have h := find_neg p l 0 (by omega)
  cases ha : l.any p with
  | true =>
    obtain ⟨a, hm, hp⟩ := List.any_eq_true.1 ha
    simp only [Bool.not_true, decide_eq_false_iff_not]
    intro hn
    have := h.1 hn a hm
    rw [hp] at this; cases this
  | false =>
    simp only [Bool.not_false, decide_eq_true_eq]
    exact h.2 (fun a hm => by
      have := List.any_eq_false.1 ha a hm
      simpa using this)
end Go.Proofs.YtmjdndhfmfjbiaaGreat

/-
  The document's state, and the same as lists that are kept in their order.
-/
namespace Go.Proofs.YtmjdndhfmfjbiaaGreat
open Go.RowKit

structure Lk (S : RefS) (fil : Nat → List ByteArray) (wait : List WaitD) : Prop where
  filS : ∀ a, a < 8 → SortedT (fil a)
  filP : ∀ a, a < 8 → (fil a).Perm (S.fil a)
  filN : ∀ a, a < 8 → ∀ f ∈ fil a, f.toList ≠ []
  waitS : SortedW wait
  waitP : wait.Perm S.wait
  apart : wait.Pairwise (fun a b => a.number ≠ b.number)
  below : ∀ m ∈ wait, m.number < S.pub

theorem Lk.filters {S : RefS} {fil : Nat → List ByteArray} {wait : List WaitD} (h : Lk S fil wait) {a : Nat} (ha : a < 8) : filtersM S a = fil a := by
  have hk : knownB (a : Int) = true := by simp [knownB]; omega
  unfold filtersM
  rw [hk]
  simp only [if_true, Int.toNat_natCast]
  exact sel_eq (fun f hf => h.filN a ha f ((h.filP a ha).mem_iff.2 hf)) (h.filS a ha) (h.filP a ha)
theorem Lk.waiting {S : RefS} {fil : Nat → List ByteArray} {wait : List WaitD} (h : Lk S fil wait) : waitingM S = wait := selN_eq h.waitS h.waitP

theorem Lk.new (room : Int) : Lk (refNew room) (fun _ => []) [] :=
  ⟨fun _ _ => List.Pairwise.nil, fun _ _ => List.Perm.refl _, fun _ _ f hf => by simp at hf, List.Pairwise.nil, List.Perm.refl _, List.Pairwise.nil, fun m hm => by simp at hm⟩

/-- What does not touch filters and what waits. -/
theorem Lk.other {S S1 : RefS} {fil : Nat → List ByteArray} {wait : List WaitD} (h : Lk S fil wait) (e1 : S1.fil = S.fil) (e2 : S1.wait = S.wait) (e3 : S.pub ≤ S1.pub) : Lk S1 fil wait :=
  ⟨h.filS, by rw [e1]; exact h.filP, h.filN, h.waitS, by rw [e2]; exact h.waitP, h.apart, fun m hm => by have := h.below m hm; omega⟩

theorem any_eq_perm {α : Type} {A B : List α} (h : A.Perm B) (p : α → Bool) : A.any p = B.any p := h.any_eq

/-- Does the client have it? -/
theorem Lk.has {S : RefS} {fil : Nat → List ByteArray} {wait : List WaitD} (h : Lk S fil wait) {a : Nat} (ha : a < 8) (s : ByteArray) : decide (findM (fun f => f.toList == s.toList) (S.fil a) 0 < 0) = !(fil a).any (fun f => f.toList == s.toList) := by
  rw [find_has, any_eq_perm (h.filP a ha)]
theorem Lk.waits {S : RefS} {fil : Nat → List ByteArray} {wait : List WaitD} (h : Lk S fil wait) (n : Int) : decide (findM (fun m : WaitD => m.number == n) S.wait 0 < 0) = !wait.any (fun m => m.number == n) := by
  rw [find_has, any_eq_perm h.waitP]

theorem setAt_all {α : Type} {f : Nat → α} {a : Nat} {v : α} {p : Nat → α → Prop} (hf : ∀ i, i < 8 → p i (f i)) (hv : p a v) : ∀ i, i < 8 → p i (setAt f a v i) := fun i hi => by
  by_cases e : i = a
  · subst e; rw [setAt_same]; exact hv
  · rw [setAt_other _ _ _ _ e]; exact hf i hi

/-- A filter more. -/
theorem Lk.sub {S : RefS} {fil : Nat → List ByteArray} {wait : List WaitD} (h : Lk S fil wait) {a : Nat} (ha : a < 8) {s : ByteArray} (hs : s.toList ≠ []) (hn : (fil a).any (fun f => f.toList == s.toList) = false) :
    Lk { S with fil := setAt S.fil a (S.fil a ++ [s]) } (setAt fil a (insM ltB s (fil a))) wait := by
  have hne : ∀ y ∈ fil a, ltB s y = true ∨ ltB y s = true := fun y hy => by
    rcases lt_total s y with e | e | e
    · subst e
      have := List.any_eq_false.1 hn s hy
      simp at this
    · exact .inl e
    · exact .inr e
  refine ⟨setAt_all (p := fun _ l => SortedT l) h.filS (ins_sorted (lt := ltB) (fun _ _ _ => lt_trans) (h.filS a ha) hne), fun i hi => ?_, setAt_all (p := fun _ (l : List ByteArray) => ∀ f ∈ l, f.toList ≠ []) h.filN (fun f hf => ?_), h.waitS, h.waitP, h.apart, h.below⟩
  · show (setAt fil a (insM ltB s (fil a)) i).Perm (setAt S.fil a (S.fil a ++ [s]) i)
    by_cases e : i = a
    · subst e
      rw [setAt_same, setAt_same]
      exact ((ins_perm ltB s (fil i)).trans ((h.filP i hi).cons s)).trans (List.perm_append_comm (l₁ := [s]))
    · rw [setAt_other _ _ _ _ e, setAt_other _ _ _ _ e]; exact h.filP i hi
  · rcases List.mem_cons.1 ((ins_perm ltB s (fil a)).mem_iff.1 hf) with rfl | hf
    · exact hs
    · exact h.filN a ha f hf

theorem Lk.unsub {S : RefS} {fil : Nat → List ByteArray} {wait : List WaitD} (h : Lk S fil wait) {a : Nat} (ha : a < 8) (s : ByteArray) :
    Lk { S with fil := setAt S.fil a ((S.fil a).filter (fun f => !(f.toList == s.toList))) } (setAt fil a ((fil a).filter (fun f => !(f.toList == s.toList)))) wait := by
  refine ⟨setAt_all (p := fun _ l => SortedT l) h.filS ((h.filS a ha).filter _), fun i hi => ?_, setAt_all (p := fun _ (l : List ByteArray) => ∀ f ∈ l, f.toList ≠ []) h.filN (fun f hf => h.filN a ha f (List.mem_filter.1 hf).1), h.waitS, h.waitP, h.apart, h.below⟩
  show (setAt fil a _ i).Perm (setAt S.fil a _ i)
  by_cases e : i = a
  · subst e
    rw [setAt_same, setAt_same]
    exact (h.filP i hi).filter _
  · rw [setAt_other _ _ _ _ e, setAt_other _ _ _ _ e]; exact h.filP i hi

/-- A message more that waits. -/
theorem Lk.later {S : RefS} {fil : Nat → List ByteArray} {wait : List WaitD} (h : Lk S fil wait) {x : WaitD} (hx : x.number = S.pub) : Lk { S with pub := S.pub + 1, wait := S.wait ++ [x] } fil (insM aheadB x wait) := by
  have hne : ∀ y ∈ wait, x.number ≠ y.number := fun y hy e => by have := h.below y hy; omega
  have hmem : ∀ m, m ∈ insM aheadB x wait → m = x ∨ m ∈ wait := fun m hm => List.mem_cons.1 ((ins_perm aheadB x wait).mem_iff.1 hm)
  refine ⟨h.filS, h.filP, h.filN, ins_sorted (lt := aheadB) (fun _ _ _ => ahead_trans) h.waitS (fun y hy => ahead_total (hne y hy)), ?_, ?_, fun m hm => ?_⟩
  · exact ((ins_perm aheadB x wait).trans (h.waitP.cons x)).trans (List.perm_append_comm (l₁ := [x]))
  · exact ((ins_perm aheadB x wait).pairwise_iff (fun e => Ne.symm e)).2 (List.pairwise_cons.2 ⟨fun y hy => hne y hy, h.apart⟩)
  · show m.number < S.pub + 1
    rcases hmem m hm with rfl | hm
    · omega
    · have := h.below m hm; omega

theorem Lk.cancel {S : RefS} {fil : Nat → List ByteArray} {wait : List WaitD} (h : Lk S fil wait) (n : Int) : Lk { S with wait := S.wait.filter (fun m => m.number != n) } fil (wait.filter (fun m => m.number != n)) :=
  ⟨h.filS, h.filP, h.filN, h.waitS.filter _, h.waitP.filter _, h.apart.filter _, fun m hm => h.below m (List.mem_filter.1 hm).1⟩

/-- Of numbers that are apart one is taken out. -/
theorem out_one {l : List WaitD} {y : WaitD} (ha : l.Pairwise (fun a b => a.number ≠ b.number)) (hy : y ∈ l) : l.Perm (y :: l.filter (fun m => m.number != y.number)) := by
  induction l with
  | nil => simp at hy
  | cons a l ih =>
    obtain ⟨h1, h2⟩ := List.pairwise_cons.1 ha
    rcases List.mem_cons.1 hy with rfl | hy
    · rw [List.filter_cons_of_neg (by simp), List.filter_eq_self.2 (fun q hq => by simp; exact fun e => h1 q hq e.symm)]
    · rw [List.filter_cons_of_pos (by simp; exact h1 y hy)]
      exact ((ih h2 hy).cons a).trans (List.Perm.swap _ _ _)

theorem Lk.move {S : RefS} {fil : Nat → List ByteArray} {wait : List WaitD} (h : Lk S fil wait) {n dl : Int} {y : WaitD} (hy : y ∈ wait) (hn : y.number = n) :
    Lk { S with wait := moveL S.wait n dl } fil (insM aheadB { y with deadline := dl } (wait.filter (fun m => m.number != n))) := by
  subst hn
  have hyS : y ∈ S.wait := h.waitP.mem_iff.1 hy
  have hapS : S.wait.Pairwise (fun a b => a.number ≠ b.number) := (h.waitP.pairwise_iff (fun e => Ne.symm e)).1 h.apart
  -- where the document finds it
  have hfind : ∃ i, findM (fun m : WaitD => m.number == y.number) S.wait 0 = (i : Nat) ∧ S.wait[i]? = some y := by
    rcases Int.lt_or_le (findM (fun m : WaitD => m.number == y.number) S.wait 0) 0 with hneg | hpos
    · have := (find_neg _ S.wait 0 (by omega)).1 hneg y hyS
      simp at this
    · obtain ⟨k, z, hk, hz, hzn⟩ := find_some _ S.wait 0 (by omega) hpos
      refine ⟨k, by omega, ?_⟩
      have hzy : z.number = y.number := by simpa using hzn
      have : z = y := by
        have hp := out_one hapS hyS
        have hzm : z ∈ y :: S.wait.filter (fun m => m.number != y.number) := hp.mem_iff.1 (List.mem_of_getElem? hz)
        rcases List.mem_cons.1 hzm with e | e
        · exact e
        · have := (List.mem_filter.1 e).2
          simp [hzy] at this
      rw [hz, this]
  obtain ⟨i, hfi, hyi⟩ := hfind
  have hmv : moveL S.wait y.number dl = S.wait.set i { y with deadline := dl } := by
    unfold moveL
    rw [hfi]
    simp only [Int.toNat_natCast, hyi]
  have hp1 := out_one h.apart hy
  have hne : ∀ z ∈ wait.filter (fun m => m.number != y.number), y.number ≠ z.number := fun z hz e => by
    have := (List.mem_filter.1 hz).2
    simp [e] at this
  have hperm : (y :: moveL S.wait y.number dl).Perm ({ y with deadline := dl } :: S.wait) := by rw [hmv]; exact set_perm _ _ _ _ hyi
  refine ⟨h.filS, h.filP, h.filN, ins_sorted (lt := aheadB) (fun _ _ _ => ahead_trans) (h.waitS.filter _) (fun z hz => ahead_total (hne z hz)), ?_, ?_, fun m hm => ?_⟩
  · show (insM aheadB _ _).Perm (moveL S.wait y.number dl)
    have h2 : (y :: moveL S.wait y.number dl).Perm (y :: ({ y with deadline := dl } :: wait.filter (fun m => m.number != y.number))) :=
      (hperm.trans ((h.waitP.symm.trans hp1).cons _)).trans (List.Perm.swap _ _ _)
    exact (ins_perm _ _ _).trans (h2.cons_inv).symm
  · exact ((ins_perm aheadB _ _).pairwise_iff (fun e => Ne.symm e)).2 (List.pairwise_cons.2 ⟨fun z hz => hne z hz, h.apart.filter _⟩)
  · rcases List.mem_cons.1 ((ins_perm aheadB _ _).mem_iff.1 hm) with rfl | hm
    · exact h.below y hy
    · exact h.below m (List.mem_filter.1 hm).1

/-- A Tick: what is due is sent, the others go on waiting. -/
theorem Lk.ticked {S T : RefS} {fil : Nat → List ByteArray} {wait : List WaitD} (h : Lk S fil wait) (to : Int) (e2 : T.wait = S.wait) :
    ∃ W, deliver to T = waited (sendAll T (wait.filter (dueB to))) W ∧ (wait.filter (fun x => !dueB to x)).Perm W := by
  have := deliver_sorted to wait T T.wait.length h.waitS h.apart (by rw [e2]; exact h.waitP) (by rw [e2, h.waitP.length_eq]; exact Nat.le_refl _)
  exact this
theorem Lk.tick {S S1 : RefS} {fil : Nat → List ByteArray} {wait W : List WaitD} (h : Lk S fil wait) (to : Int) (e1 : S1.fil = S.fil) (e2 : S1.wait = W) (e3 : S1.pub = S.pub) (hW : (wait.filter (fun x => !dueB to x)).Perm W) : Lk S1 fil (wait.filter (fun x => !dueB to x)) :=
  ⟨h.filS, by rw [e1]; exact h.filP, h.filN, h.waitS.filter _, by rw [e2]; exact hW, h.apart.filter _, fun m hm => by rw [e3]; exact h.below m (List.mem_filter.1 hm).1⟩
end Go.Proofs.YtmjdndhfmfjbiaaGreat

/-
  PLAIN MATHEMATICS: texts as lists of bytes; the cut at each stroke; what a filter and its first word have to do with one another.
-/
namespace Go.Proofs.YtmjdndhfmfjbiaaGreat.M

/-- A text's bytes. -/
abbrev L (s : ByteArray) : List UInt8 := s.data.toList

theorem L_toList (s : ByteArray) : s.toList = L s := ByteArray.toList_eq s
theorem L_len (s : ByteArray) : (L s).length = s.size := by rw [Array.length_toList]; rfl
theorem L_get (s : ByteArray) (k : Nat) (h : k < s.size) : (L s)[k]? = some (s[k]'h) := by
  rw [List.getElem?_eq_getElem (by rw [L_len]; exact h)]; rfl
theorem L_extract (s : ByteArray) (a b : Nat) : L (s.extract a b) = ((L s).take b).drop a := by
  simp [L, ByteArray.data_extract, Array.toList_extract, List.take_drop]
  rcases Nat.le_total a b with h | h
  · rw [show a + (b - a) = b from by omega]
  · rw [show a + (b - a) = a from by omega]
    rw [List.drop_eq_nil_of_le (by simp; omega), List.drop_eq_nil_of_le (by simp; omega)]
theorem L_inj {a b : ByteArray} (h : L a = L b) : a = b := by
  cases a; cases b; simp only [L] at h
  congr 1
  exact Array.toList_inj.1 h

def letterU (c : UInt8) : Bool := letterB c.toNat
def isWordL (l : List UInt8) : Bool := l.all letterU && (decide (1 ≤ l.length) && decide (l.length ≤ 3))

theorem bt_L (s : ByteArray) (k : Nat) (h : k < s.size) : ∃ c, (L s)[k]? = some c ∧ bt s k = c.toNat := ⟨_, L_get s k h, (bt_get s k h).symm⟩

theorem lettersTo_L (s : ByteArray) : ∀ k, k ≤ s.size → lettersTo s k = ((L s).take k).all letterU := by
  intro k
  induction k with
  | zero => intro _; simp [lettersTo]
  | succ k ih =>
    intro hk
    obtain ⟨c, hc, hb⟩ := bt_L s k (by omega)
    have hk' : k < (L s).length := by rw [L_len]; omega
    rw [lettersTo, ih (by omega), hb, List.take_add_one, hc]
    simp [letterU]

theorem isWordM_L (s : ByteArray) : isWordM s = isWordL (L s) := by
  unfold isWordM isWordL
  rw [lettersTo_L s s.size (Nat.le_refl _), L_len, List.take_of_length_le (by rw [L_len]; exact Nat.le_refl _)]

/-- What stands between the strokes. -/
def splitL : List UInt8 → List (List UInt8)
  | [] => [[]]
  | c :: l => if c = 47 then [] :: splitL l else match splitL l with
    | [] => [[c]]
    | h :: t => (c :: h) :: t

theorem splitL_ne (l : List UInt8) : splitL l ≠ [] := by
  cases l with
  | nil => simp [splitL]
  | cons c l => unfold splitL; split <;> (try split) <;> simp

theorem split_none {a : List UInt8} (h : (47 : UInt8) ∉ a) : splitL a = [a] := by
  induction a with
  | nil => rfl
  | cons c a ih =>
    simp only [List.mem_cons, not_or] at h
    rw [splitL, if_neg (fun e => h.1 e.symm), ih h.2]

theorem split_cons {a r : List UInt8} (h : (47 : UInt8) ∉ a) : splitL (a ++ 47 :: r) = a :: splitL r := by
  induction a with
  | nil => simp [splitL]
  | cons c a ih =>
    simp only [List.mem_cons, not_or] at h
    rw [List.cons_append, splitL, if_neg (fun e => h.1 e.symm), ih h.2]

/-- What the program's loop holds, as lists. -/
theorem cutTo_L (s : ByteArray) : ∀ k, k ≤ s.size →
    splitL (L s) = (cutTo s k).1.map L ++ splitL ((L s).drop (cutTo s k).2) ∧ (47 : UInt8) ∉ ((L s).take k).drop (cutTo s k).2 := by
  intro k
  induction k with
  | zero => intro _; simp [cutTo]
  | succ k ih =>
    intro hk
    obtain ⟨i1, i2⟩ := ih (by omega)
    have hle := (cutTo_le s k).1
    obtain ⟨c, hc, hb⟩ := bt_L s k (by omega)
    have hkl : k < (L s).length := by rw [L_len]; omega
    have hg : (L s)[k] = c := by rw [List.getElem?_eq_getElem hkl] at hc; exact Option.some.inj hc
    by_cases h : bt s k = 47
    · have hc47 : c = 47 := by apply UInt8.toNat.inj; rw [← hb, h]; rfl
      rw [cutTo_hit s k h]
      constructor
      · rw [i1]
        have e : (L s).drop (cutTo s k).2 = ((L s).take k).drop (cutTo s k).2 ++ 47 :: (L s).drop (k + 1) := by
          have e1 : L s = (L s).take k ++ (L s).drop k := (List.take_append_drop k (L s)).symm
          rw [List.drop_eq_getElem_cons hkl, hg, hc47] at e1
          have hl : (cutTo s k).2 ≤ ((L s).take k).length := by rw [List.length_take]; omega
          exact (congrArg (List.drop (cutTo s k).2) e1).trans (List.drop_append_of_le_length hl)
        rw [e, split_cons i2, List.map_append, List.append_assoc]
        simp [L_extract]
      · simp
    · have hc47 : c ≠ 47 := fun e => h (by rw [hb, e]; rfl)
      rw [cutTo_miss s k h]
      refine ⟨i1, ?_⟩
      rw [List.take_add_one, hc, List.drop_append_of_le_length (by rw [List.length_take]; omega)]
      simp only [List.mem_append, not_or]
      exact ⟨i2, by simp; exact fun e => hc47 e.symm⟩

theorem words_L (s : ByteArray) : (wordsM s).map L = splitL (L s) := by
  obtain ⟨h1, h2⟩ := cutTo_L s s.size (Nat.le_refl _)
  rw [List.take_of_length_le (by rw [L_len]; exact Nat.le_refl _)] at h2
  rw [h1, split_none h2, wordsM, List.map_append]
  simp only [List.map_cons, List.map_nil, L_extract]
  rw [List.take_of_length_le (by rw [L_len]; exact Nat.le_refl _)]

def alongL : List (List UInt8) → List (List UInt8) → Bool
  | [], t => t.isEmpty
  | a :: _, [] => (a == [35])
  | a :: f, b :: t => (a == [35]) || (((a == [43]) || (a == b)) && alongL f t)

theorem along_L : ∀ f t : List ByteArray, alongM f t = alongL (f.map L) (t.map L) := by
  intro f
  induction f with
  | nil => intro t; cases t <;> simp [alongM, alongL]
  | cons a f ih =>
    intro t
    cases t with
    | nil => simp [alongM, alongL, L_toList]
    | cons b t => simp [alongM, alongL, L_toList, ih]

def partL (wild last : Bool) (a : List UInt8) : Bool := isWordL a || (wild && ((a == [43]) || ((a == [35]) && last)))
def partsL (wild : Bool) : List (List UInt8) → Bool
  | [] => true
  | a :: l => partL wild l.isEmpty a && partsL wild l
theorem parts_L (wild : Bool) (ws : List ByteArray) : partsM wild ws = partsL wild (ws.map L) := by
  induction ws with
  | nil => rfl
  | cons a l ih => simp [partsM, partsL, ih, partM, partL, isWordM_L, L_toList]

def isPathL (wild : Bool) (l : List UInt8) : Bool := decide (l.length ≤ 15) && decide ((splitL l).length ≤ 4) && partsL wild (splitL l)
theorem isPath_L (wild : Bool) (s : ByteArray) : isPathM wild s = isPathL wild (L s) := by
  unfold isPathM isPathL
  rw [parts_L, words_L, L_len, ← words_L, List.length_map]

theorem parts_wild (l : List (List UInt8)) (h : partsL false l = true) : partsL true l = true := by
  induction l with
  | nil => rfl
  | cons a l ih =>
    simp only [partsL, partL, Bool.and_eq_true, Bool.false_and, Bool.or_false] at h
    simp [partsL, partL, h.1, ih h.2]

theorem path_wild {l : List UInt8} (h : isPathL false l = true) : isPathL true l = true := by
  simp only [isPathL, Bool.and_eq_true] at h ⊢
  exact ⟨h.1, parts_wild _ h.2⟩

theorem along_self (l : List (List UInt8)) : alongL l l = true := by
  induction l with
  | nil => rfl
  | cons a l ih => simp [alongL, ih]

/-- A path cut at its first stroke: the word ahead is a path, and so is the rest. -/
theorem path_cut {wild : Bool} {a r : List UInt8} (hn : (47 : UInt8) ∉ a) (h : isPathL wild (a ++ 47 :: r) = true) :
    isPathL wild a = true ∧ isPathL wild r = true ∧ (a == [35]) = false ∧ splitL (a ++ 47 :: r) = a :: splitL r ∧ splitL a = [a] := by
  have e := split_cons (r := r) hn
  have ha := split_none hn
  simp only [isPathL, Bool.and_eq_true, decide_eq_true_eq, e, partsL, List.length_append, List.length_cons] at h
  obtain ⟨⟨h1, h2⟩, h3, h4⟩ := h
  have hne : (splitL r).isEmpty = false := by
    cases hs : splitL r with
    | nil => exact absurd hs (splitL_ne r)
    | cons _ _ => rfl
  rw [hne] at h3
  have h35 : (a == [35]) = false := by
    cases hh : (a == [35])
    · rfl
    · have : a = [35] := by simpa using hh
      subst this
      cases wild <;> revert h3 <;> decide
  refine ⟨?_, ?_, h35, e, ha⟩
  · simp only [isPathL, ha, partsL, List.length_cons, List.length_nil, Bool.and_eq_true, decide_eq_true_eq, List.isEmpty_nil]
    refine ⟨⟨by omega, by omega⟩, ?_, trivial⟩
    simp only [partL, Bool.or_eq_true, Bool.and_eq_true] at h3 ⊢
    rcases h3 with h3 | ⟨hw, h3⟩
    · exact .inl h3
    · exact .inr ⟨hw, by rcases h3 with h3 | h3
                         · exact .inl h3
                         · exact .inr ⟨h3.1, trivial⟩⟩
  · simp only [isPathL, Bool.and_eq_true, decide_eq_true_eq]
    exact ⟨⟨by omega, by omega⟩, h4⟩

/-- The head of a filter's words is the sign for all that is left only where the filter is that sign. -/
theorem head_hash {r : List UInt8} (h : isPathL true r = true) : alongL (splitL r) [] = (r == [35]) := by
  by_cases hs : (47 : UInt8) ∈ r
  · obtain ⟨a, q, rfl, hn⟩ : ∃ a q, r = a ++ 47 :: q ∧ (47 : UInt8) ∉ a := by
      clear h
      induction r with
      | nil => simp at hs
      | cons c r ih =>
        by_cases hc : c = 47
        · exact ⟨[], r, by simp [hc], by simp⟩
        · obtain ⟨a, q, rfl, hn⟩ := ih (by simpa [Ne.symm hc] using hs)
          exact ⟨c :: a, q, rfl, by simp only [List.mem_cons, not_or]; exact ⟨fun e => hc e.symm, hn⟩⟩
    obtain ⟨-, -, h35, e, -⟩ := path_cut hn h
    rw [e, alongL, h35]
    symm
    cases a with
    | nil => simp
    | cons c a => simp
  · rw [split_none hs]; rfl

def fitsL (f t : List UInt8) : Bool := isPathL true f && isPathL false t && alongL (splitL f) (splitL t)

end Go.Proofs.YtmjdndhfmfjbiaaGreat.M

/-
  RECORDS: how they are written, as numbers and bytes. No program is named here.
-/
namespace Go.Proofs.YtmjdndhfmfjbiaaGreat
open Go.RowKit

/-- A number of so many bytes, the least first. -/
def leM : Int → Nat → List UInt8
  | _, 0 => []
  | n, k + 1 => UInt8.ofNat (n % 256).toNat :: leM (n / 256) k
def valM : List UInt8 → Int
  | [] => 0
  | b :: l => valM l * 256 + (b.toNat : Int)
theorem le_len (n : Int) (k : Nat) : (leM n k).length = k := by
  induction k generalizing n with
  | zero => rfl
  | succ k ih => simp [leM, ih]
theorem le_snoc (n : Int) (k : Nat) : leM n (k + 1) = leM n k ++ [UInt8.ofNat (n / 256 ^ k % 256).toNat] := by
  induction k generalizing n with
  | zero => simp [leM]
  | succ k ih =>
    rw [leM, ih (n / 256), leM, List.cons_append]
    have : n / 256 / 256 ^ k = n / 256 ^ (k + 1) := by
      rw [Int.ediv_ediv_of_nonneg (by omega)]
      congr 1
      rw [Int.pow_succ, Int.mul_comm]
    rw [this]
theorem byte_back (n : Int) : ((UInt8.ofNat (n % 256).toNat).toNat : Int) = n % 256 := by
  have h0 : 0 ≤ n % 256 := Int.emod_nonneg _ (by omega)
  have h1 : n % 256 < 256 := Int.emod_lt_of_pos _ (by omega)
  rw [UInt8.toNat_ofNat']
  have : (n % 256).toNat % 2 ^ 8 = (n % 256).toNat := Nat.mod_eq_of_lt (by omega)
  rw [this]
  omega
theorem val_le (k : Nat) : ∀ (n : Int), 0 ≤ n → n < 256 ^ k → valM (leM n k) = n := by
  induction k with
  | zero => intro n h0 h1; simp at h1; simp [leM, valM]; omega
  | succ k ih =>
    intro n h0 h1
    rw [leM, valM, byte_back, ih (n / 256) (by omega) (by rw [Int.pow_succ] at h1; omega)]
    omega
theorem val_bd (l : List UInt8) : 0 ≤ valM l ∧ valM l < 256 ^ l.length := by
  induction l with
  | nil => simp [valM]
  | cons b l ih =>
    have hb : b.toNat < 256 := b.toNat_lt
    simp only [valM, List.length_cons, Int.pow_succ]
    omega

/-- A text, and zeros behind it. -/
def fillL (s : ByteArray) (n : Nat) : List UInt8 := s.data.toList ++ List.replicate (n - s.size) 0
def sumL (l : List UInt8) : Int := l.foldl (fun t b => (t + (b.toNat : Int)) % 256) 0
theorem sum_snoc (l : List UInt8) (b : UInt8) : sumL (l ++ [b]) = (sumL l + (b.toNat : Int)) % 256 := by simp [sumL]

structure RecD where
  call : Int
  client : Int
  text : ByteArray
  number : Int
  value : Int
  delay : Int
  life : Int
  to : Int
def nilRec : RecD := ⟨0, 0, ⟨#[]⟩, 0, 0, 0, 0, 0⟩

def leA (n : Int) (k : Nat) : ByteArray := ⟨(leM n k).toArray⟩
def fillA (s : ByteArray) (n : Nat) : ByteArray := ⟨(fillL s n).toArray⟩
def sumA (s : ByteArray) : Int := sumL s.data.toList
def valA (s : ByteArray) : Int := valM s.data.toList
def bodyA (r : RecD) : ByteArray := leA r.call 1 ++ leA r.client 1 ++ fillA r.text 15 ++ leA r.number 2 ++ leA r.value 4 ++ leA r.delay 6 ++ leA r.life 6 ++ leA r.to 6
def encM (r : RecD) : ByteArray := bodyA r ++ leA (sumA (bodyA r)) 1

/-- Where the first zero stands. -/
def zeroAt (s : ByteArray) : Nat := s.data.toList.findIdx (fun b => b == 0)
def unfillM (s : ByteArray) : ByteArray := s.extract 0 (zeroAt s)
def decM (t : ByteArray) : RecD :=
  ⟨valA (t.extract 0 1), valA (t.extract 1 2), unfillM (t.extract 2 17), valA (t.extract 17 19), valA (t.extract 19 23), valA (t.extract 23 29), valA (t.extract 29 35), valA (t.extract 35 41)⟩
def givenM (r : RecD) : RecD :=
  if r.call = 1 then ⟨1, r.client, r.text, 0, 0, 0, 0, 0⟩ else if r.call = 2 then ⟨2, r.client, r.text, 0, 0, 0, 0, 0⟩ else if r.call = 3 then ⟨3, 0, r.text, 0, r.value, r.delay, r.life, 0⟩
  else if r.call = 4 then ⟨4, 0, ⟨#[]⟩, r.number, 0, 0, 0, 0⟩ else if r.call = 5 then ⟨5, 0, ⟨#[]⟩, r.number, 0, r.delay, 0, 0⟩ else if r.call = 6 then ⟨6, 0, ⟨#[]⟩, 0, 0, 0, 0, r.to⟩
  else if r.call = 7 then ⟨7, r.client, ⟨#[]⟩, r.number, 0, 0, 0, 0⟩ else nilRec

structure Valid (r : RecD) : Prop where
  call : 1 ≤ r.call ∧ r.call ≤ 7
  client : 0 ≤ r.client ∧ r.client < 256
  text : r.text.size ≤ 15
  clean : ∀ b ∈ r.text.data.toList, b ≠ 0
  number : 0 ≤ r.number ∧ r.number < 65536
  value : 0 ≤ r.value ∧ r.value < 4294967296
  delay : 0 ≤ r.delay ∧ r.delay < 281474976710656
  life : 0 ≤ r.life ∧ r.life < 281474976710656
  to : 0 ≤ r.to ∧ r.to < 281474976710656
  given : givenM r = r

theorem ba_list (a b : ByteArray) : (a ++ b).data.toList = a.data.toList ++ b.data.toList := by simp
theorem ba_ext {a b : ByteArray} (h : a.data.toList = b.data.toList) : a = b := by
  obtain ⟨a⟩ := a
  obtain ⟨b⟩ := b
  simp only at h
  rw [Array.toList_inj] at h
  rw [h]
theorem ba_size (a : ByteArray) : a.size = a.data.toList.length := by rw [Array.length_toList]; rfl
theorem ba_extract (t : ByteArray) (a b : Nat) : (t.extract a b).data.toList = (t.data.toList.take b).drop a := by simp [List.drop_take, List.extract]

theorem fill_len (s : ByteArray) (n : Nat) (h : s.size ≤ n) : (fillL s n).length = n := by
  rw [ba_size] at h
  rw [fillL, List.length_append, List.length_replicate, ba_size]; omega
theorem body_list (r : RecD) : (bodyA r).data.toList = leM r.call 1 ++ (leM r.client 1 ++ (fillL r.text 15 ++ (leM r.number 2 ++ (leM r.value 4 ++ (leM r.delay 6 ++ (leM r.life 6 ++ leM r.to 6)))))) := by
  simp only [bodyA, ba_list, leA, fillA, List.append_assoc]
theorem body_len (r : RecD) (h : r.text.size ≤ 15) : (bodyA r).data.toList.length = 41 := by
  rw [body_list, List.length_append, List.length_append, List.length_append, List.length_append, List.length_append, List.length_append, List.length_append, fill_len _ _ h, le_len, le_len, le_len, le_len, le_len, le_len, le_len]
theorem enc_list (r : RecD) : (encM r).data.toList = (bodyA r).data.toList ++ leM (sumA (bodyA r)) 1 := by simp only [encM, ba_list, leA]
theorem enc_size (r : RecD) (h : r.text.size ≤ 15) : (encM r).size = 42 := by rw [ba_size, enc_list, List.length_append, body_len r h, le_len]

/-- Cutting a list that is made of parts. -/
theorem cut_mid {α : Type} (A B C : List α) (i j : Nat) (hi : i = A.length) (hj : j = i + B.length) : (((A ++ (B ++ C)).take j).drop i) = B := by
  subst hi hj
  rw [← List.append_assoc, List.take_append_of_le_length (by simp), List.take_of_length_le (by simp), List.drop_append_of_le_length (by simp), List.drop_length, List.nil_append]

theorem unfill_fill (s : ByteArray) (t : ByteArray) (n : Nat) (hc : ∀ b ∈ s.data.toList, b ≠ 0) (ht : t.data.toList = fillL s n) : unfillM t = s := by
  apply ba_ext
  rw [unfillM, ba_extract, List.drop_zero]
  have hz : zeroAt t = s.data.toList.length := by
    rw [zeroAt, ht, fillL]
    rw [List.findIdx_append]
    have h1 : s.data.toList.findIdx (fun b => b == 0) = s.data.toList.length := List.findIdx_eq_length.2 (fun b hb => by simp [hc b hb])
    rw [h1, if_neg (by omega)]
    cases hk : n - s.size with
    | zero => simp
    | succ k => simp [List.replicate_succ, List.findIdx_cons]
  rw [hz, ht, fillL]
  exact List.take_left

theorem dec_enc {r : RecD} (h : Valid r) : decM (encM r) = r := by
  have L := enc_list r
  rw [body_list] at L
  have hf := fill_len r.text 15 h.text
  have key : ∀ (A B C : List UInt8) (i j : Nat), (encM r).data.toList = A ++ (B ++ C) → i = A.length → j = i + B.length → ((encM r).extract i j).data.toList = B := fun A B C i j e hi hj => by
    rw [ba_extract, e]; exact cut_mid A B C i j hi hj
  have e0 := key [] (leM r.call 1) _ 0 1 (by rw [L]; simp only [List.append_assoc, List.nil_append]; rfl) rfl (by simp [le_len])
  have e1 := key (leM r.call 1) (leM r.client 1) _ 1 2 (by rw [L]; simp only [List.append_assoc]; rfl) (by simp [le_len]) (by simp [le_len])
  have e2 := key (leM r.call 1 ++ leM r.client 1) (fillL r.text 15) _ 2 17 (by rw [L]; simp only [List.append_assoc]; rfl) (by simp [le_len]) (by simp [hf])
  have e3 := key (leM r.call 1 ++ (leM r.client 1 ++ fillL r.text 15)) (leM r.number 2) _ 17 19 (by rw [L]; simp only [List.append_assoc]; rfl) (by simp [le_len, hf]) (by simp [le_len])
  have e4 := key (leM r.call 1 ++ (leM r.client 1 ++ (fillL r.text 15 ++ leM r.number 2))) (leM r.value 4) _ 19 23 (by rw [L]; simp only [List.append_assoc]; rfl) (by simp [le_len, hf]) (by simp [le_len])
  have e5 := key (leM r.call 1 ++ (leM r.client 1 ++ (fillL r.text 15 ++ (leM r.number 2 ++ leM r.value 4)))) (leM r.delay 6) _ 23 29 (by rw [L]; simp only [List.append_assoc]; rfl) (by simp [le_len, hf]) (by simp [le_len])
  have e6 := key (leM r.call 1 ++ (leM r.client 1 ++ (fillL r.text 15 ++ (leM r.number 2 ++ (leM r.value 4 ++ leM r.delay 6))))) (leM r.life 6) _ 29 35 (by rw [L]; simp only [List.append_assoc]; rfl) (by simp [le_len, hf]) (by simp [le_len])
  have e7 := key (leM r.call 1 ++ (leM r.client 1 ++ (fillL r.text 15 ++ (leM r.number 2 ++ (leM r.value 4 ++ (leM r.delay 6 ++ leM r.life 6)))))) (leM r.to 6) _ 35 41 (by rw [L]; simp only [List.append_assoc]; rfl) (by simp [le_len, hf]) (by simp [le_len])
  have v0 := val_le 1 r.call (by have := h.call; omega) (by have := h.call; omega)
  have v1 := val_le 1 r.client h.client.1 (by have := h.client; omega)
  have v3 := val_le 2 r.number h.number.1 (by have := h.number; omega)
  have v4 := val_le 4 r.value h.value.1 (by have := h.value; omega)
  have v5 := val_le 6 r.delay h.delay.1 (by have := h.delay; omega)
  have v6 := val_le 6 r.life h.life.1 (by have := h.life; omega)
  have v7 := val_le 6 r.to h.to.1 (by have := h.to; omega)
  obtain ⟨c, cl, tx, nu, va, de, li, to⟩ := r
  simp only [decM, valA, e0, e1, e3, e4, e5, e6, e7, unfill_fill _ _ 15 h.clean e2] at *
  rw [v0, v1, v3, v4, v5, v6, v7]

/-- A text that a record may be: its last byte is the sum of the others. -/
def Checked (t : ByteArray) : Prop := t.data.toList.length = 42 ∧ ∃ l b, t.data.toList = l ++ [b] ∧ (b.toNat : Int) = sumL l
theorem sum_bd (l : List UInt8) : 0 ≤ sumL l ∧ sumL l < 256 := by
  rcases List.eq_nil_or_concat l with rfl | ⟨l, b, rfl⟩
  · simp [sumL]
  · rw [List.concat_eq_append, sum_snoc]
    exact ⟨Int.emod_nonneg _ (by omega), Int.emod_lt_of_pos _ (by omega)⟩
theorem enc_checked (r : RecD) (h : r.text.size ≤ 15) : Checked (encM r) := by
  refine ⟨by rw [← ba_size]; exact enc_size r h, _, UInt8.ofNat (sumA (bodyA r) % 256).toNat, enc_list r, ?_⟩
  have := sum_bd (bodyA r).data.toList
  rw [byte_back]
  show sumA _ % 256 = _
  unfold sumA
  omega

def addL (l : List UInt8) : Int := (l.map (fun b => (b.toNat : Int))).sum
theorem sum_add (l : List UInt8) : sumL l = addL l % 256 := by
  suffices H : ∀ (l : List UInt8) (t : Int), 0 ≤ t → t < 256 → l.foldl (fun t b => (t + (b.toNat : Int)) % 256) t = (t + addL l) % 256 from by
    have := H l 0 (by omega) (by omega)
    rw [Int.zero_add] at this
    exact this
  intro l
  induction l with
  | nil => intro t h0 h1; simp [addL]; omega
  | cons b l ih =>
    intro t h0 h1
    rw [List.foldl_cons, ih _ (Int.emod_nonneg _ (by omega)) (Int.emod_lt_of_pos _ (by omega))]
    simp only [addL, List.map_cons, List.sum_cons]
    omega
theorem add_app (a b : List UInt8) : addL (a ++ b) = addL a + addL b := by simp [addL, List.sum_append]

/-- One byte that is another: not both are checked. -/
theorem one_turned {s t : ByteArray} (hs : Checked s) (ht : Checked t) (A C : List UInt8) (x y : UInt8) (es : s.data.toList = A ++ (x :: C)) (et : t.data.toList = A ++ (y :: C)) : x = y := by
  have hx : x.toNat < 256 := x.toNat_lt
  have hy : y.toNat < 256 := y.toNat_lt
  obtain ⟨-, l, b, e1, e2⟩ := hs
  obtain ⟨-, m, c, f1, f2⟩ := ht
  rcases List.eq_nil_or_concat C with rfl | ⟨D, z, rfl⟩
  · rw [es] at e1
    rw [et] at f1
    obtain ⟨rfl, h1⟩ := List.append_inj' e1 rfl
    obtain ⟨rfl, h2⟩ := List.append_inj' f1 rfl
    simp only [List.cons.injEq, and_true] at h1 h2
    subst h1 h2
    exact UInt8.toNat_inj.1 (by omega)
  · rw [List.concat_eq_append] at es et
    have es' : A ++ (x :: D) ++ [z] = l ++ [b] := by rw [← e1, es]; simp
    have et' : A ++ (y :: D) ++ [z] = m ++ [c] := by rw [← f1, et]; simp
    obtain ⟨g1, g2⟩ := List.append_inj' es' rfl
    obtain ⟨g3, g4⟩ := List.append_inj' et' rfl
    simp only [List.cons.injEq, and_true] at g2 g4
    rw [sum_add, ← g1, add_app] at e2
    rw [sum_add, ← g3, add_app] at f2
    rw [← g2] at e2
    rw [← g4] at f2
    simp only [addL, List.map_cons, List.sum_cons] at e2 f2
    exact UInt8.toNat_inj.1 (by omega)
end Go.Proofs.YtmjdndhfmfjbiaaGreat
