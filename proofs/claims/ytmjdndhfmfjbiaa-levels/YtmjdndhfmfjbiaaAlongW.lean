import Derived.Test.YtmjdndhfmfjbiaaCutW
import Derived.BigQuiet
namespace Go.Proofs.Ytmjdndhfmfjbiaa
open Go.RowKit

theorem quiet_more {n x m : Nat} {w w1 : World} (h : w1 = (w.drewN (n + x)).drewN m) : ∃ k, w1 = w.drewN (n + k) := ⟨x + m, by rw [h, World.drewN_drewN, Nat.add_assoc]⟩

/-- The cells of a row of texts. -/
def StrsAt (w : World) (ao : Option Addr) (xs : List ByteArray) : Prop := ∀ j x, xs[j]? = some x → ∃ b o, ao = some ⟨b, o, none⟩ ∧ w.cell? ⟨b, o + j, none⟩ = some (.string x)

theorem StrsAt.head {w : World} {ao : Option Addr} {x : ByteArray} {xs : List ByteArray} (h : StrsAt w ao (x :: xs)) : ∃ b o, ao = some ⟨b, o, none⟩ ∧ w.cell? ⟨b, o, none⟩ = some (.string x) := h 0 x rfl
theorem StrsAt.tail {w : World} {b o : Nat} {x : ByteArray} {xs : List ByteArray} (h : StrsAt w (some ⟨b, o, none⟩) (x :: xs)) : StrsAt w (some ⟨b, o + 1, none⟩) xs := fun j y hy => by
  obtain ⟨b', o', e, hc⟩ := h (j + 1) y (by simpa using hy)
  simp at e; obtain ⟨rfl, rfl⟩ := e
  exact ⟨b, o + 1, rfl, by rw [show o + 1 + j = o + (j + 1) from by omega]; exact hc⟩
theorem StrsAt.nil {w : World} (ao : Option Addr) : StrsAt w ao [] := fun j y hy => by simp at hy
/-- 'l[1:]', whatever its capacity. -/
theorem StrsAt.cut {w : World} {b o c : Nat} {x : ByteArray} {xs : List ByteArray} (h : StrsAt w (some ⟨b, o, none⟩) (x :: xs)) (hc : xs.length + 1 ≤ c) : StrsAt w (if c = 1 then some ⟨b, o, none⟩ else some ⟨b, o + 1, none⟩) xs := by
  split
  · have : xs = [] := List.eq_nil_of_length_eq_zero (by omega)
    subst this; exact StrsAt.nil _
  · exact h.tail

set_option maxRecDepth 100000 in
set_option maxHeartbeats 1000000 in
theorem refAlong : ∀ (f t : List ByteArray) (af at_ : Option Addr) (cf ct : Nat) (w : World), f.length ≤ cf → cf ≤ maxLen → t.length ≤ ct → ct ≤ maxLen → StrsAt w af f → StrsAt w at_ t →
    Calls Try.prog 55 #[.slice af f.length cf, .slice at_ t.length ct] w fun e w' => e = .returned (.bool (M.alongM f t)) ∧ ∃ n, w' = w.drewN n := by
  intro f
  induction f with
  | nil =>
    intro t af at_ cf ct w h1 h2 h3 h4 hf ht
    unfold maxLen at h2 h4
    go_enter Try.func55, Try.ntmps55
    go_wp2_with fail
    go_ret
    exact ⟨ret_bool (by cases t <;> simp [M.alongM]; omega), 0, rfl⟩
  | cons a f ih =>
    intro t af at_ cf ct w h1 h2 h3 h4 hf ht
    have h2' := h2
    have h4' := h4
    unfold maxLen at h2 h4
    simp only [List.length_cons] at h1
    obtain ⟨bf, off, rfl, hfc⟩ := hf.head
    have IH : Hid _ := ih
    have HF : Hid _ := hf.cut h1
    clear ih hf
    have f0 : ((f.length : Int) + 1 == 0) = false := by simp; omega
    cases t with
    | nil =>
      cases h35 : (a.toList == [35])
      · have HV : Hid (M.alongM (a :: f) [] = false) := by simpa [M.alongM, Hid] using h35
        go_enter Try.func55, Try.ntmps55
        go_wp2_with fail
        go_quiet (fail)
        go_wp2_with fail
        go_ret
        exact ⟨ret_bool HV.out.symm, _, rfl⟩
      · have HV : Hid (M.alongM (a :: f) [] = true) := by simpa [M.alongM, Hid] using h35
        go_enter Try.func55, Try.ntmps55
        go_wp2_with fail
        go_ret
        exact ⟨ret_bool HV.out.symm, 0, rfl⟩
    | cons b t =>
      simp only [List.length_cons] at h3
      obtain ⟨bt, ot, rfl, htc⟩ := ht.head
      have HT : Hid _ := ht.cut h3
      have t0 : ((t.length : Int) + 1 == 0) = false := by simp; omega
      clear ht
      cases h35 : (a.toList == [35])
      · cases h43 : (a.toList == [43])
        · cases heq : (a.toList == b.toList)
          · have HV : Hid (M.alongM (a :: f) (b :: t) = false) := by simp [M.alongM, Hid, h35, h43, heq]
            go_enter Try.func55, Try.ntmps55
            go_wp2_with fail
            go_quiet (fail)
            go_wp2_with fail
            go_ret
            exact ⟨ret_bool HV.out.symm, _, rfl⟩
          · have HV : Hid (M.alongM (a :: f) (b :: t) = M.alongM f t) := by simp [M.alongM, Hid, h35, h43, heq]
            go_enter Try.func55, Try.ntmps55
            go_wp2_with fail
            go_quiet (fail)
            go_wp2_with fail
            go_quiet ((go_at_call 55; exact (IH.out t _ _ (cf - 1) (ct - 1) _ (by omega) (by unfold maxLen; omega) (by omega) (by unfold maxLen; omega) (by exact HF.out) (by exact HT.out)).mono fun _ _ ⟨he, m, hm⟩ => ⟨he, quiet_more hm⟩))
            go_wp2_with fail
            all_goals (go_ret; exact ⟨ret_bool HV.out.symm, _, rfl⟩)
        · have HV : Hid (M.alongM (a :: f) (b :: t) = M.alongM f t) := by simp [M.alongM, Hid, h35, h43]
          go_enter Try.func55, Try.ntmps55
          go_wp2_with fail
          go_quiet (fail)
          go_wp2_with fail
          go_quiet ((go_at_call 55; exact (IH.out t _ _ (cf - 1) (ct - 1) _ (by omega) (by unfold maxLen; omega) (by omega) (by unfold maxLen; omega) (by exact HF.out) (by exact HT.out)).mono fun _ _ ⟨he, m, hm⟩ => ⟨he, quiet_more hm⟩))
          go_wp2_with fail
          all_goals (go_ret; exact ⟨ret_bool HV.out.symm, _, rfl⟩)
      · have HV : Hid (M.alongM (a :: f) (b :: t) = true) := by simp [M.alongM, Hid, h35]
        go_enter Try.func55, Try.ntmps55
        go_wp2_with fail
        go_ret
        exact ⟨ret_bool HV.out.symm, 0, rfl⟩

theorem StrsAt.below {w w1 : World} {ao : Option Addr} {xs : List ByteArray} (h : StrsAt w ao xs) (hb : Below w.heap.size w w1) : StrsAt w1 ao xs := fun j x hx => by
  obtain ⟨b, o, e, hc⟩ := h j x hx
  exact ⟨b, o, e, cell_later hb hc⟩

theorem owns_strs {w : World} {base : Nat} {v : Value} {xs : List ByteArray} (h : w.ownsRow base 9 1 v xs.length (xs.map Value.string)) (hne : 0 < xs.length) :
    ∃ g cap, v = .slice (some ⟨g, 0, none⟩) xs.length cap ∧ xs.length ≤ cap ∧ cap ≤ maxLen ∧ StrsAt w (some ⟨g, 0, none⟩) xs := by
  obtain ⟨h1, h2⟩ := id h
  rcases h2 with ⟨rfl, h0⟩ | ⟨g, cap, cur, rfl, hg, hh, hn, hm, hc, ht⟩
  · omega
  · refine ⟨g, cap, rfl, hn, hm, fun j x hx => ⟨g, 0, rfl, ?_⟩⟩
    have := h.cells (g := g) rfl j (.string x) (by simp [hx])
    rwa [Addr.add_lit] at this

theorem wordsM_pos (s : ByteArray) : 0 < (M.wordsM s).length := by simp [M.wordsM]

/-- What 'words' leaves: the row of its words, in new memory. -/
def WordsEnd (s : ByteArray) (w : World) (e : Ending) (w1 : World) : Prop :=
  ∃ g cap, e = .returned (.slice (some ⟨g, 0, none⟩) (M.wordsM s).length cap) ∧ (M.wordsM s).length ≤ cap ∧ cap ≤ maxLen ∧ StrsAt w1 (some ⟨g, 0, none⟩) (M.wordsM s) ∧ Below w.heap.size w w1

theorem refWordsE (s : ByteArray) (w : World) (hs : s.size ≤ 1048576) : Calls Try.prog 53 #[.string s] w (WordsEnd s w) :=
  (refWords s w hs).mono fun e w1 ⟨v, he, ho, hb⟩ => by
    obtain ⟨g, cap, rfl, h1, h2, h3⟩ := owns_strs ho (wordsM_pos s)
    exact ⟨g, cap, he, h1, h2, h3, hb⟩

theorem topWordsE (s : ByteArray) (w : World) (hs : s.size ≤ 1048576) : Calls Try.prog 52 #[.string s] w (WordsEnd s w) :=
  (topWords s w hs).mono fun e w1 ⟨v, he, ho, hb⟩ => by
    obtain ⟨g, cap, rfl, h1, h2, h3⟩ := owns_strs ho (wordsM_pos s)
    exact ⟨g, cap, he, h1, h2, h3, hb⟩

set_option maxHeartbeats 400000 in
theorem refFit (f t : ByteArray) (w : World) (hf : f.size ≤ 1048576) (ht : t.size ≤ 1048576) :
    Calls Try.prog 31 #[.string f, .string t] w fun e w' => e = .returned (.bool (M.alongM (M.wordsM f) (M.wordsM t))) ∧ Below w.heap.size w w' := by
  go_enter Try.func31, Try.ntmps31
  go_wp2_with fail
  refine (refWordsE f _ hf).mono ?_
  rintro e w1 ⟨g1, c1, rfl, a1, a2, a3, a4⟩
  go_wp2_with fail
  refine (refWordsE t _ ht).mono ?_
  rintro e w2 ⟨g2, c2, rfl, b1, b2, b3, b4⟩
  go_wp2_with fail
  refine (refAlong (M.wordsM f) (M.wordsM t) _ _ _ _ _ a1 a2 b1 b2 (a3.below b4) b3).mono ?_
  rintro e w3 ⟨rfl, n, rfl⟩
  go_wp2_with fail
  go_ret
  exact ⟨rfl, (a4.trans (b4.mono a4.size)).trans ⟨rfl, rfl, rfl, Nat.le_refl _, fun _ _ => rfl⟩⟩
end Go.Proofs.Ytmjdndhfmfjbiaa
