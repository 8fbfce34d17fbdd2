import Derived.Test.YtmjdndhfmfjbiaaGreatRows
import Derived.WalkKit
import Derived.WalkSpells
import Derived.BigQuiet
import Derived.Deep.OwnRows
import Derived.Laws.BytesArg
import Derived.Maps.AppendAt
import Derived.Deep.Draws
/-
  PLAIN MATHEMATICS OF TOPICS AND FILTERS: no program is named here. Texts are byte arrays; 'wordsM' cuts at each stroke as both programs do.
-/
namespace Go.Proofs.YtmjdndhfmfjbiaaGreat.M

/-- The byte at a place, as a number; 0 behind the end. -/
def bt (s : ByteArray) (k : Nat) : Nat := if h : k < s.size then (s[k]'h).toNat else 0

theorem bt_get (s : ByteArray) (k : Nat) (h : k < s.size) : (s[k]'h).toNat = bt s k := by unfold bt; rw [dif_pos h]

/-- A letter a to z. -/
def letterB (n : Nat) : Bool := decide (97 ≤ n) && decide (n ≤ 122)

/-- Are the first k bytes letters? -/
def lettersTo (s : ByteArray) : Nat → Bool
  | 0 => true
  | k + 1 => lettersTo s k && letterB (bt s k)

def isWordM (s : ByteArray) : Bool := lettersTo s s.size && (decide (1 ≤ s.size) && decide (s.size ≤ 3))

theorem lettersTo_false (s : ByteArray) (j : Nat) (h : lettersTo s j = false) : ∀ k, j ≤ k → lettersTo s k = false := by
  intro k
  induction k with
  | zero => intro hk; have : j = 0 := by omega
            subst this; exact h
  | succ k ih =>
    intro hk
    by_cases e : j = k + 1
    · subst e; exact h
    · simp [lettersTo, ih (by omega)]

/-- What the loop over a text has cut off behind k bytes: the words, and where the next begins. -/
def cutTo (s : ByteArray) : Nat → List ByteArray × Nat
  | 0 => ([], 0)
  | k + 1 => if bt s k = 47 then ((cutTo s k).1 ++ [s.extract (cutTo s k).2 k], k + 1) else cutTo s k

def wordsM (s : ByteArray) : List ByteArray := (cutTo s s.size).1 ++ [s.extract (cutTo s s.size).2 s.size]

theorem cutTo_le (s : ByteArray) (k : Nat) : (cutTo s k).2 ≤ k ∧ (cutTo s k).1.length ≤ k := by
  induction k with
  | zero => simp [cutTo]
  | succ k ih =>
    unfold cutTo
    split
    · simp; omega
    · omega

theorem cutTo_hit (s : ByteArray) (k : Nat) (h : bt s k = 47) : cutTo s (k + 1) = ((cutTo s k).1 ++ [s.extract (cutTo s k).2 k], k + 1) := by
  rw [cutTo, if_pos h]
theorem cutTo_miss (s : ByteArray) (k : Nat) (h : ¬ bt s k = 47) : cutTo s (k + 1) = cutTo s k := by
  rw [cutTo, if_neg h]

theorem wordsM_len (s : ByteArray) : (wordsM s).length ≤ s.size + 1 := by
  have := cutTo_le s s.size
  simp [wordsM]; omega

/-- Does a filter, cut into its words, fit a topic's words? -/
def alongM : List ByteArray → List ByteArray → Bool
  | [], t => t.isEmpty
  | a :: _, [] => (a.toList == [35])
  | a :: f, b :: t => (a.toList == [35]) || (((a.toList == [43]) || (a.toList == b.toList)) && alongM f t)

/-- May the word stand at that place of a filter (wild), of a topic? -/
def partM (wild last : Bool) (a : ByteArray) : Bool := isWordM a || (wild && ((a.toList == [43]) || ((a.toList == [35]) && last)))

/-- May the words stand so, from one on? -/
def partsM (wild : Bool) : List ByteArray → Bool
  | [] => true
  | a :: l => partM wild l.isEmpty a && partsM wild l

def isPathM (wild : Bool) (s : ByteArray) : Bool := decide (s.size ≤ 15) && decide ((wordsM s).length ≤ 4) && partsM wild (wordsM s)

theorem isWordM_bad (s : ByteArray) (k : Nat) (h : k < s.size) (hb : ¬ (97 ≤ (s[k]'h).toNat ∧ (s[k]'h).toNat ≤ 122)) : isWordM s = false := by
  have h1 : lettersTo s (k + 1) = false := by
    rw [bt_get] at hb
    have : letterB (bt s k) = false := by
      unfold letterB
      by_cases a : 97 ≤ bt s k
      · have : ¬ bt s k ≤ 122 := by omega
        simp [a, this]
      · simp [a]
    simp [lettersTo, this]
  have := lettersTo_false s (k + 1) h1 s.size (by omega)
  simp [isWordM, this]

theorem lettersTo_step (s : ByteArray) (k : Nat) (h : k < s.size) (hl : lettersTo s k = true) (hb : 97 ≤ (s[k]'h).toNat ∧ (s[k]'h).toNat ≤ 122) : lettersTo s (k + 1) = true := by
  rw [bt_get] at hb
  simp [lettersTo, hl, letterB, hb]

theorem isWordM_end (s : ByteArray) (hl : lettersTo s s.size = true) : isWordM s = (decide (1 ≤ s.size) && decide (s.size ≤ 3)) := by
  simp [isWordM, hl]

/-- The words from a place on, one step. -/
theorem parts_drop (wild : Bool) (ws : List ByteArray) (k : Nat) (x : ByteArray) (h : ws[k]? = some x) :
    partsM wild (ws.drop k) = (partM wild ((k : Int) == (ws.length : Int) - 1) x && partsM wild (ws.drop (k + 1))) := by
  obtain ⟨hk, rfl⟩ := List.getElem?_eq_some_iff.1 h
  rw [List.drop_eq_getElem_cons hk, partsM]
  congr 2
  rw [Bool.eq_iff_iff]
  simp
  omega

theorem parts_end (wild : Bool) (ws : List ByteArray) (k : Nat) (h : ws.length ≤ k) : partsM wild (ws.drop k) = true := by
  rw [List.drop_of_length_le h]; rfl

theorem cutTo_mem (s : ByteArray) (k : Nat) : ∀ x ∈ (cutTo s k).1, x.size ≤ s.size := by
  induction k with
  | zero => simp [cutTo]
  | succ k ih =>
    unfold cutTo
    split
    · intro x hx
      simp only [List.mem_append, List.mem_singleton] at hx
      rcases hx with hx | rfl
      · exact ih x hx
      · simp only [ByteArray.size_extract]; omega
    · exact ih

theorem words_mem (s : ByteArray) : ∀ x ∈ wordsM s, x.size ≤ s.size := by
  intro x hx
  simp only [wordsM, List.mem_append, List.mem_singleton] at hx
  rcases hx with hx | rfl
  · exact cutTo_mem s _ x hx
  · simp only [ByteArray.size_extract]; omega

theorem isPathM_bad {wild : Bool} {s : ByteArray} (h : partsM wild (wordsM s) = false) : isPathM wild s = false := by simp [isPathM, h]
theorem isPathM_good {wild : Bool} {s : ByteArray} (h : partsM wild (wordsM s) = true) : isPathM wild s = (decide (s.size ≤ 15) && decide ((wordsM s).length ≤ 4)) := by simp [isPathM, h]

end Go.Proofs.YtmjdndhfmfjbiaaGreat.M

namespace Go.Proofs.YtmjdndhfmfjbiaaGreat
open Go.RowKit

theorem infoStr : (Tryz.prog.info? 9).map (fun i => (i.zero, i.size, i.bytes)) = some (some (.string ⟨#[]⟩), 1, 16) := by kernel_rfl

theorem ret_bool {a b : Bool} (h : a = b) : Ending.returned (.bool a) = .returned (.bool b) := by rw [h]

set_option maxHeartbeats 400000 in
theorem refIsWord (s : ByteArray) (w : World) (hs : s.size ≤ maxLen) :
    Calls Tryz.prog 115 #[.string s] w fun e w' => e = .returned (.bool (M.isWordM s)) ∧ w' = w := by
  unfold maxLen at hs
  go_enter Tryz.func115, Tryz.ntmps115
  go_wp2
  go_loop [3] (fun i => ∃ k : Nat, k ≤ s.size ∧ i = .int .i64 k ∧ M.lettersTo s k = true) (fun i => s.size - (intOf i).toNat)
  case atStart => exact ⟨0, Nat.zero_le _, rfl, rfl⟩
  case round =>
    obtain ⟨k, hk, rfl, hl⟩ := hrel
    by_cases hlt : k < s.size
    · go_wp2
      · go_ret
        exact ⟨ret_bool (M.isWordM_bad s k hlt (by omega)).symm, rfl⟩
      · go_round
        case rel => exact ⟨k + 1, by omega, by go_num, M.lettersTo_step s k hlt hl (by omega)⟩
        case measure => simp [intOf]; omega
      · go_ret
        exact ⟨ret_bool (M.isWordM_bad s k hlt (by omega)).symm, rfl⟩
    · have e : k = s.size := by omega
      subst e
      have HE : Hid _ := M.isWordM_end s hl
      go_wp2
      · go_ret
        exact ⟨ret_bool (by rw [HE.out]; have : 1 ≤ s.size := by omega
                            simp [this]; omega), rfl⟩
      · go_ret
        exact ⟨ret_bool (by rw [HE.out]; have : ¬ 1 ≤ s.size := by omega
                            simp [this]), rfl⟩

set_option maxHeartbeats 400000 in
theorem topIsWord (s : ByteArray) (w : World) (hs : s.size ≤ maxLen) :
    Calls Tryz.prog 118 #[.string s] w fun e w' => e = .returned (.bool (M.isWordM s)) ∧ w' = w := by
  unfold maxLen at hs
  by_cases h1 : 1 ≤ s.size ∧ s.size ≤ 3
  · obtain ⟨h1, h3⟩ := h1
    go_enter Tryz.func118, Tryz.ntmps118
    go_wp2
    go_loop [3] (fun i => ∃ k : Nat, k ≤ s.size ∧ i = .int .i64 k ∧ M.lettersTo s k = true) (fun i => s.size - (intOf i).toNat)
    case atStart => exact ⟨0, Nat.zero_le _, rfl, rfl⟩
    case round =>
      obtain ⟨k, hk, rfl, hl⟩ := hrel
      by_cases hlt : k < s.size
      · go_wp2
        · go_ret
          exact ⟨ret_bool (M.isWordM_bad s k hlt (by omega)).symm, rfl⟩
        · go_round
          case rel => exact ⟨k + 1, by omega, by go_num, M.lettersTo_step s k hlt hl (by omega)⟩
          case measure => simp [intOf]; omega
        · go_ret
          exact ⟨ret_bool (M.isWordM_bad s k hlt (by omega)).symm, rfl⟩
      · have e : k = s.size := by omega
        subst e
        have HE : Hid _ := M.isWordM_end s hl
        go_wp2
        go_ret
        exact ⟨ret_bool (by rw [HE.out]; simp [h1, h3]), rfl⟩
  · have HE : M.isWordM s = false := by
      have : (decide (1 ≤ s.size) && decide (s.size ≤ 3)) = false := by
        by_cases a : 1 ≤ s.size
        · have : ¬ s.size ≤ 3 := by omega
          simp [this]
        · simp [a]
      simp [M.isWordM, this]
    have HH : Hid _ := HE
    clear HE
    by_cases h2 : s.size < 1
    all_goals
      go_enter Tryz.func118, Tryz.ntmps118
      go_wp2
      go_ret
      exact ⟨ret_bool HH.out.symm, rfl⟩
end Go.Proofs.YtmjdndhfmfjbiaaGreat

namespace Go.Proofs.YtmjdndhfmfjbiaaGreat
open Go.RowKit

/-- What the loop of 'words' holds behind k bytes. -/
def CutRel (s : ByteArray) (w : World) (v a i : Value) (wr : World) : Prop :=
  ∃ k : Nat, k ≤ s.size ∧ i = .int .i64 k ∧ a = .int .i64 ((M.cutTo s k).2 : Nat) ∧
    wr.ownsRow w.heap.size 9 1 v (M.cutTo s k).1.length ((M.cutTo s k).1.map Value.string) ∧ Below w.heap.size w wr

theorem strs_oneCell (l : List ByteArray) : ∀ u ∈ l.map Value.string, u.oneCell' = true := by
  intro u hu
  obtain ⟨_, _, rfl⟩ := List.mem_map.1 hu
  rfl

theorem str_one (x : ByteArray) : ∀ u ∈ [Value.string x], u.oneCell' = true := by
  intro u hu
  simp at hu; subst hu; rfl

theorem cut_hit_rel {s : ByteArray} {w wr w1 : World} {v v' : Value} {k : Nat} {o : Obj} (h : M.bt s k = 47)
    (hown : wr.ownsRow w.heap.size 9 1 v (M.cutTo s k).1.length ((M.cutTo s k).1.map Value.string)) (hb : Below w.heap.size w wr)
    (hown' : w1.ownsRow w.heap.size 9 1 v' ((M.cutTo s k).1.length + 1) ((M.cutTo s k).1.map Value.string ++ [.string (s.extract (M.cutTo s k).2 k)])) (hg : (wr.alloc o).grownBy w1 v.ownBlock) :
    w1.ownsRow w.heap.size 9 1 v' (M.cutTo s (k + 1)).1.length ((M.cutTo s (k + 1)).1.map Value.string) ∧ Below w.heap.size w w1 := by
  refine ⟨by rw [M.cutTo_hit s k h]; simpa using hown', (hb.alloc hb.size o).grown hg (by have := hb.size; simp; omega) (fun j hj => (hown.lt j hj).1)⟩

theorem cut_end {s : ByteArray} {w wr w1 : World} {v v' : Value} {o : Obj}
    (hown : wr.ownsRow w.heap.size 9 1 v (M.cutTo s s.size).1.length ((M.cutTo s s.size).1.map Value.string)) (hb : Below w.heap.size w wr)
    (hown' : w1.ownsRow w.heap.size 9 1 v' ((M.cutTo s s.size).1.length + 1) ((M.cutTo s s.size).1.map Value.string ++ [.string (s.extract (M.cutTo s s.size).2 s.size)])) (hg : (wr.alloc o).grownBy w1 v.ownBlock) :
    w1.ownsRow w.heap.size 9 1 v' (M.wordsM s).length ((M.wordsM s).map Value.string) ∧ Below w.heap.size w w1 := by
  refine ⟨by simpa [M.wordsM] using hown', (hb.alloc hb.size o).grown hg (by have := hb.size; simp; omega) (fun j hj => (hown.lt j hj).1)⟩

set_option maxRecDepth 100000 in
set_option maxHeartbeats 800000 in
theorem refWords (s : ByteArray) (w : World) (hs : s.size ≤ 1048576) :
    Calls Tryz.prog 114 #[.string s] w fun e w' => ∃ v, e = .returned v ∧ w'.ownsRow w.heap.size 9 1 v (M.wordsM s).length ((M.wordsM s).map Value.string) ∧ Below w.heap.size w w' := by
  obtain ⟨i0, hi, hz0, hz1, hz2⟩ := info_parts infoStr
  go_enter Tryz.func114, Tryz.ntmps114
  go_wp2
  go_loopw [3, 4, 5] (fun v a i wr => CutRel s w v a i wr) (fun _ _ i _ => s.size - (intOf i).toNat)
  case atStart => exact ⟨0, Nat.zero_le _, rfl, rfl, World.ownsRow_nil _ _ _ _, Below.refl _ _⟩
  case round =>
    obtain ⟨k, hk, rfl, rfl, hown, hnx⟩ := hrel
    have hle := M.cutTo_le s k
    obtain ⟨hle1, hle2⟩ := hle
    have hsz := hnx.size
    by_cases hlt : k < s.size
    · have hget := M.bt_get s k hlt
      by_cases h47 : M.bt s k = 47
      · have ht : (((s[k]'hlt).toNat : Int) == 47) = true := by rw [hget]; simp [h47]
        have H47 : Hid _ := h47
        clear hget h47
        go_wp2_with (first | (at_builtin; refine wpList_append_own _ rfl _ _ 51 rfl w.heap.size 9 i0 (.string ⟨#[]⟩) 1 16 Tryz.underlying51 hi hz0 hz1 hz2 rfl (by decide) _ _ _ rfl (hown.alloc _) ⟨wr.heap.size, 0, none⟩ 1 1 [.string (s.extract (M.cutTo s k).2 k)] rfl rfl (cell_one_new _ _ _) (str_one _) (by unfold maxLen; omega) (by omega) (by simp; omega) ?_))
        intro v' w1 hown' hgrow _
        have R := cut_hit_rel H47.out hown hnx hown' hgrow
        have E : Hid (M.cutTo s (k + 1) = ((M.cutTo s k).1 ++ [s.extract (M.cutTo s k).2 k], k + 1)) := M.cutTo_hit s k H47.out
        clear hown' hgrow hown
        go_wp2
        go_roundw
        case rel => exact ⟨k + 1, by omega, by go_num, by rw [E.out]; go_num, R.1, R.2⟩
        case measure => simp [intOf]; omega
      · have ht : (((s[k]'hlt).toNat : Int) == 47) = false := by rw [hget]; simp; omega
        have H47 : Hid _ := h47
        clear hget h47
        have E : Hid (M.cutTo s (k + 1) = M.cutTo s k) := M.cutTo_miss s k H47.out
        go_wp2
        go_roundw
        case rel => exact ⟨k + 1, by omega, by go_num, by rw [E.out], by rw [E.out]; exact hown, hnx⟩
        case measure => simp [intOf]; omega
    · obtain rfl : k = s.size := by omega
      go_wp2_with (first | (at_builtin; refine wpList_append_own _ rfl _ _ 51 rfl w.heap.size 9 i0 (.string ⟨#[]⟩) 1 16 Tryz.underlying51 hi hz0 hz1 hz2 rfl (by decide) _ _ _ rfl (hown.alloc _) ⟨wr.heap.size, 0, none⟩ 1 1 [.string (s.extract (M.cutTo s s.size).2 s.size)] rfl rfl (cell_one_new _ _ _) (str_one _) (by unfold maxLen; omega) (by omega) (by simp; omega) ?_))
      intro v' w1 hown' hgrow _
      go_wp2
      go_ret
      exact ⟨_, rfl, cut_end hown hnx hown' hgrow⟩

set_option maxRecDepth 100000 in
set_option maxHeartbeats 800000 in
theorem topWords (s : ByteArray) (w : World) (hs : s.size ≤ 1048576) :
    Calls Tryz.prog 117 #[.string s] w fun e w' => ∃ v, e = .returned v ∧ w'.ownsRow w.heap.size 9 1 v (M.wordsM s).length ((M.wordsM s).map Value.string) ∧ Below w.heap.size w w' := by
  obtain ⟨i0, hi, hz0, hz1, hz2⟩ := info_parts infoStr
  go_enter Tryz.func117, Tryz.ntmps117
  go_wp2
  go_loopw [3, 4, 5] (fun v a i wr => CutRel s w v a i wr) (fun _ _ i _ => s.size - (intOf i).toNat)
  case atStart => exact ⟨0, Nat.zero_le _, rfl, rfl, World.ownsRow_nil _ _ _ _, Below.refl _ _⟩
  case round =>
    obtain ⟨k, hk, rfl, rfl, hown, hnx⟩ := hrel
    have hle := M.cutTo_le s k
    obtain ⟨hle1, hle2⟩ := hle
    have hsz := hnx.size
    by_cases hlt : k < s.size
    · have hget := M.bt_get s k hlt
      by_cases h47 : M.bt s k = 47
      · have ht : (((s[k]'hlt).toNat : Int) == 47) = true := by rw [hget]; simp [h47]
        have H47 : Hid _ := h47
        clear hget h47
        go_wp2_with (first | (at_builtin; refine wpList_append_own _ rfl _ _ 51 rfl w.heap.size 9 i0 (.string ⟨#[]⟩) 1 16 Tryz.underlying51 hi hz0 hz1 hz2 rfl (by decide) _ _ _ rfl (hown.alloc _) ⟨wr.heap.size, 0, none⟩ 1 1 [.string (s.extract (M.cutTo s k).2 k)] rfl rfl (cell_one_new _ _ _) (str_one _) (by unfold maxLen; omega) (by omega) (by simp; omega) ?_))
        intro v' w1 hown' hgrow _
        have R := cut_hit_rel H47.out hown hnx hown' hgrow
        have E : Hid (M.cutTo s (k + 1) = ((M.cutTo s k).1 ++ [s.extract (M.cutTo s k).2 k], k + 1)) := M.cutTo_hit s k H47.out
        clear hown' hgrow hown
        go_wp2
        go_roundw
        case rel => exact ⟨k + 1, by omega, by go_num, by rw [E.out]; go_num, R.1, R.2⟩
        case measure => simp [intOf]; omega
      · have ht : (((s[k]'hlt).toNat : Int) == 47) = false := by rw [hget]; simp; omega
        have H47 : Hid _ := h47
        clear hget h47
        have E : Hid (M.cutTo s (k + 1) = M.cutTo s k) := M.cutTo_miss s k H47.out
        go_wp2
        go_roundw
        case rel => exact ⟨k + 1, by omega, by go_num, by rw [E.out], by rw [E.out]; exact hown, hnx⟩
        case measure => simp [intOf]; omega
    · obtain rfl : k = s.size := by omega
      go_wp2_with (first | (at_builtin; refine wpList_append_own _ rfl _ _ 51 rfl w.heap.size 9 i0 (.string ⟨#[]⟩) 1 16 Tryz.underlying51 hi hz0 hz1 hz2 rfl (by decide) _ _ _ rfl (hown.alloc _) ⟨wr.heap.size, 0, none⟩ 1 1 [.string (s.extract (M.cutTo s s.size).2 s.size)] rfl rfl (cell_one_new _ _ _) (str_one _) (by unfold maxLen; omega) (by omega) (by simp; omega) ?_))
      intro v' w1 hown' hgrow _
      go_wp2
      go_ret
      exact ⟨_, rfl, cut_end hown hnx hown' hgrow⟩
end Go.Proofs.YtmjdndhfmfjbiaaGreat

namespace Go.Proofs.YtmjdndhfmfjbiaaGreat
open Go.RowKit

theorem quiet_more {n x m : Nat} {w w1 : World} (h : w1 = (w.drewN (n + x)).drewN m) : ∃ k, w1 = w.drewN (n + k) := ⟨x + m, by rw [h, World.drewN_drewN, Nat.add_assoc]⟩

/-- The cells of a row of texts. -/
def StrsAt (w : World) (ao : Option Addr) (xs : List ByteArray) : Prop := ∀ j x, xs[j]? = some x → ∃ b o, ao = some ⟨b, o, none⟩ ∧ w.cell? ⟨b, o + j, none⟩ = some (.string x)

theorem StrsAt.head {w : World} {ao : Option Addr} {x : ByteArray} {xs : List ByteArray} (h : StrsAt w ao (x :: xs)) : ∃ b o, ao = some ⟨b, o, none⟩ ∧ w.cell? ⟨b, o, none⟩ = some (.string x) := h 0 x rfl
theorem StrsAt.tail {w : World} {b o : Nat} {x : ByteArray} {xs : List ByteArray} (h : StrsAt w (some ⟨b, o, none⟩) (x :: xs)) : StrsAt w (some ⟨b, o + 1, none⟩) xs := fun j y hy => by
  obtain ⟨b', o', e, hc⟩ := h (j + 1) y (by simpa using hy)
  simp at e; obtain ⟨rfl, rfl⟩ := e
  exact ⟨b, o + 1, rfl, by rw [show o + 1 + j = o + (j + 1) from by omega]; exact hc⟩
theorem StrsAt.nil {w : World} (ao : Option Addr) : StrsAt w ao [] := fun j y hy => by simp at hy
/-- 'l[1:]', whatever its capacity. -/
theorem StrsAt.cut {w : World} {b o c : Nat} {x : ByteArray} {xs : List ByteArray} (h : StrsAt w (some ⟨b, o, none⟩) (x :: xs)) (hc : xs.length + 1 ≤ c) : StrsAt w (if c = 1 then some ⟨b, o, none⟩ else some ⟨b, o + 1, none⟩) xs := by
  split
  · have : xs = [] := List.eq_nil_of_length_eq_zero (by omega)
    subst this; exact StrsAt.nil _
  · exact h.tail

set_option maxRecDepth 100000 in
set_option maxHeartbeats 1000000 in
theorem refAlong : ∀ (f t : List ByteArray) (af at_ : Option Addr) (cf ct : Nat) (w : World), f.length ≤ cf → cf ≤ maxLen → t.length ≤ ct → ct ≤ maxLen → StrsAt w af f → StrsAt w at_ t →
    Calls Tryz.prog 122 #[.slice af f.length cf, .slice at_ t.length ct] w fun e w' => e = .returned (.bool (M.alongM f t)) ∧ ∃ n, w' = w.drewN n := by
  intro f
  induction f with
  | nil =>
    intro t af at_ cf ct w h1 h2 h3 h4 hf ht
    unfold maxLen at h2 h4
    go_enter Tryz.func122, Tryz.ntmps122
    go_wp2_with fail
    go_ret
    exact ⟨ret_bool (by cases t <;> simp [M.alongM]; omega), 0, rfl⟩
  | cons a f ih =>
    intro t af at_ cf ct w h1 h2 h3 h4 hf ht
    have h2' := h2
    have h4' := h4
    unfold maxLen at h2 h4
    simp only [List.length_cons] at h1
    obtain ⟨bf, off, rfl, hfc⟩ := hf.head
    have IH : Hid _ := ih
    have HF : Hid _ := hf.cut h1
    clear ih hf
    have f0 : ((f.length : Int) + 1 == 0) = false := by simp; omega
    cases t with
    | nil =>
      cases h35 : (a.toList == [35])
      · have HV : Hid (M.alongM (a :: f) [] = false) := by simpa [M.alongM, Hid] using h35
        go_enter Tryz.func122, Tryz.ntmps122
        go_wp2_with fail
        go_quiet (fail)
        go_wp2_with fail
        go_ret
        exact ⟨ret_bool HV.out.symm, _, rfl⟩
      · have HV : Hid (M.alongM (a :: f) [] = true) := by simpa [M.alongM, Hid] using h35
        go_enter Tryz.func122, Tryz.ntmps122
        go_wp2_with fail
        go_ret
        exact ⟨ret_bool HV.out.symm, 0, rfl⟩
    | cons b t =>
      simp only [List.length_cons] at h3
      obtain ⟨bt, ot, rfl, htc⟩ := ht.head
      have HT : Hid _ := ht.cut h3
      have t0 : ((t.length : Int) + 1 == 0) = false := by simp; omega
      clear ht
      cases h35 : (a.toList == [35])
      · cases h43 : (a.toList == [43])
        · cases heq : (a.toList == b.toList)
          · have HV : Hid (M.alongM (a :: f) (b :: t) = false) := by simp [M.alongM, Hid, h35, h43, heq]
            go_enter Tryz.func122, Tryz.ntmps122
            go_wp2_with fail
            go_quiet (fail)
            go_wp2_with fail
            go_ret
            exact ⟨ret_bool HV.out.symm, _, rfl⟩
          · have HV : Hid (M.alongM (a :: f) (b :: t) = M.alongM f t) := by simp [M.alongM, Hid, h35, h43, heq]
            go_enter Tryz.func122, Tryz.ntmps122
            go_wp2_with fail
            go_quiet (fail)
            go_wp2_with fail
            go_quiet ((go_at_call 122; exact (IH.out t _ _ (cf - 1) (ct - 1) _ (by omega) (by unfold maxLen; omega) (by omega) (by unfold maxLen; omega) (by exact HF.out) (by exact HT.out)).mono fun _ _ ⟨he, m, hm⟩ => ⟨he, quiet_more hm⟩))
            go_wp2_with fail
            all_goals (go_ret; exact ⟨ret_bool HV.out.symm, _, rfl⟩)
        · have HV : Hid (M.alongM (a :: f) (b :: t) = M.alongM f t) := by simp [M.alongM, Hid, h35, h43]
          go_enter Tryz.func122, Tryz.ntmps122
          go_wp2_with fail
          go_quiet (fail)
          go_wp2_with fail
          go_quiet ((go_at_call 122; exact (IH.out t _ _ (cf - 1) (ct - 1) _ (by omega) (by unfold maxLen; omega) (by omega) (by unfold maxLen; omega) (by exact HF.out) (by exact HT.out)).mono fun _ _ ⟨he, m, hm⟩ => ⟨he, quiet_more hm⟩))
          go_wp2_with fail
          all_goals (go_ret; exact ⟨ret_bool HV.out.symm, _, rfl⟩)
      · have HV : Hid (M.alongM (a :: f) (b :: t) = true) := by simp [M.alongM, Hid, h35]
        go_enter Tryz.func122, Tryz.ntmps122
        go_wp2_with fail
        go_ret
        exact ⟨ret_bool HV.out.symm, 0, rfl⟩

theorem StrsAt.below {w w1 : World} {ao : Option Addr} {xs : List ByteArray} (h : StrsAt w ao xs) (hb : Below w.heap.size w w1) : StrsAt w1 ao xs := fun j x hx => by
  obtain ⟨b, o, e, hc⟩ := h j x hx
  exact ⟨b, o, e, cell_later hb hc⟩

theorem owns_strs {w : World} {base : Nat} {v : Value} {xs : List ByteArray} (h : w.ownsRow base 9 1 v xs.length (xs.map Value.string)) (hne : 0 < xs.length) :
    ∃ g cap, v = .slice (some ⟨g, 0, none⟩) xs.length cap ∧ xs.length ≤ cap ∧ cap ≤ maxLen ∧ StrsAt w (some ⟨g, 0, none⟩) xs := by
  obtain ⟨h1, h2⟩ := id h
  rcases h2 with ⟨rfl, h0⟩ | ⟨g, cap, cur, rfl, hg, hh, hn, hm, hc, ht⟩
  · omega
  · refine ⟨g, cap, rfl, hn, hm, fun j x hx => ⟨g, 0, rfl, ?_⟩⟩
    have := h.cells (g := g) rfl j (.string x) (by simp [hx])
    rwa [Addr.add_lit] at this

theorem wordsM_pos (s : ByteArray) : 0 < (M.wordsM s).length := by simp [M.wordsM]

/-- What 'words' leaves: the row of its words, in new memory. -/
def WordsEnd (s : ByteArray) (w : World) (e : Ending) (w1 : World) : Prop :=
  ∃ g cap, e = .returned (.slice (some ⟨g, 0, none⟩) (M.wordsM s).length cap) ∧ (M.wordsM s).length ≤ cap ∧ cap ≤ maxLen ∧ StrsAt w1 (some ⟨g, 0, none⟩) (M.wordsM s) ∧ Below w.heap.size w w1

theorem refWordsE (s : ByteArray) (w : World) (hs : s.size ≤ 1048576) : Calls Tryz.prog 114 #[.string s] w (WordsEnd s w) :=
  (refWords s w hs).mono fun e w1 ⟨v, he, ho, hb⟩ => by
    obtain ⟨g, cap, rfl, h1, h2, h3⟩ := owns_strs ho (wordsM_pos s)
    exact ⟨g, cap, he, h1, h2, h3, hb⟩

theorem topWordsE (s : ByteArray) (w : World) (hs : s.size ≤ 1048576) : Calls Tryz.prog 117 #[.string s] w (WordsEnd s w) :=
  (topWords s w hs).mono fun e w1 ⟨v, he, ho, hb⟩ => by
    obtain ⟨g, cap, rfl, h1, h2, h3⟩ := owns_strs ho (wordsM_pos s)
    exact ⟨g, cap, he, h1, h2, h3, hb⟩

set_option maxHeartbeats 400000 in
theorem refFit (f t : ByteArray) (w : World) (hf : f.size ≤ 1048576) (ht : t.size ≤ 1048576) :
    Calls Tryz.prog 116 #[.string f, .string t] w fun e w' => e = .returned (.bool (M.alongM (M.wordsM f) (M.wordsM t))) ∧ Below w.heap.size w w' := by
  go_enter Tryz.func116, Tryz.ntmps116
  go_wp2_with fail
  refine (refWordsE f _ hf).mono ?_
  rintro e w1 ⟨g1, c1, rfl, a1, a2, a3, a4⟩
  go_wp2_with fail
  refine (refWordsE t _ ht).mono ?_
  rintro e w2 ⟨g2, c2, rfl, b1, b2, b3, b4⟩
  go_wp2_with fail
  refine (refAlong (M.wordsM f) (M.wordsM t) _ _ _ _ _ a1 a2 b1 b2 (a3.below b4) b3).mono ?_
  rintro e w3 ⟨rfl, n, rfl⟩
  go_wp2_with fail
  go_ret
  exact ⟨rfl, (a4.trans (b4.mono a4.size)).trans ⟨rfl, rfl, rfl, Nat.le_refl _, fun _ _ => rfl⟩⟩
end Go.Proofs.YtmjdndhfmfjbiaaGreat

namespace Go.Proofs.YtmjdndhfmfjbiaaGreat
open Go.RowKit

set_option maxRecDepth 100000 in
set_option maxHeartbeats 1000000 in
theorem refIsTopic (s : ByteArray) (w : World) (hs : s.size ≤ 1048576) :
    Calls Tryz.prog 95 #[.string s] w fun e w' => e = .returned (.bool (M.isPathM false s)) ∧ Below w.heap.size w w' := by
  go_enter Tryz.func95, Tryz.ntmps95
  go_wp2_with fail
  refine (refWordsE s _ hs).mono ?_
  rintro e w1 ⟨g, c, rfl, a1, a2, a3, a4⟩
  have hmem := M.words_mem s
  have hlen := M.wordsM_len s
  have HG : Hid (M.partsM false (M.wordsM s) = true → M.isPathM false s = (decide (s.size ≤ 15) && decide ((M.wordsM s).length ≤ 4))) := M.isPathM_good
  have HB : Hid (M.partsM false (M.wordsM s) = false → M.isPathM false s = false) := M.isPathM_bad
  generalize hws : M.wordsM s = ws at *
  clear hws
  have A3 : Hid _ := a3
  have HM : Hid _ := hmem
  clear a3 hmem
  go_wp2_with fail
  go_loop [4] (fun i => ∃ k : Nat, k ≤ ws.length ∧ i = .int .i64 k ∧ M.partsM false ws = M.partsM false (ws.drop k)) (fun i => ws.length - (intOf i).toNat)
  case atStart => exact ⟨0, Nat.zero_le _, rfl, rfl⟩
  case round =>
    obtain ⟨k, hk, rfl, hl⟩ := hrel
    have HL : Hid _ := hl
    clear hl
    by_cases hlt : k < ws.length
    · obtain ⟨x, hx⟩ : ∃ x, ws[k]? = some x := ⟨_, List.getElem?_eq_getElem hlt⟩
      have HP : Hid _ := M.parts_drop false ws k x hx
      have HX : x.size ≤ maxLen := by
        have := HM.out x (List.mem_of_getElem? hx)
        unfold maxLen; omega
      obtain ⟨b, o, e, hc⟩ := A3.out k x hx
      simp only [Option.some.injEq, Addr.mk.injEq] at e
      obtain ⟨rfl, rfl, -⟩ := e
      simp only [Nat.zero_add] at hc
      clear hx
      cases hw : M.isWordM x
      · go_wp2_with (go_at_call 115; refine (refIsWord x _ HX).mono ?_; rintro e w2 ⟨rfl, rfl⟩)
        go_ret
        exact ⟨ret_bool (HB.out (by rw [HL.out, HP.out]; simp [M.partM, hw])).symm, a4⟩
      · go_wp2_with (go_at_call 115; refine (refIsWord x _ HX).mono ?_; rintro e w2 ⟨rfl, rfl⟩)
        go_round
        case rel => exact ⟨k + 1, by omega, by go_num, by rw [HL.out, HP.out]; simp [M.partM, hw]⟩
        case measure => simp [intOf]; omega
    · have HE : Hid (M.isPathM false s = (decide (s.size ≤ 15) && decide (ws.length ≤ 4))) := HG.out (by rw [HL.out]; exact M.parts_end _ _ _ (by omega))
      by_cases h15 : s.size ≤ 15
      all_goals
        go_wp2_with fail
        go_ret
        exact ⟨ret_bool (by rw [HE.out]; simp [h15] <;> omega), a4⟩

set_option maxRecDepth 100000 in
set_option maxHeartbeats 1000000 in
theorem refIsFilter (s : ByteArray) (w : World) (hs : s.size ≤ 1048576) :
    Calls Tryz.prog 96 #[.string s] w fun e w' => e = .returned (.bool (M.isPathM true s)) ∧ Below w.heap.size w w' := by
  go_enter Tryz.func96, Tryz.ntmps96
  go_wp2_with fail
  refine (refWordsE s _ hs).mono ?_
  rintro e w1 ⟨g, c, rfl, a1, a2, a3, a4⟩
  have hmem := M.words_mem s
  have hlen := M.wordsM_len s
  have HG : Hid (M.partsM true (M.wordsM s) = true → M.isPathM true s = (decide (s.size ≤ 15) && decide ((M.wordsM s).length ≤ 4))) := M.isPathM_good
  have HB : Hid (M.partsM true (M.wordsM s) = false → M.isPathM true s = false) := M.isPathM_bad
  generalize hws : M.wordsM s = ws at *
  clear hws
  have A3 : Hid _ := a3
  have HM : Hid _ := hmem
  clear a3 hmem
  go_wp2_with fail
  go_loop [4] (fun i => ∃ k : Nat, k ≤ ws.length ∧ i = .int .i64 k ∧ M.partsM true ws = M.partsM true (ws.drop k)) (fun i => ws.length - (intOf i).toNat)
  case atStart => exact ⟨0, Nat.zero_le _, rfl, rfl⟩
  case round =>
    obtain ⟨k, hk, rfl, hl⟩ := hrel
    have HL : Hid _ := hl
    clear hl
    by_cases hlt : k < ws.length
    · obtain ⟨x, hx⟩ : ∃ x, ws[k]? = some x := ⟨_, List.getElem?_eq_getElem hlt⟩
      have HP : Hid _ := M.parts_drop true ws k x hx
      have HX : x.size ≤ maxLen := by
        have := HM.out x (List.mem_of_getElem? hx)
        unfold maxLen; omega
      obtain ⟨b, o, e, hc⟩ := A3.out k x hx
      simp only [Option.some.injEq, Addr.mk.injEq] at e
      obtain ⟨rfl, rfl, -⟩ := e
      simp only [Nat.zero_add] at hc
      clear hx
      cases hlast : ((k : Int) == (ws.length : Int) - 1)
      all_goals
        rw [hlast] at HP
        cases hw : M.isWordM x
        · cases h43 : (x.toList == [43])
          · cases h35 : (x.toList == [35])
            all_goals
              go_wp2_with (go_at_call 115; refine (refIsWord x _ HX).mono ?_; rintro e w2 ⟨rfl, rfl⟩)
              first
                | (go_ret; exact ⟨ret_bool (HB.out (by rw [HL.out, HP.out]; simp [M.partM, hw, h43, h35])).symm, a4⟩)
                | (go_round
                   case rel => exact ⟨k + 1, by omega, by go_num, by rw [HL.out, HP.out]; simp [M.partM, h43, h35]⟩
                   case measure => simp [intOf]; omega)
          · go_wp2_with (go_at_call 115; refine (refIsWord x _ HX).mono ?_; rintro e w2 ⟨rfl, rfl⟩)
            go_round
            case rel => exact ⟨k + 1, by omega, by go_num, by rw [HL.out, HP.out]; simp [M.partM, h43]⟩
            case measure => simp [intOf]; omega
        · go_wp2_with (go_at_call 115; refine (refIsWord x _ HX).mono ?_; rintro e w2 ⟨rfl, rfl⟩)
          go_round
          case rel => exact ⟨k + 1, by omega, by go_num, by rw [HL.out, HP.out]; simp [M.partM, hw]⟩
          case measure => simp [intOf]; omega
    · have HE : Hid (M.isPathM true s = (decide (s.size ≤ 15) && decide (ws.length ≤ 4))) := HG.out (by rw [HL.out]; exact M.parts_end _ _ _ (by omega))
      by_cases h15 : s.size ≤ 15
      all_goals
        go_wp2_with fail
        go_ret
        exact ⟨ret_bool (by rw [HE.out]; simp [h15] <;> omega), a4⟩
end Go.Proofs.YtmjdndhfmfjbiaaGreat

namespace Go.Proofs.YtmjdndhfmfjbiaaGreat
open Go.RowKit

theorem infoU8 : (Tryz.prog.info? 5).map (fun i => (i.zero, i.size, i.bytes)) = some (some (.int .u8 0), 1, 1) := by kernel_rfl

/-- A new row of bytes, turned into a text. -/
theorem conv_new (w : World) (cs : List Int) :
    (convert 50 9 (.slice (some ⟨w.heap.size, 0, none⟩) cs.length cs.length)).run Tryz.prog (w.alloc (.cells (cs.map (Value.int .u8)).toArray 5)) =
      .ok (.string ⟨(cs.map fun n => UInt8.ofNat n.toNat).toArray⟩) (w.alloc (.cells (cs.map (Value.int .u8)).toArray 5)) := by
  rw [run_convert_bytes_string _ 50 9 5 _ _ _ Tryz.underlying50 Tryz.underlying5 Tryz.underlying9]
  have hl := run_loadCells_list (P := Tryz.prog) (w := w.alloc (.cells (cs.map (Value.int .u8)).toArray 5)) ⟨w.heap.size, 0, none⟩ (cs.map (Value.int .u8)) (fun j v hj => by
    rw [Addr.add_lit, Nat.zero_add, cell_of_row _ w.heap.size j _ _ (0, 0) (heap_alloc_new w _)]
    simpa using hj)
  rw [List.length_map] at hl
  rw [run_bytesToString _ _ _ _ cs hl, foldl_push_bytes]
  simp

end Go.Proofs.YtmjdndhfmfjbiaaGreat

/-
  WORLDS: what an operation may change; rows that are read; where things lie. No program is named here.
-/
namespace Go.Proofs.YtmjdndhfmfjbiaaGreat
open Go.RowKit

/-- Of the blocks that were there only those in S may have changed. -/
structure Upd (S : Nat → Prop) (w w1 : World) : Prop where
  os : w1.os = w.os
  tape : w1.tape = w.tape
  output : w1.output = w.output
  size : w.heap.size ≤ w1.heap.size
  block : ∀ k, k < w.heap.size → ¬ S k → w1.heap[k]? = w.heap[k]?

theorem Upd.refl (S : Nat → Prop) (w : World) : Upd S w w := ⟨rfl, rfl, rfl, Nat.le_refl _, fun _ _ _ => rfl⟩
theorem Upd.trans {S T : Nat → Prop} {a b c : World} (h : Upd S a b) (k : Upd T b c) (hs : ∀ i, i < a.heap.size → T i → S i) : Upd S a c :=
  ⟨k.os.trans h.os, k.tape.trans h.tape, k.output.trans h.output, Nat.le_trans h.size k.size, fun i hi hn =>
    (k.block i (Nat.lt_of_lt_of_le hi h.size) (fun t => hn (hs i hi t))).trans (h.block i hi hn)⟩
theorem Upd.mono {S T : Nat → Prop} {a b : World} (h : Upd S a b) (hs : ∀ i, S i → T i) : Upd T a b :=
  ⟨h.os, h.tape, h.output, h.size, fun i hi hn => h.block i hi (fun s => hn (hs i s))⟩
theorem Upd.below {S : Nat → Prop} {a b c : World} (h : Upd S a b) (k : Below b.heap.size b c) : Upd S a c :=
  h.trans (T := fun _ => False) ⟨k.os, k.tape, k.output, k.size, fun i hi _ => k.block i hi⟩ (fun _ _ f => f.elim)
theorem Upd.of_below {S : Nat → Prop} {a b : World} (k : Below a.heap.size a b) : Upd S a b := (Upd.refl S a).below k
theorem Upd.to_below {S : Nat → Prop} {a b : World} (h : Upd S a b) (hs : ∀ i, i < a.heap.size → ¬ S i) : Below a.heap.size a b := ⟨h.os, h.tape, h.output, h.size, fun i hi => h.block i hi (hs i hi)⟩
theorem Upd.drew {S : Nat → Prop} {a b : World} (h : Upd S a b) : Upd S a b.drew := ⟨h.os, h.tape, h.output, h.size, h.block⟩
theorem Upd.drewN {S : Nat → Prop} {a b : World} {n : Nat} (h : Upd S a b) : Upd S a (b.drewN n) := ⟨h.os, h.tape, h.output, h.size, h.block⟩
theorem Upd.alloc {S : Nat → Prop} {a b : World} (h : Upd S a b) (o : Obj) : Upd S a (b.alloc o) := h.below ((Below.refl _ _).alloc (Nat.le_refl _) o)
theorem Upd.setCell {S : Nat → Prop} {a b : World} (h : Upd S a b) {p : Addr} (hp : p.block < a.heap.size → S p.block) (u : Value) : Upd S a (b.setCell p u) :=
  h.trans (T := fun k => k = p.block) ⟨rfl, rfl, rfl, by simp [World.setCell], fun k _ hk => Below.heap_setCell _ _ _ _ hk⟩ (fun i hi e => by subst e; exact hp hi)
theorem Upd.grown {S : Nat → Prop} {a b c : World} {row : Option Nat} (h : Upd S a b) (k : b.grownBy c row) (hr : ∀ i, row = some i → i < a.heap.size → S i) : Upd S a c :=
  h.trans (T := fun i => some i = row) ⟨k.os, k.tape, k.output, k.size, fun i hi hn => k.block i hi hn⟩ (fun i hi e => hr i e.symm hi)
theorem Upd.cell {S : Nat → Prop} {a b : World} (h : Upd S a b) {p : Addr} {v : Value} (hc : a.cell? p = some v) (hs : ¬ S p.block) : b.cell? p = some v :=
  (World.cell?_of_block (w := a) (h.block p.block (World.block_lt_of_cell? _ _ hc) hs)).trans hc
theorem Upd.frozen {S : Nat → Prop} {a b : World} (h : Upd S a b) {p : Addr} (hp : p.block < a.heap.size) (hs : ¬ S p.block) : b.frozen? p = a.frozen? p :=
  World.frozen?_of_block (w := a) (h.block p.block hp hs)

theorem below_drewN {B : Nat} {a b : World} {n : Nat} (h : Below B a b) : Below B a (b.drewN n) := ⟨h.os, h.tape, h.output, h.size, h.block⟩

/-- A row of whatever cells, of the program's own making. -/
abbrev Row (w : World) (e : TypeId) (size : Nat) (v : Value) (n : Nat) (xs : List Value) : Prop := w.ownsRow 0 e size v n xs

/-- The cells of a row lie there. -/
def CellsAt (w : World) (ao : Option Addr) (xs : List Value) : Prop := ∀ j u, xs[j]? = some u → ∃ g, ao = some ⟨g, 0, none⟩ ∧ w.cell? ⟨g, j, none⟩ = some u

theorem Row.form {w : World} {e : TypeId} {size : Nat} {v : Value} {n : Nat} {xs : List Value} (h : Row w e size v n xs) :
    ∃ ao c, v = .slice ao n c ∧ n ≤ c ∧ c ≤ maxLen ∧ CellsAt w ao xs := by
  have hx := h.1
  rcases h.2 with ⟨rfl, rfl⟩ | ⟨g, cap, cur, rfl, hg, hh, hn, hm, hc, ht⟩
  · refine ⟨none, 0, rfl, Nat.le_refl _, Nat.zero_le _, fun j u hj => ?_⟩
    have : xs = [] := List.eq_nil_of_length_eq_zero (by simpa using hx)
    subst this; simp at hj
  · refine ⟨some ⟨g, 0, none⟩, cap, rfl, hn, hm, fun j u hj => ⟨g, rfl, ?_⟩⟩
    have := h.cells (g := g) rfl j u hj
    rwa [Addr.add_lit, Nat.zero_add] at this

/-- A row stays while its block is as it was. -/
theorem Row.upd {S : Nat → Prop} {w w1 : World} {e : TypeId} {size : Nat} {v : Value} {n : Nat} {xs : List Value} (h : Row w e size v n xs) (k : Upd S w w1) (hs : ∀ g, v.ownBlock = some g → ¬ S g) : Row w1 e size v n xs := by
  refine ⟨h.1, ?_⟩
  rcases h.2 with hn | ⟨g, cap, cur, rfl, hb, hg, rest⟩
  · exact .inl hn
  · refine .inr ⟨g, cap, cur, rfl, hb, ?_, rest⟩
    rw [k.block g (Array.getElem?_eq_some_iff.1 hg).1 (hs g rfl)]
    exact hg

theorem Row.lt {w : World} {e : TypeId} {size : Nat} {v : Value} {n : Nat} {xs : List Value} (h : Row w e size v n xs) {g : Nat} (hg : v.ownBlock = some g) : g < w.heap.size := (World.ownsRow.lt h g hg).2

theorem Row.below {w w1 : World} {e : TypeId} {size : Nat} {v : Value} {n : Nat} {xs : List Value} (h : Row w e size v n xs) (k : Below w.heap.size w w1) : Row w1 e size v n xs :=
  h.upd (S := fun _ => False) (Upd.of_below k) (fun _ _ f => f)

theorem CellsAt.upd {S : Nat → Prop} {w w1 : World} {ao : Option Addr} {xs : List Value} (h : CellsAt w ao xs) (k : Upd S w w1) (hs : ∀ g, ao = some ⟨g, 0, none⟩ → ¬ S g) : CellsAt w1 ao xs := fun j u hj => by
  obtain ⟨g, e, hc⟩ := h j u hj
  exact ⟨g, e, k.cell hc (hs g e)⟩
theorem CellsAt.below {w w1 : World} {ao : Option Addr} {xs : List Value} (h : CellsAt w ao xs) (k : Below w.heap.size w w1) : CellsAt w1 ao xs :=
  h.upd (S := fun _ => False) (Upd.of_below k) (fun _ _ f => f)

/-- The cells of a list of things, each of so many cells. -/
theorem flat_get {α : Type} (f : α → List Value) (n : Nat) (hf : ∀ a, (f a).length = n) : ∀ (l : List α) (k j : Nat) (a : α), l[k]? = some a → j < n → (l.flatMap f)[k * n + j]? = (f a)[j]? := by
  intro l
  induction l with
  | nil => intro k j a h; simp at h
  | cons b l ih =>
    intro k j a h hj
    cases k with
    | zero =>
      simp only [List.getElem?_cons_zero, Option.some.injEq] at h
      subst h
      rw [List.flatMap_cons, Nat.zero_mul, Nat.zero_add, List.getElem?_append_left (by rw [hf]; exact hj)]
    | succ k =>
      rw [List.getElem?_cons_succ] at h
      rw [List.flatMap_cons, List.getElem?_append_right (by rw [hf, Nat.succ_mul]; omega), hf, show (k + 1) * n + j - n = k * n + j from by rw [Nat.succ_mul]; omega]
      exact ih k j a h hj

theorem flat_len {α : Type} (f : α → List Value) (n : Nat) (hf : ∀ a, (f a).length = n) (l : List α) : (l.flatMap f).length = l.length * n := by
  induction l with
  | nil => simp
  | cons b l ih => rw [List.flatMap_cons, List.length_append, ih, hf, List.length_cons, Nat.succ_mul]; omega

/-- Where the first thing stands of which p holds, counted from i; or -1. -/
def findM {α : Type} (p : α → Bool) : List α → Int → Int
  | [], _ => -1
  | a :: l, i => if p a then i else findM p l (i + 1)

theorem find_step {α : Type} (p : α → Bool) (l : List α) (k : Nat) (a : α) (h : l[k]? = some a) : findM p (l.drop k) k = if p a then (k : Int) else findM p (l.drop (k + 1)) ((k + 1 : Nat) : Int) := by
  obtain ⟨hk, rfl⟩ := List.getElem?_eq_some_iff.1 h
  rw [List.drop_eq_getElem_cons hk, findM]
  rfl
theorem find_end {α : Type} (p : α → Bool) (l : List α) (k : Nat) (h : l.length ≤ k) (i : Int) : findM p (l.drop k) i = -1 := by rw [List.drop_of_length_le h]; rfl

theorem ret_int {k : IntKind} {a b : Int} (h : a = b) : Ending.returned (.int k a) = .returned (.int k b) := by rw [h]
end Go.Proofs.YtmjdndhfmfjbiaaGreat

namespace Go.Proofs.YtmjdndhfmfjbiaaGreat
open Go.RowKit

/-- One new block: nothing that was there has changed. -/
theorem below_one (w : World) (o : Obj) : Below w.heap.size w (w.alloc o) := (Below.refl _ _).alloc (Nat.le_refl _) _

theorem strs_get {xs : List ByteArray} {k : Nat} {x : ByteArray} (h : xs[k]? = some x) : (xs.map Value.string)[k]? = some (.string x) := by simp [h]

set_option maxRecDepth 100000 in
set_option maxHeartbeats 400000 in
theorem refHas (fs : List ByteArray) (ao : Option Addr) (c : Nat) (q l : Value) (s : ByteArray) (w : World) (h1 : fs.length ≤ c) (h2 : c ≤ maxLen) (h : CellsAt w ao (fs.map Value.string)) :
    Calls Tryz.prog 97 #[.agg #[.slice ao fs.length c, q, l], .string s] w fun e w' =>
      e = .returned (.int .i64 (findM (fun x => x.toList == s.toList) fs 0)) ∧ Below w.heap.size w w' := by
  unfold maxLen at h2
  have H : Hid (CellsAt w ao (fs.map Value.string)) := h
  clear h
  go_enter Tryz.func97, Tryz.ntmps97
  go_wp2
  go_loop [5] (fun i => ∃ k : Nat, k ≤ fs.length ∧ i = .int .i64 k ∧ findM (fun x => x.toList == s.toList) fs 0 = findM (fun x => x.toList == s.toList) (fs.drop k) k) (fun i => fs.length - (intOf i).toNat)
  case atStart => exact ⟨0, Nat.zero_le _, rfl, rfl⟩
  case round =>
    obtain ⟨k, hk, rfl, hl⟩ := hrel
    have HL : Hid (findM (fun x => x.toList == s.toList) fs 0 = findM (fun x => x.toList == s.toList) (fs.drop k) k) := hl
    clear hl
    by_cases hlt : k < fs.length
    · obtain ⟨x, hx⟩ : ∃ x, fs[k]? = some x := ⟨_, List.getElem?_eq_getElem hlt⟩
      have HS : Hid (findM (fun x => x.toList == s.toList) (fs.drop k) k = if (x.toList == s.toList) then (k : Int) else findM (fun x => x.toList == s.toList) (fs.drop (k + 1)) ((k + 1 : Nat) : Int)) := find_step _ fs k x hx
      obtain ⟨g, rfl, hc⟩ := H.out k _ (strs_get hx)
      have hg : g < w.heap.size := World.block_lt_of_cell? _ _ hc
      clear hx
      cases heq : (x.toList == s.toList)
      all_goals rw [heq] at HS
      · go_wp2
        go_round
        case rel => exact ⟨k + 1, by omega, by go_num, by rw [HL.out, HS.out]; rfl⟩
        case measure => simp [intOf]; omega
      · go_wp2
        go_ret
        exact ⟨ret_int (by rw [HL.out, HS.out]; rfl), below_one _ _⟩
    · go_wp2
      go_ret
      exact ⟨ret_int (by rw [HL.out, find_end _ _ _ (by omega)]), below_one _ _⟩
end Go.Proofs.YtmjdndhfmfjbiaaGreat

namespace Go.Proofs.YtmjdndhfmfjbiaaGreat
open Go.RowKit

/-- A message in a queue; one that waits; an operation: as numbers and texts. -/
structure SentD where
  number : Int
  topic : ByteArray
  value : Int
  sentAt : Int
  life : Int
structure WaitD where
  number : Int
  topic : ByteArray
  value : Int
  deadline : Int
  life : Int
structure OpD where
  kind : Int
  a : Int
  b : Int
  c : Int
  d : Int
  s : ByteArray

def sentCells (x : SentD) : List Value := [.int .i64 x.number, .string x.topic, .int .i64 x.value, .int .i64 x.sentAt, .int .i64 x.life]
def waitCells (x : WaitD) : List Value := [.int .i64 x.number, .string x.topic, .int .i64 x.value, .int .i64 x.deadline, .int .i64 x.life]
def opCells (x : OpD) : List Value := [.int .i64 x.kind, .int .i64 x.a, .int .i64 x.b, .int .i64 x.c, .int .i64 x.d, .string x.s]
theorem sent_len (x : SentD) : (sentCells x).length = 5 := rfl
theorem wait_len (x : WaitD) : (waitCells x).length = 5 := rfl
theorem op_len (x : OpD) : (opCells x).length = 6 := rfl

/-- The five cells of a message that waits, at its place in a row. -/
theorem wait_cells {w : World} {ao : Option Addr} {l : List WaitD} (h : CellsAt w ao (l.flatMap waitCells)) {k : Nat} {x : WaitD} (hx : l[k]? = some x) :
    ∃ g, ao = some ⟨g, 0, none⟩ ∧ g < w.heap.size ∧ w.cell? ⟨g, k * 5, none⟩ = some (.int .i64 x.number) ∧ w.cell? ⟨g, k * 5 + 1, none⟩ = some (.string x.topic) ∧
      w.cell? ⟨g, k * 5 + 2, none⟩ = some (.int .i64 x.value) ∧ w.cell? ⟨g, k * 5 + 3, none⟩ = some (.int .i64 x.deadline) ∧ w.cell? ⟨g, k * 5 + 4, none⟩ = some (.int .i64 x.life) := by
  have F := flat_get waitCells 5 wait_len l k
  obtain ⟨g, e0, h0⟩ := h (k * 5 + 0) (.int .i64 x.number) (by rw [F 0 x hx (by omega)]; rfl)
  obtain ⟨g1, e1, h1⟩ := h (k * 5 + 1) (.string x.topic) (by rw [F 1 x hx (by omega)]; rfl)
  obtain ⟨g2, e2, h2⟩ := h (k * 5 + 2) (.int .i64 x.value) (by rw [F 2 x hx (by omega)]; rfl)
  obtain ⟨g3, e3, h3⟩ := h (k * 5 + 3) (.int .i64 x.deadline) (by rw [F 3 x hx (by omega)]; rfl)
  obtain ⟨g4, e4, h4⟩ := h (k * 5 + 4) (.int .i64 x.life) (by rw [F 4 x hx (by omega)]; rfl)
  rw [e0] at e1 e2 e3 e4
  simp only [Option.some.injEq, Addr.mk.injEq, and_true] at e1 e2 e3 e4
  subst e1 e2 e3 e4
  exact ⟨g, e0, World.block_lt_of_cell? _ _ h0, h0, h1, h2, h3, h4⟩

theorem sent_cells {w : World} {ao : Option Addr} {l : List SentD} (h : CellsAt w ao (l.flatMap sentCells)) {k : Nat} {x : SentD} (hx : l[k]? = some x) :
    ∃ g, ao = some ⟨g, 0, none⟩ ∧ g < w.heap.size ∧ w.cell? ⟨g, k * 5, none⟩ = some (.int .i64 x.number) ∧ w.cell? ⟨g, k * 5 + 1, none⟩ = some (.string x.topic) ∧
      w.cell? ⟨g, k * 5 + 2, none⟩ = some (.int .i64 x.value) ∧ w.cell? ⟨g, k * 5 + 3, none⟩ = some (.int .i64 x.sentAt) ∧ w.cell? ⟨g, k * 5 + 4, none⟩ = some (.int .i64 x.life) := by
  have F := flat_get sentCells 5 sent_len l k
  obtain ⟨g, e0, h0⟩ := h (k * 5 + 0) (.int .i64 x.number) (by rw [F 0 x hx (by omega)]; rfl)
  obtain ⟨g1, e1, h1⟩ := h (k * 5 + 1) (.string x.topic) (by rw [F 1 x hx (by omega)]; rfl)
  obtain ⟨g2, e2, h2⟩ := h (k * 5 + 2) (.int .i64 x.value) (by rw [F 2 x hx (by omega)]; rfl)
  obtain ⟨g3, e3, h3⟩ := h (k * 5 + 3) (.int .i64 x.sentAt) (by rw [F 3 x hx (by omega)]; rfl)
  obtain ⟨g4, e4, h4⟩ := h (k * 5 + 4) (.int .i64 x.life) (by rw [F 4 x hx (by omega)]; rfl)
  rw [e0] at e1 e2 e3 e4
  simp only [Option.some.injEq, Addr.mk.injEq, and_true] at e1 e2 e3 e4
  subst e1 e2 e3 e4
  exact ⟨g, e0, World.block_lt_of_cell? _ _ h0, h0, h1, h2, h3, h4⟩

set_option maxRecDepth 100000 in
set_option maxHeartbeats 400000 in
theorem refHolds (qs : List SentD) (ao : Option Addr) (c : Nat) (q l : Value) (n : Int) (w : World) (h1 : qs.length ≤ c) (h2 : c ≤ maxLen) (h : CellsAt w ao (qs.flatMap sentCells)) :
    Calls Tryz.prog 100 #[.agg #[q, .slice ao qs.length c, l], .int .i64 n] w fun e w' =>
      e = .returned (.int .i64 (findM (fun x => x.number == n) qs 0)) ∧ Below w.heap.size w w' := by
  unfold maxLen at h2
  have H : Hid (CellsAt w ao (qs.flatMap sentCells)) := h
  clear h
  go_enter Tryz.func100, Tryz.ntmps100
  go_wp2
  go_loop [5] (fun i => ∃ k : Nat, k ≤ qs.length ∧ i = .int .i64 k ∧ findM (fun x : SentD => x.number == n) qs 0 = findM (fun x => x.number == n) (qs.drop k) k) (fun i => qs.length - (intOf i).toNat)
  case atStart => exact ⟨0, Nat.zero_le _, rfl, rfl⟩
  case round =>
    obtain ⟨k, hk, rfl, hl⟩ := hrel
    have HL : Hid (findM (fun x : SentD => x.number == n) qs 0 = findM (fun x => x.number == n) (qs.drop k) k) := hl
    clear hl
    by_cases hlt : k < qs.length
    · obtain ⟨x, hx⟩ : ∃ x, qs[k]? = some x := ⟨_, List.getElem?_eq_getElem hlt⟩
      have HS : Hid (findM (fun x : SentD => x.number == n) (qs.drop k) k = if (x.number == n) then (k : Int) else findM (fun x => x.number == n) (qs.drop (k + 1)) ((k + 1 : Nat) : Int)) := find_step _ qs k x hx
      obtain ⟨g, rfl, hg, hc, -⟩ := sent_cells H.out hx
      clear hx
      cases heq : (x.number == n)
      all_goals rw [heq] at HS
      · go_wp2
        go_round
        case rel => exact ⟨k + 1, by omega, by go_num, by rw [HL.out, HS.out]; rfl⟩
        case measure => simp [intOf]; omega
      · go_wp2
        go_ret
        exact ⟨ret_int (by rw [HL.out, HS.out]; rfl), below_one _ _⟩
    · go_wp2
      go_ret
      exact ⟨ret_int (by rw [HL.out, find_end _ _ _ (by omega)]), below_one _ _⟩

/-- The reference's world, as numbers, texts and lists. -/
structure RefS where
  room : Int
  done : List OpD
  time : Int
  pub : Int
  fil : Nat → List ByteArray
  que : Nat → List SentD
  lost : Nat → Int
  wait : List WaitD

/-- Its lists, as they lie. -/
structure RefV where
  doneV : Value
  filV : Nat → Value
  queV : Nat → Value
  waitV : Value

structure RefAt (w : World) (B : Nat) (x : RefV) (S : RefS) : Prop where
  obj : ∃ cur, w.heap[B]? = some (.cells cur 66 (0, 0))
  room : w.cell? ⟨B, 0, none⟩ = some (.int .i64 S.room)
  done : w.cell? ⟨B, 1, none⟩ = some x.doneV
  time : w.cell? ⟨B, 2, none⟩ = some (.int .i64 S.time)
  pub : w.cell? ⟨B, 3, none⟩ = some (.int .i64 S.pub)
  fil : ∀ a, a < 8 → w.cell? ⟨B, 4 + a * 3, none⟩ = some (x.filV a)
  que : ∀ a, a < 8 → w.cell? ⟨B, 4 + a * 3 + 1, none⟩ = some (x.queV a)
  lost : ∀ a, a < 8 → w.cell? ⟨B, 4 + a * 3 + 2, none⟩ = some (.int .i64 (S.lost a))
  wait : w.cell? ⟨B, 28, none⟩ = some x.waitV

theorem RefAt.lt {w : World} {B : Nat} {x : RefV} {S : RefS} (h : RefAt w B x S) : B < w.heap.size := World.block_lt_of_cell? _ _ h.room
theorem RefAt.free {w : World} {B : Nat} {x : RefV} {S : RefS} (h : RefAt w B x S) (o : Nat) : w.frozen? ⟨B, o, none⟩ = false := by
  obtain ⟨cur, hc⟩ := h.obj
  exact frozen_of_row w B o cur _ hc

theorem RefAt.upd {P : Nat → Prop} {w w1 : World} {B : Nat} {x : RefV} {S : RefS} (h : RefAt w B x S) (k : Upd P w w1) (hs : ¬ P B) : RefAt w1 B x S :=
  ⟨by rw [k.block B h.lt hs]; exact h.obj, k.cell h.room hs, k.cell h.done hs, k.cell h.time hs, k.cell h.pub hs, fun a ha => k.cell (h.fil a ha) hs, fun a ha => k.cell (h.que a ha) hs, fun a ha => k.cell (h.lost a ha) hs, k.cell h.wait hs⟩

set_option maxRecDepth 100000 in
set_option maxHeartbeats 400000 in
theorem refWaits (ws : List WaitD) (ao : Option Addr) (c B : Nat) (x : RefV) (S : RefS) (n : Int) (w : World) (h1 : ws.length ≤ c) (h2 : c ≤ maxLen) (h : CellsAt w ao (ws.flatMap waitCells)) (hr : RefAt w B x S) (hv : x.waitV = .slice ao ws.length c) :
    Calls Tryz.prog 99 #[.pointer (some ⟨B, 0, none⟩), .int .i64 n] w fun e w' =>
      e = .returned (.int .i64 (findM (fun x => x.number == n) ws 0)) ∧ w' = w := by
  unfold maxLen at h2
  have H : Hid (CellsAt w ao (ws.flatMap waitCells)) := h
  have hw := hr.wait
  rw [hv] at hw
  clear h hr hv
  go_enter Tryz.func99, Tryz.ntmps99
  go_wp2
  go_loop [5] (fun i => ∃ k : Nat, k ≤ ws.length ∧ i = .int .i64 k ∧ findM (fun x : WaitD => x.number == n) ws 0 = findM (fun x => x.number == n) (ws.drop k) k) (fun i => ws.length - (intOf i).toNat)
  case atStart => exact ⟨0, Nat.zero_le _, rfl, rfl⟩
  case round =>
    obtain ⟨k, hk, rfl, hl⟩ := hrel
    have HL : Hid (findM (fun x : WaitD => x.number == n) ws 0 = findM (fun x => x.number == n) (ws.drop k) k) := hl
    clear hl
    by_cases hlt : k < ws.length
    · obtain ⟨x, hx⟩ : ∃ x, ws[k]? = some x := ⟨_, List.getElem?_eq_getElem hlt⟩
      have HS : Hid (findM (fun x : WaitD => x.number == n) (ws.drop k) k = if (x.number == n) then (k : Int) else findM (fun x => x.number == n) (ws.drop (k + 1)) ((k + 1 : Nat) : Int)) := find_step _ ws k x hx
      obtain ⟨g, rfl, hg, hc, -⟩ := wait_cells H.out hx
      clear hx
      cases heq : (x.number == n)
      all_goals rw [heq] at HS
      · go_wp2
        go_round
        case rel => exact ⟨k + 1, by omega, by go_num, by rw [HL.out, HS.out]; rfl⟩
        case measure => simp [intOf]; omega
      · go_wp2
        go_ret
        exact ⟨ret_int (by rw [HL.out, HS.out]; rfl), rfl⟩
    · go_wp2
      go_ret
      exact ⟨ret_int (by rw [HL.out, find_end _ _ _ (by omega)]), rfl⟩

theorem ret_bool' {a b : Bool} (h : a = b) : Ending.returned (.bool a) = .returned (.bool b) := by rw [h]

def isTimeM (t : Int) : Bool := decide (0 ≤ t) && decide (t ≤ 1099511627776)
theorem refIsTime (t : Int) (w : World) : Calls Tryz.prog 98 #[.int .i64 t] w fun e w' => e = .returned (.bool (isTimeM t)) ∧ w' = w := by
  by_cases h0 : 0 ≤ t
  all_goals
    go_enter Tryz.func98, Tryz.ntmps98
    go_wp2
    go_ret
    exact ⟨ret_bool' (by unfold isTimeM; first | (rw [decide_eq_true h0]; rfl) | (rw [decide_eq_false (by omega)]; rfl)), rfl⟩

def laterM (time delay : Int) : Int := if 1099511627776 < time + delay then 1099511627776 else time + delay
theorem refLater (B : Nat) (x : RefV) (S : RefS) (d : Int) (w : World) (hr : RefAt w B x S) (h0 : 0 ≤ S.time) (h1 : S.time ≤ 1099511627776) (h2 : 0 ≤ d) (h3 : d ≤ 1099511627776) :
    Calls Tryz.prog 102 #[.pointer (some ⟨B, 0, none⟩), .int .i64 d] w fun e w' => e = .returned (.int .i64 (laterM S.time d)) ∧ w' = w := by
  have ht := hr.time
  clear hr
  by_cases h : 1099511627776 < S.time + d
  all_goals
    go_enter Tryz.func102, Tryz.ntmps102
    go_wp2
    go_ret
    exact ⟨ret_int (by simp [laterM]; omega), rfl⟩
end Go.Proofs.YtmjdndhfmfjbiaaGreat
