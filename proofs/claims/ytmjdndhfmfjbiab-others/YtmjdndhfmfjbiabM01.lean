import Derived.Test.YtmjdndhfmfjbiabRows
import Derived.WalkKit
import Derived.WalkSpells
import Derived.BigQuiet
import Derived.Deep.OwnRows
import Derived.Laws.BytesArg
import Derived.Maps.AppendAt
import Derived.Deep.Draws
import Derived.Deep.RegionHeld3
import Derived.Deep.AppendLies
import Derived.Deep.DrawnRows
import Derived.WalkLawsBesides
/-
  PLAIN MATHEMATICS OF TOPICS AND FILTERS: no program is named here. Texts are byte arrays; 'wordsM' cuts at each stroke as both programs do.
-/
namespace Go.Proofs.Ytmjdndhfmfjbiab.M

/-- The byte at a place, as a number; 0 behind the end. -/
def bt (s : ByteArray) (k : Nat) : Nat := if h : k < s.size then (s[k]'h).toNat else 0

theorem bt_get (s : ByteArray) (k : Nat) (h : k < s.size) : (s[k]'h).toNat = bt s k := by unfold bt; rw [dif_pos h]

/-- A letter a to z. -/
def letterB (n : Nat) : Bool := decide (97 ≤ n) && decide (n ≤ 122)

/-- Are the first k bytes letters? -/
def lettersTo (s : ByteArray) : Nat → Bool
  | 0 => true
  | k + 1 => lettersTo s k && letterB (bt s k)

def isWordM (s : ByteArray) : Bool := lettersTo s s.size && (decide (1 ≤ s.size) && decide (s.size ≤ 3))

theorem lettersTo_false (s : ByteArray) (j : Nat) (h : lettersTo s j = false) : ∀ k, j ≤ k → lettersTo s k = false := by
  intro k
  induction k with
  | zero => intro hk; have : j = 0 := by omega
            subst this; exact h
  | succ k ih =>
    intro hk
    by_cases e : j = k + 1
    · subst e; exact h
    · simp [lettersTo, ih (by omega)]

/-- What the loop over a text has cut off behind k bytes: the words, and where the next begins. -/
def cutTo (s : ByteArray) : Nat → List ByteArray × Nat
  | 0 => ([], 0)
  | k + 1 => if bt s k = 47 then ((cutTo s k).1 ++ [s.extract (cutTo s k).2 k], k + 1) else cutTo s k

def wordsM (s : ByteArray) : List ByteArray := (cutTo s s.size).1 ++ [s.extract (cutTo s s.size).2 s.size]

theorem cutTo_le (s : ByteArray) (k : Nat) : (cutTo s k).2 ≤ k ∧ (cutTo s k).1.length ≤ k := by
  induction k with
  | zero => simp [cutTo]
  | succ k ih =>
    unfold cutTo
    split
    · simp; omega
    · omega

theorem cutTo_hit (s : ByteArray) (k : Nat) (h : bt s k = 47) : cutTo s (k + 1) = ((cutTo s k).1 ++ [s.extract (cutTo s k).2 k], k + 1) := by
  rw [cutTo, if_pos h]
theorem cutTo_miss (s : ByteArray) (k : Nat) (h : ¬ bt s k = 47) : cutTo s (k + 1) = cutTo s k := by
  rw [cutTo, if_neg h]

theorem wordsM_len (s : ByteArray) : (wordsM s).length ≤ s.size + 1 := by
  have := cutTo_le s s.size
  simp [wordsM]; omega

/-- Does a filter, cut into its words, fit a topic's words? -/
def alongM : List ByteArray → List ByteArray → Bool
  | [], t => t.isEmpty
  | a :: _, [] => (a.toList == [35])
  | a :: f, b :: t => (a.toList == [35]) || (((a.toList == [43]) || (a.toList == b.toList)) && alongM f t)

/-- May the word stand at that place of a filter (wild), of a topic? -/
def partM (wild last : Bool) (a : ByteArray) : Bool := isWordM a || (wild && ((a.toList == [43]) || ((a.toList == [35]) && last)))

/-- May the words stand so, from one on? -/
def partsM (wild : Bool) : List ByteArray → Bool
  | [] => true
  | a :: l => partM wild l.isEmpty a && partsM wild l

def isPathM (wild : Bool) (s : ByteArray) : Bool := decide (s.size ≤ 15) && decide ((wordsM s).length ≤ 4) && partsM wild (wordsM s)

theorem isWordM_bad (s : ByteArray) (k : Nat) (h : k < s.size) (hb : ¬ (97 ≤ (s[k]'h).toNat ∧ (s[k]'h).toNat ≤ 122)) : isWordM s = false := by
  have h1 : lettersTo s (k + 1) = false := by
    rw [bt_get] at hb
    have : letterB (bt s k) = false := by
      unfold letterB
      by_cases a : 97 ≤ bt s k
      · have : ¬ bt s k ≤ 122 := by omega
        simp [a, this]
      · simp [a]
    simp [lettersTo, this]
  have := lettersTo_false s (k + 1) h1 s.size (by omega)
  simp [isWordM, this]

theorem lettersTo_step (s : ByteArray) (k : Nat) (h : k < s.size) (hl : lettersTo s k = true) (hb : 97 ≤ (s[k]'h).toNat ∧ (s[k]'h).toNat ≤ 122) : lettersTo s (k + 1) = true := by
  rw [bt_get] at hb
  simp [lettersTo, hl, letterB, hb]

theorem isWordM_end (s : ByteArray) (hl : lettersTo s s.size = true) : isWordM s = (decide (1 ≤ s.size) && decide (s.size ≤ 3)) := by
  simp [isWordM, hl]

/-- The words from a place on, one step. -/
theorem parts_drop (wild : Bool) (ws : List ByteArray) (k : Nat) (x : ByteArray) (h : ws[k]? = some x) :
    partsM wild (ws.drop k) = (partM wild ((k : Int) == (ws.length : Int) - 1) x && partsM wild (ws.drop (k + 1))) := by
  obtain ⟨hk, rfl⟩ := List.getElem?_eq_some_iff.1 h
  rw [List.drop_eq_getElem_cons hk, partsM]
  congr 2
  rw [Bool.eq_iff_iff]
  simp
  omega

theorem parts_end (wild : Bool) (ws : List ByteArray) (k : Nat) (h : ws.length ≤ k) : partsM wild (ws.drop k) = true := by
  rw [List.drop_of_length_le h]; rfl

theorem cutTo_mem (s : ByteArray) (k : Nat) : ∀ x ∈ (cutTo s k).1, x.size ≤ s.size := by
  induction k with
  | zero => simp [cutTo]
  | succ k ih =>
    unfold cutTo
    split
    · intro x hx
      simp only [List.mem_append, List.mem_singleton] at hx
      rcases hx with hx | rfl
      · exact ih x hx
      · simp only [ByteArray.size_extract]; omega
    · exact ih

theorem words_mem (s : ByteArray) : ∀ x ∈ wordsM s, x.size ≤ s.size := by
  intro x hx
  simp only [wordsM, List.mem_append, List.mem_singleton] at hx
  rcases hx with hx | rfl
  · exact cutTo_mem s _ x hx
  · simp only [ByteArray.size_extract]; omega

theorem isPathM_bad {wild : Bool} {s : ByteArray} (h : partsM wild (wordsM s) = false) : isPathM wild s = false := by simp [isPathM, h]
theorem isPathM_good {wild : Bool} {s : ByteArray} (h : partsM wild (wordsM s) = true) : isPathM wild s = (decide (s.size ≤ 15) && decide ((wordsM s).length ≤ 4)) := by simp [isPathM, h]

end Go.Proofs.Ytmjdndhfmfjbiab.M

namespace Go.Proofs.Ytmjdndhfmfjbiab
open Go.RowKit

theorem infoStr : (Try.prog.info? 9).map (fun i => (i.zero, i.size, i.bytes)) = some (some (.string ⟨#[]⟩), 1, 16) := by kernel_rfl

theorem ret_bool {a b : Bool} (h : a = b) : Ending.returned (.bool a) = .returned (.bool b) := by rw [h]

set_option maxHeartbeats 400000 in
theorem topIsWord (s : ByteArray) (w : World) (hs : s.size ≤ maxLen) :
    Calls Try.prog 87 #[.string s] w fun e w' => e = .returned (.bool (M.isWordM s)) ∧ w' = w := by
  unfold maxLen at hs
  by_cases h1 : 1 ≤ s.size ∧ s.size ≤ 3
  · obtain ⟨h1, h3⟩ := h1
    go_enter Try.func87, Try.ntmps87
    go_wp2
    go_loop [3] (fun i => ∃ k : Nat, k ≤ s.size ∧ i = .int .i64 k ∧ M.lettersTo s k = true) (fun i => s.size - (intOf i).toNat)
    case atStart => exact ⟨0, Nat.zero_le _, rfl, rfl⟩
    case round =>
      obtain ⟨k, hk, rfl, hl⟩ := hrel
      by_cases hlt : k < s.size
      · go_wp2
        · go_ret
          exact ⟨ret_bool (M.isWordM_bad s k hlt (by omega)).symm, rfl⟩
        · go_round
          case rel => exact ⟨k + 1, by omega, by go_num, M.lettersTo_step s k hlt hl (by omega)⟩
          case measure => simp [intOf]; omega
        · go_ret
          exact ⟨ret_bool (M.isWordM_bad s k hlt (by omega)).symm, rfl⟩
      · have e : k = s.size := by omega
        subst e
        have HE : Hid _ := M.isWordM_end s hl
        go_wp2
        go_ret
        exact ⟨ret_bool (by rw [HE.out]; simp [h1, h3]), rfl⟩
  · have HE : M.isWordM s = false := by
      have : (decide (1 ≤ s.size) && decide (s.size ≤ 3)) = false := by
        by_cases a : 1 ≤ s.size
        · have : ¬ s.size ≤ 3 := by omega
          simp [this]
        · simp [a]
      simp [M.isWordM, this]
    have HH : Hid _ := HE
    clear HE
    by_cases h2 : s.size < 1
    all_goals
      go_enter Try.func87, Try.ntmps87
      go_wp2
      go_ret
      exact ⟨ret_bool HH.out.symm, rfl⟩
end Go.Proofs.Ytmjdndhfmfjbiab

namespace Go.Proofs.Ytmjdndhfmfjbiab
open Go.RowKit

/-- What the loop of 'words' holds behind k bytes. -/
def CutRel (s : ByteArray) (w : World) (v a i : Value) (wr : World) : Prop :=
  ∃ k : Nat, k ≤ s.size ∧ i = .int .i64 k ∧ a = .int .i64 ((M.cutTo s k).2 : Nat) ∧
    wr.ownsRow w.heap.size 9 1 v (M.cutTo s k).1.length ((M.cutTo s k).1.map Value.string) ∧ Below w.heap.size w wr

theorem strs_oneCell (l : List ByteArray) : ∀ u ∈ l.map Value.string, u.oneCell' = true := by
  intro u hu
  obtain ⟨_, _, rfl⟩ := List.mem_map.1 hu
  rfl

theorem str_one (x : ByteArray) : ∀ u ∈ [Value.string x], u.oneCell' = true := by
  intro u hu
  simp at hu; subst hu; rfl

theorem cut_hit_rel {s : ByteArray} {w wr w1 : World} {v v' : Value} {k : Nat} {o : Obj} (h : M.bt s k = 47)
    (hown : wr.ownsRow w.heap.size 9 1 v (M.cutTo s k).1.length ((M.cutTo s k).1.map Value.string)) (hb : Below w.heap.size w wr)
    (hown' : w1.ownsRow w.heap.size 9 1 v' ((M.cutTo s k).1.length + 1) ((M.cutTo s k).1.map Value.string ++ [.string (s.extract (M.cutTo s k).2 k)])) (hg : (wr.alloc o).grownBy w1 v.ownBlock) :
    w1.ownsRow w.heap.size 9 1 v' (M.cutTo s (k + 1)).1.length ((M.cutTo s (k + 1)).1.map Value.string) ∧ Below w.heap.size w w1 := by
  refine ⟨by rw [M.cutTo_hit s k h]; simpa using hown', (hb.alloc hb.size o).grown hg (by have := hb.size; simp; omega) (fun j hj => (hown.lt j hj).1)⟩

theorem cut_end {s : ByteArray} {w wr w1 : World} {v v' : Value} {o : Obj}
    (hown : wr.ownsRow w.heap.size 9 1 v (M.cutTo s s.size).1.length ((M.cutTo s s.size).1.map Value.string)) (hb : Below w.heap.size w wr)
    (hown' : w1.ownsRow w.heap.size 9 1 v' ((M.cutTo s s.size).1.length + 1) ((M.cutTo s s.size).1.map Value.string ++ [.string (s.extract (M.cutTo s s.size).2 s.size)])) (hg : (wr.alloc o).grownBy w1 v.ownBlock) :
    w1.ownsRow w.heap.size 9 1 v' (M.wordsM s).length ((M.wordsM s).map Value.string) ∧ Below w.heap.size w w1 := by
  refine ⟨by simpa [M.wordsM] using hown', (hb.alloc hb.size o).grown hg (by have := hb.size; simp; omega) (fun j hj => (hown.lt j hj).1)⟩

set_option maxRecDepth 100000 in
set_option maxHeartbeats 800000 in
theorem topWords (s : ByteArray) (w : World) (hs : s.size ≤ 1048576) :
    Calls Try.prog 86 #[.string s] w fun e w' => ∃ v, e = .returned v ∧ w'.ownsRow w.heap.size 9 1 v (M.wordsM s).length ((M.wordsM s).map Value.string) ∧ Below w.heap.size w w' := by
  obtain ⟨i0, hi, hz0, hz1, hz2⟩ := info_parts infoStr
  go_enter Try.func86, Try.ntmps86
  go_wp2
  go_loopw [3, 4, 5] (fun v a i wr => CutRel s w v a i wr) (fun _ _ i _ => s.size - (intOf i).toNat)
  case atStart => exact ⟨0, Nat.zero_le _, rfl, rfl, World.ownsRow_nil _ _ _ _, Below.refl _ _⟩
  case round =>
    obtain ⟨k, hk, rfl, rfl, hown, hnx⟩ := hrel
    have hle := M.cutTo_le s k
    obtain ⟨hle1, hle2⟩ := hle
    have hsz := hnx.size
    by_cases hlt : k < s.size
    · have hget := M.bt_get s k hlt
      by_cases h47 : M.bt s k = 47
      · have ht : (((s[k]'hlt).toNat : Int) == 47) = true := by rw [hget]; simp [h47]
        have H47 : Hid _ := h47
        clear hget h47
        go_wp2_with (first | (at_builtin; refine wpList_append_own _ rfl _ _ 86 rfl w.heap.size 9 i0 (.string ⟨#[]⟩) 1 16 Try.underlying86 hi hz0 hz1 hz2 rfl (by decide) _ _ _ rfl (hown.alloc _) ⟨wr.heap.size, 0, none⟩ 1 1 [.string (s.extract (M.cutTo s k).2 k)] rfl rfl (cell_one_new _ _ _) (str_one _) (by unfold maxLen; omega) (by omega) (by simp; omega) ?_))
        intro v' w1 hown' hgrow _
        have R := cut_hit_rel H47.out hown hnx hown' hgrow
        have E : Hid (M.cutTo s (k + 1) = ((M.cutTo s k).1 ++ [s.extract (M.cutTo s k).2 k], k + 1)) := M.cutTo_hit s k H47.out
        clear hown' hgrow hown
        go_wp2
        go_roundw
        case rel => exact ⟨k + 1, by omega, by go_num, by rw [E.out]; go_num, R.1, R.2⟩
        case measure => simp [intOf]; omega
      · have ht : (((s[k]'hlt).toNat : Int) == 47) = false := by rw [hget]; simp; omega
        have H47 : Hid _ := h47
        clear hget h47
        have E : Hid (M.cutTo s (k + 1) = M.cutTo s k) := M.cutTo_miss s k H47.out
        go_wp2
        go_roundw
        case rel => exact ⟨k + 1, by omega, by go_num, by rw [E.out], by rw [E.out]; exact hown, hnx⟩
        case measure => simp [intOf]; omega
    · obtain rfl : k = s.size := by omega
      go_wp2_with (first | (at_builtin; refine wpList_append_own _ rfl _ _ 86 rfl w.heap.size 9 i0 (.string ⟨#[]⟩) 1 16 Try.underlying86 hi hz0 hz1 hz2 rfl (by decide) _ _ _ rfl (hown.alloc _) ⟨wr.heap.size, 0, none⟩ 1 1 [.string (s.extract (M.cutTo s s.size).2 s.size)] rfl rfl (cell_one_new _ _ _) (str_one _) (by unfold maxLen; omega) (by omega) (by simp; omega) ?_))
      intro v' w1 hown' hgrow _
      go_wp2
      go_ret
      exact ⟨_, rfl, cut_end hown hnx hown' hgrow⟩
end Go.Proofs.Ytmjdndhfmfjbiab

namespace Go.Proofs.Ytmjdndhfmfjbiab
open Go.RowKit

theorem quiet_more {n x m : Nat} {w w1 : World} (h : w1 = (w.drewN (n + x)).drewN m) : ∃ k, w1 = w.drewN (n + k) := ⟨x + m, by rw [h, World.drewN_drewN, Nat.add_assoc]⟩

/-- The cells of a row of texts. -/
def StrsAt (w : World) (ao : Option Addr) (xs : List ByteArray) : Prop := ∀ j x, xs[j]? = some x → ∃ b o, ao = some ⟨b, o, none⟩ ∧ w.cell? ⟨b, o + j, none⟩ = some (.string x)

theorem StrsAt.head {w : World} {ao : Option Addr} {x : ByteArray} {xs : List ByteArray} (h : StrsAt w ao (x :: xs)) : ∃ b o, ao = some ⟨b, o, none⟩ ∧ w.cell? ⟨b, o, none⟩ = some (.string x) := h 0 x rfl
theorem StrsAt.tail {w : World} {b o : Nat} {x : ByteArray} {xs : List ByteArray} (h : StrsAt w (some ⟨b, o, none⟩) (x :: xs)) : StrsAt w (some ⟨b, o + 1, none⟩) xs := fun j y hy => by
  obtain ⟨b', o', e, hc⟩ := h (j + 1) y (by simpa using hy)
  simp at e; obtain ⟨rfl, rfl⟩ := e
  exact ⟨b, o + 1, rfl, by rw [show o + 1 + j = o + (j + 1) from by omega]; exact hc⟩
theorem StrsAt.nil {w : World} (ao : Option Addr) : StrsAt w ao [] := fun j y hy => by simp at hy
/-- 'l[1:]', whatever its capacity. -/
theorem StrsAt.cut {w : World} {b o c : Nat} {x : ByteArray} {xs : List ByteArray} (h : StrsAt w (some ⟨b, o, none⟩) (x :: xs)) (hc : xs.length + 1 ≤ c) : StrsAt w (if c = 1 then some ⟨b, o, none⟩ else some ⟨b, o + 1, none⟩) xs := by
  split
  · have : xs = [] := List.eq_nil_of_length_eq_zero (by omega)
    subst this; exact StrsAt.nil _
  · exact h.tail

theorem StrsAt.below {w w1 : World} {ao : Option Addr} {xs : List ByteArray} (h : StrsAt w ao xs) (hb : Below w.heap.size w w1) : StrsAt w1 ao xs := fun j x hx => by
  obtain ⟨b, o, e, hc⟩ := h j x hx
  exact ⟨b, o, e, cell_later hb hc⟩

theorem owns_strs {w : World} {base : Nat} {v : Value} {xs : List ByteArray} (h : w.ownsRow base 9 1 v xs.length (xs.map Value.string)) (hne : 0 < xs.length) :
    ∃ g cap, v = .slice (some ⟨g, 0, none⟩) xs.length cap ∧ xs.length ≤ cap ∧ cap ≤ maxLen ∧ StrsAt w (some ⟨g, 0, none⟩) xs := by
  obtain ⟨h1, h2⟩ := id h
  rcases h2 with ⟨rfl, h0⟩ | ⟨g, cap, cur, rfl, hg, hh, hn, hm, hc, ht⟩
  · omega
  · refine ⟨g, cap, rfl, hn, hm, fun j x hx => ⟨g, 0, rfl, ?_⟩⟩
    have := h.cells (g := g) rfl j (.string x) (by simp [hx])
    rwa [Addr.add_lit] at this

theorem wordsM_pos (s : ByteArray) : 0 < (M.wordsM s).length := by simp [M.wordsM]

/-- What 'words' leaves: the row of its words, in new memory. -/
def WordsEnd (s : ByteArray) (w : World) (e : Ending) (w1 : World) : Prop :=
  ∃ g cap, e = .returned (.slice (some ⟨g, 0, none⟩) (M.wordsM s).length cap) ∧ (M.wordsM s).length ≤ cap ∧ cap ≤ maxLen ∧ StrsAt w1 (some ⟨g, 0, none⟩) (M.wordsM s) ∧ Below w.heap.size w w1

theorem topWordsE (s : ByteArray) (w : World) (hs : s.size ≤ 1048576) : Calls Try.prog 86 #[.string s] w (WordsEnd s w) :=
  (topWords s w hs).mono fun e w1 ⟨v, he, ho, hb⟩ => by
    obtain ⟨g, cap, rfl, h1, h2, h3⟩ := owns_strs ho (wordsM_pos s)
    exact ⟨g, cap, he, h1, h2, h3, hb⟩

end Go.Proofs.Ytmjdndhfmfjbiab

namespace Go.Proofs.Ytmjdndhfmfjbiab
open Go.RowKit

end Go.Proofs.Ytmjdndhfmfjbiab

namespace Go.Proofs.Ytmjdndhfmfjbiab
open Go.RowKit

theorem infoU8 : (Try.prog.info? 5).map (fun i => (i.zero, i.size, i.bytes)) = some (some (.int .u8 0), 1, 1) := by kernel_rfl

/-- A new row of bytes, turned into a text. -/
theorem conv_new (w : World) (cs : List Int) :
    (convert 63 9 (.slice (some ⟨w.heap.size, 0, none⟩) cs.length cs.length)).run Try.prog (w.alloc (.cells (cs.map (Value.int .u8)).toArray 5)) =
      .ok (.string ⟨(cs.map fun n => UInt8.ofNat n.toNat).toArray⟩) (w.alloc (.cells (cs.map (Value.int .u8)).toArray 5)) := by
  rw [run_convert_bytes_string _ 63 9 5 _ _ _ Try.underlying63 Try.underlying5 Try.underlying9]
  have hl := run_loadCells_list (P := Try.prog) (w := w.alloc (.cells (cs.map (Value.int .u8)).toArray 5)) ⟨w.heap.size, 0, none⟩ (cs.map (Value.int .u8)) (fun j v hj => by
    rw [Addr.add_lit, Nat.zero_add, cell_of_row _ w.heap.size j _ _ (0, 0) (heap_alloc_new w _)]
    simpa using hj)
  rw [List.length_map] at hl
  rw [run_bytesToString _ _ _ _ cs hl, foldl_push_bytes]
  simp

end Go.Proofs.Ytmjdndhfmfjbiab

/-
  WORLDS: what an operation may change; rows that are read; where things lie. No program is named here.
-/
namespace Go.Proofs.Ytmjdndhfmfjbiab
open Go.RowKit

/-- Of the blocks that were there only those in S may have changed. -/
structure Upd (S : Nat → Prop) (w w1 : World) : Prop where
  os : w1.os = w.os
  tape : w1.tape = w.tape
  output : w1.output = w.output
  size : w.heap.size ≤ w1.heap.size
  block : ∀ k, k < w.heap.size → ¬ S k → w1.heap[k]? = w.heap[k]?

theorem Upd.refl (S : Nat → Prop) (w : World) : Upd S w w := ⟨rfl, rfl, rfl, Nat.le_refl _, fun _ _ _ => rfl⟩
theorem Upd.trans {S T : Nat → Prop} {a b c : World} (h : Upd S a b) (k : Upd T b c) (hs : ∀ i, i < a.heap.size → T i → S i) : Upd S a c :=
  ⟨k.os.trans h.os, k.tape.trans h.tape, k.output.trans h.output, Nat.le_trans h.size k.size, fun i hi hn =>
    (k.block i (Nat.lt_of_lt_of_le hi h.size) (fun t => hn (hs i hi t))).trans (h.block i hi hn)⟩
theorem Upd.mono {S T : Nat → Prop} {a b : World} (h : Upd S a b) (hs : ∀ i, S i → T i) : Upd T a b :=
  ⟨h.os, h.tape, h.output, h.size, fun i hi hn => h.block i hi (fun s => hn (hs i s))⟩
theorem Upd.below {S : Nat → Prop} {a b c : World} (h : Upd S a b) (k : Below b.heap.size b c) : Upd S a c :=
  h.trans (T := fun _ => False) ⟨k.os, k.tape, k.output, k.size, fun i hi _ => k.block i hi⟩ (fun _ _ f => f.elim)
theorem Upd.of_below {S : Nat → Prop} {a b : World} (k : Below a.heap.size a b) : Upd S a b := (Upd.refl S a).below k
theorem Upd.to_below {S : Nat → Prop} {a b : World} (h : Upd S a b) (hs : ∀ i, i < a.heap.size → ¬ S i) : Below a.heap.size a b := ⟨h.os, h.tape, h.output, h.size, fun i hi => h.block i hi (hs i hi)⟩
theorem Upd.drew {S : Nat → Prop} {a b : World} (h : Upd S a b) : Upd S a b.drew := ⟨h.os, h.tape, h.output, h.size, h.block⟩
theorem Upd.drewN {S : Nat → Prop} {a b : World} {n : Nat} (h : Upd S a b) : Upd S a (b.drewN n) := ⟨h.os, h.tape, h.output, h.size, h.block⟩
theorem Upd.alloc {S : Nat → Prop} {a b : World} (h : Upd S a b) (o : Obj) : Upd S a (b.alloc o) := h.below ((Below.refl _ _).alloc (Nat.le_refl _) o)
theorem Upd.setCell {S : Nat → Prop} {a b : World} (h : Upd S a b) {p : Addr} (hp : p.block < a.heap.size → S p.block) (u : Value) : Upd S a (b.setCell p u) :=
  h.trans (T := fun k => k = p.block) ⟨rfl, rfl, rfl, by simp [World.setCell], fun k _ hk => Below.heap_setCell _ _ _ _ hk⟩ (fun i hi e => by subst e; exact hp hi)
theorem Upd.grown {S : Nat → Prop} {a b c : World} {row : Option Nat} (h : Upd S a b) (k : b.grownBy c row) (hr : ∀ i, row = some i → i < a.heap.size → S i) : Upd S a c :=
  h.trans (T := fun i => some i = row) ⟨k.os, k.tape, k.output, k.size, fun i hi hn => k.block i hi hn⟩ (fun i hi e => hr i e.symm hi)
theorem Upd.cell {S : Nat → Prop} {a b : World} (h : Upd S a b) {p : Addr} {v : Value} (hc : a.cell? p = some v) (hs : ¬ S p.block) : b.cell? p = some v :=
  (World.cell?_of_block (w := a) (h.block p.block (World.block_lt_of_cell? _ _ hc) hs)).trans hc
theorem Upd.frozen {S : Nat → Prop} {a b : World} (h : Upd S a b) {p : Addr} (hp : p.block < a.heap.size) (hs : ¬ S p.block) : b.frozen? p = a.frozen? p :=
  World.frozen?_of_block (w := a) (h.block p.block hp hs)

theorem below_drewN {B : Nat} {a b : World} {n : Nat} (h : Below B a b) : Below B a (b.drewN n) := ⟨h.os, h.tape, h.output, h.size, h.block⟩

/-- A row of whatever cells, of the program's own making. -/
abbrev Row (w : World) (e : TypeId) (size : Nat) (v : Value) (n : Nat) (xs : List Value) : Prop := w.ownsRow 0 e size v n xs

/-- The cells of a row lie there. -/
def CellsAt (w : World) (ao : Option Addr) (xs : List Value) : Prop := ∀ j u, xs[j]? = some u → ∃ g, ao = some ⟨g, 0, none⟩ ∧ w.cell? ⟨g, j, none⟩ = some u

theorem Row.form {w : World} {e : TypeId} {size : Nat} {v : Value} {n : Nat} {xs : List Value} (h : Row w e size v n xs) :
    ∃ ao c, v = .slice ao n c ∧ n ≤ c ∧ c ≤ maxLen ∧ CellsAt w ao xs := by
  have hx := h.1
  rcases h.2 with ⟨rfl, rfl⟩ | ⟨g, cap, cur, rfl, hg, hh, hn, hm, hc, ht⟩
  · refine ⟨none, 0, rfl, Nat.le_refl _, Nat.zero_le _, fun j u hj => ?_⟩
    have : xs = [] := List.eq_nil_of_length_eq_zero (by simpa using hx)
    subst this; simp at hj
  · refine ⟨some ⟨g, 0, none⟩, cap, rfl, hn, hm, fun j u hj => ⟨g, rfl, ?_⟩⟩
    have := h.cells (g := g) rfl j u hj
    rwa [Addr.add_lit, Nat.zero_add] at this

/-- A row stays while its block is as it was. -/
theorem Row.upd {S : Nat → Prop} {w w1 : World} {e : TypeId} {size : Nat} {v : Value} {n : Nat} {xs : List Value} (h : Row w e size v n xs) (k : Upd S w w1) (hs : ∀ g, v.ownBlock = some g → ¬ S g) : Row w1 e size v n xs := by
  refine ⟨h.1, ?_⟩
  rcases h.2 with hn | ⟨g, cap, cur, rfl, hb, hg, rest⟩
  · exact .inl hn
  · refine .inr ⟨g, cap, cur, rfl, hb, ?_, rest⟩
    rw [k.block g (Array.getElem?_eq_some_iff.1 hg).1 (hs g rfl)]
    exact hg

theorem Row.lt {w : World} {e : TypeId} {size : Nat} {v : Value} {n : Nat} {xs : List Value} (h : Row w e size v n xs) {g : Nat} (hg : v.ownBlock = some g) : g < w.heap.size := (World.ownsRow.lt h g hg).2

theorem Row.below {w w1 : World} {e : TypeId} {size : Nat} {v : Value} {n : Nat} {xs : List Value} (h : Row w e size v n xs) (k : Below w.heap.size w w1) : Row w1 e size v n xs :=
  h.upd (S := fun _ => False) (Upd.of_below k) (fun _ _ f => f)

theorem CellsAt.upd {S : Nat → Prop} {w w1 : World} {ao : Option Addr} {xs : List Value} (h : CellsAt w ao xs) (k : Upd S w w1) (hs : ∀ g, ao = some ⟨g, 0, none⟩ → ¬ S g) : CellsAt w1 ao xs := fun j u hj => by
  obtain ⟨g, e, hc⟩ := h j u hj
  exact ⟨g, e, k.cell hc (hs g e)⟩
theorem CellsAt.below {w w1 : World} {ao : Option Addr} {xs : List Value} (h : CellsAt w ao xs) (k : Below w.heap.size w w1) : CellsAt w1 ao xs :=
  h.upd (S := fun _ => False) (Upd.of_below k) (fun _ _ f => f)

/-- The cells of a list of things, each of so many cells. -/
theorem flat_get {α : Type} (f : α → List Value) (n : Nat) (hf : ∀ a, (f a).length = n) : ∀ (l : List α) (k j : Nat) (a : α), l[k]? = some a → j < n → (l.flatMap f)[k * n + j]? = (f a)[j]? := by
  intro l
  induction l with
  | nil => intro k j a h; simp at h
  | cons b l ih =>
    intro k j a h hj
    cases k with
    | zero =>
      simp only [List.getElem?_cons_zero, Option.some.injEq] at h
      subst h
      rw [List.flatMap_cons, Nat.zero_mul, Nat.zero_add, List.getElem?_append_left (by rw [hf]; exact hj)]
    | succ k =>
      rw [List.getElem?_cons_succ] at h
      rw [List.flatMap_cons, List.getElem?_append_right (by rw [hf, Nat.succ_mul]; omega), hf, show (k + 1) * n + j - n = k * n + j from by rw [Nat.succ_mul]; omega]
      exact ih k j a h hj

theorem flat_len {α : Type} (f : α → List Value) (n : Nat) (hf : ∀ a, (f a).length = n) (l : List α) : (l.flatMap f).length = l.length * n := by
  induction l with
  | nil => simp
  | cons b l ih => rw [List.flatMap_cons, List.length_append, ih, hf, List.length_cons, Nat.succ_mul]; omega

/-- Where the first thing stands of which p holds, counted from i; or -1. -/
def findM {α : Type} (p : α → Bool) : List α → Int → Int
  | [], _ => -1
  | a :: l, i => if p a then i else findM p l (i + 1)

theorem find_step {α : Type} (p : α → Bool) (l : List α) (k : Nat) (a : α) (h : l[k]? = some a) : findM p (l.drop k) k = if p a then (k : Int) else findM p (l.drop (k + 1)) ((k + 1 : Nat) : Int) := by
  obtain ⟨hk, rfl⟩ := List.getElem?_eq_some_iff.1 h
  rw [List.drop_eq_getElem_cons hk, findM]
  rfl
theorem find_end {α : Type} (p : α → Bool) (l : List α) (k : Nat) (h : l.length ≤ k) (i : Int) : findM p (l.drop k) i = -1 := by rw [List.drop_of_length_le h]; rfl

theorem ret_int {k : IntKind} {a b : Int} (h : a = b) : Ending.returned (.int k a) = .returned (.int k b) := by rw [h]
end Go.Proofs.Ytmjdndhfmfjbiab

namespace Go.Proofs.Ytmjdndhfmfjbiab
open Go.RowKit

/-- One new block: nothing that was there has changed. -/
theorem below_one (w : World) (o : Obj) : Below w.heap.size w (w.alloc o) := (Below.refl _ _).alloc (Nat.le_refl _) _

theorem strs_get {xs : List ByteArray} {k : Nat} {x : ByteArray} (h : xs[k]? = some x) : (xs.map Value.string)[k]? = some (.string x) := by simp [h]

end Go.Proofs.Ytmjdndhfmfjbiab

namespace Go.Proofs.Ytmjdndhfmfjbiab
open Go.RowKit

/-- A message in a queue; one that waits; an operation: as numbers and texts. -/
structure SentD where
  number : Int
  topic : ByteArray
  value : Int
  sentAt : Int
  life : Int
structure WaitD where
  number : Int
  topic : ByteArray
  value : Int
  deadline : Int
  life : Int
structure OpD where
  kind : Int
  a : Int
  b : Int
  c : Int
  d : Int
  s : ByteArray

def sentCells (x : SentD) : List Value := [.int .i64 x.number, .string x.topic, .int .i64 x.value, .int .i64 x.sentAt, .int .i64 x.life]
def waitCells (x : WaitD) : List Value := [.int .i64 x.number, .string x.topic, .int .i64 x.value, .int .i64 x.deadline, .int .i64 x.life]
def opCells (x : OpD) : List Value := [.int .i64 x.kind, .int .i64 x.a, .int .i64 x.b, .int .i64 x.c, .int .i64 x.d, .string x.s]
theorem sent_len (x : SentD) : (sentCells x).length = 5 := rfl
theorem wait_len (x : WaitD) : (waitCells x).length = 5 := rfl
theorem op_len (x : OpD) : (opCells x).length = 6 := rfl

/-- The five cells of a message that waits, at its place in a row. -/
theorem wait_cells {w : World} {ao : Option Addr} {l : List WaitD} (h : CellsAt w ao (l.flatMap waitCells)) {k : Nat} {x : WaitD} (hx : l[k]? = some x) :
    ∃ g, ao = some ⟨g, 0, none⟩ ∧ g < w.heap.size ∧ w.cell? ⟨g, k * 5, none⟩ = some (.int .i64 x.number) ∧ w.cell? ⟨g, k * 5 + 1, none⟩ = some (.string x.topic) ∧
      w.cell? ⟨g, k * 5 + 2, none⟩ = some (.int .i64 x.value) ∧ w.cell? ⟨g, k * 5 + 3, none⟩ = some (.int .i64 x.deadline) ∧ w.cell? ⟨g, k * 5 + 4, none⟩ = some (.int .i64 x.life) := by
  have F := flat_get waitCells 5 wait_len l k
  obtain ⟨g, e0, h0⟩ := h (k * 5 + 0) (.int .i64 x.number) (by rw [F 0 x hx (by omega)]; rfl)
  obtain ⟨g1, e1, h1⟩ := h (k * 5 + 1) (.string x.topic) (by rw [F 1 x hx (by omega)]; rfl)
  obtain ⟨g2, e2, h2⟩ := h (k * 5 + 2) (.int .i64 x.value) (by rw [F 2 x hx (by omega)]; rfl)
  obtain ⟨g3, e3, h3⟩ := h (k * 5 + 3) (.int .i64 x.deadline) (by rw [F 3 x hx (by omega)]; rfl)
  obtain ⟨g4, e4, h4⟩ := h (k * 5 + 4) (.int .i64 x.life) (by rw [F 4 x hx (by omega)]; rfl)
  rw [e0] at e1 e2 e3 e4
  simp only [Option.some.injEq, Addr.mk.injEq, and_true] at e1 e2 e3 e4
  subst e1 e2 e3 e4
  exact ⟨g, e0, World.block_lt_of_cell? _ _ h0, h0, h1, h2, h3, h4⟩

theorem sent_cells {w : World} {ao : Option Addr} {l : List SentD} (h : CellsAt w ao (l.flatMap sentCells)) {k : Nat} {x : SentD} (hx : l[k]? = some x) :
    ∃ g, ao = some ⟨g, 0, none⟩ ∧ g < w.heap.size ∧ w.cell? ⟨g, k * 5, none⟩ = some (.int .i64 x.number) ∧ w.cell? ⟨g, k * 5 + 1, none⟩ = some (.string x.topic) ∧
      w.cell? ⟨g, k * 5 + 2, none⟩ = some (.int .i64 x.value) ∧ w.cell? ⟨g, k * 5 + 3, none⟩ = some (.int .i64 x.sentAt) ∧ w.cell? ⟨g, k * 5 + 4, none⟩ = some (.int .i64 x.life) := by
  have F := flat_get sentCells 5 sent_len l k
  obtain ⟨g, e0, h0⟩ := h (k * 5 + 0) (.int .i64 x.number) (by rw [F 0 x hx (by omega)]; rfl)
  obtain ⟨g1, e1, h1⟩ := h (k * 5 + 1) (.string x.topic) (by rw [F 1 x hx (by omega)]; rfl)
  obtain ⟨g2, e2, h2⟩ := h (k * 5 + 2) (.int .i64 x.value) (by rw [F 2 x hx (by omega)]; rfl)
  obtain ⟨g3, e3, h3⟩ := h (k * 5 + 3) (.int .i64 x.sentAt) (by rw [F 3 x hx (by omega)]; rfl)
  obtain ⟨g4, e4, h4⟩ := h (k * 5 + 4) (.int .i64 x.life) (by rw [F 4 x hx (by omega)]; rfl)
  rw [e0] at e1 e2 e3 e4
  simp only [Option.some.injEq, Addr.mk.injEq, and_true] at e1 e2 e3 e4
  subst e1 e2 e3 e4
  exact ⟨g, e0, World.block_lt_of_cell? _ _ h0, h0, h1, h2, h3, h4⟩

/-- The reference's world, as numbers, texts and lists. -/
structure RefS where
  room : Int
  done : List OpD
  time : Int
  pub : Int
  fil : Nat → List ByteArray
  que : Nat → List SentD
  lost : Nat → Int
  wait : List WaitD

/-- Its lists, as they lie. -/
structure RefV where
  doneV : Value
  filV : Nat → Value
  queV : Nat → Value
  waitV : Value

theorem ret_bool' {a b : Bool} (h : a = b) : Ending.returned (.bool a) = .returned (.bool b) := by rw [h]

def isTimeM (t : Int) : Bool := decide (0 ≤ t) && decide (t ≤ 1099511627776)
def laterM (time delay : Int) : Int := if 1099511627776 < time + delay then 1099511627776 else time + delay
end Go.Proofs.Ytmjdndhfmfjbiab

namespace Go.Proofs.Ytmjdndhfmfjbiab
open Go.RowKit

/-- Is the one sent ahead of the other? -/
def aheadB (x y : WaitD) : Bool := decide (x.deadline < y.deadline) || ((x.deadline == y.deadline) && decide (x.number < y.number))

/-- Of the first k messages that wait: where the one stands that is sent first. -/
def bestTo (l : List WaitD) : Nat → Option Nat
  | 0 => none
  | k + 1 => match l[k]?, bestTo l k with
    | none, o => o
    | some _, none => some k
    | some x, some b => match l[b]? with
      | none => some b
      | some y => if aheadB x y then some k else some b

def optI : Option Nat → Int
  | none => -1
  | some b => (b : Int)

theorem best_lt (l : List WaitD) (k : Nat) : ∀ b, bestTo l k = some b → b < k := by
  induction k with
  | zero => intro b h; simp [bestTo] at h
  | succ k ih =>
    intro b h
    unfold bestTo at h
    split at h
    · have := ih b h; omega
    · simp at h; omega
    · rename_i x c _ hc
      have := ih c hc
      split at h
      · simp at h; omega
      · split at h <;> (simp at h; omega)

theorem best_first {l : List WaitD} {k : Nat} {x : WaitD} (hx : l[k]? = some x) (h : bestTo l k = none) : bestTo l (k + 1) = some k := by
  rw [bestTo, hx, h]
theorem best_next {l : List WaitD} {k b : Nat} {x y : WaitD} (hx : l[k]? = some x) (h : bestTo l k = some b) (hy : l[b]? = some y) : bestTo l (k + 1) = if aheadB x y then some k else some b := by
  rw [bestTo, hx, h]; simp only [hy]

def firstM (l : List WaitD) : Int := optI (bestTo l l.length)

end Go.Proofs.Ytmjdndhfmfjbiab

namespace Go.Proofs.Ytmjdndhfmfjbiab
open Go.RowKit

/-- A function with one value turned. -/
def setAt {α : Type} (f : Nat → α) (a : Nat) (v : α) : Nat → α := fun i => if i = a then v else f i
theorem setAt_same {α : Type} (f : Nat → α) (a : Nat) (v : α) : setAt f a v a = v := by simp [setAt]
theorem setAt_other {α : Type} (f : Nat → α) (a i : Nat) (v : α) (h : i ≠ a) : setAt f a v i = f i := by simp [setAt, h]

/-- Two rows do not share a block. -/
def Apart (u v : Value) : Prop := ∀ g, u.ownBlock = some g → v.ownBlock ≠ some g
theorem Apart.symm {u v : Value} (h : Apart u v) : Apart v u := fun g hv hu => h g hu hv

/-- The blocks that it takes up. -/
def RefFP (B : Nat) (x : RefV) (k : Nat) : Prop :=
  k = B ∨ x.doneV.ownBlock = some k ∨ x.waitV.ownBlock = some k ∨ ∃ a, a < 8 ∧ ((x.filV a).ownBlock = some k ∨ (x.queV a).ownBlock = some k)

/-- A row's block holds things of its type. -/
theorem Row.typed {w : World} {e : TypeId} {size : Nat} {v : Value} {n : Nat} {xs : List Value} (h : Row w e size v n xs) {g : Nat} (hg : v.ownBlock = some g) : ∃ cur, w.heap[g]? = some (.cells cur e (0, 0)) := by
  rcases h.2 with ⟨rfl, _⟩ | ⟨g', cap, cur, rfl, _, hgg, _⟩
  · simp [Value.ownBlock] at hg
  · simp [Value.ownBlock] at hg
    subst hg
    exact ⟨cur, hgg⟩

theorem typed_ne {w : World} {g h : Nat} {e f : TypeId} (a : ∃ cur, w.heap[g]? = some (.cells cur e (0, 0))) (b : ∃ cur, w.heap[h]? = some (.cells cur f (0, 0))) (hne : e ≠ f) : g ≠ h := by
  obtain ⟨c, hc⟩ := a
  obtain ⟨d, hd⟩ := b
  intro e1
  subst e1
  rw [hc] at hd
  simp at hd
  exact hne hd.2

/-- A new row is the old one's, or lies in a new block, or is nil. -/
def Fresh (w : World) (old new : Value) : Prop := ∀ g, new.ownBlock = some g → old.ownBlock = some g ∨ w.heap.size ≤ g

theorem heap_setCell_row (w : World) (g j : Nat) (cur : Array Value) (e : TypeId) (u : Value) (h : w.heap[g]? = some (.cells cur e (0, 0))) : (w.setCell ⟨g, j, none⟩ u).heap[g]? = some (.cells (cur.setIfInBounds j u) e (0, 0)) :=
  heap_setCell_same w g j cur e u h

theorem Fresh.apart {w : World} {old new other : Value} (f : Fresh w old new) (ho : Apart old other) (hl : ∀ g, other.ownBlock = some g → g < w.heap.size) : Apart new other := fun g hg hn => by
  rcases f g hg with h | h
  · exact ho g h hn
  · have := hl g hn; omega

end Go.Proofs.Ytmjdndhfmfjbiab

namespace Go.Proofs.Ytmjdndhfmfjbiab
open Go.RowKit

theorem infoWait : (Try.prog.info? 50).map (fun i => (i.zero, i.size, i.bytes)) = some (some (.agg #[.int .i64 0, .string ⟨#[]⟩, .int .i64 0, .int .i64 0, .int .i64 0]), 5, 48) := by kernel_rfl
/-- The cells of a new block. -/
theorem cells_new (w : World) (cs : List Value) (t : TypeId) : ∀ j u, cs[j]? = some u → (w.alloc (.cells cs.toArray t)).cell? ((⟨w.heap.size, 0, none⟩ : Addr).add j) = some u := by
  intro j u hj
  rw [Addr.add_lit, Nat.zero_add, cell_of_row _ w.heap.size j _ _ (0, 0) (heap_alloc_new w _)]
  simpa using hj

theorem wait_one (x : WaitD) : ∀ u ∈ waitCells x, u.oneCell' = true := by
  intro u hu
  simp only [waitCells, List.mem_cons, List.not_mem_nil, or_false] at hu
  rcases hu with rfl | rfl | rfl | rfl | rfl <;> rfl
theorem sent_one (x : SentD) : ∀ u ∈ sentCells x, u.oneCell' = true := by
  intro u hu
  simp only [sentCells, List.mem_cons, List.not_mem_nil, or_false] at hu
  rcases hu with rfl | rfl | rfl | rfl | rfl <;> rfl
theorem op_one (x : OpD) : ∀ u ∈ opCells x, u.oneCell' = true := by
  intro u hu
  simp only [opCells, List.mem_cons, List.not_mem_nil, or_false] at hu
  rcases hu with rfl | rfl | rfl | rfl | rfl | rfl <;> rfl

/-- What a loop that keeps some of a list holds behind k of them. -/
abbrev kept {α : Type} (p : α → Bool) (l : List α) (k : Nat) : List α := (l.take k).filter p
theorem kept_hit {α : Type} {p : α → Bool} {l : List α} {k : Nat} {x : α} (hx : l[k]? = some x) (hp : p x = true) : kept p l (k + 1) = kept p l k ++ [x] := by
  simp [kept, List.take_add_one, hx, List.filter_append, hp]
theorem kept_miss {α : Type} {p : α → Bool} {l : List α} {k : Nat} {x : α} (hx : l[k]? = some x) (hp : p x = false) : kept p l (k + 1) = kept p l k := by
  simp [kept, List.take_add_one, hx, List.filter_append, hp]
theorem kept_le {α : Type} (p : α → Bool) (l : List α) (k : Nat) : (kept p l k).length ≤ k := Nat.le_trans (List.length_filter_le _ _) (List.length_take_le _ _)
theorem kept_end {α : Type} (p : α → Bool) (l : List α) (k : Nat) (h : l.length ≤ k) : kept p l k = l.filter p := by simp [kept, List.take_of_length_le h]

/-- One thing more behind a row that grows in new memory. -/
theorem grow_row {α : Type} {f : α → List Value} {w wr w1 : World} {e : TypeId} {size : Nat} {v v1 : Value} {l : List α} {x : α} {o : Obj}
    (hown : wr.ownsRow w.heap.size e size v l.length (l.flatMap f)) (hb : Below w.heap.size w wr)
    (hown1 : w1.ownsRow w.heap.size e size v1 (l.length + 1) (l.flatMap f ++ f x)) (hg : (wr.alloc o).grownBy w1 v.ownBlock) :
    w1.ownsRow w.heap.size e size v1 (l ++ [x]).length ((l ++ [x]).flatMap f) ∧ Below w.heap.size w w1 :=
  ⟨by simpa using hown1, (hb.alloc hb.size o).grown hg (by have := hb.size; simp; omega) (fun j hj => (hown.lt j hj).1)⟩

theorem row_of_own {w wr : World} {e : TypeId} {size : Nat} {v : Value} {n : Nat} {xs : List Value} (h : wr.ownsRow w.heap.size e size v n xs) (old : Value) : Row wr e size v n xs ∧ Fresh w old v := by
  refine ⟨⟨h.1, ?_⟩, fun g hg => .inr (h.lt g hg).1⟩
  rcases h.2 with a | ⟨g, cap, cur, hv, hb, rest⟩
  · exact .inl a
  · exact .inr ⟨g, cap, cur, hv, Nat.zero_le _, rest⟩

end Go.Proofs.Ytmjdndhfmfjbiab

namespace Go.Proofs.Ytmjdndhfmfjbiab
open Go.RowKit

end Go.Proofs.Ytmjdndhfmfjbiab

namespace Go.Proofs.Ytmjdndhfmfjbiab
open Go.RowKit
/-- An append, kept whole, so that the walk takes its run from a hypothesis. -/
def appSem (ts : Array TypeId) (ty : TypeId) (args : Array Value) : Sem Value := Builtin.append_ ts ty args
theorem appSem_eq (ts : Array TypeId) (ty : TypeId) (args : Array Value) : Builtin.append_ ts ty args = appSem ts ty args := rfl
attribute [local go_sem ↓] Go.wp_at_zero Go.wp_at_succ appSem_eq

/-- Does one of the filters fit? -/
def fitAny (fs : List ByteArray) (t : ByteArray) : Bool := fs.any (fun f => M.alongM (M.wordsM f) (M.wordsM t))
def sentOf (S : RefS) (m : WaitD) : SentD := ⟨m.number, m.topic, m.value, S.time, m.life⟩
/-- A message goes to one client. -/
def sendOne (T : RefS) (m : WaitD) (a : Nat) : RefS :=
  if fitAny (T.fil a) m.topic then (if 10 ≤ (T.que a).length then { T with lost := setAt T.lost a (T.lost a + 1) } else { T with que := setAt T.que a (T.que a ++ [sentOf T m]) }) else T
def sendTo (S : RefS) (m : WaitD) : Nat → RefS
  | 0 => S
  | a + 1 => sendOne (sendTo S m a) m a

theorem sendOne_keeps (T : RefS) (m : WaitD) (a : Nat) : (sendOne T m a).fil = T.fil ∧ (sendOne T m a).time = T.time ∧ (sendOne T m a).done = T.done ∧ (sendOne T m a).wait = T.wait ∧ (sendOne T m a).room = T.room ∧ (sendOne T m a).pub = T.pub ∧
    ∀ b, b ≠ a → (sendOne T m a).lost b = T.lost b ∧ (sendOne T m a).que b = T.que b := by
  unfold sendOne
  split
  · split
    · exact ⟨rfl, rfl, rfl, rfl, rfl, rfl, fun b hb => ⟨setAt_other _ _ _ _ hb, rfl⟩⟩
    · exact ⟨rfl, rfl, rfl, rfl, rfl, rfl, fun b hb => ⟨rfl, setAt_other _ _ _ _ hb⟩⟩
  · exact ⟨rfl, rfl, rfl, rfl, rfl, rfl, fun b _ => ⟨rfl, rfl⟩⟩

theorem sendTo_keeps (S : RefS) (m : WaitD) (a : Nat) : (sendTo S m a).fil = S.fil ∧ (sendTo S m a).time = S.time ∧ (sendTo S m a).done = S.done ∧ (sendTo S m a).wait = S.wait ∧ (sendTo S m a).room = S.room ∧ (sendTo S m a).pub = S.pub ∧
    ∀ b, a ≤ b → (sendTo S m a).lost b = S.lost b ∧ (sendTo S m a).que b = S.que b := by
  induction a with
  | zero => exact ⟨rfl, rfl, rfl, rfl, rfl, rfl, fun b _ => ⟨rfl, rfl⟩⟩
  | succ a ih =>
    obtain ⟨i1, i2, i3, i4, i5, i6, i7⟩ := ih
    obtain ⟨h1, h2, h3, h4, h5, h6, h7⟩ := sendOne_keeps (sendTo S m a) m a
    refine ⟨h1.trans i1, h2.trans i2, h3.trans i3, h4.trans i4, h5.trans i5, h6.trans i6, fun b hb => ?_⟩
    obtain ⟨k1, k2⟩ := h7 b (by omega)
    obtain ⟨l1, l2⟩ := i7 b (by omega)
    exact ⟨k1.trans l1, k2.trans l2⟩

theorem any_step {α : Type} (p : α → Bool) (l : List α) (k : Nat) (x : α) (h : l[k]? = some x) : (l.take (k + 1)).any p = ((l.take k).any p || p x) := by
  rw [List.take_add_one, h]; simp

theorem frozen_alloc_drew {w : World} {o : Obj} {p : Addr} (hb : p.block < w.heap.size) (h : w.frozen? p = false) : (w.alloc o).drew.frozen? p = false :=
  (World.frozen?_alloc_past _ _ _ hb).trans h
theorem below_drew {w : World} : Below w.heap.size w w.drew := ⟨rfl, rfl, rfl, Nat.le_refl _, fun _ _ => rfl⟩

end Go.Proofs.Ytmjdndhfmfjbiab

namespace Go.Proofs.Ytmjdndhfmfjbiab
open Go.RowKit

/-- What holds of the reference's world at all times. -/
structure Inv (S : RefS) : Prop where
  time0 : 0 ≤ S.time
  time1 : S.time ≤ 1099511627776
  fil : ∀ a, a < 8 → (S.fil a).length ≤ 6 ∧ ∀ f ∈ S.fil a, f.size ≤ 15
  que : ∀ a, a < 8 → (S.que a).length ≤ 10 ∧ ∀ m ∈ S.que a, 0 ≤ m.sentAt ∧ m.sentAt ≤ 1099511627776 ∧ 0 ≤ m.life ∧ m.life ≤ 1099511627776
  wait : S.wait.length ≤ 64 ∧ ∀ m ∈ S.wait, m.topic.size ≤ 15 ∧ 0 ≤ m.life ∧ m.life ≤ 1099511627776 ∧ 0 ≤ m.deadline ∧ m.deadline ≤ 1099511627776
  lost : ∀ a, a < 8 → 0 ≤ S.lost a ∧ S.lost a + (S.wait.length : Int) ≤ S.pub
  pub : S.pub ≤ (S.done.length : Int)
  done : S.done.length ≤ 500

theorem Inv.small {S : RefS} (h : Inv S) {a : Nat} (ha : a < 8) : 0 ≤ S.lost a ∧ S.lost a ≤ 500 := by
  have h1 := h.lost a ha
  have h2 := h.pub
  have h3 := h.done
  omega

/-- Less is needed of a world into which a message is sent: it has one place more. -/
structure Inv1 (S : RefS) : Prop where
  time0 : 0 ≤ S.time
  time1 : S.time ≤ 1099511627776
  fil : ∀ a, a < 8 → (S.fil a).length ≤ 6 ∧ ∀ f ∈ S.fil a, f.size ≤ 15
  que : ∀ a, a < 8 → (S.que a).length ≤ 10 ∧ ∀ m ∈ S.que a, 0 ≤ m.sentAt ∧ m.sentAt ≤ 1099511627776 ∧ 0 ≤ m.life ∧ m.life ≤ 1099511627776
  wait : S.wait.length ≤ 64 ∧ ∀ m ∈ S.wait, m.topic.size ≤ 15 ∧ 0 ≤ m.life ∧ m.life ≤ 1099511627776 ∧ 0 ≤ m.deadline ∧ m.deadline ≤ 1099511627776
  lost : ∀ a, a < 8 → 0 ≤ S.lost a ∧ S.lost a + (S.wait.length : Int) + 1 ≤ S.pub
  pub : S.pub ≤ (S.done.length : Int)
  done : S.done.length ≤ 500

theorem sendOne_que (T : RefS) (m : WaitD) (a : Nat) : (sendOne T m a).que a = T.que a ∨ ((T.que a).length < 10 ∧ (sendOne T m a).que a = T.que a ++ [sentOf T m]) := by
  unfold sendOne
  split
  · split
    · exact .inl rfl
    · exact .inr ⟨by omega, setAt_same _ _ _⟩
  · exact .inl rfl
theorem sendOne_lost (T : RefS) (m : WaitD) (a : Nat) : (sendOne T m a).lost a = T.lost a ∨ (sendOne T m a).lost a = T.lost a + 1 := by
  unfold sendOne
  split
  · split
    · exact .inr (setAt_same _ _ _)
    · exact .inl rfl
  · exact .inl rfl

/-- What a send does to each client. -/
theorem sendTo_at (S : RefS) (m : WaitD) (n b : Nat) : ((sendTo S m n).que b = S.que b ∨ ((S.que b).length < 10 ∧ (sendTo S m n).que b = S.que b ++ [sentOf S m])) ∧ ((sendTo S m n).lost b = S.lost b ∨ (sendTo S m n).lost b = S.lost b + 1) := by
  induction n with
  | zero => exact ⟨.inl rfl, .inl rfl⟩
  | succ n ih =>
    obtain ⟨-, -, -, -, -, -, k7⟩ := sendOne_keeps (sendTo S m n) m n
    obtain ⟨-, s2, -, -, -, -, s7⟩ := sendTo_keeps S m n
    by_cases e : b = n
    · subst e
      obtain ⟨l1, q1⟩ := s7 b (Nat.le_refl _)
      have hs : sentOf (sendTo S m b) m = sentOf S m := by unfold sentOf; rw [s2]
      constructor
      · rcases sendOne_que (sendTo S m b) m b with h | ⟨h, h'⟩
        · exact .inl (h.trans q1)
        · rw [q1] at h
          exact .inr ⟨h, by show (sendOne _ _ _).que b = _; rw [h', q1, hs]⟩
      · rcases sendOne_lost (sendTo S m b) m b with h | h
        · exact .inl (h.trans l1)
        · exact .inr (by show (sendOne _ _ _).lost b = _; rw [h, l1])
    · obtain ⟨k1, k2⟩ := k7 b e
      constructor
      · rcases ih.1 with h | ⟨h, h'⟩
        · exact .inl (k2.trans h)
        · exact .inr ⟨h, k2.trans h'⟩
      · rcases ih.2 with h | h
        · exact .inl (k1.trans h)
        · exact .inr (k1.trans h)

theorem Inv1.send {S : RefS} (h : Inv1 S) (m : WaitD) (hm : 0 ≤ m.life ∧ m.life ≤ 1099511627776) : Inv (sendTo S m 8) := by
  obtain ⟨k1, k2, k3, k4, k5, k6, -⟩ := sendTo_keeps S m 8
  refine ⟨by rw [k2]; exact h.time0, by rw [k2]; exact h.time1, by rw [k1]; exact h.fil, fun a ha => ?_, by rw [k4]; exact h.wait, fun a ha => ?_, by rw [k6, k3]; exact h.pub, by rw [k3]; exact h.done⟩
  · rcases (sendTo_at S m 8 a).1 with e | ⟨hl, e⟩
    · rw [e]; exact h.que a ha
    · rw [e]
      refine ⟨by simp; omega, fun y hy => ?_⟩
      simp only [List.mem_append, List.mem_singleton] at hy
      rcases hy with hy | rfl
      · exact (h.que a ha).2 y hy
      · exact ⟨h.time0, h.time1, hm.1, hm.2⟩
  · have hl := h.lost a ha
    rw [k4, k6]
    rcases (sendTo_at S m 8 a).2 with e | e <;> rw [e] <;> omega

/-- Without one message that waits there is a place more. -/
theorem Inv.gone {S : RefS} (h : Inv S) {x : WaitD} (hx : x ∈ S.wait) : Inv1 { S with wait := S.wait.filter (fun m => m.number != x.number) } ∧ (S.wait.filter (fun m => m.number != x.number)).length < S.wait.length := by
  have hlt : (S.wait.filter (fun m => m.number != x.number)).length < S.wait.length := by
    have := List.length_filter_lt_length_iff_exists (l := S.wait) (p := fun m => m.number != x.number)
    exact this.2 ⟨x, hx, by simp⟩
  refine ⟨⟨h.time0, h.time1, h.fil, h.que, ⟨by have := h.wait.1; show List.length _ ≤ _; simp only; omega, fun m hm => h.wait.2 m (List.mem_filter.1 hm).1⟩, fun a ha => ?_, h.pub, h.done⟩, hlt⟩
  have := h.lost a ha
  show 0 ≤ S.lost a ∧ S.lost a + ((S.wait.filter (fun m => m.number != x.number)).length : Int) + 1 ≤ S.pub
  omega

/-- What is due is sent, one by one. -/
def deliverN (to : Int) : Nat → RefS → RefS
  | 0, S => S
  | n + 1, S => match bestTo S.wait S.wait.length with
    | none => S
    | some b => match S.wait[b]? with
      | none => S
      | some x => if to < x.deadline then S else deliverN to n (sendTo { S with wait := S.wait.filter (fun m => m.number != x.number) } x 8)

theorem deliver_len (S : RefS) (x : WaitD) (hx : x ∈ S.wait) : (sendTo { S with wait := S.wait.filter (fun m => m.number != x.number) } x 8).wait.length < S.wait.length := by
  obtain ⟨-, -, -, k4, -⟩ := sendTo_keeps { S with wait := S.wait.filter (fun m => m.number != x.number) } x 8
  rw [k4]
  have := List.length_filter_lt_length_iff_exists (l := S.wait) (p := fun m => m.number != x.number)
  exact this.2 ⟨x, hx, by simp⟩

theorem deliver_fuel (to : Int) : ∀ (n m : Nat) (S : RefS), S.wait.length ≤ n → S.wait.length ≤ m → deliverN to n S = deliverN to m S := by
  intro n
  induction n with
  | zero =>
    intro m S hn _
    cases m with
    | zero => rfl
    | succ m =>
      have : S.wait = [] := List.eq_nil_of_length_eq_zero (by omega)
      simp [deliverN, this, bestTo]
  | succ n ih =>
    intro m S hn hm
    cases m with
    | zero =>
      have : S.wait = [] := List.eq_nil_of_length_eq_zero (by omega)
      simp [deliverN, this, bestTo]
    | succ m =>
      unfold deliverN
      split
      · rfl
      · split
        · rfl
        · rename_i x hx
          split
          · rfl
          · have := deliver_len S x (List.mem_of_getElem? hx)
            exact ih m _ (by omega) (by omega)

def deliver (to : Int) (S : RefS) : RefS := deliverN to S.wait.length S

theorem deliver_step {to : Int} {S : RefS} {b : Nat} {x : WaitD} (hb : bestTo S.wait S.wait.length = some b) (hx : S.wait[b]? = some x) (hd : ¬ to < x.deadline) :
    deliver to S = deliver to (sendTo { S with wait := S.wait.filter (fun m => m.number != x.number) } x 8) := by
  have hlt := deliver_len S x (List.mem_of_getElem? hx)
  unfold deliver
  cases hn : S.wait.length with
  | zero => omega
  | succ n =>
    rw [deliverN, hb]
    simp only [hx, if_neg hd]
    exact deliver_fuel to n _ _ (by omega) (Nat.le_refl _)
theorem deliver_late {to : Int} {S : RefS} {b : Nat} {x : WaitD} (hb : bestTo S.wait S.wait.length = some b) (hx : S.wait[b]? = some x) (hd : to < x.deadline) : deliver to S = S := by
  unfold deliver
  cases hn : S.wait.length with
  | zero => rfl
  | succ n =>
    rw [deliverN, hb]
    simp only [hx, if_pos hd]
theorem deliver_none {to : Int} {S : RefS} (hb : bestTo S.wait S.wait.length = none) : deliver to S = S := by
  unfold deliver
  cases hn : S.wait.length with
  | zero => rfl
  | succ n => rw [deliverN, hb]

def aliveB (to : Int) (m : SentD) : Bool := (m.life == 0) || decide (to - m.sentAt < m.life)
/-- What is over leaves the queues of the first clients. -/
def agedTo (S : RefS) (to : Int) : Nat → RefS
  | 0 => { S with time := to }
  | a + 1 => { agedTo S to a with que := setAt (agedTo S to a).que a (((agedTo S to a).que a).filter (aliveB to)) }
def tickM (S : RefS) (to : Int) : RefS := deliver to (agedTo S to 8)

theorem aged_keeps (S : RefS) (to : Int) (a : Nat) : (agedTo S to a).fil = S.fil ∧ (agedTo S to a).time = to ∧ (agedTo S to a).done = S.done ∧ (agedTo S to a).wait = S.wait ∧ (agedTo S to a).room = S.room ∧ (agedTo S to a).pub = S.pub ∧ (agedTo S to a).lost = S.lost ∧
    ∀ b, (agedTo S to a).que b = if b < a then (S.que b).filter (aliveB to) else S.que b := by
  induction a with
  | zero => exact ⟨rfl, rfl, rfl, rfl, rfl, rfl, rfl, fun b => by simp [agedTo]⟩
  | succ a ih =>
    obtain ⟨i1, i2, i3, i4, i5, i6, i7, i8⟩ := ih
    refine ⟨i1, i2, i3, i4, i5, i6, i7, fun b => ?_⟩
    simp only [agedTo, setAt]
    by_cases e : b = a
    · subst e
      rw [if_pos rfl, if_pos (by omega), i8, if_neg (by omega)]
    · rw [if_neg e, i8]
      by_cases h : b < a
      · rw [if_pos h, if_pos (by omega)]
      · rw [if_neg h, if_neg (by omega)]

theorem Inv.aged {S : RefS} (h : Inv S) {to : Int} (h0 : 0 ≤ to) (h1 : to ≤ 1099511627776) (a : Nat) : Inv (agedTo S to a) := by
  obtain ⟨i1, i2, i3, i4, i5, i6, i7, i8⟩ := aged_keeps S to a
  refine ⟨by rw [i2]; exact h0, by rw [i2]; exact h1, by rw [i1]; exact h.fil, fun b hb => ?_, by rw [i4]; exact h.wait, fun b hb => by rw [i7, i4, i6]; exact h.lost b hb, by rw [i6, i3]; exact h.pub, by rw [i3]; exact h.done⟩
  rw [i8 b]
  split
  · exact ⟨Nat.le_trans (List.length_filter_le _ _) (h.que b hb).1, fun m hm => (h.que b hb).2 m (List.mem_filter.1 hm).1⟩
  · exact h.que b hb

theorem Inv.deliver1 {S : RefS} (h : Inv S) {x : WaitD} (hx : x ∈ S.wait) : Inv (sendTo { S with wait := S.wait.filter (fun m => m.number != x.number) } x 8) :=
  (h.gone hx).1.send x ⟨(h.wait.2 x hx).2.1, (h.wait.2 x hx).2.2.1⟩

/-- How many wait, as the world's own cell tells. -/
def lenAt (w : World) (B : Nat) : Nat := match w.cell? ⟨B, 28, none⟩ with
  | some (.slice _ n _) => n
  | _ => 0
end Go.Proofs.Ytmjdndhfmfjbiab

namespace Go.Proofs.Ytmjdndhfmfjbiab
open Go.RowKit

/-- One thing more behind a row, in a region that draws its order: what the append does, told ahead of the walk. -/
theorem app_one (t e : TypeId) (z : Value) (size bytes : Nat) (hu : Try.prog.underlying t = some (.slice e)) (hinfo : (Try.prog.info? e).map (fun i => (i.zero, i.size, i.bytes)) = some (some z, size, bytes)) (hzs : z.cells.size = size) (hsz : 0 < size)
    (W : World) (v : Value) (n : Nat) (xs news : List Value) (hrow : Row W e size v n xs) (hl : news.length = size) (h1 : ∀ u ∈ news, u.oneCell' = true) (hn : n ≤ 1048576) (hb : (n + 1) * bytes ≤ 140737488355328) :
    ∃ a1 c1 w1, (appSem #[t, t] t #[v, .slice (some ⟨W.heap.size, 0, none⟩) 1 1]).run Try.prog (W.alloc (.cells news.toArray e)).drew = .ok (.slice a1 (n + 1) c1) w1 ∧
      Row w1 e size (.slice a1 (n + 1) c1) (n + 1) (xs ++ news) ∧ Upd (fun k => v.ownBlock = some k) W w1 ∧ Fresh W v (.slice a1 (n + 1) c1) := by
  obtain ⟨i0, hi, hz0, hz1, hz2⟩ := info_parts hinfo
  obtain ⟨v1, w1, hrun, hown1, hgrow, -, hat⟩ := run_append_own_at (P := Try.prog) ((W.alloc (.cells news.toArray e)).drew) 0 t t e i0 z size bytes hu hi hz0 hz1 hz2 hzs hsz
    v n xs ((hrow.alloc _).drew) ⟨W.heap.size, 0, none⟩ 1 1 news (by rw [hl, Nat.one_mul]) (cells_new W news e) h1 (by unfold maxLen; omega) hb (Nat.zero_le _)
  obtain ⟨a1, c1, rfl, -, -, -⟩ := Row.form hown1
  refine ⟨a1, c1, w1, hrun, hown1, (((Upd.refl _ W).alloc _).drew).grown hgrow (fun i e _ => e), fun g hg => ?_⟩
  rcases hat with h | h
  · exact .inl (h.symm.trans hg)
  · rw [h] at hg
    simp at hg
    exact .inr (by omega)

theorem size_alloc (w : World) (o : Obj) : (w.alloc o).heap.size = w.heap.size + 1 := by simp
end Go.Proofs.Ytmjdndhfmfjbiab

namespace Go.Proofs.Ytmjdndhfmfjbiab
open Go.RowKit

theorem Inv.sends {S : RefS} (h : Inv1 S) : (∀ a, a < 8 → ∀ f ∈ S.fil a, f.size ≤ 1048576) ∧ (∀ a, a < 8 → (S.fil a).length ≤ 1048576) ∧ (∀ a, a < 8 → 0 ≤ S.lost a ∧ S.lost a ≤ 1099511627776) ∧ (∀ a, a < 8 → (S.que a).length ≤ 1048576) := by
  refine ⟨fun a ha f hf => ?_, fun a ha => ?_, fun a ha => ?_, fun a ha => ?_⟩
  · have := (h.fil a ha).2 f hf; omega
  · have := (h.fil a ha).1; omega
  · have h1 := h.lost a ha
    have h2 := h.pub
    have h3 := h.done
    omega
  · have := (h.que a ha).1; omega

theorem cells_new2 (w : World) (o : Obj) (cs : List Value) (t : TypeId) : ∀ j u, cs[j]? = some u → ((w.alloc o).alloc (.cells cs.toArray t)).cell? ((⟨w.heap.size + 1, 0, none⟩ : Addr).add j) = some u := by
  have := cells_new (w.alloc o) cs t
  simpa using this

theorem grow_row2 {α : Type} {f : α → List Value} {w wr w1 : World} {e : TypeId} {size : Nat} {v v1 : Value} {l : List α} {x : α} {o p : Obj}
    (hown : wr.ownsRow w.heap.size e size v l.length (l.flatMap f)) (hb : Below w.heap.size w wr)
    (hown1 : w1.ownsRow w.heap.size e size v1 (l.length + 1) (l.flatMap f ++ f x)) (hg : ((wr.alloc o).alloc p).grownBy w1 v.ownBlock) :
    w1.ownsRow w.heap.size e size v1 (l ++ [x]).length ((l ++ [x]).flatMap f) ∧ Below w.heap.size w w1 :=
  ⟨by simpa using hown1, ((hb.alloc hb.size o).alloc (by have := hb.size; simp; omega) p).grown hg (by have := hb.size; simp; omega) (fun j hj => (hown.lt j hj).1)⟩

end Go.Proofs.Ytmjdndhfmfjbiab

namespace Go.Proofs.Ytmjdndhfmfjbiab
open Go.RowKit
attribute [local go_sem ↓] Go.wp_at_zero Go.wp_at_succ appSem_eq

end Go.Proofs.Ytmjdndhfmfjbiab

namespace Go.Proofs.Ytmjdndhfmfjbiab
open Go.RowKit
attribute [local go_sem ↓] Go.wp_at_zero Go.wp_at_succ appSem_eq

theorem map_flat {α : Type} (f : α → Value) (l : List α) : l.flatMap (fun a => [f a]) = l.map f := by
  induction l with
  | nil => rfl
  | cons a l ih => simp [ih]

theorem drewN_letter {w w3 : World} {n : Nat} (h : w.drewN n = w3) : Below w.heap.size w w3 := by rw [← h]; exact below_drewN (Below.refl _ _)

theorem own_letter {w w3 : World} {n base : Nat} {e : TypeId} {size : Nat} {v : Value} {m : Nat} {xs : List Value} (h : w.drewN n = w3) (ho : w.ownsRow base e size v m xs) : w3.ownsRow base e size v m xs := by rw [← h]; exact ho

end Go.Proofs.Ytmjdndhfmfjbiab

namespace Go.Proofs.Ytmjdndhfmfjbiab
open Go.RowKit
attribute [local go_sem ↓] Go.wp_at_zero Go.wp_at_succ appSem_eq

theorem cell_second (W : World) (o : Obj) (cs : Array Value) (t : TypeId) (n j : Nat) (hn : n = W.heap.size + 1) : ((W.alloc o).alloc (.cells cs t)).drew.cell? ⟨n, j, none⟩ = cs[j]? := by
  show ((W.alloc o).alloc (.cells cs t)).cell? ⟨n, j, none⟩ = cs[j]?
  have h := heap_alloc_new (W.alloc o) (.cells cs t)
  rw [size_alloc] at h
  subst hn
  exact cell_of_row _ _ j cs t (0, 0) h
theorem two_new (w : World) (o p : Obj) : Below w.heap.size w ((w.alloc o).alloc p).drew := (((Below.refl _ _).alloc (Nat.le_refl _) _).alloc (by simp) _).drew

end Go.Proofs.Ytmjdndhfmfjbiab

namespace Go.Proofs.Ytmjdndhfmfjbiab
open Go.RowKit
attribute [local go_sem ↓] Go.wp_at_zero Go.wp_at_succ appSem_eq

/-- One cell of a thing in a list of things. -/
theorem flat_set {α : Type} (f : α → List Value) (n : Nat) (hf : ∀ a, (f a).length = n) : ∀ (l : List α) (k j : Nat) (a a1 : α) (u : Value), l[k]? = some a → j < n → (f a).set j u = f a1 → (l.flatMap f).set (k * n + j) u = (l.set k a1).flatMap f := by
  intro l
  induction l with
  | nil => intro k j a a1 u h; simp at h
  | cons b l ih =>
    intro k j a a1 u h hj hs
    cases k with
    | zero =>
      simp only [List.getElem?_cons_zero, Option.some.injEq] at h
      subst h
      rw [List.flatMap_cons, Nat.zero_mul, Nat.zero_add, List.set_append_left _ _ (by rw [hf]; exact hj), hs, List.set_cons_zero, List.flatMap_cons]
    | succ k =>
      rw [List.getElem?_cons_succ] at h
      rw [List.flatMap_cons, List.set_append_right _ _ (by rw [hf, Nat.succ_mul]; omega), hf, show (k + 1) * n + j - n = k * n + j from by rw [Nat.succ_mul]; omega, ih k j a a1 u h hj hs, List.set_cons_succ, List.flatMap_cons]

theorem find_found {α : Type} (p : α → Bool) : ∀ (l : List α) (i : Int) (k : Nat) (a : α), l[k]? = some a → p a = true → (∀ j b, j < k → l[j]? = some b → p b = false) → findM p l i = i + k := by
  intro l
  induction l with
  | nil => intro i k a h; simp at h
  | cons b l ih =>
    intro i k a h hp hn
    cases k with
    | zero =>
      simp only [List.getElem?_cons_zero, Option.some.injEq] at h
      subst h
      rw [findM, if_pos hp]; omega
    | succ k =>
      have hb := hn 0 b (by omega) rfl
      rw [findM, hb]
      rw [List.getElem?_cons_succ] at h
      simp only [Bool.false_eq_true, if_false]
      rw [ih (i + 1) k a h hp (fun j c hj hc => hn (j + 1) c (by omega) (by simpa using hc))]
      omega

end Go.Proofs.Ytmjdndhfmfjbiab

namespace Go.Proofs.Ytmjdndhfmfjbiab
open Go.RowKit

def subErr (fi : Int) (len : Nat) : Int := if 0 ≤ fi then 6 else if 6 ≤ len then 8 else 0
def noneErr (fi : Int) : Int := if fi < 0 then 7 else 0
def knownB (a : Int) : Bool := decide (0 ≤ a) && decide (a < 8)

end Go.Proofs.Ytmjdndhfmfjbiab

namespace Go.Proofs.Ytmjdndhfmfjbiab
open Go.RowKit

def pubErr (p : Bool) (b c d : Int) (len : Nat) : Int :=
  if p = false then 3 else if b < 0 then 5 else if 1073741824 < b then 5 else if isTimeM c = false then 5 else if isTimeM d = false then 5 else if 0 < c then (if 64 ≤ len then 8 else 0) else 0
def moveErr (fi c : Int) : Int := if fi < 0 then 7 else if c < 1 then 5 else if 1099511627776 < c then 5 else 0
def tickErr (b : Int) : Int := if isTimeM b = false then 5 else 0

end Go.Proofs.Ytmjdndhfmfjbiab

namespace Go.Proofs.Ytmjdndhfmfjbiab
open Go.RowKit

theorem find_some {α : Type} (p : α → Bool) : ∀ (l : List α) (i : Int), 0 ≤ i → 0 ≤ findM p l i → ∃ k a, findM p l i = i + (k : Nat) ∧ l[k]? = some a ∧ p a = true := by
  intro l
  induction l with
  | nil => intro i _ h; simp [findM] at h
  | cons b l ih =>
    intro i hi h
    unfold findM at h ⊢
    split
    · rename_i hp
      exact ⟨0, b, by simp, rfl, hp⟩
    · rename_i hp
      rw [if_neg hp] at h
      obtain ⟨k, a, e, h1, h2⟩ := ih (i + 1) (by omega) h
      exact ⟨k + 1, a, by rw [e]; omega, by simpa using h1, h2⟩

/-- The error of an operation, but for ErrFull. -/
def wrongM (S : RefS) (o : OpD) : Int :=
  if o.kind = 1 then (if knownB o.a = false then 2 else if M.isPathM true o.s = false then 4 else subErr (findM (fun f => f.toList == o.s.toList) (S.fil o.a.toNat) 0) (S.fil o.a.toNat).length)
  else if o.kind = 2 then (if knownB o.a = false then 2 else if M.isPathM true o.s = false then 4 else noneErr (findM (fun f => f.toList == o.s.toList) (S.fil o.a.toNat) 0))
  else if o.kind = 3 then pubErr (M.isPathM false o.s) o.b o.c o.d S.wait.length
  else if o.kind = 4 then noneErr (findM (fun m => m.number == o.b) S.wait 0)
  else if o.kind = 5 then moveErr (findM (fun m => m.number == o.b) S.wait 0) o.c
  else if o.kind = 6 then tickErr o.b
  else (if knownB o.a = false then 2 else noneErr (findM (fun m => m.number == o.b) (S.que o.a.toNat) 0))

theorem known_nat {a : Int} (h : knownB a = true) : ∃ n : Nat, a = (n : Int) ∧ n < 8 := by
  simp only [knownB, Bool.and_eq_true, decide_eq_true_eq] at h
  exact ⟨a.toNat, by omega, by omega⟩

/-- An operation as a value. -/
abbrev opV (o : OpD) : Value := .agg #[.int .i64 o.kind, .int .i64 o.a, .int .i64 o.b, .int .i64 o.c, .int .i64 o.d, .string o.s]

def moveL (l : List WaitD) (b dl : Int) : List WaitD := match l[(findM (fun m : WaitD => m.number == b) l 0).toNat]? with
  | some y => l.set (findM (fun m : WaitD => m.number == b) l 0).toNat { y with deadline := dl }
  | none => l

/-- What an operation that is done brings about. -/
def turnM (S : RefS) (o : OpD) : RefS :=
  if o.kind = 1 then { S with fil := setAt S.fil o.a.toNat (S.fil o.a.toNat ++ [o.s]) }
  else if o.kind = 2 then { S with fil := setAt S.fil o.a.toNat ((S.fil o.a.toNat).filter (fun f => !(f.toList == o.s.toList))) }
  else if o.kind = 3 then (if o.c = 0 then sendTo { S with pub := S.pub + 1 } ⟨S.pub, o.s, o.b, 0, o.d⟩ 8 else { S with pub := S.pub + 1, wait := S.wait ++ [⟨S.pub, o.s, o.b, laterM S.time o.c, o.d⟩] })
  else if o.kind = 4 then { S with wait := S.wait.filter (fun m => m.number != o.b) }
  else if o.kind = 5 then { S with wait := moveL S.wait o.b (laterM S.time o.c) }
  else if o.kind = 6 then tickM S o.b
  else { S with que := setAt S.que o.a.toNat ((S.que o.a.toNat).filter (fun m => m.number != o.b)) }

/-- What a word that is no error says of an operation. -/
theorem sub_ok {fi : Int} {n : Nat} (h : subErr fi n = 0) : fi < 0 ∧ n < 6 := by
  unfold subErr at h
  split at h
  · omega
  · split at h <;> omega
theorem none_ok {fi : Int} (h : noneErr fi = 0) : 0 ≤ fi := by
  unfold noneErr at h
  split at h <;> omega
theorem time_ok {t : Int} (h : isTimeM t = true) : 0 ≤ t ∧ t ≤ 1099511627776 := by simpa [isTimeM] using h
theorem pub_ok {p : Bool} {b c d : Int} {n : Nat} (h : pubErr p b c d n = 0) : p = true ∧ 0 ≤ b ∧ b ≤ 1073741824 ∧ (0 ≤ c ∧ c ≤ 1099511627776) ∧ (0 ≤ d ∧ d ≤ 1099511627776) ∧ (0 < c → n < 64) := by
  unfold pubErr at h
  split at h
  · omega
  split at h
  · omega
  split at h
  · omega
  split at h
  · omega
  split at h
  · omega
  rename_i h1 h2 h3 h4 h5
  have t4 := time_ok (t := c) (by simpa using h4)
  have t5 := time_ok (t := d) (by simpa using h5)
  refine ⟨by simpa using h1, by omega, by omega, t4, t5, fun hc => ?_⟩
  rw [if_pos hc] at h
  split at h <;> omega
theorem move_ok {fi c : Int} (h : moveErr fi c = 0) : 0 ≤ fi ∧ 1 ≤ c ∧ c ≤ 1099511627776 := by
  unfold moveErr at h
  split at h
  · omega
  · split at h
    · omega
    · split at h <;> omega
theorem tick_ok {b : Int} (h : tickErr b = 0) : 0 ≤ b ∧ b ≤ 1099511627776 := by
  unfold tickErr at h
  split at h
  · omega
  · rename_i h1
    exact time_ok (by simpa using h1)
theorem path15 {wild : Bool} {s : ByteArray} (h : M.isPathM wild s = true) : s.size ≤ 15 := by
  simp [M.isPathM] at h
  exact h.1.1

theorem later_ok {t c : Int} (ht : 0 ≤ t) (hc : 0 ≤ c) : 0 ≤ laterM t c ∧ laterM t c ≤ 1099511627776 := by
  unfold laterM
  split <;> omega

/-- The invariant with one operation more on the list. -/
theorem Inv.done1 {S : RefS} (h : Inv S) (o : OpD) (hd : S.done.length < 500) : Inv { S with done := S.done ++ [o] } ∧ S.pub + 1 ≤ ((S.done ++ [o]).length : Int) := by
  have hp := h.pub
  refine ⟨⟨h.time0, h.time1, h.fil, h.que, h.wait, h.lost, ?_, ?_⟩, ?_⟩
  · show S.pub ≤ ((S.done ++ [o]).length : Int)
    simp; omega
  · show (S.done ++ [o]).length ≤ 500
    simp; omega
  · simp; omega

end Go.Proofs.Ytmjdndhfmfjbiab

namespace Go.Proofs.Ytmjdndhfmfjbiab
open Go.RowKit
attribute [local go_sem ↓] Go.wp_at_zero Go.wp_at_succ appSem_eq

theorem deliver_inv (to : Int) : ∀ (n : Nat) (T : RefS), Inv T → Inv (deliverN to n T) := by
  intro n
  induction n with
  | zero => intro T h; exact h
  | succ n ih =>
    intro T h
    unfold deliverN
    split
    · exact h
    · split
      · exact h
      · rename_i x hx
        split
        · exact h
        · exact ih _ (h.deliver1 (List.mem_of_getElem? hx))

theorem setAt_inv {α : Type} {f : Nat → α} {n : Nat} {v : α} {p : α → Prop} (hf : ∀ a, a < 8 → p (f a)) (hv : p v) : ∀ a, a < 8 → p (setAt f n v a) := by
  intro a ha
  simp only [setAt]
  split
  · exact hv
  · exact hf a ha

theorem Inv.pub1 {S : RefS} (h : Inv S) (hp : S.pub + 1 ≤ (S.done.length : Int)) : Inv1 { S with pub := S.pub + 1 } := by
  refine ⟨h.time0, h.time1, h.fil, h.que, h.wait, fun n hn => ⟨(h.lost n hn).1, ?_⟩, hp, h.done⟩
  have := (h.lost n hn).2
  show S.lost n + (S.wait.length : Int) + 1 ≤ S.pub + 1
  omega

set_option maxHeartbeats 1000000 in
theorem Inv.turn {S : RefS} {o : OpD} (h : Inv S) (hp : S.pub + 1 ≤ (S.done.length : Int)) (hk : 1 ≤ o.kind ∧ o.kind ≤ 7) (hw : wrongM S o = 0) : Inv (turnM S o) := by
  obtain ⟨k, a, b, c, d, s⟩ := o
  simp only at hk
  rcases (show k = 1 ∨ k = 2 ∨ k = 3 ∨ k = 4 ∨ k = 5 ∨ k = 6 ∨ k = 7 from by omega) with rfl | rfl | rfl | rfl | rfl | rfl | rfl
  · simp only [wrongM, if_true] at hw
    cases hkn : knownB a
    · rw [hkn] at hw; simp at hw
    · obtain ⟨n, rfl, hn⟩ := known_nat hkn
      rw [hkn] at hw
      cases hpth : M.isPathM true s
      · rw [hpth] at hw; simp at hw
      · rw [hpth] at hw
        simp only [Bool.true_eq_false, if_false, Int.toNat_natCast] at hw
        have hsub := sub_ok hw
        refine ⟨h.time0, h.time1, ?_, h.que, h.wait, h.lost, h.pub, h.done⟩
        exact setAt_inv (p := fun l : List ByteArray => l.length ≤ 6 ∧ ∀ f ∈ l, f.size ≤ 15) h.fil ⟨by simp; omega, fun f hf => by
          simp only [Int.toNat_natCast, List.mem_append, List.mem_singleton] at hf
          rcases hf with hf | rfl
          · exact (h.fil n hn).2 f hf
          · exact path15 hpth⟩
  · simp only [wrongM] at hw
    cases hkn : knownB a
    · rw [hkn] at hw; simp at hw
    · obtain ⟨n, rfl, hn⟩ := known_nat hkn
      refine ⟨h.time0, h.time1, ?_, h.que, h.wait, h.lost, h.pub, h.done⟩
      exact setAt_inv (p := fun l : List ByteArray => l.length ≤ 6 ∧ ∀ f ∈ l, f.size ≤ 15) h.fil ⟨by
        have := (h.fil n hn).1
        simp only [Int.toNat_natCast]
        exact Nat.le_trans (List.length_filter_le _ _) this, fun f hf => by
          simp only [Int.toNat_natCast] at hf
          exact (h.fil n hn).2 f (List.mem_filter.1 hf).1⟩
  · obtain ⟨q1, q2, q3, q4, q5, q6⟩ := pub_ok (by simpa [wrongM] using hw)
    have e3 : turnM S ⟨3, a, b, c, d, s⟩ = if c = 0 then sendTo { S with pub := S.pub + 1 } ⟨S.pub, s, b, 0, d⟩ 8 else { S with pub := S.pub + 1, wait := S.wait ++ [⟨S.pub, s, b, laterM S.time c, d⟩] } := by simp [turnM]
    rw [e3]
    split
    · exact (h.pub1 hp).send _ q5
    · have hl := q6 (by omega)
      refine ⟨h.time0, h.time1, h.fil, h.que, ⟨?_, fun m hm => ?_⟩, fun n hn => ⟨(h.lost n hn).1, ?_⟩, hp, h.done⟩
      · show (S.wait ++ [_]).length ≤ 64
        simp; omega
      · have hm : m ∈ S.wait ++ [⟨S.pub, s, b, laterM S.time c, d⟩] := hm
        simp only [List.mem_append, List.mem_singleton] at hm
        rcases hm with hm | rfl
        · exact h.wait.2 m hm
        · have := later_ok h.time0 q4.1
          exact ⟨path15 q1, q5.1, q5.2, this.1, this.2⟩
      · have := (h.lost n hn).2
        show S.lost n + ((S.wait ++ [_]).length : Int) ≤ S.pub + 1
        simp; omega
  · have e4 : turnM S ⟨4, a, b, c, d, s⟩ = { S with wait := S.wait.filter (fun m => m.number != b) } := by simp [turnM]
    rw [e4]
    have hl := List.length_filter_le (fun m : WaitD => m.number != b) S.wait
    refine ⟨h.time0, h.time1, h.fil, h.que, ⟨Nat.le_trans hl h.wait.1, fun m hm => h.wait.2 m (List.mem_filter.1 hm).1⟩, fun n hn => ⟨(h.lost n hn).1, ?_⟩, h.pub, h.done⟩
    have := (h.lost n hn).2
    show S.lost n + ((S.wait.filter (fun m => m.number != b)).length : Int) ≤ S.pub
    omega
  · obtain ⟨q1, q2, q3⟩ := move_ok (by simpa [wrongM] using hw)
    obtain ⟨j, y, e, hy, -⟩ := find_some _ S.wait 0 (by omega) q1
    rw [Int.zero_add] at e
    have e5 : turnM S ⟨5, a, b, c, d, s⟩ = { S with wait := S.wait.set j { y with deadline := laterM S.time c } } := by simp [turnM, moveL, e, hy]
    rw [e5]
    refine ⟨h.time0, h.time1, h.fil, h.que, ⟨by show (S.wait.set j _).length ≤ 64; rw [List.length_set]; exact h.wait.1, fun m hm => ?_⟩, fun n hn => ⟨(h.lost n hn).1, by show S.lost n + ((S.wait.set j _).length : Int) ≤ S.pub; rw [List.length_set]; exact (h.lost n hn).2⟩, h.pub, h.done⟩
    have hm : m ∈ S.wait.set j { y with deadline := laterM S.time c } := hm
    rcases List.mem_or_eq_of_mem_set hm with hm | rfl
    · exact h.wait.2 m hm
    · have hyw := h.wait.2 y (List.mem_of_getElem? hy)
      have := later_ok (t := S.time) (c := c) h.time0 (by omega)
      exact ⟨hyw.1, hyw.2.1, hyw.2.2.1, this.1, this.2⟩
  · obtain ⟨q1, q2⟩ := tick_ok (by simpa [wrongM] using hw)
    have e6 : turnM S ⟨6, a, b, c, d, s⟩ = tickM S b := by simp [turnM]
    rw [e6]
    exact deliver_inv b _ _ (h.aged q1 q2 8)
  · simp only [wrongM] at hw
    cases hkn : knownB a
    · rw [hkn] at hw; simp at hw
    · obtain ⟨n, rfl, hn⟩ := known_nat hkn
      refine ⟨h.time0, h.time1, h.fil, ?_, h.wait, h.lost, h.pub, h.done⟩
      exact setAt_inv (p := fun l : List SentD => l.length ≤ 10 ∧ ∀ m ∈ l, 0 ≤ m.sentAt ∧ m.sentAt ≤ 1099511627776 ∧ 0 ≤ m.life ∧ m.life ≤ 1099511627776) h.que ⟨by
        have := (h.que n hn).1
        simp only [Int.toNat_natCast]
        exact Nat.le_trans (List.length_filter_le _ _) this, fun f hf => by
          simp only [Int.toNat_natCast] at hf
          exact (h.que n hn).2 f (List.mem_filter.1 hf).1⟩

/-- Does the operation, if it is done, write a record? -/
def writesB (S : RefS) (o : OpD) : Bool := (o.kind != 6) || decide (S.time < o.b)

end Go.Proofs.Ytmjdndhfmfjbiab

namespace Go.Proofs.Ytmjdndhfmfjbiab
open Go.RowKit
attribute [local go_sem ↓] Go.wp_at_zero Go.wp_at_succ appSem_eq

/-- Is the operation done? -/
def doneB (S : RefS) (o : OpD) : Bool := (wrongM S o == 0) && writesB S o && decide ((S.done.length : Int) < S.room)
def doErr (S : RefS) (o : OpD) : Int := if wrongM S o = 0 then (if writesB S o = true then (if (S.done.length : Int) < S.room then 0 else 9) else 0) else wrongM S o
def doAns (S : RefS) (o : OpD) : Int := if doneB S o = true then (if o.kind = 3 then S.pub else 0) else 0
def doS (S : RefS) (o : OpD) : RefS := if doneB S o = true then turnM { S with done := S.done ++ [o] } o else S

end Go.Proofs.Ytmjdndhfmfjbiab

namespace Go.Proofs.Ytmjdndhfmfjbiab
open Go.RowKit
attribute [local go_sem ↓] Go.wp_at_zero Go.wp_at_succ appSem_eq

def lostM (S : RefS) (k : Int) : Int := if knownB k = true then S.lost k.toNat else 0

/-- A world in which nothing has been done. -/
def refNew (room : Int) : RefS := ⟨room, [], 0, 0, fun _ => [], fun _ => [], fun _ => 0, []⟩
def nilV : Value := .slice none 0 0
def refNewV : RefV := ⟨nilV, fun _ => nilV, fun _ => nilV, nilV⟩

theorem Row.nil (w : World) (e : TypeId) (size : Nat) : Row w e size nilV 0 [] := World.ownsRow_nil w 0 e size

theorem refFP_new {B k : Nat} (h : RefFP B refNewV k) : k = B := by
  rcases h with h | h | h | ⟨a, -, h | h⟩
  · exact h
  all_goals simp [refNewV, nilV, Value.ownBlock] at h

/-- The cells of a new world. -/
def newCells (room : Int) : List Value := [.int .i64 room, nilV, .int .i64 0, .int .i64 0, nilV, nilV, .int .i64 0, nilV, nilV, .int .i64 0, nilV, nilV, .int .i64 0, nilV, nilV, .int .i64 0, nilV, nilV, .int .i64 0, nilV, nilV, .int .i64 0, nilV, nilV, .int .i64 0, nilV, nilV, .int .i64 0, nilV]

theorem inv_new (room : Int) : Inv (refNew room) :=
  ⟨Int.le_refl _, by show (0 : Int) ≤ _; omega, fun _ _ => ⟨Nat.zero_le _, fun f hf => by simp [refNew] at hf⟩, fun _ _ => ⟨Nat.zero_le _, fun f hf => by simp [refNew] at hf⟩, ⟨Nat.zero_le _, fun f hf => by simp [refNew] at hf⟩,
    fun _ _ => ⟨Int.le_refl _, by simp [refNew]⟩, by simp [refNew], by simp [refNew]⟩

end Go.Proofs.Ytmjdndhfmfjbiab

namespace Go.Proofs.Ytmjdndhfmfjbiab
open Go.RowKit
attribute [local go_sem ↓] Go.wp_at_zero Go.wp_at_succ appSem_eq

/-- A message as it is shown. -/
structure MailD where
  number : Int
  topic : ByteArray
  value : Int
  sentAt : Int
  left : Int
def mailCells (x : MailD) : List Value := [.int .i64 x.number, .string x.topic, .int .i64 x.value, .int .i64 x.sentAt, .int .i64 x.left]
theorem mail_len (x : MailD) : (mailCells x).length = 5 := rfl
theorem mail_one (x : MailD) : ∀ u ∈ mailCells x, u.oneCell' = true := by
  intro u hu
  simp only [mailCells, List.mem_cons, List.not_mem_nil, or_false] at hu
  rcases hu with rfl | rfl | rfl | rfl | rfl <;> rfl
theorem infoMail : (Try.prog.info? 35).map (fun i => (i.zero, i.size, i.bytes)) = some (some (.agg #[.int .i64 0, .string ⟨#[]⟩, .int .i64 0, .int .i64 0, .int .i64 0]), 5, 48) := by kernel_rfl

def leftM (time : Int) (m : SentD) : Int := if 0 < m.life then m.life - (time - m.sentAt) else 0
def mailOf (time : Int) (m : SentD) : MailD := ⟨m.number, m.topic, m.value, m.sentAt, leftM time m⟩
def queueM (S : RefS) (k : Int) : List MailD := if knownB k = true then (S.que k.toNat).map (mailOf S.time) else []

theorem map_hit {α β : Type} (f : α → β) {l : List α} {k : Nat} {x : α} (hx : l[k]? = some x) : (l.take (k + 1)).map f = (l.take k).map f ++ [f x] := by
  rw [List.take_add_one, hx]; simp

theorem cells_new3 (w : World) (o p : Obj) (cs : List Value) (t : TypeId) : ∀ j u, cs[j]? = some u → (((w.alloc o).alloc p).alloc (.cells cs.toArray t)).cell? ((⟨w.heap.size + 2, 0, none⟩ : Addr).add j) = some u := by
  have := cells_new ((w.alloc o).alloc p) cs t
  simpa using this

theorem grow_row3 {α : Type} {f : α → List Value} {w wr w1 : World} {e : TypeId} {size : Nat} {v v1 : Value} {l : List α} {x : α} {o p q : Obj}
    (hown : wr.ownsRow w.heap.size e size v l.length (l.flatMap f)) (hb : Below w.heap.size w wr)
    (hown1 : w1.ownsRow w.heap.size e size v1 (l.length + 1) (l.flatMap f ++ f x)) (hg : (((wr.alloc o).alloc p).alloc q).grownBy w1 v.ownBlock) :
    w1.ownsRow w.heap.size e size v1 (l ++ [x]).length ((l ++ [x]).flatMap f) ∧ Below w.heap.size w w1 :=
  ⟨by simpa using hown1, (((hb.alloc hb.size o).alloc (by have := hb.size; simp; omega) p).alloc (by have := hb.size; simp; omega) q).grown hg (by have := hb.size; simp; omega) (fun j hj => (hown.lt j hj).1)⟩

theorem grown_undrew {w w1 : World} {row : Option Nat} (h : w.drew.grownBy w1 row) : w.grownBy w1 row := ⟨h.os, h.tape, h.output, h.size, h.block⟩
theorem wrap_ok (n : Int) (h0 : -9223372036854775808 ≤ n) (h1 : n ≤ 9223372036854775807) : IntKind.i64.wrap n = n := by rw [IntKind.wrap_i64]; omega

end Go.Proofs.Ytmjdndhfmfjbiab

namespace Go.Proofs.Ytmjdndhfmfjbiab
open Go.RowKit

/-- Texts by their order. -/
def ltB (f g : ByteArray) : Bool := Op.bytesLess f.toList g.toList
def gtB (f g : ByteArray) : Bool := !(Op.bytesLess f.toList g.toList || f.toList == g.toList)
def takesB (last best f : ByteArray) : Bool := gtB f last && (best.toList.isEmpty || ltB f best)
/-- Of the first k texts the least above 'last'. -/
def pickTo (fs : List ByteArray) (last : ByteArray) : Nat → ByteArray
  | 0 => ⟨#[]⟩
  | k + 1 => match fs[k]? with
    | none => pickTo fs last k
    | some f => if takesB last (pickTo fs last k) f then f else pickTo fs last k
theorem pick_step {fs : List ByteArray} {last f : ByteArray} {k : Nat} (h : fs[k]? = some f) : pickTo fs last (k + 1) = if takesB last (pickTo fs last k) f then f else pickTo fs last k := by
  rw [pickTo, h]
/-- The least that is left goes next. -/
def selTo (fs : List ByteArray) : Nat → List ByteArray × ByteArray
  | 0 => ([], ⟨#[]⟩)
  | n + 1 => ((selTo fs n).1 ++ [pickTo fs (selTo fs n).2 fs.length], pickTo fs (selTo fs n).2 fs.length)
theorem sel_len (fs : List ByteArray) (n : Nat) : (selTo fs n).1.length = n := by
  induction n with
  | zero => rfl
  | succ n ih => simp [selTo, ih]
def filtersM (S : RefS) (k : Int) : List ByteArray := if knownB k = true then (selTo (S.fil k.toNat) (S.fil k.toNat).length).1 else []

end Go.Proofs.Ytmjdndhfmfjbiab

namespace Go.Proofs.Ytmjdndhfmfjbiab
open Go.RowKit

theorem op_cells {w : World} {ao : Option Addr} {l : List OpD} (h : CellsAt w ao (l.flatMap opCells)) {k : Nat} {x : OpD} (hx : l[k]? = some x) :
    ∃ g, ao = some ⟨g, 0, none⟩ ∧ g < w.heap.size ∧ w.cell? ⟨g, k * 6, none⟩ = some (.int .i64 x.kind) ∧ w.cell? ⟨g, k * 6 + 1, none⟩ = some (.int .i64 x.a) ∧ w.cell? ⟨g, k * 6 + 2, none⟩ = some (.int .i64 x.b) ∧
      w.cell? ⟨g, k * 6 + 3, none⟩ = some (.int .i64 x.c) ∧ w.cell? ⟨g, k * 6 + 4, none⟩ = some (.int .i64 x.d) ∧ w.cell? ⟨g, k * 6 + 5, none⟩ = some (.string x.s) := by
  have F := flat_get opCells 6 op_len l k
  obtain ⟨g, e0, h0⟩ := h (k * 6 + 0) (.int .i64 x.kind) (by rw [F 0 x hx (by omega)]; rfl)
  obtain ⟨g1, e1, h1⟩ := h (k * 6 + 1) (.int .i64 x.a) (by rw [F 1 x hx (by omega)]; rfl)
  obtain ⟨g2, e2, h2⟩ := h (k * 6 + 2) (.int .i64 x.b) (by rw [F 2 x hx (by omega)]; rfl)
  obtain ⟨g3, e3, h3⟩ := h (k * 6 + 3) (.int .i64 x.c) (by rw [F 3 x hx (by omega)]; rfl)
  obtain ⟨g4, e4, h4⟩ := h (k * 6 + 4) (.int .i64 x.d) (by rw [F 4 x hx (by omega)]; rfl)
  obtain ⟨g5, e5, h5⟩ := h (k * 6 + 5) (.string x.s) (by rw [F 5 x hx (by omega)]; rfl)
  rw [e0] at e1 e2 e3 e4 e5
  simp only [Option.some.injEq, Addr.mk.injEq, and_true] at e1 e2 e3 e4 e5
  subst e1 e2 e3 e4 e5
  exact ⟨g, e0, World.block_lt_of_cell? _ _ h0, h0, h1, h2, h3, h4, h5⟩

theorem deliver_keeps (to : Int) : ∀ (n : Nat) (T : RefS), (deliverN to n T).room = T.room ∧ (deliverN to n T).done = T.done := by
  intro n
  induction n with
  | zero => intro T; exact ⟨rfl, rfl⟩
  | succ n ih =>
    intro T
    unfold deliverN
    split
    · exact ⟨rfl, rfl⟩
    · split
      · exact ⟨rfl, rfl⟩
      · rename_i y _
        split
        · exact ⟨rfl, rfl⟩
        · obtain ⟨i1, i2⟩ := ih (sendTo { T with wait := T.wait.filter (fun m => m.number != y.number) } y 8)
          obtain ⟨-, -, k3, -, k5, -⟩ := sendTo_keeps { T with wait := T.wait.filter (fun m => m.number != y.number) } y 8
          exact ⟨i1.trans k5, i2.trans k3⟩

theorem turn_keeps (S : RefS) (o : OpD) : (turnM S o).room = S.room ∧ (turnM S o).done = S.done := by
  unfold turnM
  split
  · exact ⟨rfl, rfl⟩
  split
  · exact ⟨rfl, rfl⟩
  split
  · split
    · obtain ⟨-, -, k3, -, k5, -⟩ := sendTo_keeps { S with pub := S.pub + 1 } ⟨S.pub, o.s, o.b, 0, o.d⟩ 8
      exact ⟨k5, k3⟩
    · exact ⟨rfl, rfl⟩
  split
  · exact ⟨rfl, rfl⟩
  split
  · exact ⟨rfl, rfl⟩
  split
  · obtain ⟨i1, i2⟩ := deliver_keeps o.b (agedTo S o.b 8).wait.length (agedTo S o.b 8)
    obtain ⟨-, -, a3, -, a5, -⟩ := aged_keeps S o.b 8
    exact ⟨i1.trans a5, i2.trans a3⟩
  · exact ⟨rfl, rfl⟩

theorem do_room (S : RefS) (o : OpD) : (doS S o).room = S.room := by
  unfold doS
  split
  · exact (turn_keeps _ o).1
  · rfl
theorem do_done (S : RefS) (o : OpD) : (doS S o).done = if doneB S o = true then S.done ++ [o] else S.done := by
  unfold doS
  split
  · exact (turn_keeps _ o).2
  · rfl

theorem Inv.does {S : RefS} {o : OpD} (h : Inv S) (hroom : S.room ≤ 500) (hk : 1 ≤ o.kind ∧ o.kind ≤ 7) : Inv (doS S o) := by
  unfold doS
  split
  · rename_i hd
    simp only [doneB, Bool.and_eq_true, decide_eq_true_eq, beq_iff_eq] at hd
    obtain ⟨i1, i2⟩ := h.done1 o (by omega)
    exact i1.turn i2 hk hd.1.1
  · exact h

/-- The operations that were done, once more. -/
def replay (l : List OpD) : RefS := l.foldl doS (refNew 500)
theorem replay_snoc (l : List OpD) (o : OpD) : replay (l ++ [o]) = doS (replay l) o := by simp [replay]
/-- An operation that a script can name. -/
def Fine (o : OpD) : Prop := (1 ≤ o.kind ∧ o.kind ≤ 7) ∧ o.s.size ≤ 1048576
theorem replay_inv (l : List OpD) (h : ∀ o ∈ l, Fine o) : Inv (replay l) ∧ (replay l).room = 500 := by
  suffices H : ∀ (l : List OpD) (S : RefS), Inv S → S.room = 500 → (∀ o ∈ l, Fine o) → Inv (l.foldl doS S) ∧ (l.foldl doS S).room = 500 from H l _ (inv_new 500) rfl h
  intro l
  induction l with
  | nil => intro S h1 h2 _; exact ⟨h1, h2⟩
  | cons o l ih =>
    intro S h1 h2 h3
    exact ih (doS S o) (h1.does (by omega) (h3 o (by simp)).1) ((do_room S o).trans h2) (fun p hp => h3 p (by simp [hp]))

end Go.Proofs.Ytmjdndhfmfjbiab

namespace Go.Proofs.Ytmjdndhfmfjbiab
open Go.RowKit

/-- A copy, kept whole, so that the walk takes its run from a hypothesis. -/
def copySem (ts : Array TypeId) (ty : TypeId) (args : Array Value) : Sem Value := Builtin.copy_ ts ty args
theorem copySem_eq (ts : Array TypeId) (ty : TypeId) (args : Array Value) : Builtin.copy_ ts ty args = copySem ts ty args := rfl
attribute [local go_sem ↓] copySem_eq

theorem run_copy_full {P : Program} (t ty e : TypeId) (size base : Nat) (hu : P.underlying t = some (.slice e)) (i : TypeInfo) (hi : P.info? e = some i) (hsz : i.size = size) (W : World) (g n cap : Nat) (xs ys : List Value)
    (hown : W.ownsRow base e size (.slice (some ⟨g, 0, none⟩) n cap) n xs) (ao : Option Addr) (c : Nat) (hy : ys.length = n * size) (hsrc : CellsAt W ao ys) (h1 : ∀ v ∈ ys, v.oneCell' = true) :
    ∃ w1, (copySem #[t, t] ty #[.slice (some ⟨g, 0, none⟩) n cap, .slice ao n c]).run P W = .ok (goInt n) w1 ∧ w1.ownsRow base e size (.slice (some ⟨g, 0, none⟩) n cap) n ys ∧ W.grownBy w1 (some g) := by
  rcases hown.2 with ⟨h, _⟩ | ⟨g', cap', cur, h, hbg, hg, hnc, hcm, hcs, htake⟩
  · simp at h
  · simp only [Value.slice.injEq, Option.some.injEq, Addr.mk.injEq, and_true, true_and] at h
    obtain ⟨rfl, rfl⟩ := h
    have hfit : ys.length ≤ cur.size := by rw [hy, hcs]; exact Nat.mul_le_mul_right _ hnc
    have hst := run_storeCells_at P g 0 e ys 0 cur W hg (by simpa using hfit) h1
    have hfc : (Builtin.firstCells size n (.slice ao n c)).run P W = .ok ys.toArray W := by
      cases ao with
      | none =>
        have : ys = [] := by
          cases ys with
          | nil => rfl
          | cons y l =>
            obtain ⟨g0, e0, -⟩ := hsrc 0 y rfl
            cases e0
        subst this
        exact run_firstCells_none W size n n c
      | some ad =>
        refine run_firstCells_some W size n ad n c ys hy (fun j v hj => ?_)
        obtain ⟨g0, e0, hc⟩ := hsrc j v hj
        simp only [Option.some.injEq] at e0
        subst e0
        rw [Addr.add_lit, Nat.zero_add]; exact hc
    refine ⟨W.setRow g (cur.toList.take 0 ++ ys ++ cur.toList.drop ys.length).toArray, ?_, ⟨hy, .inr ⟨g, cap, _, rfl, hbg, setRow_heap W g cur _ e _ hg, hnc, hcm, ?_, ?_⟩⟩, ⟨rfl, rfl, rfl, by simp, fun k _ hk => setRow_other W g k _ (fun e => hk (by simp [e]))⟩⟩
    · simp only [Nat.add_zero, Nat.zero_add] at hst
      simp [copySem, Builtin.copy_, run_underlying hu, Builtin.lenOf, sizeOf, typeInfo, hi, hsz, hfc, hst]
    · simp only [List.take_zero, List.nil_append, List.size_toArray, List.length_append, List.length_drop, Array.length_toList]
      omega
    · simp only [List.take_zero, List.nil_append, ← hy]
      exact List.take_left

/-- Where nothing stands behind the last, the last fills the gap. -/
def popAt (l : List WaitD) (b : Nat) : List WaitD := match l.getLast? with
  | some y => (l.set b y).dropLast
  | none => []
def selN : Nat → List WaitD → List WaitD
  | 0, _ => []
  | n + 1, l => match bestTo l l.length with
    | none => []
    | some b => match l[b]? with
      | none => []
      | some x => x :: selN n (popAt l b)
/-- What waits, in the order in which it is sent. -/
def waitingM (S : RefS) : List WaitD := selN S.wait.length S.wait

theorem pop_len (l : List WaitD) (b : Nat) : (popAt l b).length = l.length - 1 := by
  unfold popAt
  cases h : l.getLast? with
  | none =>
    have : l = [] := by simpa using h
    subst this; rfl
  | some y => simp

theorem best_some (l : List WaitD) (k : Nat) (h : 0 < k) (hk : k ≤ l.length) : ∃ b, bestTo l k = some b := by
  cases k with
  | zero => omega
  | succ k =>
    obtain ⟨x, hx⟩ : ∃ x, l[k]? = some x := ⟨_, List.getElem?_eq_getElem (by omega)⟩
    unfold bestTo
    rw [hx]
    split
    · simp_all
    · exact ⟨k, rfl⟩
    · split
      · exact ⟨_, rfl⟩
      · split <;> exact ⟨_, rfl⟩

theorem sel_step {l : List WaitD} {b : Nat} {x : WaitD} (hb : bestTo l l.length = some b) (hx : l[b]? = some x) : selN l.length l = x :: selN (popAt l b).length (popAt l b) := by
  have hbl := best_lt l _ b hb
  cases hn : l.length with
  | zero => omega
  | succ n =>
    rw [selN, hb]
    simp only [hx, pop_len, hn, Nat.add_sub_cancel]

theorem own_mono {w : World} {base base1 : Nat} {e : TypeId} {size : Nat} {v : Value} {n : Nat} {xs : List Value} (h : w.ownsRow base e size v n xs) (hb : base1 ≤ base) : w.ownsRow base1 e size v n xs := by
  refine ⟨h.1, ?_⟩
  rcases h.2 with a | ⟨g, cap, cur, hv, hg, rest⟩
  · exact .inl a
  · exact .inr ⟨g, cap, cur, hv, Nat.le_trans hb hg, rest⟩

theorem own_below {w w1 : World} {base : Nat} {e : TypeId} {size : Nat} {v : Value} {n : Nat} {xs : List Value} (h : w.ownsRow base e size v n xs) (hb : Below w.heap.size w w1) : w1.ownsRow base e size v n xs :=
  World.ownsRow.kept h (row := none) ⟨hb.os, hb.tape, hb.output, hb.size, fun k hk _ => hb.block k hk⟩ (by cases hv : v.ownBlock <;> simp)

/-- One message of a row, written over by another. -/
theorem row5 {W : World} {base g n cap b : Nat} {cur : List WaitD} {y z : WaitD} (h : W.ownsRow base 50 5 (.slice (some ⟨g, 0, none⟩) n cap) n (cur.flatMap waitCells)) (hy : cur[b]? = some y) :
    (((((W.setCell ⟨g, b * 5, none⟩ (.int .i64 z.number)).setCell ⟨g, b * 5 + 1, none⟩ (.string z.topic)).setCell ⟨g, b * 5 + 2, none⟩ (.int .i64 z.value)).setCell ⟨g, b * 5 + 3, none⟩ (.int .i64 z.deadline)).setCell ⟨g, b * 5 + 4, none⟩ (.int .i64 z.life)).ownsRow base 50 5 (.slice (some ⟨g, 0, none⟩) n cap) n ((cur.set b z).flatMap waitCells) ∧
      W.grownBy (((((W.setCell ⟨g, b * 5, none⟩ (.int .i64 z.number)).setCell ⟨g, b * 5 + 1, none⟩ (.string z.topic)).setCell ⟨g, b * 5 + 2, none⟩ (.int .i64 z.value)).setCell ⟨g, b * 5 + 3, none⟩ (.int .i64 z.deadline)).setCell ⟨g, b * 5 + 4, none⟩ (.int .i64 z.life)) (some g) := by
  obtain ⟨hb, -⟩ := List.getElem?_eq_some_iff.1 hy
  have s0 := World.ownsRow.stored h (b * 5) (.int .i64 z.number)
  rw [show b * 5 = b * 5 + 0 from rfl, flat_set waitCells 5 wait_len cur b 0 y { y with number := z.number } _ hy (by omega) rfl] at s0
  have s1 := World.ownsRow.stored s0.1 (b * 5 + 1) (.string z.topic)
  rw [flat_set waitCells 5 wait_len _ b 1 { y with number := z.number } { y with number := z.number, topic := z.topic } _ (by rw [List.getElem?_set_self hb]) (by omega) rfl, List.set_set] at s1
  have s2 := World.ownsRow.stored s1.1 (b * 5 + 2) (.int .i64 z.value)
  rw [flat_set waitCells 5 wait_len _ b 2 { y with number := z.number, topic := z.topic } { y with number := z.number, topic := z.topic, value := z.value } _ (by rw [List.getElem?_set_self hb]) (by omega) rfl, List.set_set] at s2
  have s3 := World.ownsRow.stored s2.1 (b * 5 + 3) (.int .i64 z.deadline)
  rw [flat_set waitCells 5 wait_len _ b 3 { y with number := z.number, topic := z.topic, value := z.value } { y with number := z.number, topic := z.topic, value := z.value, deadline := z.deadline } _ (by rw [List.getElem?_set_self hb]) (by omega) rfl, List.set_set] at s3
  have s4 := World.ownsRow.stored s3.1 (b * 5 + 4) (.int .i64 z.life)
  rw [flat_set waitCells 5 wait_len _ b 4 { y with number := z.number, topic := z.topic, value := z.value, deadline := z.deadline } z _ (by rw [List.getElem?_set_self hb]) (by omega) rfl, List.set_set] at s4
  exact ⟨s4.1, (((s0.2.trans s1.2).trans s2.2).trans s3.2).trans s4.2⟩

theorem pop_row {W : World} {base g cap : Nat} {L : List WaitD} (hL : 0 < L.length) (h : W.ownsRow base 50 5 (.slice (some ⟨g, 0, none⟩) L.length cap) L.length (L.flatMap waitCells)) :
    W.ownsRow base 50 5 (.slice (some ⟨g, 0, none⟩) (L.length - 1) cap) (L.length - 1) (L.dropLast.flatMap waitCells) := by
  have hne : L ≠ [] := fun e => by subst e; simp at hL
  have e : L = L.dropLast ++ [L.getLast hne] := (List.dropLast_concat_getLast hne).symm
  have h2 : W.ownsRow base 50 5 (.slice (some ⟨g, 0, none⟩) (L.length - 1 + 1) cap) (L.length - 1 + 1) (L.dropLast.flatMap waitCells ++ waitCells (L.getLast hne)) := by
    rw [Nat.sub_add_cancel hL]
    have e2 : L.dropLast.flatMap waitCells ++ waitCells (L.getLast hne) = L.flatMap waitCells := by
      conv => rhs; rw [e]
      simp
    rw [e2]; exact h
  exact ownsRow_pop (by rw [flat_len waitCells 5 wait_len, List.length_dropLast]) h2

def lenV : Value → Nat
  | .slice _ n _ => n
  | _ => 0

end Go.Proofs.Ytmjdndhfmfjbiab

namespace Go.Proofs.Ytmjdndhfmfjbiab
open Go.RowKit

def pickM (c n : Int) : Int := (if c < 0 then -(c + 1) else c) % n
theorem pick_bd (c n : Int) (hn : 0 < n) : 0 ≤ pickM c n ∧ pickM c n < n := by
  unfold pickM
  exact ⟨Int.emod_nonneg _ (by omega), Int.emod_lt_of_pos _ hn⟩

theorem mail_cells {w : World} {ao : Option Addr} {l : List MailD} (h : CellsAt w ao (l.flatMap mailCells)) {k : Nat} {x : MailD} (hx : l[k]? = some x) :
    ∃ g, ao = some ⟨g, 0, none⟩ ∧ g < w.heap.size ∧ w.cell? ⟨g, k * 5, none⟩ = some (.int .i64 x.number) ∧ w.cell? ⟨g, k * 5 + 1, none⟩ = some (.string x.topic) ∧
      w.cell? ⟨g, k * 5 + 2, none⟩ = some (.int .i64 x.value) ∧ w.cell? ⟨g, k * 5 + 3, none⟩ = some (.int .i64 x.sentAt) ∧ w.cell? ⟨g, k * 5 + 4, none⟩ = some (.int .i64 x.left) := by
  have F := flat_get mailCells 5 mail_len l k
  obtain ⟨g, e0, h0⟩ := h (k * 5 + 0) (.int .i64 x.number) (by rw [F 0 x hx (by omega)]; rfl)
  obtain ⟨g1, e1, h1⟩ := h (k * 5 + 1) (.string x.topic) (by rw [F 1 x hx (by omega)]; rfl)
  obtain ⟨g2, e2, h2⟩ := h (k * 5 + 2) (.int .i64 x.value) (by rw [F 2 x hx (by omega)]; rfl)
  obtain ⟨g3, e3, h3⟩ := h (k * 5 + 3) (.int .i64 x.sentAt) (by rw [F 3 x hx (by omega)]; rfl)
  obtain ⟨g4, e4, h4⟩ := h (k * 5 + 4) (.int .i64 x.left) (by rw [F 4 x hx (by omega)]; rfl)
  rw [e0] at e1 e2 e3 e4
  simp only [Option.some.injEq, Addr.mk.injEq, and_true] at e1 e2 e3 e4
  subst e1 e2 e3 e4
  exact ⟨g, e0, World.block_lt_of_cell? _ _ h0, h0, h1, h2, h3, h4⟩

/-- What an owner writes over the n-th list. -/
def markM (n : Int) : ByteArray := ⟨#[33]⟩ ++ ⟨([n % 256, n / 256 % 256, n / 65536 % 256].map fun m => UInt8.ofNat m.toNat).toArray⟩

end Go.Proofs.Ytmjdndhfmfjbiab

namespace Go.Proofs.Ytmjdndhfmfjbiab
open Go.RowKit

/-- Lists that came out, each written over by its owner (so many stand there for each). -/
def MarkedT (w : World) (each : Int) (vs : List Value) : Prop := ∀ (k : Nat) u, vs[k]? = some u → ∃ ao n c, u = .slice ao n c ∧ n ≤ 1048576 ∧ CellsAt w ao (List.replicate n (.string (markM ((k : Int) / each))))
def markMail (n : Int) : MailD := ⟨-1 - n, ⟨#[]⟩, 0, -1 - n, 0⟩
def markWait (n : Int) : WaitD := ⟨-1 - n, ⟨#[]⟩, 0, 0, -1 - n⟩
def MarkedM (w : World) (each : Int) (vs : List Value) : Prop := ∀ (k : Nat) u, vs[k]? = some u → ∃ ao n c, u = .slice ao n c ∧ n ≤ 1048576 ∧ CellsAt w ao ((List.replicate n (markMail ((k : Int) / each))).flatMap mailCells)
def MarkedW (w : World) (each : Int) (vs : List Value) : Prop := ∀ (k : Nat) u, vs[k]? = some u → ∃ ao n c, u = .slice ao n c ∧ n ≤ 1048576 ∧ CellsAt w ao ((List.replicate n (markWait ((k : Int) / each))).flatMap waitCells)

theorem MarkedT.below {w w1 : World} {each : Int} {vs : List Value} (h : MarkedT w each vs) (hb : Below w.heap.size w w1) : MarkedT w1 each vs := fun k u hu => by
  obtain ⟨ao, n, c, e, hn, hc⟩ := h k u hu
  exact ⟨ao, n, c, e, hn, hc.below hb⟩
theorem MarkedM.below {w w1 : World} {each : Int} {vs : List Value} (h : MarkedM w each vs) (hb : Below w.heap.size w w1) : MarkedM w1 each vs := fun k u hu => by
  obtain ⟨ao, n, c, e, hn, hc⟩ := h k u hu
  exact ⟨ao, n, c, e, hn, hc.below hb⟩
theorem MarkedW.below {w w1 : World} {each : Int} {vs : List Value} (h : MarkedW w each vs) (hb : Below w.heap.size w w1) : MarkedW w1 each vs := fun k u hu => by
  obtain ⟨ao, n, c, e, hn, hc⟩ := h k u hu
  exact ⟨ao, n, c, e, hn, hc.below hb⟩

theorem repl_mail {n j : Nat} (x : MailD) (h : j < n) : (List.replicate n x)[j]? = some x := by simp [h]
theorem repl_wait {n j : Nat} (x : WaitD) (h : j < n) : (List.replicate n x)[j]? = some x := by simp [h]

end Go.Proofs.Ytmjdndhfmfjbiab

namespace Go.Proofs.Ytmjdndhfmfjbiab
open Go.RowKit

/-- What of a script is played. -/
structure AimD where
  send : Bool
  wait : Bool
  disk : Bool
  cut : Bool
  turn : Bool
abbrev aimV (A : AimD) : Value := .agg #[.bool A.send, .bool A.wait, .bool A.disk, .bool A.cut, .bool A.turn]

def playedB (A : AimD) (k c : Int) : Bool :=
  if k = 1 then true else if k = 2 then true else if k = 3 then (A.send && (A.wait || (c == 0))) else if k = 6 then A.send else if k = 7 then A.send else if k = 4 then A.wait else if k = 5 then A.wait
  else if k = 8 then A.cut else if k = 9 then A.turn else if k = 10 then true else false

/-- A game, as its lists lie. -/
structure GameV where
  hB : Nat
  wB : Nat
  endsV : Value
  disk : ByteArray
  textsV : Value
  mailsV : Value
  waitsV : Value
  ttV : Value
  mtV : Value
  wtV : Value

/-- The last place up to n of which it is known how long the disk was. -/
def knownTo (ends : List Int) : Nat → Nat
  | 0 => 0
  | n + 1 => match ends[n + 1]? with
    | some e => if e < 0 then knownTo ends n else n + 1
    | none => n + 1

theorem int_get {xs : List Int} {k : Nat} {x : Int} (h : xs[k]? = some x) : (xs.map (Value.int .i64))[k]? = some (.int .i64 x) := by simp [h]

end Go.Proofs.Ytmjdndhfmfjbiab
