import Derived.Test.YtmjdndhfmfjbiaaGreatM09
import Derived.WalkLawsBesides
namespace Go.Proofs.YtmjdndhfmfjbiaaGreat
open Go.RowKit

theorem find_some {α : Type} (p : α → Bool) : ∀ (l : List α) (i : Int), 0 ≤ i → 0 ≤ findM p l i → ∃ k a, findM p l i = i + (k : Nat) ∧ l[k]? = some a ∧ p a = true := by
  intro l
  induction l with
  | nil => intro i _ h; simp [findM] at h
  | cons b l ih =>
    intro i hi h
    unfold findM at h ⊢
    split
    · rename_i hp
      exact ⟨0, b, by simp, rfl, hp⟩
    · rename_i hp
      rw [if_neg hp] at h
      obtain ⟨k, a, e, h1, h2⟩ := ih (i + 1) (by omega) h
      exact ⟨k + 1, a, by rw [e]; omega, by simpa using h1, h2⟩

/-- The error of an operation, but for ErrFull. -/
def wrongM (S : RefS) (o : OpD) : Int :=
  if o.kind = 1 then (if knownB o.a = false then 2 else if M.isPathM true o.s = false then 4 else subErr (findM (fun f => f.toList == o.s.toList) (S.fil o.a.toNat) 0) (S.fil o.a.toNat).length)
  else if o.kind = 2 then (if knownB o.a = false then 2 else if M.isPathM true o.s = false then 4 else noneErr (findM (fun f => f.toList == o.s.toList) (S.fil o.a.toNat) 0))
  else if o.kind = 3 then pubErr (M.isPathM false o.s) o.b o.c o.d S.wait.length
  else if o.kind = 4 then noneErr (findM (fun m => m.number == o.b) S.wait 0)
  else if o.kind = 5 then moveErr (findM (fun m => m.number == o.b) S.wait 0) o.c
  else if o.kind = 6 then tickErr o.b
  else (if knownB o.a = false then 2 else noneErr (findM (fun m => m.number == o.b) (S.que o.a.toNat) 0))

theorem known_nat {a : Int} (h : knownB a = true) : ∃ n : Nat, a = (n : Int) ∧ n < 8 := by
  simp only [knownB, Bool.and_eq_true, decide_eq_true_eq] at h
  exact ⟨a.toNat, by omega, by omega⟩

/-- An operation as a value. -/
abbrev opV (o : OpD) : Value := .agg #[.int .i64 o.kind, .int .i64 o.a, .int .i64 o.b, .int .i64 o.c, .int .i64 o.d, .string o.s]

theorem refWrong (B : Nat) (x : RefV) (S : RefS) (o : OpD) (w : World) (hr : Rep w B x S) (hs : o.s.size ≤ 1048576) (hk : 1 ≤ o.kind ∧ o.kind ≤ 7) :
    Calls Tryz.prog 68 #[.pointer (some ⟨B, 0, none⟩), opV o] w fun e w' => e = .returned (.int .i64 (wrongM S o)) ∧ Below w.heap.size w w' := by
  obtain ⟨k, a, b, c, d, s⟩ := o
  simp only at hs hk ⊢
  rcases (show k = 1 ∨ k = 2 ∨ k = 3 ∨ k = 4 ∨ k = 5 ∨ k = 6 ∨ k = 7 from by omega) with rfl | rfl | rfl | rfl | rfl | rfl | rfl
  · cases hkn : knownB a
    · exact (refWrong1u B x S a b c d s w hr hs hkn).mono fun e w1 ⟨h1, h2⟩ => ⟨by rw [h1]; simp [wrongM, hkn], h2⟩
    · obtain ⟨n, rfl, hn⟩ := known_nat hkn
      cases hp : M.isPathM true s
      · exact (refWrong1f B x S n b c d s w hr hs (by omega) (by omega) hp).mono fun e w1 ⟨h1, h2⟩ => ⟨by rw [h1]; simp [wrongM, hkn, hp], h2⟩
      · exact (refWrong1p B x S n b c d s w hr hs hn hp).mono fun e w1 ⟨h1, h2⟩ => ⟨by rw [h1]; simp [wrongM, hkn, hp], h2⟩
  · cases hkn : knownB a
    · exact (refWrong2u B x S a b c d s w hr hs hkn).mono fun e w1 ⟨h1, h2⟩ => ⟨by rw [h1]; simp [wrongM, hkn], h2⟩
    · obtain ⟨n, rfl, hn⟩ := known_nat hkn
      cases hp : M.isPathM true s
      · exact (refWrong2f B x S n b c d s w hr hs (by omega) (by omega) hp).mono fun e w1 ⟨h1, h2⟩ => ⟨by rw [h1]; simp [wrongM, hkn, hp], h2⟩
      · exact (refWrong2p B x S n b c d s w hr hs hn hp).mono fun e w1 ⟨h1, h2⟩ => ⟨by rw [h1]; simp [wrongM, hkn, hp], h2⟩
  · exact (refWrong3 B x S a b c d s w hr hs).mono fun e w1 ⟨h1, h2⟩ => ⟨by rw [h1]; simp [wrongM], h2⟩
  · exact (refWrong4 B x S a b c d s w hr hs).mono fun e w1 ⟨h1, h2⟩ => ⟨by rw [h1]; simp [wrongM], h2⟩
  · exact (refWrong5 B x S a b c d s w hr hs).mono fun e w1 ⟨h1, h2⟩ => ⟨by rw [h1]; simp [wrongM], h2⟩
  · exact (refWrong6 B x S a b c d s w hr hs).mono fun e w1 ⟨h1, h2⟩ => ⟨by rw [h1]; simp [wrongM], h2⟩
  · cases hkn : knownB a
    · exact (refWrong7u B x S a b c d s w hr hs hkn).mono fun e w1 ⟨h1, h2⟩ => ⟨by rw [h1]; simp [wrongM, hkn], h2⟩
    · obtain ⟨n, rfl, hn⟩ := known_nat hkn
      exact (refWrong7p B x S n b c d s w hr hs hn).mono fun e w1 ⟨h1, h2⟩ => ⟨by rw [h1]; simp [wrongM, hkn], h2⟩

def moveL (l : List WaitD) (b dl : Int) : List WaitD := match l[(findM (fun m : WaitD => m.number == b) l 0).toNat]? with
  | some y => l.set (findM (fun m : WaitD => m.number == b) l 0).toNat { y with deadline := dl }
  | none => l

/-- What an operation that is done brings about. -/
def turnM (S : RefS) (o : OpD) : RefS :=
  if o.kind = 1 then { S with fil := setAt S.fil o.a.toNat (S.fil o.a.toNat ++ [o.s]) }
  else if o.kind = 2 then { S with fil := setAt S.fil o.a.toNat ((S.fil o.a.toNat).filter (fun f => !(f.toList == o.s.toList))) }
  else if o.kind = 3 then (if o.c = 0 then sendTo { S with pub := S.pub + 1 } ⟨S.pub, o.s, o.b, 0, o.d⟩ 8 else { S with pub := S.pub + 1, wait := S.wait ++ [⟨S.pub, o.s, o.b, laterM S.time o.c, o.d⟩] })
  else if o.kind = 4 then { S with wait := S.wait.filter (fun m => m.number != o.b) }
  else if o.kind = 5 then { S with wait := moveL S.wait o.b (laterM S.time o.c) }
  else if o.kind = 6 then tickM S o.b
  else { S with que := setAt S.que o.a.toNat ((S.que o.a.toNat).filter (fun m => m.number != o.b)) }

/-- What a word that is no error says of an operation. -/
theorem sub_ok {fi : Int} {n : Nat} (h : subErr fi n = 0) : fi < 0 ∧ n < 6 := by
  unfold subErr at h
  split at h
  · omega
  · split at h <;> omega
theorem none_ok {fi : Int} (h : noneErr fi = 0) : 0 ≤ fi := by
  unfold noneErr at h
  split at h <;> omega
theorem time_ok {t : Int} (h : isTimeM t = true) : 0 ≤ t ∧ t ≤ 1099511627776 := by simpa [isTimeM] using h
theorem pub_ok {p : Bool} {b c d : Int} {n : Nat} (h : pubErr p b c d n = 0) : p = true ∧ 0 ≤ b ∧ b ≤ 1073741824 ∧ (0 ≤ c ∧ c ≤ 1099511627776) ∧ (0 ≤ d ∧ d ≤ 1099511627776) ∧ (0 < c → n < 64) := by
  unfold pubErr at h
  split at h
  · omega
  split at h
  · omega
  split at h
  · omega
  split at h
  · omega
  split at h
  · omega
  rename_i h1 h2 h3 h4 h5
  have t4 := time_ok (t := c) (by simpa using h4)
  have t5 := time_ok (t := d) (by simpa using h5)
  refine ⟨by simpa using h1, by omega, by omega, t4, t5, fun hc => ?_⟩
  rw [if_pos hc] at h
  split at h <;> omega
theorem move_ok {fi c : Int} (h : moveErr fi c = 0) : 0 ≤ fi ∧ 1 ≤ c ∧ c ≤ 1099511627776 := by
  unfold moveErr at h
  split at h
  · omega
  · split at h
    · omega
    · split at h <;> omega
theorem tick_ok {b : Int} (h : tickErr b = 0) : 0 ≤ b ∧ b ≤ 1099511627776 := by
  unfold tickErr at h
  split at h
  · omega
  · rename_i h1
    exact time_ok (by simpa using h1)
theorem path15 {wild : Bool} {s : ByteArray} (h : M.isPathM wild s = true) : s.size ≤ 15 := by
  simp [M.isPathM] at h
  exact h.1.1

theorem later_ok {t c : Int} (ht : 0 ≤ t) (hc : 0 ≤ c) : 0 ≤ laterM t c ∧ laterM t c ≤ 1099511627776 := by
  unfold laterM
  split <;> omega

/-- The invariant with one operation more on the list. -/
theorem Inv.done1 {S : RefS} (h : Inv S) (o : OpD) (hd : S.done.length < 500) : Inv { S with done := S.done ++ [o] } ∧ S.pub + 1 ≤ ((S.done ++ [o]).length : Int) := by
  have hp := h.pub
  refine ⟨⟨h.time0, h.time1, h.fil, h.que, h.wait, h.lost, ?_, ?_⟩, ?_⟩
  · show S.pub ≤ ((S.done ++ [o]).length : Int)
    simp; omega
  · show (S.done ++ [o]).length ≤ 500
    simp; omega
  · simp; omega

theorem refTurn (B : Nat) (x : RefV) (S : RefS) (o : OpD) (w : World) (hr : Rep w B x S) (hin : Inv S) (hp : S.pub + 1 ≤ (S.done.length : Int)) (hk : 1 ≤ o.kind ∧ o.kind ≤ 7) (hw : wrongM S o = 0) :
    Calls Tryz.prog 70 #[.pointer (some ⟨B, 0, none⟩), opV o] w fun e w' => e = .returned (.tuple #[]) ∧ RefStep w B x w' (turnM S o) := by
  obtain ⟨k, a, b, c, d, s⟩ := o
  simp only at hk ⊢
  have hp0 : 0 ≤ S.pub := by have := hin.lost 0 (by omega); omega
  have hp1 : S.pub ≤ 1000 := by have := hin.done; omega
  have hwl := hin.wait.1
  rcases (show k = 1 ∨ k = 2 ∨ k = 3 ∨ k = 4 ∨ k = 5 ∨ k = 6 ∨ k = 7 from by omega) with rfl | rfl | rfl | rfl | rfl | rfl | rfl
  · simp only [wrongM, if_true] at hw
    cases hkn : knownB a
    · rw [hkn] at hw; simp at hw
    · obtain ⟨n, rfl, hn⟩ := known_nat hkn
      have := (hin.fil n hn).1
      exact (refTurn1 B x S n b c d s w hr hn (by omega)).mono fun e w1 ⟨h1, h2⟩ => ⟨h1, by simpa [turnM] using h2⟩
  · simp only [wrongM] at hw
    cases hkn : knownB a
    · rw [hkn] at hw; simp at hw
    · obtain ⟨n, rfl, hn⟩ := known_nat hkn
      have := (hin.fil n hn).1
      exact (refTurn2 B x S n b c d s w hr hn (by omega)).mono fun e w1 ⟨h1, h2⟩ => ⟨h1, by simpa [turnM] using h2⟩
  · obtain ⟨q1, q2, q3, q4, q5, q6⟩ := pub_ok (by simpa [wrongM] using hw)
    by_cases hc : c = 0
    · subst hc
      exact (refTurn3a B x S a b d s w hr hp0 hp1 ⟨hin.time0, hin.time1, hin.fil, hin.que, hin.wait, fun n hn => ⟨(hin.lost n hn).1, by have := (hin.lost n hn).2; show S.lost n + (S.wait.length : Int) + 1 ≤ S.pub + 1; omega⟩, hp, hin.done⟩ (path15 q1)).mono fun e w1 ⟨h1, h2⟩ => ⟨h1, by simpa [turnM] using h2⟩
    · exact (refTurn3b B x S a b c d s w hr hp0 hp1 hin.time0 hin.time1 (by omega) q4.2 (by omega)).mono fun e w1 ⟨h1, h2⟩ => ⟨h1, by simpa [turnM, hc] using h2⟩
  · exact (refTurn4 B x S a b c d s w hr (by omega)).mono fun e w1 ⟨h1, h2⟩ => ⟨h1, by simpa [turnM] using h2⟩
  · obtain ⟨q1, q2, q3⟩ := move_ok (by simpa [wrongM] using hw)
    obtain ⟨j, y, e, hy, -⟩ := find_some _ S.wait 0 (by omega) q1
    rw [Int.zero_add] at e
    exact (refTurn5 B x S a b c d s w hr hin.time0 hin.time1 q2 q3 j y hy e).mono fun e1 w1 ⟨h1, h2⟩ => ⟨h1, by simpa [turnM, moveL, e, hy] using h2⟩
  · obtain ⟨q1, q2⟩ := tick_ok (by simpa [wrongM] using hw)
    exact (refTurn6 B x S a b c d s w hr hin q1 q2).mono fun e w1 ⟨h1, h2⟩ => ⟨h1, by simpa [turnM] using h2⟩
  · simp only [wrongM] at hw
    cases hkn : knownB a
    · rw [hkn] at hw; simp at hw
    · obtain ⟨n, rfl, hn⟩ := known_nat hkn
      have := (hin.que n hn).1
      exact (refTurn7 B x S n b c d s w hr hn (by omega)).mono fun e w1 ⟨h1, h2⟩ => ⟨h1, by simpa [turnM] using h2⟩
end Go.Proofs.YtmjdndhfmfjbiaaGreat

namespace Go.Proofs.YtmjdndhfmfjbiaaGreat
open Go.RowKit
attribute [local go_sem ↓] Go.wp_at_zero Go.wp_at_succ appSem_eq

theorem deliver_inv (to : Int) : ∀ (n : Nat) (T : RefS), Inv T → Inv (deliverN to n T) := by
  intro n
  induction n with
  | zero => intro T h; exact h
  | succ n ih =>
    intro T h
    unfold deliverN
    split
    · exact h
    · split
      · exact h
      · rename_i x hx
        split
        · exact h
        · exact ih _ (h.deliver1 (List.mem_of_getElem? hx))

theorem setAt_inv {α : Type} {f : Nat → α} {n : Nat} {v : α} {p : α → Prop} (hf : ∀ a, a < 8 → p (f a)) (hv : p v) : ∀ a, a < 8 → p (setAt f n v a) := by
  intro a ha
  simp only [setAt]
  split
  · exact hv
  · exact hf a ha

theorem Inv.pub1 {S : RefS} (h : Inv S) (hp : S.pub + 1 ≤ (S.done.length : Int)) : Inv1 { S with pub := S.pub + 1 } := by
  refine ⟨h.time0, h.time1, h.fil, h.que, h.wait, fun n hn => ⟨(h.lost n hn).1, ?_⟩, hp, h.done⟩
  have := (h.lost n hn).2
  show S.lost n + (S.wait.length : Int) + 1 ≤ S.pub + 1
  omega

set_option maxHeartbeats 1000000 in
theorem Inv.turn {S : RefS} {o : OpD} (h : Inv S) (hp : S.pub + 1 ≤ (S.done.length : Int)) (hk : 1 ≤ o.kind ∧ o.kind ≤ 7) (hw : wrongM S o = 0) : Inv (turnM S o) := by
  obtain ⟨k, a, b, c, d, s⟩ := o
  simp only at hk
  rcases (show k = 1 ∨ k = 2 ∨ k = 3 ∨ k = 4 ∨ k = 5 ∨ k = 6 ∨ k = 7 from by omega) with rfl | rfl | rfl | rfl | rfl | rfl | rfl
  · simp only [wrongM, if_true] at hw
    cases hkn : knownB a
    · rw [hkn] at hw; simp at hw
    · obtain ⟨n, rfl, hn⟩ := known_nat hkn
      rw [hkn] at hw
      cases hpth : M.isPathM true s
      · rw [hpth] at hw; simp at hw
      · rw [hpth] at hw
        simp only [Bool.true_eq_false, if_false, Int.toNat_natCast] at hw
        have hsub := sub_ok hw
        refine ⟨h.time0, h.time1, ?_, h.que, h.wait, h.lost, h.pub, h.done⟩
        exact setAt_inv (p := fun l : List ByteArray => l.length ≤ 6 ∧ ∀ f ∈ l, f.size ≤ 15) h.fil ⟨by simp; omega, fun f hf => by
          simp only [Int.toNat_natCast, List.mem_append, List.mem_singleton] at hf
          rcases hf with hf | rfl
          · exact (h.fil n hn).2 f hf
          · exact path15 hpth⟩
  · simp only [wrongM] at hw
    cases hkn : knownB a
    · rw [hkn] at hw; simp at hw
    · obtain ⟨n, rfl, hn⟩ := known_nat hkn
      refine ⟨h.time0, h.time1, ?_, h.que, h.wait, h.lost, h.pub, h.done⟩
      exact setAt_inv (p := fun l : List ByteArray => l.length ≤ 6 ∧ ∀ f ∈ l, f.size ≤ 15) h.fil ⟨by
        have := (h.fil n hn).1
        simp only [Int.toNat_natCast]
        exact Nat.le_trans (List.length_filter_le _ _) this, fun f hf => by
          simp only [Int.toNat_natCast] at hf
          exact (h.fil n hn).2 f (List.mem_filter.1 hf).1⟩
  · obtain ⟨q1, q2, q3, q4, q5, q6⟩ := pub_ok (by simpa [wrongM] using hw)
    have e3 : turnM S ⟨3, a, b, c, d, s⟩ = if c = 0 then sendTo { S with pub := S.pub + 1 } ⟨S.pub, s, b, 0, d⟩ 8 else { S with pub := S.pub + 1, wait := S.wait ++ [⟨S.pub, s, b, laterM S.time c, d⟩] } := by simp [turnM]
    rw [e3]
    split
    · exact (h.pub1 hp).send _ q5
    · have hl := q6 (by omega)
      refine ⟨h.time0, h.time1, h.fil, h.que, ⟨?_, fun m hm => ?_⟩, fun n hn => ⟨(h.lost n hn).1, ?_⟩, hp, h.done⟩
      · show (S.wait ++ [_]).length ≤ 64
        simp; omega
      · have hm : m ∈ S.wait ++ [⟨S.pub, s, b, laterM S.time c, d⟩] := hm
        simp only [List.mem_append, List.mem_singleton] at hm
        rcases hm with hm | rfl
        · exact h.wait.2 m hm
        · have := later_ok h.time0 q4.1
          exact ⟨path15 q1, q5.1, q5.2, this.1, this.2⟩
      · have := (h.lost n hn).2
        show S.lost n + ((S.wait ++ [_]).length : Int) ≤ S.pub + 1
        simp; omega
  · have e4 : turnM S ⟨4, a, b, c, d, s⟩ = { S with wait := S.wait.filter (fun m => m.number != b) } := by simp [turnM]
    rw [e4]
    have hl := List.length_filter_le (fun m : WaitD => m.number != b) S.wait
    refine ⟨h.time0, h.time1, h.fil, h.que, ⟨Nat.le_trans hl h.wait.1, fun m hm => h.wait.2 m (List.mem_filter.1 hm).1⟩, fun n hn => ⟨(h.lost n hn).1, ?_⟩, h.pub, h.done⟩
    have := (h.lost n hn).2
    show S.lost n + ((S.wait.filter (fun m => m.number != b)).length : Int) ≤ S.pub
    omega
  · obtain ⟨q1, q2, q3⟩ := move_ok (by simpa [wrongM] using hw)
    obtain ⟨j, y, e, hy, -⟩ := find_some _ S.wait 0 (by omega) q1
    rw [Int.zero_add] at e
    have e5 : turnM S ⟨5, a, b, c, d, s⟩ = { S with wait := S.wait.set j { y with deadline := laterM S.time c } } := by simp [turnM, moveL, e, hy]
    rw [e5]
    refine ⟨h.time0, h.time1, h.fil, h.que, ⟨by show (S.wait.set j _).length ≤ 64; rw [List.length_set]; exact h.wait.1, fun m hm => ?_⟩, fun n hn => ⟨(h.lost n hn).1, by show S.lost n + ((S.wait.set j _).length : Int) ≤ S.pub; rw [List.length_set]; exact (h.lost n hn).2⟩, h.pub, h.done⟩
    have hm : m ∈ S.wait.set j { y with deadline := laterM S.time c } := hm
    rcases List.mem_or_eq_of_mem_set hm with hm | rfl
    · exact h.wait.2 m hm
    · have hyw := h.wait.2 y (List.mem_of_getElem? hy)
      have := later_ok (t := S.time) (c := c) h.time0 (by omega)
      exact ⟨hyw.1, hyw.2.1, hyw.2.2.1, this.1, this.2⟩
  · obtain ⟨q1, q2⟩ := tick_ok (by simpa [wrongM] using hw)
    have e6 : turnM S ⟨6, a, b, c, d, s⟩ = tickM S b := by simp [turnM]
    rw [e6]
    exact deliver_inv b _ _ (h.aged q1 q2 8)
  · simp only [wrongM] at hw
    cases hkn : knownB a
    · rw [hkn] at hw; simp at hw
    · obtain ⟨n, rfl, hn⟩ := known_nat hkn
      refine ⟨h.time0, h.time1, h.fil, ?_, h.wait, h.lost, h.pub, h.done⟩
      exact setAt_inv (p := fun l : List SentD => l.length ≤ 10 ∧ ∀ m ∈ l, 0 ≤ m.sentAt ∧ m.sentAt ≤ 1099511627776 ∧ 0 ≤ m.life ∧ m.life ≤ 1099511627776) h.que ⟨by
        have := (h.que n hn).1
        simp only [Int.toNat_natCast]
        exact Nat.le_trans (List.length_filter_le _ _) this, fun f hf => by
          simp only [Int.toNat_natCast] at hf
          exact (h.que n hn).2 f (List.mem_filter.1 hf).1⟩

/-- Does the operation, if it is done, write a record? -/
def writesB (S : RefS) (o : OpD) : Bool := (o.kind != 6) || decide (S.time < o.b)

set_option maxRecDepth 100000 in
set_option maxHeartbeats 1000000 in
theorem refWrites (B : Nat) (x : RefV) (S : RefS) (o : OpD) (w : World) (hr : Rep w B x S) :
    Calls Tryz.prog 69 #[.pointer (some ⟨B, 0, none⟩), opV o] w fun e w' => e = .returned (.bool (writesB S o)) ∧ Below w.heap.size w w' := by
  have ct := hr.cells.time
  have hBl := hr.cells.lt
  clear hr
  cases hk : (o.kind != 6)
  · by_cases ht : S.time < o.b
    · go_enter Tryz.func69, Tryz.ntmps69
      go_wp2_with fail
      go_quiet (fail)
      go_wp2_with fail
      go_ret
      exact ⟨ret_bool' (by simp [writesB, ht]), below_drewN (below_one _ _)⟩
    · have ht' : decide (S.time < o.b) = false := by simpa using ht
      go_enter Tryz.func69, Tryz.ntmps69
      go_wp2_with fail
      go_quiet (fail)
      go_wp2_with fail
      go_ret
      exact ⟨ret_bool' (by simp only [writesB, hk, ht']; rfl), below_drewN (below_one _ _)⟩
  · go_enter Tryz.func69, Tryz.ntmps69
    go_wp2_with fail
    go_quiet (fail)
    go_wp2_with fail
    go_ret
    exact ⟨ret_bool' (by simp only [writesB, hk]; rfl), below_drewN (below_one _ _)⟩
end Go.Proofs.YtmjdndhfmfjbiaaGreat

namespace Go.Proofs.YtmjdndhfmfjbiaaGreat
open Go.RowKit
attribute [local go_sem ↓] Go.wp_at_zero Go.wp_at_succ appSem_eq

/-- Is the operation done? -/
def doneB (S : RefS) (o : OpD) : Bool := (wrongM S o == 0) && writesB S o && decide ((S.done.length : Int) < S.room)
def doErr (S : RefS) (o : OpD) : Int := if wrongM S o = 0 then (if writesB S o = true then (if (S.done.length : Int) < S.room then 0 else 9) else 0) else wrongM S o
def doAns (S : RefS) (o : OpD) : Int := if doneB S o = true then (if o.kind = 3 then S.pub else 0) else 0
def doS (S : RefS) (o : OpD) : RefS := if doneB S o = true then turnM { S with done := S.done ++ [o] } o else S

theorem opv6 {w w1 : World} {o : OpD} (hb : Below (w.alloc (Obj.cells #[.int .i64 o.kind, .int .i64 o.a, .int .i64 o.b, .int .i64 o.c, .int .i64 o.d, .string o.s] 86)).heap.size (w.alloc (Obj.cells #[.int .i64 o.kind, .int .i64 o.a, .int .i64 o.b, .int .i64 o.c, .int .i64 o.d, .string o.s] 86)) w1) :
    w1.cell? ⟨w.heap.size, 0, none⟩ = some (.int .i64 o.kind) ∧ w1.cell? ⟨w.heap.size, 1, none⟩ = some (.int .i64 o.a) ∧ w1.cell? ⟨w.heap.size, 2, none⟩ = some (.int .i64 o.b) ∧
      w1.cell? ⟨w.heap.size, 3, none⟩ = some (.int .i64 o.c) ∧ w1.cell? ⟨w.heap.size, 4, none⟩ = some (.int .i64 o.d) ∧ w1.cell? ⟨w.heap.size, 5, none⟩ = some (.string o.s) := cells6 hb

set_option maxRecDepth 100000 in
set_option maxHeartbeats 4000000 in
theorem refDo (B : Nat) (x : RefV) (S : RefS) (o : OpD) (w : World) (hr : Rep w B x S) (hin : Inv S) (hroom : S.room ≤ 500) (hs : o.s.size ≤ 1048576) (hk : 1 ≤ o.kind ∧ o.kind ≤ 7) :
    Calls Tryz.prog 51 #[.pointer (some ⟨B, 0, none⟩), opV o] w fun e w' => e = .returned (.tuple #[.int .i64 (doAns S o), .int .i64 (doErr S o)]) ∧ RefStep w B x w' (doS S o) := by
  have HR : Hid (Rep w B x S) := hr
  have HI : Hid (Inv S) := hin
  clear hr hin
  by_cases hw : wrongM S o = 0
  · have HW : Hid (wrongM S o = 0) := hw
    clear hw
    go_enter Tryz.func51, Tryz.ntmps51
    go_wp2_with fail
    refine (refWrong B x S o _ (HR.out.below (below_one _ _)) hs hk).mono ?_
    rintro e w1 ⟨rfl, hb1⟩
    rw [HW.out]
    obtain ⟨j0, j1, j2, j3, j4, j5⟩ := opv6 hb1
    have bw1 : Below w.heap.size w w1 := (below_one w _).trans (hb1.mono (by simp))
    go_wp2_with fail
    refine (refWrites B x S o _ (HR.out.below bw1)).mono ?_
    rintro e w2 ⟨rfl, hb2⟩
    have k0 := cell_later hb2 j0
    have k1 := cell_later hb2 j1
    have k2 := cell_later hb2 j2
    have k3 := cell_later hb2 j3
    have k4 := cell_later hb2 j4
    have k5 := cell_later hb2 j5
    have bw2 : Below w.heap.size w w2 := bw1.trans (hb2.mono bw1.size)
    clear j0 j1 j2 j3 j4 j5 hb1 hb2 bw1
    cases hwr : writesB S o
    · have HE : Hid (doAns S o = 0 ∧ doErr S o = 0 ∧ doS S o = S) := by
        have hd : doneB S o = false := by simp [doneB, hwr]
        simp [Hid, doAns, doErr, doS, hd, HW.out, hwr]
      go_wp2_with fail
      go_ret2
      exact ⟨by rw [HE.out.1, HE.out.2.1]; rfl, by rw [HE.out.2.2]; exact (RefStep.refl HR.out).below bw2⟩
    · have r2 := HR.out.below bw2
      obtain ⟨ad, cd, hvd, q1, q2, -⟩ := r2.done.form
      have cdn := r2.cells.done
      rw [hvd] at cdn
      have crm := r2.cells.room
      unfold maxLen at q2
      have hBl := r2.cells.lt
      by_cases hfull : (S.done.length : Int) < S.room
      · go_wp2_with fail
        go_quiet (fail)
        go_wp2_with fail
        generalize hw3 : w2.drewN nq = w3
        have hb3 := drewN_letter hw3
        have bw3 : Below w.heap.size w w3 := bw2.trans (hb3.mono bw2.size)
        have r3 := r2.below hb3
        have hxl : w.heap.size < w3.heap.size := Nat.lt_of_lt_of_le (World.block_lt_of_cell? _ _ k0) hb3.size
        have m0 := cell_later hb3 k0
        have m1 := cell_later hb3 k1
        have m2 := cell_later hb3 k2
        have m3 := cell_later hb3 k3
        have m4 := cell_later hb3 k4
        have m5 := cell_later hb3 k5
        have mdn := cell_later hb3 cdn
        have hdl := HI.out.done
        have hB3 : B < w3.heap.size := r3.cells.lt
        have hqB : x.doneV.ownBlock ≠ some B := fun e => r3.apart.1 B e rfl
        have hqx : x.doneV.ownBlock ≠ some w.heap.size := fun e => Nat.lt_irrefl _ (HR.out.done.lt e)
        obtain ⟨a1, c1, w4, hrun, hO1, hU1, hF1⟩ := app_one 60 86 _ 6 56 Tryz.underlying60 infoOp rfl (by omega) _ _ _ _ (opCells o) r3.done rfl (op_one _) (by omega) (by omega)
        have n1 : w4.cell? ⟨B, 1, none⟩ = some x.doneV := hU1.cell r3.cells.done hqB
        have n3 : w4.cell? ⟨B, 3, none⟩ = some (.int .i64 S.pub) := hU1.cell r3.cells.pub hqB
        have nf : w4.frozen? ⟨B, 1, none⟩ = false := (hU1.frozen (p := ⟨B, 1, none⟩) r3.cells.lt hqB).trans (r3.cells.free _)
        have p0 := hU1.cell m0 hqx
        have p1 := hU1.cell m1 hqx
        have p2 := hU1.cell m2 hqx
        have p3 := hU1.cell m3 hqx
        have p4 := hU1.cell m4 hqx
        have p5 := hU1.cell m5 hqx
        obtain ⟨x1, r5, u5, f5⟩ := r3.setDone (l := S.done ++ [o]) hU1 (by simpa using hO1) hF1
        have hBx : B ≠ w.heap.size := fun e => by have := HR.out.cells.lt; omega
        have hbx : ¬ RefFP B x1 w.heap.size := fun hk => by
          rcases f5 _ hk with h | h
          · have := HR.out.lt h; omega
          · omega
        have HTH : Hid (∀ w2 S2, RefStep (w4.setCell ⟨B, 1, none⟩ (.slice a1 (S.done.length + 1) c1)) B x1 w2 S2 → RefStep w B x w2 S2) := fun w2 S2 h => RefStep.then (Upd.of_below bw3) (fun _ hk => .inl hk) (RefStep.then u5 f5 h)
        have R5 : Hid (Rep (w4.setCell ⟨B, 1, none⟩ (.slice a1 (S.done.length + 1) c1)) B x1 { S with done := S.done ++ [o] }) := r5
        rw [hvd] at n1 hrun
        simp only [opCells] at hrun
        clear hO1 hU1 hF1 r3 r2 u5 f5 r5 hw3 hb3 bw2 k0 k1 k2 k3 k4 k5 cdn hqB hqx hvd crm
        have HD : Hid (doAns S o = (if o.kind = 3 then S.pub else 0) ∧ doErr S o = 0 ∧ doS S o = turnM { S with done := S.done ++ [o] } o) := by
          have hd : doneB S o = true := by simp [doneB, HW.out, hwr, hfull]
          simp [Hid, doAns, doErr, doS, hd, HW.out, hwr, hfull]
        obtain ⟨hi1, hp1⟩ := HI.out.done1 o (by omega)
        go_region
        all_goals go_wp2_with fail
        refine (refTurn B x1 { S with done := S.done ++ [o] } o _ R5.out hi1 hp1 hk HW.out).mono ?_
        rintro e w6 ⟨rfl, x6, r6, u6, f6⟩
        have hk6 : w6.cell? ⟨w.heap.size, 0, none⟩ = some (.int .i64 o.kind) := u6.cell ((World.cell?_setCell_other _ _ _ _ (by intro e; exact hBx (congrArg Addr.block e))).trans p0) hbx
        have HS6 : Hid (RefStep w B x w6 (turnM { S with done := S.done ++ [o] } o)) := HTH.out _ _ ⟨x6, r6, u6, f6⟩
        clear r6 u6 f6 hrun n1 n3 nf p0 p1 p2 p3 p4 p5 m0 m1 m2 m3 m4 m5 mdn
        cases hk3 : (o.kind == 3)
        all_goals
          go_wp2_with fail
          go_ret2
        · exact ⟨by rw [HD.out.1, HD.out.2.1, if_neg (by simpa using hk3)]; rfl, by rw [HD.out.2.2]; exact HS6.out⟩
        · exact ⟨by rw [HD.out.1, HD.out.2.1, if_pos (by simpa using hk3)]; rfl, by rw [HD.out.2.2]; exact HS6.out⟩
      · have HE : Hid (doAns S o = 0 ∧ doErr S o = 9 ∧ doS S o = S) := by
          have hd : doneB S o = false := by simp [doneB, hfull]
          simp [Hid, doAns, doErr, doS, hd, HW.out, hwr, hfull]
        clear r2
        go_wp2_with fail
        go_quiet (fail)
        go_wp2_with fail
        go_ret2
        exact ⟨by rw [HE.out.1, HE.out.2.1]; rfl, by rw [HE.out.2.2]; exact (RefStep.refl HR.out).below (below_drewN bw2)⟩
  · have HE : Hid (doAns S o = 0 ∧ doErr S o = wrongM S o ∧ doS S o = S) := by
      have hd : doneB S o = false := by simp [doneB, hw]
      simp [Hid, doAns, doErr, doS, hd, hw]
    have hne : (wrongM S o != 0) = true := by simpa using hw
    clear hw
    go_enter Tryz.func51, Tryz.ntmps51
    go_wp2_with fail
    refine (refWrong B x S o _ (HR.out.below (below_one _ _)) hs hk).mono ?_
    rintro e w1 ⟨rfl, hb1⟩
    have bw1 : Below w.heap.size w w1 := (below_one w _).trans (hb1.mono (by simp))
    go_wp2_with fail
    go_ret2
    exact ⟨by rw [HE.out.1, HE.out.2.1]; rfl, by rw [HE.out.2.2]; exact (RefStep.refl HR.out).below bw1⟩
end Go.Proofs.YtmjdndhfmfjbiaaGreat

namespace Go.Proofs.YtmjdndhfmfjbiaaGreat
open Go.RowKit
attribute [local go_sem ↓] Go.wp_at_zero Go.wp_at_succ appSem_eq

theorem refTime (B : Nat) (x : RefV) (S : RefS) (w : World) (hr : Rep w B x S) :
    Calls Tryz.prog 23 #[.pointer (some ⟨B, 0, none⟩)] w fun e w' => e = .returned (.int .i64 S.time) ∧ w' = w := by
  have ct := hr.cells.time
  clear hr
  go_enter Tryz.func23, Tryz.ntmps23
  go_wp2
  go_ret
  exact ⟨rfl, rfl⟩

def lostM (S : RefS) (k : Int) : Int := if knownB k = true then S.lost k.toNat else 0

theorem refLost (B : Nat) (x : RefV) (S : RefS) (k : Int) (w : World) (hr : Rep w B x S) :
    Calls Tryz.prog 41 #[.pointer (some ⟨B, 0, none⟩), .int .i64 k] w fun e w' => e = .returned (.int .i64 (lostM S k)) ∧ w' = w := by
  by_cases h0 : k < 0
  · have HE : Hid (lostM S k = 0) := by
      have : knownB k = false := by simp [knownB]; omega
      simp [Hid, lostM, this]
    clear hr
    go_enter Tryz.func41, Tryz.ntmps41
    go_wp2
    go_ret
    exact ⟨ret_int HE.out.symm, rfl⟩
  · by_cases h8 : 8 ≤ k
    · have HE : Hid (lostM S k = 0) := by
        have : knownB k = false := by simp [knownB]; omega
        simp [Hid, lostM, this]
      clear hr
      go_enter Tryz.func41, Tryz.ntmps41
      go_wp2
      go_ret
      exact ⟨ret_int HE.out.symm, rfl⟩
    · obtain ⟨n, rfl⟩ : ∃ n : Nat, k = (n : Int) := ⟨k.toNat, by omega⟩
      have hn : n < 8 := by omega
      have HE : Hid (lostM S n = S.lost n) := by
        have : knownB (n : Int) = true := by simp [knownB]; omega
        simp [Hid, lostM, this]
      have cl := hr.cells.lost n hn
      clear hr
      go_enter Tryz.func41, Tryz.ntmps41
      go_wp2
      go_ret
      exact ⟨ret_int HE.out.symm, rfl⟩

/-- A world in which nothing has been done. -/
def refNew (room : Int) : RefS := ⟨room, [], 0, 0, fun _ => [], fun _ => [], fun _ => 0, []⟩
def nilV : Value := .slice none 0 0
def refNewV : RefV := ⟨nilV, fun _ => nilV, fun _ => nilV, nilV⟩

theorem Row.nil (w : World) (e : TypeId) (size : Nat) : Row w e size nilV 0 [] := World.ownsRow_nil w 0 e size

theorem refFP_new {B k : Nat} (h : RefFP B refNewV k) : k = B := by
  rcases h with h | h | h | ⟨a, -, h | h⟩
  · exact h
  all_goals simp [refNewV, nilV, Value.ownBlock] at h

/-- The cells of a new world. -/
def newCells (room : Int) : List Value := [.int .i64 room, nilV, .int .i64 0, .int .i64 0, nilV, nilV, .int .i64 0, nilV, nilV, .int .i64 0, nilV, nilV, .int .i64 0, nilV, nilV, .int .i64 0, nilV, nilV, .int .i64 0, nilV, nilV, .int .i64 0, nilV, nilV, .int .i64 0, nilV, nilV, .int .i64 0, nilV]

theorem rep_new (w : World) (room : Int) : Rep (w.alloc (.cells (newCells room).toArray 66)) w.heap.size refNewV (refNew room) := by
  have hh := heap_alloc_new w (.cells (newCells room).toArray 66)
  have key : ∀ j, (w.alloc (.cells (newCells room).toArray 66)).cell? ⟨w.heap.size, j, none⟩ = (newCells room)[j]? := fun j => by
    rw [cell_of_row _ w.heap.size j _ _ (0, 0) hh]; simp
  have fam : ∀ a, a < 8 → (newCells room)[4 + a * 3]? = some nilV ∧ (newCells room)[4 + a * 3 + 1]? = some nilV ∧ (newCells room)[4 + a * 3 + 2]? = some (.int .i64 0) := by
    intro a ha
    rcases (show a = 0 ∨ a = 1 ∨ a = 2 ∨ a = 3 ∨ a = 4 ∨ a = 5 ∨ a = 6 ∨ a = 7 from by omega) with rfl | rfl | rfl | rfl | rfl | rfl | rfl | rfl <;> exact ⟨rfl, rfl, rfl⟩
  refine ⟨⟨⟨_, hh⟩, (key 0).trans rfl, (key 1).trans rfl, (key 2).trans rfl, (key 3).trans rfl, fun a ha => (key _).trans (fam a ha).1, fun a ha => (key _).trans (fam a ha).2.1, fun a ha => (key _).trans (fam a ha).2.2, (key 28).trans rfl⟩,
    Row.nil _ _ _, fun _ _ => Row.nil _ _ _, fun _ _ => Row.nil _ _ _, Row.nil _ _ _, fun a b _ _ _ g h => ?_, fun a b _ _ _ g h => ?_⟩
  · simp [refNewV, nilV, Value.ownBlock] at h
  · simp [refNewV, nilV, Value.ownBlock] at h

theorem inv_new (room : Int) : Inv (refNew room) :=
  ⟨Int.le_refl _, by show (0 : Int) ≤ _; omega, fun _ _ => ⟨Nat.zero_le _, fun f hf => by simp [refNew] at hf⟩, fun _ _ => ⟨Nat.zero_le _, fun f hf => by simp [refNew] at hf⟩, ⟨Nat.zero_le _, fun f hf => by simp [refNew] at hf⟩,
    fun _ _ => ⟨Int.le_refl _, by simp [refNew]⟩, by simp [refNew], by simp [refNew]⟩

set_option maxRecDepth 100000 in
theorem refBegin (room : Int) (w : World) :
    Calls Tryz.prog 18 #[.int .i64 room] w fun e w' => e = .returned (.pointer (some ⟨w.heap.size, 0, none⟩)) ∧ Rep w' w.heap.size refNewV (refNew room) ∧ Below w.heap.size w w' := by
  have HR : Hid (Rep (w.alloc (.cells (newCells room).toArray 66)) w.heap.size refNewV (refNew room)) := rep_new w room
  go_enter Tryz.func18, Tryz.ntmps18
  go_wp2
  go_ret
  exact ⟨rfl, HR.out, below_one _ _⟩
end Go.Proofs.YtmjdndhfmfjbiaaGreat

namespace Go.Proofs.YtmjdndhfmfjbiaaGreat
open Go.RowKit
attribute [local go_sem ↓] Go.wp_at_zero Go.wp_at_succ appSem_eq

/-- A message as it is shown. -/
structure MailD where
  number : Int
  topic : ByteArray
  value : Int
  sentAt : Int
  left : Int
def mailCells (x : MailD) : List Value := [.int .i64 x.number, .string x.topic, .int .i64 x.value, .int .i64 x.sentAt, .int .i64 x.left]
theorem mail_len (x : MailD) : (mailCells x).length = 5 := rfl
theorem mail_one (x : MailD) : ∀ u ∈ mailCells x, u.oneCell' = true := by
  intro u hu
  simp only [mailCells, List.mem_cons, List.not_mem_nil, or_false] at hu
  rcases hu with rfl | rfl | rfl | rfl | rfl <;> rfl
theorem infoMail : (Tryz.prog.info? 76).map (fun i => (i.zero, i.size, i.bytes)) = some (some (.agg #[.int .i64 0, .string ⟨#[]⟩, .int .i64 0, .int .i64 0, .int .i64 0]), 5, 48) := by kernel_rfl

def leftM (time : Int) (m : SentD) : Int := if 0 < m.life then m.life - (time - m.sentAt) else 0
def mailOf (time : Int) (m : SentD) : MailD := ⟨m.number, m.topic, m.value, m.sentAt, leftM time m⟩
def queueM (S : RefS) (k : Int) : List MailD := if knownB k = true then (S.que k.toNat).map (mailOf S.time) else []

theorem map_hit {α β : Type} (f : α → β) {l : List α} {k : Nat} {x : α} (hx : l[k]? = some x) : (l.take (k + 1)).map f = (l.take k).map f ++ [f x] := by
  rw [List.take_add_one, hx]; simp

theorem cells_new3 (w : World) (o p : Obj) (cs : List Value) (t : TypeId) : ∀ j u, cs[j]? = some u → (((w.alloc o).alloc p).alloc (.cells cs.toArray t)).cell? ((⟨w.heap.size + 2, 0, none⟩ : Addr).add j) = some u := by
  have := cells_new ((w.alloc o).alloc p) cs t
  simpa using this

theorem grow_row3 {α : Type} {f : α → List Value} {w wr w1 : World} {e : TypeId} {size : Nat} {v v1 : Value} {l : List α} {x : α} {o p q : Obj}
    (hown : wr.ownsRow w.heap.size e size v l.length (l.flatMap f)) (hb : Below w.heap.size w wr)
    (hown1 : w1.ownsRow w.heap.size e size v1 (l.length + 1) (l.flatMap f ++ f x)) (hg : (((wr.alloc o).alloc p).alloc q).grownBy w1 v.ownBlock) :
    w1.ownsRow w.heap.size e size v1 (l ++ [x]).length ((l ++ [x]).flatMap f) ∧ Below w.heap.size w w1 :=
  ⟨by simpa using hown1, (((hb.alloc hb.size o).alloc (by have := hb.size; simp; omega) p).alloc (by have := hb.size; simp; omega) q).grown hg (by have := hb.size; simp; omega) (fun j hj => (hown.lt j hj).1)⟩

theorem grown_undrew {w w1 : World} {row : Option Nat} (h : w.drew.grownBy w1 row) : w.grownBy w1 row := ⟨h.os, h.tape, h.output, h.size, h.block⟩
theorem wrap_ok (n : Int) (h0 : -9223372036854775808 ≤ n) (h1 : n ≤ 9223372036854775807) : IntKind.i64.wrap n = n := by rw [IntKind.wrap_i64]; omega

set_option maxRecDepth 100000 in
set_option maxHeartbeats 4000000 in
theorem refQueue (B : Nat) (x : RefV) (S : RefS) (k : Int) (w : World) (hr : Rep w B x S) (hin : Inv S) :
    Calls Tryz.prog 38 #[.pointer (some ⟨B, 0, none⟩), .int .i64 k] w fun e w' => ∃ v, e = .returned v ∧ w'.ownsRow w.heap.size 76 5 v (queueM S k).length ((queueM S k).flatMap mailCells) ∧ Below w.heap.size w w' := by
  by_cases h0 : k < 0
  · have HE : Hid (queueM S k = []) := by
      have : knownB k = false := by simp [knownB]; omega
      simp [Hid, queueM, this]
    clear hr hin
    go_enter Tryz.func38, Tryz.ntmps38
    go_wp2
    go_ret
    exact ⟨_, rfl, by rw [HE.out]; exact World.ownsRow_nil _ _ _ _, Below.refl _ _⟩
  · by_cases h8 : 8 ≤ k
    · have HE : Hid (queueM S k = []) := by
        have : knownB k = false := by simp [knownB]; omega
        simp [Hid, queueM, this]
      clear hr hin
      go_enter Tryz.func38, Tryz.ntmps38
      go_wp2
      go_ret
      exact ⟨_, rfl, by rw [HE.out]; exact World.ownsRow_nil _ _ _ _, Below.refl _ _⟩
    · obtain ⟨n, rfl⟩ : ∃ n : Nat, k = (n : Int) := ⟨k.toNat, by omega⟩
      have hn : n < 8 := by omega
      have hn0 : (0 : Int) ≤ (n : Int) := by omega
      have hn8 : (n : Int) < 8 := by omega
      have HE : Hid (queueM S n = (S.que n).map (mailOf S.time)) := by
        have : knownB (n : Int) = true := by simp [knownB]; omega
        simp [Hid, queueM, this]
      obtain ⟨i0, hi, hz0, hz1, hz2⟩ := info_parts infoMail
      obtain ⟨aq, cq, hvq, q3, q4, hcq⟩ := (hr.que n hn).form
      unfold maxLen at q4
      have HCQ : Hid (CellsAt w aq ((S.que n).flatMap sentCells)) := hcq
      have cque := hr.cells.que n hn
      rw [hvq] at cque
      have ctime := hr.cells.time
      have hBl := hr.cells.lt
      have HQ : Hid (∀ m ∈ S.que n, 0 ≤ m.sentAt ∧ m.sentAt ≤ 1099511627776 ∧ 0 ≤ m.life ∧ m.life ≤ 1099511627776) := (hin.que n hn).2
      have hql := (hin.que n hn).1
      have ht0 := hin.time0
      have ht1 := hin.time1
      clear hr hin hvq hcq
      go_enter Tryz.func38, Tryz.ntmps38
      go_wp2_with fail
      go_loopw [5, 6] (fun v i wr => ∃ j : Nat, j ≤ (S.que n).length ∧ i = .int .i64 j ∧ wr.ownsRow w.heap.size 76 5 v (((S.que n).take j).map (mailOf S.time)).length ((((S.que n).take j).map (mailOf S.time)).flatMap mailCells) ∧ Below w.heap.size w wr) (fun _ i _ => (S.que n).length - (intOf i).toNat)
      case atStart => exact ⟨0, Nat.zero_le _, rfl, World.ownsRow_nil _ _ _ _, Below.refl _ _⟩
      case round =>
        obtain ⟨j, hj, rfl, hown, hbr⟩ := hrel
        have cquer := cell_later hbr cque
        have ctimer := cell_later hbr ctime
        have hlen : (((S.que n).take j).map (mailOf S.time)).length ≤ 10 := by rw [List.length_map, List.length_take]; omega
        have hsz := hbr.size
        have hBr : B < wr.heap.size := by omega
        generalize hLL : ((S.que n).take j).map (mailOf S.time) = L at *
        have HLL : Hid (((S.que n).take j).map (mailOf S.time) = L) := hLL
        clear hLL
        by_cases hjl : j < (S.que n).length
        · obtain ⟨y, hy⟩ : ∃ y, (S.que n)[j]? = some y := ⟨_, List.getElem?_eq_getElem hjl⟩
          obtain ⟨g, rfl, hg, c0, c1, c2, c3, c4⟩ := sent_cells (HCQ.out.below hbr) hy
          obtain ⟨y1, y2, y3, y4⟩ := HQ.out y (List.mem_of_getElem? hy)
          have HM : Hid (((S.que n).take (j + 1)).map (mailOf S.time) = L ++ [mailOf S.time y]) := by rw [← HLL.out]; exact map_hit _ hy
          clear hy
          by_cases hl : 0 < y.life
          · have HL : Hid (mailOf S.time y = ⟨y.number, y.topic, y.value, y.sentAt, y.life - (S.time - y.sentAt)⟩) := by simp [Hid, mailOf, leftM, hl]
            have hw1 : IntKind.i64.wrap (S.time - y.sentAt) = S.time - y.sentAt := wrap_ok _ (by omega) (by omega)
            have hw2 : IntKind.i64.wrap (y.life - (S.time - y.sentAt)) = y.life - (S.time - y.sentAt) := wrap_ok _ (by omega) (by omega)
            go_wp2_with fail
            go_region
            go_wp2_with (first | (at_builtin; refine wpList_append_own _ rfl _ _ 72 rfl w.heap.size 76 i0 _ 5 48 Tryz.underlying72 hi hz0 hz1 hz2 rfl (by decide) _ _ _ rfl ((((hown.alloc _).alloc _).alloc _).drew) ⟨wr.heap.size + 2, 0, none⟩ 1 1 (mailCells ⟨y.number, y.topic, y.value, y.sentAt, y.life - (S.time - y.sentAt)⟩) rfl rfl (cells_new3 _ _ _ _ _) (mail_one _) (by unfold maxLen; omega) (by omega) (by simp; omega) ?_))
            intro v' w3 hown' hgrow _
            have R := grow_row3 hown hbr hown' (grown_undrew hgrow)
            clear hown' hgrow hown
            go_wp2
            go_roundw
            case rel => exact ⟨j + 1, by omega, by go_num, by rw [HM.out, HL.out]; exact R.1, R.2⟩
            case measure => simp [intOf]; omega
          · have HL : Hid (mailOf S.time y = ⟨y.number, y.topic, y.value, y.sentAt, 0⟩) := by simp [Hid, mailOf, leftM, hl]
            go_wp2_with (first | (at_builtin; refine wpList_append_own _ rfl _ _ 72 rfl w.heap.size 76 i0 _ 5 48 Tryz.underlying72 hi hz0 hz1 hz2 rfl (by decide) _ _ _ rfl (((hown.alloc _).alloc _).alloc _) ⟨wr.heap.size + 2, 0, none⟩ 1 1 (mailCells ⟨y.number, y.topic, y.value, y.sentAt, 0⟩) rfl rfl (cells_new3 _ _ _ _ _) (mail_one _) (by unfold maxLen; omega) (by omega) (by simp; omega) ?_))
            intro v' w3 hown' hgrow _
            have R := grow_row3 hown hbr hown' hgrow
            clear hown' hgrow hown
            go_wp2
            go_roundw
            case rel => exact ⟨j + 1, by omega, by go_num, by rw [HM.out, HL.out]; exact R.1, R.2⟩
            case measure => simp [intOf]; omega
        · have HK : Hid ((S.que n).take j = S.que n) := List.take_of_length_le (by omega)
          go_wp2
          go_ret
          exact ⟨_, rfl, by rw [HE.out, ← HK.out, HLL.out]; exact hown, hbr⟩
end Go.Proofs.YtmjdndhfmfjbiaaGreat
