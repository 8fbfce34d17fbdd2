import Derived.Test.YtmjdndhfmfjbiaaGreatM03
namespace Go.Proofs.YtmjdndhfmfjbiaaGreat
open Go.RowKit

/-- What holds of the reference's world at all times. -/
structure Inv (S : RefS) : Prop where
  time0 : 0 ≤ S.time
  time1 : S.time ≤ 1099511627776
  fil : ∀ a, a < 8 → (S.fil a).length ≤ 6 ∧ ∀ f ∈ S.fil a, f.size ≤ 15
  que : ∀ a, a < 8 → (S.que a).length ≤ 10 ∧ ∀ m ∈ S.que a, 0 ≤ m.sentAt ∧ m.sentAt ≤ 1099511627776 ∧ 0 ≤ m.life ∧ m.life ≤ 1099511627776
  wait : S.wait.length ≤ 64 ∧ ∀ m ∈ S.wait, m.topic.size ≤ 15 ∧ 0 ≤ m.life ∧ m.life ≤ 1099511627776 ∧ 0 ≤ m.deadline ∧ m.deadline ≤ 1099511627776
  lost : ∀ a, a < 8 → 0 ≤ S.lost a ∧ S.lost a + (S.wait.length : Int) ≤ S.pub
  pub : S.pub ≤ (S.done.length : Int)
  done : S.done.length ≤ 500

theorem Inv.small {S : RefS} (h : Inv S) {a : Nat} (ha : a < 8) : 0 ≤ S.lost a ∧ S.lost a ≤ 500 := by
  have h1 := h.lost a ha
  have h2 := h.pub
  have h3 := h.done
  omega

/-- Less is needed of a world into which a message is sent: it has one place more. -/
structure Inv1 (S : RefS) : Prop where
  time0 : 0 ≤ S.time
  time1 : S.time ≤ 1099511627776
  fil : ∀ a, a < 8 → (S.fil a).length ≤ 6 ∧ ∀ f ∈ S.fil a, f.size ≤ 15
  que : ∀ a, a < 8 → (S.que a).length ≤ 10 ∧ ∀ m ∈ S.que a, 0 ≤ m.sentAt ∧ m.sentAt ≤ 1099511627776 ∧ 0 ≤ m.life ∧ m.life ≤ 1099511627776
  wait : S.wait.length ≤ 64 ∧ ∀ m ∈ S.wait, m.topic.size ≤ 15 ∧ 0 ≤ m.life ∧ m.life ≤ 1099511627776 ∧ 0 ≤ m.deadline ∧ m.deadline ≤ 1099511627776
  lost : ∀ a, a < 8 → 0 ≤ S.lost a ∧ S.lost a + (S.wait.length : Int) + 1 ≤ S.pub
  pub : S.pub ≤ (S.done.length : Int)
  done : S.done.length ≤ 500

theorem sendOne_que (T : RefS) (m : WaitD) (a : Nat) : (sendOne T m a).que a = T.que a ∨ ((T.que a).length < 10 ∧ (sendOne T m a).que a = T.que a ++ [sentOf T m]) := by
  unfold sendOne
  split
  · split
    · exact .inl rfl
    · exact .inr ⟨by omega, setAt_same _ _ _⟩
  · exact .inl rfl
theorem sendOne_lost (T : RefS) (m : WaitD) (a : Nat) : (sendOne T m a).lost a = T.lost a ∨ (sendOne T m a).lost a = T.lost a + 1 := by
  unfold sendOne
  split
  · split
    · exact .inr (setAt_same _ _ _)
    · exact .inl rfl
  · exact .inl rfl

/-- What a send does to each client. -/
theorem sendTo_at (S : RefS) (m : WaitD) (n b : Nat) : ((sendTo S m n).que b = S.que b ∨ ((S.que b).length < 10 ∧ (sendTo S m n).que b = S.que b ++ [sentOf S m])) ∧ ((sendTo S m n).lost b = S.lost b ∨ (sendTo S m n).lost b = S.lost b + 1) := by
  induction n with
  | zero => exact ⟨.inl rfl, .inl rfl⟩
  | succ n ih =>
    obtain ⟨-, -, -, -, -, -, k7⟩ := sendOne_keeps (sendTo S m n) m n
    obtain ⟨-, s2, -, -, -, -, s7⟩ := sendTo_keeps S m n
    by_cases e : b = n
    · subst e
      obtain ⟨l1, q1⟩ := s7 b (Nat.le_refl _)
      have hs : sentOf (sendTo S m b) m = sentOf S m := by unfold sentOf; rw [s2]
      constructor
      · rcases sendOne_que (sendTo S m b) m b with h | ⟨h, h'⟩
        · exact .inl (h.trans q1)
        · rw [q1] at h
          exact .inr ⟨h, by show (sendOne _ _ _).que b = _; rw [h', q1, hs]⟩
      · rcases sendOne_lost (sendTo S m b) m b with h | h
        · exact .inl (h.trans l1)
        · exact .inr (by show (sendOne _ _ _).lost b = _; rw [h, l1])
    · obtain ⟨k1, k2⟩ := k7 b e
      constructor
      · rcases ih.1 with h | ⟨h, h'⟩
        · exact .inl (k2.trans h)
        · exact .inr ⟨h, k2.trans h'⟩
      · rcases ih.2 with h | h
        · exact .inl (k1.trans h)
        · exact .inr (k1.trans h)

theorem Inv1.send {S : RefS} (h : Inv1 S) (m : WaitD) (hm : 0 ≤ m.life ∧ m.life ≤ 1099511627776) : Inv (sendTo S m 8) := by
  obtain ⟨k1, k2, k3, k4, k5, k6, -⟩ := sendTo_keeps S m 8
  refine ⟨by rw [k2]; exact h.time0, by rw [k2]; exact h.time1, by rw [k1]; exact h.fil, fun a ha => ?_, by rw [k4]; exact h.wait, fun a ha => ?_, by rw [k6, k3]; exact h.pub, by rw [k3]; exact h.done⟩
  · rcases (sendTo_at S m 8 a).1 with e | ⟨hl, e⟩
    · rw [e]; exact h.que a ha
    · rw [e]
      refine ⟨by simp; omega, fun y hy => ?_⟩
      simp only [List.mem_append, List.mem_singleton] at hy
      rcases hy with hy | rfl
      · exact (h.que a ha).2 y hy
      · exact ⟨h.time0, h.time1, hm.1, hm.2⟩
  · have hl := h.lost a ha
    rw [k4, k6]
    rcases (sendTo_at S m 8 a).2 with e | e <;> rw [e] <;> omega

/-- Without one message that waits there is a place more. -/
theorem Inv.gone {S : RefS} (h : Inv S) {x : WaitD} (hx : x ∈ S.wait) : Inv1 { S with wait := S.wait.filter (fun m => m.number != x.number) } ∧ (S.wait.filter (fun m => m.number != x.number)).length < S.wait.length := by
  have hlt : (S.wait.filter (fun m => m.number != x.number)).length < S.wait.length := by
    have := List.length_filter_lt_length_iff_exists (l := S.wait) (p := fun m => m.number != x.number)
    exact this.2 ⟨x, hx, by simp⟩
  refine ⟨⟨h.time0, h.time1, h.fil, h.que, ⟨by have := h.wait.1; show List.length _ ≤ _; simp only; omega, fun m hm => h.wait.2 m (List.mem_filter.1 hm).1⟩, fun a ha => ?_, h.pub, h.done⟩, hlt⟩
  have := h.lost a ha
  show 0 ≤ S.lost a ∧ S.lost a + ((S.wait.filter (fun m => m.number != x.number)).length : Int) + 1 ≤ S.pub
  omega

/-- What is due is sent, one by one. -/
def deliverN (to : Int) : Nat → RefS → RefS
  | 0, S => S
  | n + 1, S => match bestTo S.wait S.wait.length with
    | none => S
    | some b => match S.wait[b]? with
      | none => S
      | some x => if to < x.deadline then S else deliverN to n (sendTo { S with wait := S.wait.filter (fun m => m.number != x.number) } x 8)

theorem deliver_len (S : RefS) (x : WaitD) (hx : x ∈ S.wait) : (sendTo { S with wait := S.wait.filter (fun m => m.number != x.number) } x 8).wait.length < S.wait.length := by
  obtain ⟨-, -, -, k4, -⟩ := sendTo_keeps { S with wait := S.wait.filter (fun m => m.number != x.number) } x 8
  rw [k4]
  have := List.length_filter_lt_length_iff_exists (l := S.wait) (p := fun m => m.number != x.number)
  exact this.2 ⟨x, hx, by simp⟩

theorem deliver_fuel (to : Int) : ∀ (n m : Nat) (S : RefS), S.wait.length ≤ n → S.wait.length ≤ m → deliverN to n S = deliverN to m S := by
  intro n
  induction n with
  | zero =>
    intro m S hn _
    cases m with
    | zero => rfl
    | succ m =>
      have : S.wait = [] := List.eq_nil_of_length_eq_zero (by omega)
      simp [deliverN, this, bestTo]
  | succ n ih =>
    intro m S hn hm
    cases m with
    | zero =>
      have : S.wait = [] := List.eq_nil_of_length_eq_zero (by omega)
      simp [deliverN, this, bestTo]
    | succ m =>
      unfold deliverN
      split
      · rfl
      · split
        · rfl
        · rename_i x hx
          split
          · rfl
          · have := deliver_len S x (List.mem_of_getElem? hx)
            exact ih m _ (by omega) (by omega)

def deliver (to : Int) (S : RefS) : RefS := deliverN to S.wait.length S

theorem deliver_step {to : Int} {S : RefS} {b : Nat} {x : WaitD} (hb : bestTo S.wait S.wait.length = some b) (hx : S.wait[b]? = some x) (hd : ¬ to < x.deadline) :
    deliver to S = deliver to (sendTo { S with wait := S.wait.filter (fun m => m.number != x.number) } x 8) := by
  have hlt := deliver_len S x (List.mem_of_getElem? hx)
  unfold deliver
  cases hn : S.wait.length with
  | zero => omega
  | succ n =>
    rw [deliverN, hb]
    simp only [hx, if_neg hd]
    exact deliver_fuel to n _ _ (by omega) (Nat.le_refl _)
theorem deliver_late {to : Int} {S : RefS} {b : Nat} {x : WaitD} (hb : bestTo S.wait S.wait.length = some b) (hx : S.wait[b]? = some x) (hd : to < x.deadline) : deliver to S = S := by
  unfold deliver
  cases hn : S.wait.length with
  | zero => rfl
  | succ n =>
    rw [deliverN, hb]
    simp only [hx, if_pos hd]
theorem deliver_none {to : Int} {S : RefS} (hb : bestTo S.wait S.wait.length = none) : deliver to S = S := by
  unfold deliver
  cases hn : S.wait.length with
  | zero => rfl
  | succ n => rw [deliverN, hb]

def aliveB (to : Int) (m : SentD) : Bool := (m.life == 0) || decide (to - m.sentAt < m.life)
/-- What is over leaves the queues of the first clients. -/
def agedTo (S : RefS) (to : Int) : Nat → RefS
  | 0 => { S with time := to }
  | a + 1 => { agedTo S to a with que := setAt (agedTo S to a).que a (((agedTo S to a).que a).filter (aliveB to)) }
def tickM (S : RefS) (to : Int) : RefS := deliver to (agedTo S to 8)

theorem aged_keeps (S : RefS) (to : Int) (a : Nat) : (agedTo S to a).fil = S.fil ∧ (agedTo S to a).time = to ∧ (agedTo S to a).done = S.done ∧ (agedTo S to a).wait = S.wait ∧ (agedTo S to a).room = S.room ∧ (agedTo S to a).pub = S.pub ∧ (agedTo S to a).lost = S.lost ∧
    ∀ b, (agedTo S to a).que b = if b < a then (S.que b).filter (aliveB to) else S.que b := by
  induction a with
  | zero => exact ⟨rfl, rfl, rfl, rfl, rfl, rfl, rfl, fun b => by simp [agedTo]⟩
  | succ a ih =>
    obtain ⟨i1, i2, i3, i4, i5, i6, i7, i8⟩ := ih
    refine ⟨i1, i2, i3, i4, i5, i6, i7, fun b => ?_⟩
    simp only [agedTo, setAt]
    by_cases e : b = a
    · subst e
      rw [if_pos rfl, if_pos (by omega), i8, if_neg (by omega)]
    · rw [if_neg e, i8]
      by_cases h : b < a
      · rw [if_pos h, if_pos (by omega)]
      · rw [if_neg h, if_neg (by omega)]

theorem Inv.aged {S : RefS} (h : Inv S) {to : Int} (h0 : 0 ≤ to) (h1 : to ≤ 1099511627776) (a : Nat) : Inv (agedTo S to a) := by
  obtain ⟨i1, i2, i3, i4, i5, i6, i7, i8⟩ := aged_keeps S to a
  refine ⟨by rw [i2]; exact h0, by rw [i2]; exact h1, by rw [i1]; exact h.fil, fun b hb => ?_, by rw [i4]; exact h.wait, fun b hb => by rw [i7, i4, i6]; exact h.lost b hb, by rw [i6, i3]; exact h.pub, by rw [i3]; exact h.done⟩
  rw [i8 b]
  split
  · exact ⟨Nat.le_trans (List.length_filter_le _ _) (h.que b hb).1, fun m hm => (h.que b hb).2 m (List.mem_filter.1 hm).1⟩
  · exact h.que b hb

theorem Inv.deliver1 {S : RefS} (h : Inv S) {x : WaitD} (hx : x ∈ S.wait) : Inv (sendTo { S with wait := S.wait.filter (fun m => m.number != x.number) } x 8) :=
  (h.gone hx).1.send x ⟨(h.wait.2 x hx).2.1, (h.wait.2 x hx).2.2.1⟩

/-- How many wait, as the world's own cell tells. -/
def lenAt (w : World) (B : Nat) : Nat := match w.cell? ⟨B, 28, none⟩ with
  | some (.slice _ n _) => n
  | _ => 0
end Go.Proofs.YtmjdndhfmfjbiaaGreat

namespace Go.Proofs.YtmjdndhfmfjbiaaGreat
open Go.RowKit

/-- One thing more behind a row, in a region that draws its order: what the append does, told ahead of the walk. -/
theorem app_one (t e : TypeId) (z : Value) (size bytes : Nat) (hu : Tryz.prog.underlying t = some (.slice e)) (hinfo : (Tryz.prog.info? e).map (fun i => (i.zero, i.size, i.bytes)) = some (some z, size, bytes)) (hzs : z.cells.size = size) (hsz : 0 < size)
    (W : World) (v : Value) (n : Nat) (xs news : List Value) (hrow : Row W e size v n xs) (hl : news.length = size) (h1 : ∀ u ∈ news, u.oneCell' = true) (hn : n ≤ 1048576) (hb : (n + 1) * bytes ≤ 140737488355328) :
    ∃ a1 c1 w1, (appSem #[t, t] t #[v, .slice (some ⟨W.heap.size, 0, none⟩) 1 1]).run Tryz.prog (W.alloc (.cells news.toArray e)).drew = .ok (.slice a1 (n + 1) c1) w1 ∧
      Row w1 e size (.slice a1 (n + 1) c1) (n + 1) (xs ++ news) ∧ Upd (fun k => v.ownBlock = some k) W w1 ∧ Fresh W v (.slice a1 (n + 1) c1) := by
  obtain ⟨i0, hi, hz0, hz1, hz2⟩ := info_parts hinfo
  obtain ⟨v1, w1, hrun, hown1, hgrow, -, hat⟩ := run_append_own_at (P := Tryz.prog) ((W.alloc (.cells news.toArray e)).drew) 0 t t e i0 z size bytes hu hi hz0 hz1 hz2 hzs hsz
    v n xs ((hrow.alloc _).drew) ⟨W.heap.size, 0, none⟩ 1 1 news (by rw [hl, Nat.one_mul]) (cells_new W news e) h1 (by unfold maxLen; omega) hb (Nat.zero_le _)
  obtain ⟨a1, c1, rfl, -, -, -⟩ := Row.form hown1
  refine ⟨a1, c1, w1, hrun, hown1, (((Upd.refl _ W).alloc _).drew).grown hgrow (fun i e _ => e), fun g hg => ?_⟩
  rcases hat with h | h
  · exact .inl (h.symm.trans hg)
  · rw [h] at hg
    simp at hg
    exact .inr (by omega)

theorem size_alloc (w : World) (o : Obj) : (w.alloc o).heap.size = w.heap.size + 1 := by simp
end Go.Proofs.YtmjdndhfmfjbiaaGreat
