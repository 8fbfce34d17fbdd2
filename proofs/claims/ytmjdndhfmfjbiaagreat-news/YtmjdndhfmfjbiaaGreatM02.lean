import Derived.Test.YtmjdndhfmfjbiaaGreatM01
namespace Go.Proofs.YtmjdndhfmfjbiaaGreat
open Go.RowKit

/-- Is the one sent ahead of the other? -/
def aheadB (x y : WaitD) : Bool := decide (x.deadline < y.deadline) || ((x.deadline == y.deadline) && decide (x.number < y.number))

/-- Of the first k messages that wait: where the one stands that is sent first. -/
def bestTo (l : List WaitD) : Nat → Option Nat
  | 0 => none
  | k + 1 => match l[k]?, bestTo l k with
    | none, o => o
    | some _, none => some k
    | some x, some b => match l[b]? with
      | none => some b
      | some y => if aheadB x y then some k else some b

def optI : Option Nat → Int
  | none => -1
  | some b => (b : Int)

theorem best_lt (l : List WaitD) (k : Nat) : ∀ b, bestTo l k = some b → b < k := by
  induction k with
  | zero => intro b h; simp [bestTo] at h
  | succ k ih =>
    intro b h
    unfold bestTo at h
    split at h
    · have := ih b h; omega
    · simp at h; omega
    · rename_i x c _ hc
      have := ih c hc
      split at h
      · simp at h; omega
      · split at h <;> (simp at h; omega)

theorem best_first {l : List WaitD} {k : Nat} {x : WaitD} (hx : l[k]? = some x) (h : bestTo l k = none) : bestTo l (k + 1) = some k := by
  rw [bestTo, hx, h]
theorem best_next {l : List WaitD} {k b : Nat} {x y : WaitD} (hx : l[k]? = some x) (h : bestTo l k = some b) (hy : l[b]? = some y) : bestTo l (k + 1) = if aheadB x y then some k else some b := by
  rw [bestTo, hx, h]; simp only [hy]

def firstM (l : List WaitD) : Int := optI (bestTo l l.length)

set_option maxRecDepth 100000 in
set_option maxHeartbeats 1000000 in
theorem refFirst (l : List WaitD) (ao : Option Addr) (c : Nat) (w : World) (h1 : l.length ≤ c) (h2 : c ≤ maxLen) (h : CellsAt w ao (l.flatMap waitCells)) :
    Calls Tryz.prog 58 #[.slice ao l.length c] w fun e w' => e = .returned (.int .i64 (firstM l)) ∧ ∃ n, w' = w.drewN n := by
  unfold maxLen at h2
  have H : Hid (CellsAt w ao (l.flatMap waitCells)) := h
  clear h
  go_enter Tryz.func58, Tryz.ntmps58
  go_wp2_with fail
  go_loopw [3, 4] (fun b i wr => ∃ k : Nat, k ≤ l.length ∧ i = .int .i64 k ∧ b = .int .i64 (optI (bestTo l k)) ∧ ∃ n, wr = w.drewN n) (fun _ i _ => l.length - (intOf i).toNat)
  case atStart => exact ⟨0, Nat.zero_le _, rfl, rfl, 0, rfl⟩
  case round =>
    obtain ⟨k, hk, rfl, rfl, n, rfl⟩ := hrel
    by_cases hlt : k < l.length
    · obtain ⟨x, hx⟩ : ∃ x, l[k]? = some x := ⟨_, List.getElem?_eq_getElem hlt⟩
      obtain ⟨g, rfl, hg, hn, -, -, hd, -⟩ := wait_cells H.out hx
      cases hb : bestTo l k with
      | none =>
        have HB : Hid (bestTo l (k + 1) = some k) := best_first hx hb
        clear hx hb
        show Code.wp _ _ _ _ _
        simp only [optI]
        go_wp2_with fail
        go_quiet (fail)
        go_wp2_with fail
        go_roundw
        case rel => exact ⟨k + 1, by omega, by go_num, by rw [HB.out], _, rfl⟩
        case measure => simp [intOf]; omega
      | some b =>
        have hbk := best_lt l k b hb
        obtain ⟨y, hy⟩ : ∃ y, l[b]? = some y := ⟨_, List.getElem?_eq_getElem (by omega)⟩
        have HB : Hid (bestTo l (k + 1) = if aheadB x y then some k else some b) := best_next hx hb hy
        obtain ⟨g', e, hg', hn', -, -, hd', -⟩ := wait_cells H.out hy
        simp only [Option.some.injEq, Addr.mk.injEq, and_true] at e
        subst e
        clear hx hb hy
        simp only [optI]
        have hb0 : decide ((b : Int) < 0) = false := by simp
        by_cases t1 : x.deadline < y.deadline
        · have HA : Hid (aheadB x y = true) := by simp [aheadB, Hid, t1]
          go_wp2_with fail
          go_quiet (fail)
          go_wp2_with fail
          go_roundw
          case rel => exact ⟨k + 1, by omega, by go_num, by rw [HB.out, HA.out]; rfl, _, rfl⟩
          case measure => simp [intOf]; omega
        · have t1' : decide (x.deadline < y.deadline) = false := by simpa using t1
          cases t2 : (x.deadline == y.deadline)
          · have HA : Hid (aheadB x y = false) := by simp only [aheadB, Hid, t1', t2]; rfl
            clear t1
            go_wp2_with fail
            go_quiet (fail)
            go_wp2_with fail
            go_roundw
            case rel => exact ⟨k + 1, by omega, by go_num, by rw [HB.out, HA.out]; rfl, _, rfl⟩
            case measure => simp [intOf]; omega
          · by_cases t3 : x.number < y.number
            · have HA : Hid (aheadB x y = true) := by simp [aheadB, Hid, t2, t3]
              clear t1
              go_wp2_with fail
              go_quiet (fail)
              go_wp2_with fail
              go_roundw
              case rel => exact ⟨k + 1, by omega, by go_num, by rw [HB.out, HA.out]; rfl, _, rfl⟩
              case measure => simp [intOf]; omega
            · have t3' : decide (x.number < y.number) = false := by simpa using t3
              have HA : Hid (aheadB x y = false) := by simp only [aheadB, Hid, t1', t2, t3']; rfl
              clear t1 t3
              go_wp2_with fail
              go_quiet (fail)
              go_wp2_with fail
              go_roundw
              case rel => exact ⟨k + 1, by omega, by go_num, by rw [HB.out, HA.out]; rfl, _, rfl⟩
              case measure => simp [intOf]; omega
    · have e : k = l.length := by omega
      subst e
      go_wp2_with fail
      go_ret
      exact ⟨rfl, _, rfl⟩
end Go.Proofs.YtmjdndhfmfjbiaaGreat

namespace Go.Proofs.YtmjdndhfmfjbiaaGreat
open Go.RowKit

/-- A function with one value turned. -/
def setAt {α : Type} (f : Nat → α) (a : Nat) (v : α) : Nat → α := fun i => if i = a then v else f i
theorem setAt_same {α : Type} (f : Nat → α) (a : Nat) (v : α) : setAt f a v a = v := by simp [setAt]
theorem setAt_other {α : Type} (f : Nat → α) (a i : Nat) (v : α) (h : i ≠ a) : setAt f a v i = f i := by simp [setAt, h]

/-- Two rows do not share a block. -/
def Apart (u v : Value) : Prop := ∀ g, u.ownBlock = some g → v.ownBlock ≠ some g
theorem Apart.symm {u v : Value} (h : Apart u v) : Apart v u := fun g hv hu => h g hu hv

/-- The reference's world lies there, whole. -/
structure Rep (w : World) (B : Nat) (x : RefV) (S : RefS) : Prop where
  cells : RefAt w B x S
  done : Row w 86 6 x.doneV S.done.length (S.done.flatMap opCells)
  fil : ∀ a, a < 8 → Row w 9 1 (x.filV a) (S.fil a).length ((S.fil a).map Value.string)
  que : ∀ a, a < 8 → Row w 100 5 (x.queV a) (S.que a).length ((S.que a).flatMap sentCells)
  wait : Row w 80 5 x.waitV S.wait.length (S.wait.flatMap waitCells)
  filApart : ∀ a b, a < 8 → b < 8 → a ≠ b → Apart (x.filV a) (x.filV b)
  queApart : ∀ a b, a < 8 → b < 8 → a ≠ b → Apart (x.queV a) (x.queV b)

/-- The blocks that it takes up. -/
def RefFP (B : Nat) (x : RefV) (k : Nat) : Prop :=
  k = B ∨ x.doneV.ownBlock = some k ∨ x.waitV.ownBlock = some k ∨ ∃ a, a < 8 ∧ ((x.filV a).ownBlock = some k ∨ (x.queV a).ownBlock = some k)

/-- A row's block holds things of its type. -/
theorem Row.typed {w : World} {e : TypeId} {size : Nat} {v : Value} {n : Nat} {xs : List Value} (h : Row w e size v n xs) {g : Nat} (hg : v.ownBlock = some g) : ∃ cur, w.heap[g]? = some (.cells cur e (0, 0)) := by
  rcases h.2 with ⟨rfl, _⟩ | ⟨g', cap, cur, rfl, _, hgg, _⟩
  · simp [Value.ownBlock] at hg
  · simp [Value.ownBlock] at hg
    subst hg
    exact ⟨cur, hgg⟩

theorem typed_ne {w : World} {g h : Nat} {e f : TypeId} (a : ∃ cur, w.heap[g]? = some (.cells cur e (0, 0))) (b : ∃ cur, w.heap[h]? = some (.cells cur f (0, 0))) (hne : e ≠ f) : g ≠ h := by
  obtain ⟨c, hc⟩ := a
  obtain ⟨d, hd⟩ := b
  intro e1
  subst e1
  rw [hc] at hd
  simp at hd
  exact hne hd.2

theorem Rep.lt {w : World} {B : Nat} {x : RefV} {S : RefS} (h : Rep w B x S) {k : Nat} (hk : RefFP B x k) : k < w.heap.size := by
  rcases hk with rfl | hk | hk | ⟨a, ha, hk | hk⟩
  · exact h.cells.lt
  · exact h.done.lt hk
  · exact h.wait.lt hk
  · exact (h.fil a ha).lt hk
  · exact (h.que a ha).lt hk

/-- It stays while nothing of it is touched. -/
theorem Rep.upd {P : Nat → Prop} {w w1 : World} {B : Nat} {x : RefV} {S : RefS} (h : Rep w B x S) (k : Upd P w w1) (hs : ∀ i, RefFP B x i → ¬ P i) : Rep w1 B x S :=
  ⟨h.cells.upd k (hs B (.inl rfl)), h.done.upd k fun g hg => hs g (.inr (.inl hg)), fun a ha => (h.fil a ha).upd k fun g hg => hs g (.inr (.inr (.inr ⟨a, ha, .inl hg⟩))),
    fun a ha => (h.que a ha).upd k fun g hg => hs g (.inr (.inr (.inr ⟨a, ha, .inr hg⟩))), h.wait.upd k fun g hg => hs g (.inr (.inr (.inl hg))), h.filApart, h.queApart⟩

theorem Rep.below {w w1 : World} {B : Nat} {x : RefV} {S : RefS} (h : Rep w B x S) (k : Below w.heap.size w w1) : Rep w1 B x S :=
  h.upd (P := fun _ => False) (Upd.of_below k) (fun _ _ f => f)

/-- A step: the world lies there anew; only its own blocks were touched, and it takes up those and new ones. -/
def RefStep (w : World) (B : Nat) (x : RefV) (w1 : World) (S1 : RefS) : Prop :=
  ∃ x1, Rep w1 B x1 S1 ∧ Upd (RefFP B x) w w1 ∧ ∀ k, RefFP B x1 k → RefFP B x k ∨ w.heap.size ≤ k

theorem RefStep.refl {w : World} {B : Nat} {x : RefV} {S : RefS} (h : Rep w B x S) : RefStep w B x w S := ⟨x, h, Upd.refl _ _, fun _ hk => .inl hk⟩

theorem RefStep.then {w w1 w2 : World} {B : Nat} {x x1 : RefV} {S2 : RefS} (hu : Upd (RefFP B x) w w1) (hf : ∀ k, RefFP B x1 k → RefFP B x k ∨ w.heap.size ≤ k) (h2 : RefStep w1 B x1 w2 S2) : RefStep w B x w2 S2 := by
  obtain ⟨x2, r, u, f⟩ := h2
  refine ⟨x2, r, hu.trans u (fun i hi t => ?_), fun k hk => ?_⟩
  · rcases hf i t with a | a
    · exact a
    · omega
  · rcases f k hk with a | a
    · exact hf k a
    · exact .inr (Nat.le_trans hu.size a)

theorem RefStep.below {w w1 w2 : World} {B : Nat} {x : RefV} {S1 : RefS} (h : RefStep w B x w1 S1) (k : Below w1.heap.size w1 w2) : RefStep w B x w2 S1 := by
  obtain ⟨x1, r, u, f⟩ := h
  exact ⟨x1, r.below k, u.below k, f⟩

/-- A new row is the old one's, or lies in a new block, or is nil. -/
def Fresh (w : World) (old new : Value) : Prop := ∀ g, new.ownBlock = some g → old.ownBlock = some g ∨ w.heap.size ≤ g

theorem heap_setCell_row (w : World) (g j : Nat) (cur : Array Value) (e : TypeId) (u : Value) (h : w.heap[g]? = some (.cells cur e (0, 0))) : (w.setCell ⟨g, j, none⟩ u).heap[g]? = some (.cells (cur.setIfInBounds j u) e (0, 0)) :=
  heap_setCell_same w g j cur e u h

theorem RefAt.store {w : World} {B : Nat} {x x1 : RefV} {S S1 : RefS} (h : RefAt w B x S) (o : Nat) (v : Value) {old : Value} (ho : w.cell? ⟨B, o, none⟩ = some old)
    (e0 : (if o = 0 then some v else some (.int .i64 S.room)) = some (.int .i64 S1.room)) (e1 : (if o = 1 then v else x.doneV) = x1.doneV) (e2 : (if o = 2 then v else .int .i64 S.time) = .int .i64 S1.time)
    (e3 : (if o = 3 then v else .int .i64 S.pub) = .int .i64 S1.pub) (e4 : ∀ a, a < 8 → (if o = 4 + a * 3 then v else x.filV a) = x1.filV a) (e5 : ∀ a, a < 8 → (if o = 4 + a * 3 + 1 then v else x.queV a) = x1.queV a)
    (e6 : ∀ a, a < 8 → (if o = 4 + a * 3 + 2 then v else .int .i64 (S.lost a)) = .int .i64 (S1.lost a)) (e7 : (if o = 28 then v else x.waitV) = x1.waitV) : RefAt (w.setCell ⟨B, o, none⟩ v) B x1 S1 := by
  have key : ∀ p u, w.cell? ⟨B, p, none⟩ = some u → (w.setCell ⟨B, o, none⟩ v).cell? ⟨B, p, none⟩ = some (if o = p then v else u) := by
    intro p u hp
    by_cases hop : o = p
    · subst hop
      rw [if_pos rfl]; exact World.cell?_setCell_same _ _ _ ho
    · rw [if_neg hop, World.cell?_setCell_other _ _ _ _ (by simp)]; exact hp
  refine ⟨?_, ?_, ?_, ?_, ?_, ?_, ?_, ?_, ?_⟩
  · obtain ⟨cur, hc⟩ := h.obj
    exact ⟨_, heap_setCell_row w B o cur _ v hc⟩
  · rw [key 0 _ h.room, ← e0]; split <;> rfl
  · rw [key 1 _ h.done, ← e1]
  · rw [key 2 _ h.time, ← e2]
  · rw [key 3 _ h.pub, ← e3]
  · intro a ha; rw [key _ _ (h.fil a ha), ← e4 a ha]
  · intro a ha; rw [key _ _ (h.que a ha), ← e5 a ha]
  · intro a ha; rw [key _ _ (h.lost a ha), ← e6 a ha]
  · rw [key 28 _ h.wait, ← e7]

/-- Storing into the world's own block touches no row of it. -/
theorem Row.store {w : World} {B o : Nat} {u : Value} {e : TypeId} {size : Nat} {v : Value} {n : Nat} {xs : List Value} (h : Row w e size v n xs) (hb : ∃ cur, w.heap[B]? = some (.cells cur 66 (0, 0))) (hne : 66 ≠ e) : Row (w.setCell ⟨B, o, none⟩ u) e size v n xs :=
  h.upd (S := fun k => k = B) ((Upd.refl (fun k => k = B) w).setCell (p := ⟨B, o, none⟩) (fun _ => rfl) u) fun g hg hgb => by
    subst hgb
    exact typed_ne hb (h.typed hg) hne rfl

/-- The blocks of the world's lists are apart by what they hold. -/
theorem Rep.apart {w : World} {B : Nat} {x : RefV} {S : RefS} (h : Rep w B x S) :
    (∀ g, x.doneV.ownBlock = some g → g ≠ B) ∧ (∀ g, x.waitV.ownBlock = some g → g ≠ B) ∧ (∀ a g, a < 8 → (x.filV a).ownBlock = some g → g ≠ B) ∧ (∀ a g, a < 8 → (x.queV a).ownBlock = some g → g ≠ B) ∧
    Apart x.doneV x.waitV ∧ (∀ a, a < 8 → Apart x.doneV (x.filV a)) ∧ (∀ a, a < 8 → Apart x.doneV (x.queV a)) ∧ (∀ a, a < 8 → Apart x.waitV (x.filV a)) ∧ (∀ a, a < 8 → Apart x.waitV (x.queV a)) ∧
    (∀ a b, a < 8 → b < 8 → Apart (x.filV a) (x.queV b)) :=
  ⟨fun _ hg => typed_ne (h.done.typed hg) h.cells.obj (by decide), fun _ hg => typed_ne (h.wait.typed hg) h.cells.obj (by decide), fun a _ ha hg => typed_ne ((h.fil a ha).typed hg) h.cells.obj (by decide), fun a _ ha hg => typed_ne ((h.que a ha).typed hg) h.cells.obj (by decide),
    fun _ hu hv => typed_ne (h.done.typed hu) (h.wait.typed hv) (by decide) rfl, fun a ha _ hu hv => typed_ne (h.done.typed hu) ((h.fil a ha).typed hv) (by decide) rfl,
    fun a ha _ hu hv => typed_ne (h.done.typed hu) ((h.que a ha).typed hv) (by decide) rfl, fun a ha _ hu hv => typed_ne (h.wait.typed hu) ((h.fil a ha).typed hv) (by decide) rfl,
    fun a ha _ hu hv => typed_ne (h.wait.typed hu) ((h.que a ha).typed hv) (by decide) rfl, fun a b ha hb _ hu hv => typed_ne ((h.fil a ha).typed hu) ((h.que b hb).typed hv) (by decide) rfl⟩

theorem Fresh.apart {w : World} {old new other : Value} (f : Fresh w old new) (ho : Apart old other) (hl : ∀ g, other.ownBlock = some g → g < w.heap.size) : Apart new other := fun g hg hn => by
  rcases f g hg with h | h
  · exact ho g h hn
  · have := hl g hn; omega

/-- One list is turned: the reference's filters of a client. -/
theorem Rep.setFil {w w1 : World} {B : Nat} {x : RefV} {S : RefS} (h : Rep w B x S) {a : Nat} (ha : a < 8) {v : Value} {l : List ByteArray}
    (u : Upd (fun k => (x.filV a).ownBlock = some k) w w1) (r : Row w1 9 1 v l.length (l.map Value.string)) (f : Fresh w (x.filV a) v) :
    RefStep w B x (w1.setCell ⟨B, 4 + a * 3, none⟩ v) { S with fil := setAt S.fil a l } := by
  obtain ⟨p1, p2, p3, p4, p5, p6, p7, p8, p9, p10⟩ := h.apart
  have hc := h.cells.upd u (fun e => p3 a B ha e rfl)
  refine ⟨{ x with filV := setAt x.filV a v }, ⟨?_, ?_, ?_, ?_, ?_, ?_, ?_⟩, ?_, ?_⟩
  · refine hc.store (4 + a * 3) v (hc.fil a ha) ?_ ?_ ?_ ?_ ?_ ?_ ?_ ?_
    · rw [if_neg (by omega)]
    · rw [if_neg (by omega)]
    · rw [if_neg (by omega)]
    · rw [if_neg (by omega)]
    · intro b _; simp only [setAt]; by_cases e : b = a
      · rw [if_pos (by omega), if_pos e]
      · rw [if_neg (by omega), if_neg e]
    · intro b _; rw [if_neg (by omega)]
    · intro b _; rw [if_neg (by omega)]
    · rw [if_neg (by omega)]
  · exact (h.done.upd u fun g hg e => p6 a ha g hg e).store hc.obj (by decide)
  · intro b hb
    simp only [setAt]
    by_cases e : b = a
    · simp only [if_pos e]; exact r.store hc.obj (by decide)
    · simp only [if_neg e]
      exact ((h.fil b hb).upd u fun g hg e2 => h.filApart b a hb ha e g hg e2).store hc.obj (by decide)
  · exact fun b hb => ((h.que b hb).upd u fun g hg e => p10 a b ha hb g e hg).store hc.obj (by decide)
  · exact (h.wait.upd u fun g hg e => p8 a ha g hg e).store hc.obj (by decide)
  · intro b c hb hc' hne
    simp only [setAt]
    by_cases e : b = a
    · rw [if_pos e, if_neg (by omega)]
      exact f.apart (h.filApart a c ha hc' (by omega)) (fun g hg => (h.fil c hc').lt hg)
    · by_cases e2 : c = a
      · rw [if_neg e, if_pos e2]
        exact (f.apart (h.filApart a b ha hb (by omega)) (fun g hg => (h.fil b hb).lt hg)).symm
      · rw [if_neg e, if_neg e2]; exact h.filApart b c hb hc' hne
  · exact h.queApart
  · exact (u.mono fun k hk => .inr (.inr (.inr ⟨a, ha, .inl hk⟩))).setCell (p := ⟨B, 4 + a * 3, none⟩) (fun _ => .inl rfl) v
  · rintro k (rfl | hk | hk | ⟨b, hb, hk | hk⟩)
    · exact .inl (.inl rfl)
    · exact .inl (.inr (.inl hk))
    · exact .inl (.inr (.inr (.inl hk)))
    · simp only [setAt] at hk
      by_cases e : b = a
      · rw [if_pos e] at hk
        rcases f k hk with o | o
        · exact .inl (.inr (.inr (.inr ⟨a, ha, .inl o⟩)))
        · exact .inr o
      · rw [if_neg e] at hk
        exact .inl (.inr (.inr (.inr ⟨b, hb, .inl hk⟩)))
    · exact .inl (.inr (.inr (.inr ⟨b, hb, .inr hk⟩)))

theorem Rep.setQue {w w1 : World} {B : Nat} {x : RefV} {S : RefS} (h : Rep w B x S) {a : Nat} (ha : a < 8) {v : Value} {l : List SentD}
    (u : Upd (fun k => (x.queV a).ownBlock = some k) w w1) (r : Row w1 100 5 v l.length (l.flatMap sentCells)) (f : Fresh w (x.queV a) v) :
    RefStep w B x (w1.setCell ⟨B, 4 + a * 3 + 1, none⟩ v) { S with que := setAt S.que a l } := by
  obtain ⟨p1, p2, p3, p4, p5, p6, p7, p8, p9, p10⟩ := h.apart
  have hc := h.cells.upd u (fun e => p4 a B ha e rfl)
  refine ⟨{ x with queV := setAt x.queV a v }, ⟨?_, ?_, ?_, ?_, ?_, ?_, ?_⟩, ?_, ?_⟩
  · refine hc.store (4 + a * 3 + 1) v (hc.que a ha) ?_ ?_ ?_ ?_ ?_ ?_ ?_ ?_
    · rw [if_neg (by omega)]
    · rw [if_neg (by omega)]
    · rw [if_neg (by omega)]
    · rw [if_neg (by omega)]
    · intro b _; rw [if_neg (by omega)]
    · intro b _; simp only [setAt]; by_cases e : b = a
      · rw [if_pos (by omega), if_pos e]
      · rw [if_neg (by omega), if_neg e]
    · intro b _; rw [if_neg (by omega)]
    · rw [if_neg (by omega)]
  · exact (h.done.upd u fun g hg e => p7 a ha g hg e).store hc.obj (by decide)
  · exact fun b hb => ((h.fil b hb).upd u fun g hg e => p10 b a hb ha g hg e).store hc.obj (by decide)
  · intro b hb
    simp only [setAt]
    by_cases e : b = a
    · simp only [if_pos e]; exact r.store hc.obj (by decide)
    · simp only [if_neg e]
      exact ((h.que b hb).upd u fun g hg e2 => h.queApart b a hb ha e g hg e2).store hc.obj (by decide)
  · exact (h.wait.upd u fun g hg e => p9 a ha g hg e).store hc.obj (by decide)
  · exact h.filApart
  · intro b c hb hc' hne
    simp only [setAt]
    by_cases e : b = a
    · rw [if_pos e, if_neg (by omega)]
      exact f.apart (h.queApart a c ha hc' (by omega)) (fun g hg => (h.que c hc').lt hg)
    · by_cases e2 : c = a
      · rw [if_neg e, if_pos e2]
        exact (f.apart (h.queApart a b ha hb (by omega)) (fun g hg => (h.que b hb).lt hg)).symm
      · rw [if_neg e, if_neg e2]; exact h.queApart b c hb hc' hne
  · exact (u.mono fun k hk => .inr (.inr (.inr ⟨a, ha, .inr hk⟩))).setCell (p := ⟨B, 4 + a * 3 + 1, none⟩) (fun _ => .inl rfl) v
  · rintro k (rfl | hk | hk | ⟨b, hb, hk | hk⟩)
    · exact .inl (.inl rfl)
    · exact .inl (.inr (.inl hk))
    · exact .inl (.inr (.inr (.inl hk)))
    · exact .inl (.inr (.inr (.inr ⟨b, hb, .inl hk⟩)))
    · simp only [setAt] at hk
      by_cases e : b = a
      · rw [if_pos e] at hk
        rcases f k hk with o | o
        · exact .inl (.inr (.inr (.inr ⟨a, ha, .inr o⟩)))
        · exact .inr o
      · rw [if_neg e] at hk
        exact .inl (.inr (.inr (.inr ⟨b, hb, .inr hk⟩)))

theorem Rep.setDone {w w1 : World} {B : Nat} {x : RefV} {S : RefS} (h : Rep w B x S) {v : Value} {l : List OpD}
    (u : Upd (fun k => x.doneV.ownBlock = some k) w w1) (r : Row w1 86 6 v l.length (l.flatMap opCells)) (f : Fresh w x.doneV v) :
    RefStep w B x (w1.setCell ⟨B, 1, none⟩ v) { S with done := l } := by
  obtain ⟨p1, p2, p3, p4, p5, p6, p7, p8, p9, p10⟩ := h.apart
  have hc := h.cells.upd u (fun e => p1 B e rfl)
  refine ⟨{ x with doneV := v }, ⟨?_, ?_, ?_, ?_, ?_, h.filApart, h.queApart⟩, ?_, ?_⟩
  · refine hc.store 1 v hc.done ?_ ?_ ?_ ?_ ?_ ?_ ?_ ?_
    · rw [if_neg (by omega)]
    · rw [if_pos rfl]
    · rw [if_neg (by omega)]
    · rw [if_neg (by omega)]
    · intro b _; rw [if_neg (by omega)]
    · intro b _; rw [if_neg (by omega)]
    · intro b _; rw [if_neg (by omega)]
    · rw [if_neg (by omega)]
  · exact r.store hc.obj (by decide)
  · exact fun b hb => ((h.fil b hb).upd u fun g hg e => p6 b hb g e hg).store hc.obj (by decide)
  · exact fun b hb => ((h.que b hb).upd u fun g hg e => p7 b hb g e hg).store hc.obj (by decide)
  · exact (h.wait.upd u fun g hg e => p5 g e hg).store hc.obj (by decide)
  · exact (u.mono fun k hk => .inr (.inl hk)).setCell (p := ⟨B, 1, none⟩) (fun _ => .inl rfl) v
  · rintro k (rfl | hk | hk | ⟨b, hb, hk | hk⟩)
    · exact .inl (.inl rfl)
    · rcases f k hk with o | o
      · exact .inl (.inr (.inl o))
      · exact .inr o
    · exact .inl (.inr (.inr (.inl hk)))
    · exact .inl (.inr (.inr (.inr ⟨b, hb, .inl hk⟩)))
    · exact .inl (.inr (.inr (.inr ⟨b, hb, .inr hk⟩)))

theorem Rep.setWait {w w1 : World} {B : Nat} {x : RefV} {S : RefS} (h : Rep w B x S) {v : Value} {l : List WaitD}
    (u : Upd (fun k => x.waitV.ownBlock = some k) w w1) (r : Row w1 80 5 v l.length (l.flatMap waitCells)) (f : Fresh w x.waitV v) :
    RefStep w B x (w1.setCell ⟨B, 28, none⟩ v) { S with wait := l } := by
  obtain ⟨p1, p2, p3, p4, p5, p6, p7, p8, p9, p10⟩ := h.apart
  have hc := h.cells.upd u (fun e => p2 B e rfl)
  refine ⟨{ x with waitV := v }, ⟨?_, ?_, ?_, ?_, ?_, h.filApart, h.queApart⟩, ?_, ?_⟩
  · refine hc.store 28 v hc.wait ?_ ?_ ?_ ?_ ?_ ?_ ?_ ?_
    · rw [if_neg (by omega)]
    · rw [if_neg (by omega)]
    · rw [if_neg (by omega)]
    · rw [if_neg (by omega)]
    · intro b _; rw [if_neg (by omega)]
    · intro b _; rw [if_neg (by omega)]
    · intro b _; rw [if_neg (by omega)]
    · rw [if_pos rfl]
  · exact (h.done.upd u fun g hg e => p5 g hg e).store hc.obj (by decide)
  · exact fun b hb => ((h.fil b hb).upd u fun g hg e => p8 b hb g e hg).store hc.obj (by decide)
  · exact fun b hb => ((h.que b hb).upd u fun g hg e => p9 b hb g e hg).store hc.obj (by decide)
  · exact r.store hc.obj (by decide)
  · exact (u.mono fun k hk => .inr (.inr (.inl hk))).setCell (p := ⟨B, 28, none⟩) (fun _ => .inl rfl) v
  · rintro k (rfl | hk | hk | ⟨b, hb, hk | hk⟩)
    · exact .inl (.inl rfl)
    · exact .inl (.inr (.inl hk))
    · rcases f k hk with o | o
      · exact .inl (.inr (.inr (.inl o)))
      · exact .inr o
    · exact .inl (.inr (.inr (.inr ⟨b, hb, .inl hk⟩)))
    · exact .inl (.inr (.inr (.inr ⟨b, hb, .inr hk⟩)))

/-- A number of it is turned. -/
theorem Rep.setNum {w : World} {B : Nat} {x : RefV} {S S1 : RefS} (h : Rep w B x S) (o : Nat) (n : Int) (hc : RefAt (w.setCell ⟨B, o, none⟩ (.int .i64 n)) B x S1)
    (e1 : S1.done = S.done) (e2 : S1.fil = S.fil) (e3 : S1.que = S.que) (e4 : S1.wait = S.wait) : RefStep w B x (w.setCell ⟨B, o, none⟩ (.int .i64 n)) S1 :=
  ⟨x, ⟨hc, by rw [e1]; exact h.done.store h.cells.obj (by decide), fun a ha => by rw [e2]; exact (h.fil a ha).store h.cells.obj (by decide), fun a ha => by rw [e3]; exact (h.que a ha).store h.cells.obj (by decide),
    by rw [e4]; exact h.wait.store h.cells.obj (by decide), h.filApart, h.queApart⟩, (Upd.refl _ _).setCell (p := ⟨B, o, none⟩) (fun _ => .inl rfl) _, fun _ hk => .inl hk⟩

theorem Rep.setTime {w : World} {B : Nat} {x : RefV} {S : RefS} (h : Rep w B x S) (n : Int) : RefStep w B x (w.setCell ⟨B, 2, none⟩ (.int .i64 n)) { S with time := n } :=
  h.setNum 2 n (h.cells.store 2 _ h.cells.time (by rw [if_neg (by omega)]) (by rw [if_neg (by omega)]) (by rw [if_pos rfl]) (by rw [if_neg (by omega)]) (fun b _ => by rw [if_neg (by omega)]) (fun b _ => by rw [if_neg (by omega)]) (fun b _ => by rw [if_neg (by omega)]) (by rw [if_neg (by omega)])) rfl rfl rfl rfl
theorem Rep.setPub {w : World} {B : Nat} {x : RefV} {S : RefS} (h : Rep w B x S) (n : Int) : RefStep w B x (w.setCell ⟨B, 3, none⟩ (.int .i64 n)) { S with pub := n } :=
  h.setNum 3 n (h.cells.store 3 _ h.cells.pub (by rw [if_neg (by omega)]) (by rw [if_neg (by omega)]) (by rw [if_neg (by omega)]) (by rw [if_pos rfl]) (fun b _ => by rw [if_neg (by omega)]) (fun b _ => by rw [if_neg (by omega)]) (fun b _ => by rw [if_neg (by omega)]) (by rw [if_neg (by omega)])) rfl rfl rfl rfl
theorem Rep.setRoom {w : World} {B : Nat} {x : RefV} {S : RefS} (h : Rep w B x S) (n : Int) : RefStep w B x (w.setCell ⟨B, 0, none⟩ (.int .i64 n)) { S with room := n } :=
  h.setNum 0 n (h.cells.store 0 _ h.cells.room (by rw [if_pos rfl]) (by rw [if_neg (by omega)]) (by rw [if_neg (by omega)]) (by rw [if_neg (by omega)]) (fun b _ => by rw [if_neg (by omega)]) (fun b _ => by rw [if_neg (by omega)]) (fun b _ => by rw [if_neg (by omega)]) (by rw [if_neg (by omega)])) rfl rfl rfl rfl
theorem Rep.setLost {w : World} {B : Nat} {x : RefV} {S : RefS} (h : Rep w B x S) {a : Nat} (ha : a < 8) (n : Int) : RefStep w B x (w.setCell ⟨B, 4 + a * 3 + 2, none⟩ (.int .i64 n)) { S with lost := setAt S.lost a n } :=
  h.setNum _ n (h.cells.store _ _ (h.cells.lost a ha) (by rw [if_neg (by omega)]) (by rw [if_neg (by omega)]) (by rw [if_neg (by omega)]) (by rw [if_neg (by omega)]) (fun b _ => by rw [if_neg (by omega)]) (fun b _ => by rw [if_neg (by omega)])
    (fun b _ => by
      simp only [setAt]
      by_cases e : b = a
      · rw [if_pos (by omega), if_pos e]
      · rw [if_neg (by omega), if_neg e]) (by rw [if_neg (by omega)])) rfl rfl rfl rfl
end Go.Proofs.YtmjdndhfmfjbiaaGreat

namespace Go.Proofs.YtmjdndhfmfjbiaaGreat
open Go.RowKit

theorem infoWait : (Tryz.prog.info? 80).map (fun i => (i.zero, i.size, i.bytes)) = some (some (.agg #[.int .i64 0, .string ⟨#[]⟩, .int .i64 0, .int .i64 0, .int .i64 0]), 5, 48) := by kernel_rfl
theorem infoSent : (Tryz.prog.info? 100).map (fun i => (i.zero, i.size, i.bytes)) = some (some (.agg #[.int .i64 0, .string ⟨#[]⟩, .int .i64 0, .int .i64 0, .int .i64 0]), 5, 48) := by kernel_rfl
theorem infoOp : (Tryz.prog.info? 86).map (fun i => (i.zero, i.size, i.bytes)) = some (some (.agg #[.int .i64 0, .int .i64 0, .int .i64 0, .int .i64 0, .int .i64 0, .string ⟨#[]⟩]), 6, 56) := by kernel_rfl

/-- The cells of a new block. -/
theorem cells_new (w : World) (cs : List Value) (t : TypeId) : ∀ j u, cs[j]? = some u → (w.alloc (.cells cs.toArray t)).cell? ((⟨w.heap.size, 0, none⟩ : Addr).add j) = some u := by
  intro j u hj
  rw [Addr.add_lit, Nat.zero_add, cell_of_row _ w.heap.size j _ _ (0, 0) (heap_alloc_new w _)]
  simpa using hj

theorem wait_one (x : WaitD) : ∀ u ∈ waitCells x, u.oneCell' = true := by
  intro u hu
  simp only [waitCells, List.mem_cons, List.not_mem_nil, or_false] at hu
  rcases hu with rfl | rfl | rfl | rfl | rfl <;> rfl
theorem sent_one (x : SentD) : ∀ u ∈ sentCells x, u.oneCell' = true := by
  intro u hu
  simp only [sentCells, List.mem_cons, List.not_mem_nil, or_false] at hu
  rcases hu with rfl | rfl | rfl | rfl | rfl <;> rfl
theorem op_one (x : OpD) : ∀ u ∈ opCells x, u.oneCell' = true := by
  intro u hu
  simp only [opCells, List.mem_cons, List.not_mem_nil, or_false] at hu
  rcases hu with rfl | rfl | rfl | rfl | rfl | rfl <;> rfl

/-- What a loop that keeps some of a list holds behind k of them. -/
abbrev kept {α : Type} (p : α → Bool) (l : List α) (k : Nat) : List α := (l.take k).filter p
theorem kept_hit {α : Type} {p : α → Bool} {l : List α} {k : Nat} {x : α} (hx : l[k]? = some x) (hp : p x = true) : kept p l (k + 1) = kept p l k ++ [x] := by
  simp [kept, List.take_add_one, hx, List.filter_append, hp]
theorem kept_miss {α : Type} {p : α → Bool} {l : List α} {k : Nat} {x : α} (hx : l[k]? = some x) (hp : p x = false) : kept p l (k + 1) = kept p l k := by
  simp [kept, List.take_add_one, hx, List.filter_append, hp]
theorem kept_le {α : Type} (p : α → Bool) (l : List α) (k : Nat) : (kept p l k).length ≤ k := Nat.le_trans (List.length_filter_le _ _) (List.length_take_le _ _)
theorem kept_end {α : Type} (p : α → Bool) (l : List α) (k : Nat) (h : l.length ≤ k) : kept p l k = l.filter p := by simp [kept, List.take_of_length_le h]

/-- One thing more behind a row that grows in new memory. -/
theorem grow_row {α : Type} {f : α → List Value} {w wr w1 : World} {e : TypeId} {size : Nat} {v v1 : Value} {l : List α} {x : α} {o : Obj}
    (hown : wr.ownsRow w.heap.size e size v l.length (l.flatMap f)) (hb : Below w.heap.size w wr)
    (hown1 : w1.ownsRow w.heap.size e size v1 (l.length + 1) (l.flatMap f ++ f x)) (hg : (wr.alloc o).grownBy w1 v.ownBlock) :
    w1.ownsRow w.heap.size e size v1 (l ++ [x]).length ((l ++ [x]).flatMap f) ∧ Below w.heap.size w w1 :=
  ⟨by simpa using hown1, (hb.alloc hb.size o).grown hg (by have := hb.size; simp; omega) (fun j hj => (hown.lt j hj).1)⟩

theorem row_of_own {w wr : World} {e : TypeId} {size : Nat} {v : Value} {n : Nat} {xs : List Value} (h : wr.ownsRow w.heap.size e size v n xs) (old : Value) : Row wr e size v n xs ∧ Fresh w old v := by
  refine ⟨⟨h.1, ?_⟩, fun g hg => .inr (h.lt g hg).1⟩
  rcases h.2 with a | ⟨g, cap, cur, hv, hb, rest⟩
  · exact .inl a
  · exact .inr ⟨g, cap, cur, hv, Nat.zero_le _, rest⟩

set_option maxRecDepth 100000 in
set_option maxHeartbeats 1000000 in
theorem refGone (B : Nat) (x : RefV) (S : RefS) (n : Int) (w : World) (hr : Rep w B x S) (hlen : S.wait.length ≤ 1048576) :
    Calls Tryz.prog 103 #[.pointer (some ⟨B, 0, none⟩), .int .i64 n] w fun e w' =>
      e = .returned (.tuple #[]) ∧ RefStep w B x w' { S with wait := S.wait.filter (fun m => m.number != n) } := by
  obtain ⟨i0, hi, hz0, hz1, hz2⟩ := info_parts infoWait
  obtain ⟨ao, c, hv, h1, h2, h⟩ := hr.wait.form
  unfold maxLen at h2
  have hw := hr.cells.wait
  have hB := hr.cells.lt
  have hfree := hr.cells.free 28
  rw [hv] at hw
  have H : Hid (CellsAt w ao (S.wait.flatMap waitCells)) := h
  have HR : Hid (Rep w B x S) := hr
  clear h hr hv
  generalize hws : S.wait = ws at *
  clear hws
  go_enter Tryz.func103, Tryz.ntmps103
  go_wp2
  go_loopw [4, 5] (fun v i wr => ∃ k : Nat, k ≤ ws.length ∧ i = .int .i64 k ∧ wr.ownsRow w.heap.size 80 5 v (kept (fun m : WaitD => m.number != n) ws k).length ((kept (fun m : WaitD => m.number != n) ws k).flatMap waitCells) ∧ Below w.heap.size w wr) (fun _ i _ => ws.length - (intOf i).toNat)
  case atStart => exact ⟨0, Nat.zero_le _, rfl, World.ownsRow_nil _ _ _ _, Below.refl _ _⟩
  case round =>
    obtain ⟨k, hk, rfl, hown, hbr⟩ := hrel
    have hwr : wr.cell? ⟨B, 28, none⟩ = some (.slice ao ws.length c) := cell_later hbr hw
    have hfr : wr.frozen? ⟨B, 28, none⟩ = false := (hbr.frozen hB).trans hfree
    have hkl := kept_le (fun m : WaitD => m.number != n) ws k
    have hsz := hbr.size
    by_cases hlt : k < ws.length
    · obtain ⟨y, hy⟩ : ∃ y, ws[k]? = some y := ⟨_, List.getElem?_eq_getElem hlt⟩
      obtain ⟨g, rfl, hg, c0, c1, c2, c3, c4⟩ := wait_cells (H.out.below hbr) hy
      cases hne : (y.number != n)
      · have HK : Hid (kept (fun m : WaitD => m.number != n) ws (k + 1) = kept (fun m : WaitD => m.number != n) ws k) := kept_miss hy hne
        clear hy
        go_wp2
        go_roundw
        case rel => exact ⟨k + 1, by omega, by go_num, by rw [HK.out]; exact hown, hbr⟩
        case measure => simp [intOf]; omega
      · have HK : Hid (kept (fun m : WaitD => m.number != n) ws (k + 1) = kept (fun m : WaitD => m.number != n) ws k ++ [y]) := kept_hit hy hne
        clear hy
        go_wp2_with (first | (at_builtin; refine wpList_append_own _ rfl _ _ 56 rfl w.heap.size 80 i0 _ 5 48 Tryz.underlying56 hi hz0 hz1 hz2 rfl (by decide) _ _ _ rfl (hown.alloc _) ⟨wr.heap.size, 0, none⟩ 1 1 (waitCells y) rfl rfl (cells_new _ _ _) (wait_one _) (by unfold maxLen; omega) (by omega) (by simp; omega) ?_))
        intro v' w1 hown' hgrow _
        have R := grow_row hown hbr hown' hgrow
        clear hown' hgrow hown
        go_wp2
        go_roundw
        case rel => exact ⟨k + 1, by omega, by go_num, by rw [HK.out]; exact R.1, R.2⟩
        case measure => simp [intOf]; omega
    · have HK : Hid (kept (fun m : WaitD => m.number != n) ws k = ws.filter (fun m : WaitD => m.number != n)) := kept_end _ _ _ (by omega)
      obtain ⟨av, cv, rfl, -, -, -⟩ := (row_of_own hown x.waitV).1.form
      go_wp2
      go_end0
      refine ⟨rfl, ?_⟩
      rw [← HK.out]
      have R := row_of_own hown x.waitV
      exact HR.out.setWait (Upd.of_below hbr) R.1 R.2
end Go.Proofs.YtmjdndhfmfjbiaaGreat

namespace Go.Proofs.YtmjdndhfmfjbiaaGreat
open Go.RowKit

set_option maxRecDepth 100000 in
set_option maxHeartbeats 1000000 in
theorem refAcked (B : Nat) (x : RefV) (S : RefS) (a : Nat) (n : Int) (w : World) (hr : Rep w B x S) (ha : a < 8) (hlen : (S.que a).length ≤ 1048576) :
    Calls Tryz.prog 105 #[.pointer (some ⟨B, 0, none⟩), .int .i64 (a : Int), .int .i64 n] w fun e w' =>
      e = .returned (.tuple #[]) ∧ RefStep w B x w' { S with que := setAt S.que a ((S.que a).filter (fun m => m.number != n)) } := by
  obtain ⟨i0, hi, hz0, hz1, hz2⟩ := info_parts infoSent
  obtain ⟨ao, c, hv, h1, h2, h⟩ := (hr.que a ha).form
  unfold maxLen at h2
  have hw := hr.cells.que a ha
  have hB := hr.cells.lt
  have hfree := hr.cells.free (4 + a * 3 + 1)
  rw [hv] at hw
  have H : Hid (CellsAt w ao ((S.que a).flatMap sentCells)) := h
  have HR : Hid (Rep w B x S) := hr
  clear h hr hv
  generalize hws : S.que a = ws at *
  clear hws
  go_enter Tryz.func105, Tryz.ntmps105
  go_wp2
  go_loopw [6, 7] (fun v i wr => ∃ k : Nat, k ≤ ws.length ∧ i = .int .i64 k ∧ wr.ownsRow w.heap.size 100 5 v (kept (fun m : SentD => m.number != n) ws k).length ((kept (fun m : SentD => m.number != n) ws k).flatMap sentCells) ∧ Below w.heap.size w wr) (fun _ i _ => ws.length - (intOf i).toNat)
  case atStart => exact ⟨0, Nat.zero_le _, rfl, World.ownsRow_nil _ _ _ _, Below.refl _ _⟩
  case round =>
    obtain ⟨k, hk, rfl, hown, hbr⟩ := hrel
    have hwr : wr.cell? ⟨B, 4 + a * 3 + 1, none⟩ = some (.slice ao ws.length c) := cell_later hbr hw
    have hfr : wr.frozen? ⟨B, 4 + a * 3 + 1, none⟩ = false := (hbr.frozen hB).trans hfree
    have hkl := kept_le (fun m : SentD => m.number != n) ws k
    have hsz := hbr.size
    by_cases hlt : k < ws.length
    · obtain ⟨y, hy⟩ : ∃ y, ws[k]? = some y := ⟨_, List.getElem?_eq_getElem hlt⟩
      obtain ⟨g, rfl, hg, c0, c1, c2, c3, c4⟩ := sent_cells (H.out.below hbr) hy
      cases hne : (y.number != n)
      · have HK : Hid (kept (fun m : SentD => m.number != n) ws (k + 1) = kept (fun m : SentD => m.number != n) ws k) := kept_miss hy hne
        clear hy
        go_wp2
        go_roundw
        case rel => exact ⟨k + 1, by omega, by go_num, by rw [HK.out]; exact hown, hbr⟩
        case measure => simp [intOf]; omega
      · have HK : Hid (kept (fun m : SentD => m.number != n) ws (k + 1) = kept (fun m : SentD => m.number != n) ws k ++ [y]) := kept_hit hy hne
        clear hy
        go_wp2_with (first | (at_builtin; refine wpList_append_own _ rfl _ _ 61 rfl w.heap.size 100 i0 _ 5 48 Tryz.underlying61 hi hz0 hz1 hz2 rfl (by decide) _ _ _ rfl (hown.alloc _) ⟨wr.heap.size, 0, none⟩ 1 1 (sentCells y) rfl rfl (cells_new _ _ _) (sent_one _) (by unfold maxLen; omega) (by omega) (by simp; omega) ?_))
        intro v' w1 hown' hgrow _
        have R := grow_row hown hbr hown' hgrow
        clear hown' hgrow hown
        go_wp2
        go_roundw
        case rel => exact ⟨k + 1, by omega, by go_num, by rw [HK.out]; exact R.1, R.2⟩
        case measure => simp [intOf]; omega
    · have HK : Hid (kept (fun m : SentD => m.number != n) ws k = ws.filter (fun m : SentD => m.number != n)) := kept_end _ _ _ (by omega)
      obtain ⟨av, cv, rfl, -, -, -⟩ := (row_of_own hown (x.queV a)).1.form
      go_wp2
      go_end0
      refine ⟨rfl, ?_⟩
      rw [← HK.out]
      have R := row_of_own hown (x.queV a)
      exact HR.out.setQue ha (Upd.of_below hbr) R.1 R.2
end Go.Proofs.YtmjdndhfmfjbiaaGreat
