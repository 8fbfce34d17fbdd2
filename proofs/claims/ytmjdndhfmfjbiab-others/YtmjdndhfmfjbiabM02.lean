import Derived.Test.YtmjdndhfmfjbiabM01
import Derived.Deep.DrawnRows
import Derived.Deep.RegionWith
import Derived.Laws.IdiomStrings
import Derived.Deep.Slices
import Derived.OpenShut
import Derived.ProofKit
import Derived.JoinedCond
namespace Go.Proofs.Ytmjdndhfmfjbiab
open Go.RowKit

/-- The same cells, so often. -/
def rep (f : List Value) (n : Nat) : List Value := (List.replicate n f).flatten
theorem rep_len (f : List Value) (n : Nat) : (rep f n).length = n * f.length := by simp [rep]
theorem rep_add (f : List Value) (n m : Nat) : rep f (n + m) = rep f n ++ rep f m := by simp only [rep, ← List.replicate_append_replicate, List.flatten_append]
theorem rep_one (f : List Value) : rep f 1 = f := by simp [rep]
theorem rep_two (f : List Value) : rep f 2 = f ++ f := by simp [rep, List.replicate]
theorem rep_three (f : List Value) : rep f 3 = f ++ (f ++ f) := by simp [rep, List.replicate]
theorem rep_take (f : List Value) {n m : Nat} (h : n ≤ m) : (rep f m).take (n * f.length) = rep f n := by
  obtain ⟨d, rfl⟩ := Nat.exists_eq_add_of_le h
  rw [rep_add, ← rep_len f n]
  exact List.take_left
theorem rep_mem {f : List Value} {n : Nat} {u : Value} (h : u ∈ rep f n) : u ∈ f := by
  simp only [rep, List.mem_flatten, List.mem_replicate] at h
  obtain ⟨l, ⟨-, rfl⟩, h⟩ := h
  exact h
theorem rep_flat {α : Type} (g : α → List Value) (x : α) (n : Nat) : (List.replicate n x).flatMap g = rep (g x) n := by simp [rep, List.flatMap, List.map_replicate]
theorem rep_sing (v : Value) (n : Nat) : List.replicate n v = rep [v] n := by
  induction n with
  | zero => rfl
  | succ n ih => rw [Nat.add_comm, rep_add, rep_one, ← ih, Nat.add_comm, List.replicate_succ]; rfl

theorem CellsAt.fore {w : World} {ao : Option Addr} {xs ys : List Value} (h : CellsAt w ao (xs ++ ys)) : CellsAt w ao xs := fun j u hj => h j u (by
  obtain ⟨hl, -⟩ := List.getElem?_eq_some_iff.1 hj
  rw [List.getElem?_append_left hl]; exact hj)

/-- The head of a row is a row. -/
theorem Row.head {w : World} {e : TypeId} {size N cap n : Nat} {ao : Option Addr} {xs : List Value} (h : Row w e size (.slice ao N cap) N xs) (hn : n ≤ N) : Row w e size (.slice ao n cap) n (xs.take (n * size)) := by
  refine ⟨by rw [List.length_take, h.1]; exact Nat.min_eq_left (Nat.mul_le_mul_right _ hn), ?_⟩
  rcases h.2 with ⟨hv, rfl⟩ | ⟨g, cap1, cur, hv, hb, hg, hc, hm, hs, ht⟩
  · simp only [Value.slice.injEq] at hv
    obtain ⟨rfl, -, rfl⟩ := hv
    obtain rfl : n = 0 := by omega
    exact .inl ⟨rfl, rfl⟩
  · simp only [Value.slice.injEq, true_and] at hv
    obtain ⟨rfl, rfl⟩ := hv
    refine .inr ⟨g, cap, cur, rfl, hb, hg, by omega, hm, hs, ?_⟩
    rw [← ht, List.take_take, Nat.min_eq_left (Nat.mul_le_mul_right _ hn)]

/-- So many things more behind a row: in its own room, or in a new one. -/
theorem app_more (t e : TypeId) (z : Value) (size bytes : Nat) (hu : Try.prog.underlying t = some (.slice e)) (hinfo : (Try.prog.info? e).map (fun i => (i.zero, i.size, i.bytes)) = some (some z, size, bytes)) (hzs : z.cells.size = size) (hsz : 0 < size)
    (W : World) (ao : Option Addr) (n cap : Nat) (xs news : List Value) (hrow : Row W e size (.slice ao n cap) n xs) (a : Addr) (m c : Nat) (hm : 0 < m) (hl : news.length = m * size) (hnews : ∀ j u, news[j]? = some u → W.cell? (a.add j) = some u) (h1 : ∀ u ∈ news, u.oneCell' = true)
    (hn : n + m ≤ 1099511627776) (hb : (n + m) * bytes ≤ 140737488355328) :
    ∃ a1 c1 w1, (appSem #[t, t] t #[.slice ao n cap, .slice (some a) m c]).run Try.prog W = .ok (.slice a1 (n + m) c1) w1 ∧
      Row w1 e size (.slice a1 (n + m) c1) (n + m) (xs ++ news) ∧
      ((a1 = ao ∧ c1 = cap ∧ Upd (fun k => (Value.slice ao n cap).ownBlock = some k) W w1) ∨ (a1 = some ⟨W.heap.size, 0, none⟩ ∧ Below W.heap.size W w1)) := by
  obtain ⟨i, hi, hz, rfl, rfl⟩ := info_parts hinfo
  have h63 : n + m ≤ maxLen := by unfold maxLen; omega
  have hlen : (xs ++ news).length = (n + m) * i.size := by rw [List.length_append, hrow.1, hl, Nat.add_mul]
  have grown : ∀ (old : Nat), old < n + m → 
      Row (W.drew.alloc (.cells (xs.toArray ++ news.toArray ++ Builtin.zeroCells z.cells (grownCap W (n + m) old e - (n + m))) e)) e i.size
        (.slice (some ⟨W.heap.size, 0, none⟩) (n + m) (grownCap W (n + m) old e)) (n + m) (xs ++ news) ∧
      Below W.heap.size W (W.drew.alloc (.cells (xs.toArray ++ news.toArray ++ Builtin.zeroCells z.cells (grownCap W (n + m) old e - (n + m))) e)) := by
    intro old ho
    have hge := grownCap_ge W (n + m) old e
    have hcm : grownCap W (n + m) old e ≤ maxLen := grownCap_le_maxLen W (n + m) old e h63
    refine ⟨⟨hlen, .inr ⟨W.heap.size, _, _, rfl, Nat.zero_le _, heap_alloc_new W.drew _, hge, hcm, ?_, ?_⟩⟩, ⟨rfl, rfl, rfl, by simp, fun k hk => heap_alloc_old W.drew _ hk⟩⟩
    · simp only [Array.size_append, List.size_toArray, size_zeroCells, hzs, hrow.1, hl, ← Nat.add_mul, Nat.add_sub_cancel' hge]
    · simp only [Array.toList_append, List.append_assoc]
      rw [← List.append_assoc, ← hlen]
      exact List.take_left
  rcases hrow.2 with ⟨hv, rfl⟩ | ⟨g, cap1, cur, hv, hbg, hg, hnc, hcm, hcs, htake⟩
  · simp only [Value.slice.injEq] at hv
    obtain ⟨rfl, -, rfl⟩ := hv
    have hx : xs = [] := List.eq_nil_of_length_eq_zero (by simpa using hrow.1)
    subst hx
    have hr := run_append_nil (P := Try.prog) W t t e i z hu hi hz a m c news hl hnews (by omega) (by omega) (by have hb := hb; simp only [Nat.zero_add] at hb; omega)
    have hgr := grown 0 (by omega)
    simp only [Nat.zero_add, List.nil_append, Array.empty_append] at hgr ⊢
    exact ⟨_, _, _, hr, hgr.1, .inr ⟨rfl, hgr.2⟩⟩
  · simp only [Value.slice.injEq, true_and] at hv
    obtain ⟨rfl, rfl⟩ := hv
    by_cases hroom : n + m ≤ cap
    · have hfit : n * i.size + news.length ≤ cur.size := by rw [hl, hcs, ← Nat.add_mul]; exact Nat.mul_le_mul_right _ hroom
      have hr := run_append_room (P := Try.prog) W t t e i hu hi g n cap cur hg a m c news hl hnews h1 hroom hfit
      refine ⟨_, _, _, hr, ⟨hlen, .inr ⟨g, cap, _, rfl, hbg, setRow_heap W g cur _ e _ hg, hroom, hcm, ?_, ?_⟩⟩, .inl ⟨rfl, rfl, ⟨rfl, rfl, rfl, by simp, fun k _ hk => setRow_other W g k _ (fun e => hk (by simp [Value.ownBlock, e]))⟩⟩⟩
      · simp only [List.size_toArray, List.length_append, List.length_take, List.length_drop, Array.length_toList]
        omega
      · rw [htake, ← hlen]
        exact List.take_left
    · have holds : ∀ j u, xs[j]? = some u → W.cell? ((⟨g, 0, none⟩ : Addr).add j) = some u := hrow.cells (g := g) rfl
      have hr := run_append_grow (P := Try.prog) W t t e i z hu hi hz ⟨g, 0, none⟩ n cap xs hrow.1 holds a m c news hl hnews (by omega) (by omega) (growslice_fits (by omega) hb)
      have hgr := grown cap (by omega)
      exact ⟨_, _, _, hr, hgr.1, .inr ⟨rfl, hgr.2⟩⟩

theorem Row.alloc {w : World} {e : TypeId} {size : Nat} {v : Value} {n : Nat} {xs : List Value} (h : Row w e size v n xs) (o : Obj) : Row (w.alloc o) e size v n xs := World.ownsRow.alloc h o

/-- A list and another that has one of its names: in the same room, or apart. -/
def Kin (ao : Option Addr) (cap : Nat) (u : Value) : Prop := (∃ n1, u = .slice ao n1 cap) ∨ ∀ g n, (Value.slice ao n cap).ownBlock = some g → u.ownBlock ≠ some g

theorem app_tail (t e : TypeId) (z : Value) (size bytes : Nat) (hu : Try.prog.underlying t = some (.slice e)) (hinfo : (Try.prog.info? e).map (fun i => (i.zero, i.size, i.bytes)) = some (some z, size, bytes)) (hzs : z.cells.size = size) (hsz : 0 < size)
    (f : List Value) (hf : f.length = size) (h1 : ∀ u ∈ f, u.oneCell' = true)
    (W : World) (ao : Option Addr) (n cap : Nat) (hrow : Row W e size (.slice ao n cap) n (rep f n)) (a : Addr) (m c : Nat) (hm : 0 < m) (hnews : ∀ j u, (rep f m)[j]? = some u → W.cell? (a.add j) = some u)
    (hn : n + m ≤ 1099511627776) (hb : (n + m) * bytes ≤ 140737488355328) :
    ∃ a1 c1 w1, (appSem #[t, t] t #[.slice ao n cap, .slice (some a) m c]).run Try.prog W = .ok (.slice a1 (n + m) c1) w1 ∧
      Row w1 e size (.slice a1 (n + m) c1) (n + m) (rep f (n + m)) ∧ Row w1 e size (.slice ao n cap) n (rep f n) ∧ Kin ao cap (.slice a1 (n + m) c1) ∧
      Upd (fun k => (Value.slice ao n cap).ownBlock = some k) W w1 ∧ Fresh W (.slice ao n cap) (.slice a1 (n + m) c1) ∧
      ∀ u n1, n1 ≤ n + m → Kin ao cap u → Row W e size u n1 (rep f n1) → Row w1 e size u n1 (rep f n1) := by
  obtain ⟨a1, c1, w1, hrun, hr1, hcase⟩ := app_more t e z size bytes hu hinfo hzs hsz W ao n cap (rep f n) (rep f m) hrow a m c hm (by rw [rep_len, hf]) hnews (fun u hu => h1 u (rep_mem hu)) hn hb
  rw [← rep_add] at hr1
  refine ⟨a1, c1, w1, hrun, hr1, ?_⟩
  rcases hcase with ⟨rfl, rfl, hup⟩ | ⟨rfl, hbel⟩
  · have key : ∀ n1, n1 ≤ n + m → Row w1 e size (.slice a1 n1 c1) n1 (rep f n1) := fun n1 h => by
      have := hr1.head h
      rwa [← hf, rep_take f h, hf] at this
    refine ⟨key n (by omega), .inl ⟨_, rfl⟩, hup, fun g hg => .inl (by cases a1 with | none => simp [Value.ownBlock] at hg | some a0 => simpa [Value.ownBlock] using hg), fun u n1 h hk hr => ?_⟩
    rcases hk with ⟨n2, rfl⟩ | hk
    · obtain ⟨b2, c2, hv, -, -, -⟩ := hr.form
      simp only [Value.slice.injEq] at hv
      obtain ⟨-, rfl, -⟩ := hv
      exact key n2 h
    · exact hr.upd hup (fun g hg hs => hk g n hs hg)
  · refine ⟨hrow.below hbel, .inr (fun g n' hg => ?_), Upd.of_below hbel, fun g hg => ?_, fun u n1 h hk hr => hr.below hbel⟩
    · have hlt := hrow.lt (g := g) (by cases ao with | none => simp [Value.ownBlock] at hg | some a0 => simpa [Value.ownBlock] using hg)
      simp only [Value.ownBlock, ne_eq, Option.some.injEq]
      omega
    · simp only [Value.ownBlock, Option.some.injEq] at hg
      exact .inr (by omega)

theorem below_of_upd {S : Nat → Prop} {w w1 : World} {B : Nat} (h : Upd S w w1) (hB : B ≤ w.heap.size) (hs : ∀ k, S k → B ≤ k) : Below B w w1 :=
  ⟨h.os, h.tape, h.output, h.size, fun k hk => h.block k (by omega) (fun hq => by have := hs k hq; omega)⟩

/-- One, two, three more behind a list, each from the list as it was. -/
theorem tails3 (t e : TypeId) (z : Value) (size bytes : Nat) (hu : Try.prog.underlying t = some (.slice e)) (hinfo : (Try.prog.info? e).map (fun i => (i.zero, i.size, i.bytes)) = some (some z, size, bytes)) (hzs : z.cells.size = size) (hsz : 0 < size) (hby : bytes ≤ 1024)
    (f : List Value) (hf : f.length = size) (h1 : ∀ u ∈ f, u.oneCell' = true)
    (W : World) (base : Nat) (ao : Option Addr) (n cap : Nat) (hrow : W.ownsRow base e size (.slice ao n cap) n (rep f n)) (hbase : base ≤ W.heap.size) (hn : n ≤ 1000000) :
    ∃ a1 c1 w1 a2 c2 w2 a3 c3 w3,
      (appSem #[t, t] t #[.slice ao n cap, .slice (some ⟨W.heap.size, 0, none⟩) 1 1]).run Try.prog (W.alloc (.cells f.toArray e)) = .ok (.slice a1 (n + 1) c1) w1 ∧
      (appSem #[t, t] t #[.slice ao n cap, .slice (some ⟨w1.heap.size, 0, none⟩) 2 2]).run Try.prog (w1.alloc (.cells (f ++ f).toArray e)) = .ok (.slice a2 (n + 2) c2) w2 ∧
      (appSem #[t, t] t #[.slice ao n cap, .slice (some ⟨w2.heap.size, 0, none⟩) 3 3]).run Try.prog (w2.alloc (.cells (f ++ (f ++ f)).toArray e)) = .ok (.slice a3 (n + 3) c3) w3 ∧
      Row w3 e size (.slice ao n cap) n (rep f n) ∧ Row w3 e size (.slice a1 (n + 1) c1) (n + 1) (rep f (n + 1)) ∧ Row w3 e size (.slice a2 (n + 2) c2) (n + 2) (rep f (n + 2)) ∧ Row w3 e size (.slice a3 (n + 3) c3) (n + 3) (rep f (n + 3)) ∧
      Below base W w3 ∧ (∀ g, (Value.slice ao n cap).ownBlock = some g → base ≤ g) ∧ (∀ g, (Value.slice a1 (n + 1) c1).ownBlock = some g → base ≤ g) ∧ (∀ g, (Value.slice a2 (n + 2) c2).ownBlock = some g → base ≤ g) ∧ (∀ g, (Value.slice a3 (n + 3) c3).ownBlock = some g → base ≤ g) ∧ Upd (fun k => (Value.slice ao n cap).ownBlock = some k) W w1 ∧ Upd (fun k => (Value.slice ao n cap).ownBlock = some k) W w2 := by
  have hA : ∀ g, (Value.slice ao n cap).ownBlock = some g → base ≤ g := fun g hg => (hrow.lt g hg).1
  have r0 : Row W e size (.slice ao n cap) n (rep f n) := own_mono hrow (Nat.zero_le _)
  have hb4 : ∀ m, m ≤ 3 → (n + m) * bytes ≤ 140737488355328 := fun m hm => Nat.le_trans (Nat.mul_le_mul_left _ hby) (by omega)
  obtain ⟨a1, c1, w1, x1, p1, q1, k1, u1, f1, g1⟩ := app_tail t e z size bytes hu hinfo hzs hsz f hf h1 (W.alloc (.cells f.toArray e)) ao n cap (r0.alloc _) ⟨W.heap.size, 0, none⟩ 1 1 (by omega) (by rw [rep_one]; exact cells_new _ _ _) (by omega) (hb4 1 (by omega))
  obtain ⟨a2, c2, w2, x2, p2, q2, k2, u2, f2, g2⟩ := app_tail t e z size bytes hu hinfo hzs hsz f hf h1 (w1.alloc (.cells (f ++ f).toArray e)) ao n cap (q1.alloc _) ⟨w1.heap.size, 0, none⟩ 2 2 (by omega) (by rw [rep_two]; exact cells_new _ _ _) (by omega) (hb4 2 (by omega))
  obtain ⟨a3, c3, w3, x3, p3, q3, k3, u3, f3, g3⟩ := app_tail t e z size bytes hu hinfo hzs hsz f hf h1 (w2.alloc (.cells (f ++ (f ++ f)).toArray e)) ao n cap (q2.alloc _) ⟨w2.heap.size, 0, none⟩ 3 3 (by omega) (by rw [rep_three]; exact cells_new _ _ _) (by omega) (hb4 3 (by omega))
  have s1 : W.heap.size ≤ w1.heap.size := by have := u1.size; simp at this; omega
  have s2 : w1.heap.size ≤ w2.heap.size := by have := u2.size; simp at this; omega
  have b1 : Below base W w1 := ((Below.refl base W).alloc hbase _).trans (below_of_upd u1 (by simp; omega) (fun k hk => hA k hk))
  have b2 : Below base w1 w2 := ((Below.refl base w1).alloc (by omega) _).trans (below_of_upd u2 (by simp; omega) (fun k hk => hA k hk))
  have b3 : Below base w2 w3 := ((Below.refl base w2).alloc (by omega) _).trans (below_of_upd u3 (by simp; omega) (fun k hk => hA k hk))
  refine ⟨a1, c1, w1, a2, c2, w2, a3, c3, w3, x1, x2, x3, q3, g3 _ _ (by omega) k1 (Row.alloc (g2 _ _ (by omega) k1 (Row.alloc p1 _)) _), g3 _ _ (by omega) k2 (Row.alloc p2 _), p3, (b1.trans b2).trans b3, hA, fun g hg => ?_, fun g hg => ?_, fun g hg => ?_, ((Upd.refl _ W).alloc _).trans u1 (fun _ _ e => e), (((Upd.refl _ W).alloc _).trans u1 (fun _ _ e => e)).trans (((Upd.refl _ w1).alloc _).trans u2 (fun _ _ e => e)) (fun _ _ e => e)⟩
  · rcases f1 g hg with h | h
    · exact hA g h
    · simp at h; omega
  · rcases f2 g hg with h | h
    · exact hA g h
    · simp at h; omega
  · rcases f3 g hg with h | h
    · exact hA g h
    · simp at h; omega
end Go.Proofs.Ytmjdndhfmfjbiab

namespace Go.Proofs.Ytmjdndhfmfjbiab
open Go.RowKit

/-- Blocks that were there keep their colours. -/
def Ext (w : World) (c c1 : Nat → Nat) : Prop := ∀ k, k < w.heap.size → c1 k = c k
theorem Ext.refl (w : World) (c : Nat → Nat) : Ext w c c := fun _ _ => rfl
theorem Ext.trans {w w1 : World} {c c1 c2 : Nat → Nat} (h : Ext w c c1) (hs : w.heap.size ≤ w1.heap.size) (k : Ext w1 c1 c2) : Ext w c c2 := fun i hi => (k i (by omega)).trans (h i hi)

/-- The bytes of records, one behind the other. -/
def cat : List ByteArray → ByteArray
  | [] => ⟨#[]⟩
  | r :: R => r ++ cat R

/-- A state that came of operations that were done. -/
structure Good (S : RefS) : Prop where
  inv : Inv S
  room0 : 0 ≤ S.room
  room : S.room ≤ 500
  fine : ∀ o ∈ S.done, Fine o
  again : S = { replay S.done with room := S.room }
  steps : ∀ i o, S.done[i]? = some o → doneB (replay (S.done.take i)) o = true

/-- How many records stand whole on the first k bytes. -/
def wholeN : List ByteArray → Nat → Nat
  | [], _ => 0
  | r :: R, k => if r.size ≤ k then wholeN R (k - r.size) + 1 else 0

/-- The disk, cut; or with one byte turned. -/
def Damaged (d : ByteArray) (d1 : ByteArray) (k : Nat) : Prop :=
  (k ≤ d.size ∧ d1 = d.extract 0 k) ∨ (k < d.size ∧ d1.size = d.size ∧ (∀ i, i < d.size → i ≠ k → d1[i]! = d[i]!) ∧ d1[k]! ≠ d[k]!)

/-- What an operation leaves of a broker. -/
def Outcome (PR : World → Nat → (Nat → Prop) → RefS → List ByteArray → Prop) (w : World) (H : Nat) (F : Nat → Prop) (R : List ByteArray) (S1 : RefS) (w1 : World) : Prop :=
  ∃ F1 R1, PR w1 H F1 S1 (R ++ R1) ∧ Upd F w w1 ∧ ∀ k, F1 k → F k ∨ w.heap.size ≤ k

/-- A broker: what is asked of the program. -/
structure Prog where
  PR : World → Nat → (Nat → Prop) → RefS → List ByteArray → Prop
  lt : ∀ {w H F S R k}, PR w H F S R → F k → k < w.heap.size
  upd : ∀ {Q : Nat → Prop} {w w1 H F S R}, PR w H F S R → Upd Q w w1 → (∀ k, F k → ¬ Q k) → PR w1 H F S R
  recs : ∀ {w H F S R}, PR w H F S R → R.length = S.done.length ∧ (∀ r ∈ R, 0 < r.size) ∧ (cat R).size ≤ 1048576
  newBad : ∀ (w : World) (d : ByteArray) (room : Int), room < 0 ∨ 500 < room → Calls Try.prog 30 #[.string d, .int .i64 room] w fun e w' => e = .returned (.tuple #[.pointer none, .int .i64 1]) ∧ Below w.heap.size w w'
  new0 : ∀ (w : World) (room : Int), 0 ≤ room → room ≤ 500 → Calls Try.prog 30 #[.string ⟨#[]⟩, .int .i64 room] w fun e w' =>
    ∃ H F, e = .returned (.tuple #[.pointer (some ⟨H, 0, none⟩), .int .i64 0]) ∧ PR w' H F (refNew room) [] ∧ (∀ k, F k → w.heap.size ≤ k) ∧ Below w.heap.size w w'
  back : ∀ {w H F S R} (d : ByteArray) (k : Nat) (room : Int), PR w H F S R → Good S → Damaged (cat R) d k → 0 ≤ room → room ≤ 500 → Calls Try.prog 30 #[.string d, .int .i64 room] w fun e w' =>
    ∃ H1 F1, e = .returned (.tuple #[.pointer (some ⟨H1, 0, none⟩), .int .i64 0]) ∧ PR w' H1 F1 { replay (S.done.take (wholeN R k)) with room := room } (R.take (wholeN R k)) ∧ (∀ k, F1 k → w.heap.size ≤ k) ∧ Below w.heap.size w w'
  sub : ∀ {w H F S R} (a b c d : Int) (s : ByteArray), PR w H F S R → Good S → s.size ≤ 1048576 → Calls Try.prog 11 #[.pointer (some ⟨H, 0, none⟩), .int .i64 a, .string s] w fun e w' =>
    e = .returned (.int .i64 (doErr S ⟨1, a, b, c, d, s⟩)) ∧ Outcome PR w H F R (doS S ⟨1, a, b, c, d, s⟩) w'
  unsub : ∀ {w H F S R} (a b c d : Int) (s : ByteArray), PR w H F S R → Good S → s.size ≤ 1048576 → Calls Try.prog 73 #[.pointer (some ⟨H, 0, none⟩), .int .i64 a, .string s] w fun e w' =>
    e = .returned (.int .i64 (doErr S ⟨2, a, b, c, d, s⟩)) ∧ Outcome PR w H F R (doS S ⟨2, a, b, c, d, s⟩) w'
  publish : ∀ {w H F S R} (a b c d : Int) (s : ByteArray), PR w H F S R → Good S → s.size ≤ 1048576 → Calls Try.prog 14 #[.pointer (some ⟨H, 0, none⟩), .string s, .int .i64 b, .int .i64 c, .int .i64 d] w fun e w' =>
    e = .returned (.tuple #[.int .i64 (doAns S ⟨3, a, b, c, d, s⟩), .int .i64 (doErr S ⟨3, a, b, c, d, s⟩)]) ∧ Outcome PR w H F R (doS S ⟨3, a, b, c, d, s⟩) w'
  cancel : ∀ {w H F S R} (a b c d : Int) (s : ByteArray), PR w H F S R → Good S → Calls Try.prog 22 #[.pointer (some ⟨H, 0, none⟩), .int .i64 b] w fun e w' =>
    e = .returned (.int .i64 (doErr S ⟨4, a, b, c, d, s⟩)) ∧ Outcome PR w H F R (doS S ⟨4, a, b, c, d, s⟩) w'
  move : ∀ {w H F S R} (a b c d : Int) (s : ByteArray), PR w H F S R → Good S → Calls Try.prog 23 #[.pointer (some ⟨H, 0, none⟩), .int .i64 b, .int .i64 c] w fun e w' =>
    e = .returned (.int .i64 (doErr S ⟨5, a, b, c, d, s⟩)) ∧ Outcome PR w H F R (doS S ⟨5, a, b, c, d, s⟩) w'
  tick : ∀ {w H F S R} (a b c d : Int) (s : ByteArray), PR w H F S R → Good S → Calls Try.prog 19 #[.pointer (some ⟨H, 0, none⟩), .int .i64 b] w fun e w' =>
    e = .returned (.int .i64 (doErr S ⟨6, a, b, c, d, s⟩)) ∧ Outcome PR w H F R (doS S ⟨6, a, b, c, d, s⟩) w'
  ack : ∀ {w H F S R} (a b c d : Int) (s : ByteArray), PR w H F S R → Good S → Calls Try.prog 13 #[.pointer (some ⟨H, 0, none⟩), .int .i64 a, .int .i64 b] w fun e w' =>
    e = .returned (.int .i64 (doErr S ⟨7, a, b, c, d, s⟩)) ∧ Outcome PR w H F R (doS S ⟨7, a, b, c, d, s⟩) w'
  time : ∀ {w H F S R}, PR w H F S R → Good S → Calls Try.prog 42 #[.pointer (some ⟨H, 0, none⟩)] w fun e w' => e = .returned (.int .i64 S.time) ∧ Below w.heap.size w w'
  filters : ∀ {w H F S R} (k : Int), PR w H F S R → Good S → Calls Try.prog 44 #[.pointer (some ⟨H, 0, none⟩), .int .i64 k] w fun e w' =>
    ∃ v, e = .returned v ∧ w'.ownsRow w.heap.size 9 1 v (filtersM S k).length ((filtersM S k).flatMap (fun f => [Value.string f])) ∧ Below w.heap.size w w'
  queue : ∀ {w H F S R} (k : Int), PR w H F S R → Good S → Calls Try.prog 15 #[.pointer (some ⟨H, 0, none⟩), .int .i64 k] w fun e w' =>
    ∃ v, e = .returned v ∧ w'.ownsRow w.heap.size 35 5 v (queueM S k).length ((queueM S k).flatMap mailCells) ∧ Below w.heap.size w w'
  lost : ∀ {w H F S R} (k : Int), PR w H F S R → Good S → Calls Try.prog 16 #[.pointer (some ⟨H, 0, none⟩), .int .i64 k] w fun e w' => e = .returned (.int .i64 (lostM S k)) ∧ Below w.heap.size w w'
  waiting : ∀ {w H F S R}, PR w H F S R → Good S → Calls Try.prog 26 #[.pointer (some ⟨H, 0, none⟩)] w fun e w' =>
    ∃ v, e = .returned v ∧ w'.ownsRow w.heap.size 50 5 v (waitingM S).length ((waitingM S).flatMap waitCells) ∧ Below w.heap.size w w'
  records : ∀ {w H F S R}, PR w H F S R → Good S → Calls Try.prog 43 #[.pointer (some ⟨H, 0, none⟩)] w fun e w' => e = .returned (.int .i64 (R.length : Int)) ∧ Below w.heap.size w w'
  disk : ∀ {w H F S R}, PR w H F S R → Good S → Calls Try.prog 29 #[.pointer (some ⟨H, 0, none⟩)] w fun e w' => e = .returned (.string (cat R)) ∧ Below w.heap.size w w'

/-- Lists that came out: each reads as its owner wrote it. -/
def MarkedC (w : World) (c : Nat → Nat) (f : Int → List Value) (each : Int) (vs : List Value) : Prop :=
  ∀ (k : Nat) u, vs[k]? = some u → ∃ ao n cap, u = .slice ao n cap ∧ n ≤ 1048576 ∧ CellsAt w ao (rep (f ((k : Int) / each)) n) ∧ ∀ g, u.ownBlock = some g → c g = 11 ∧ g < w.heap.size

theorem MarkedC.upd {Q : Nat → Prop} {w w1 : World} {c c1 : Nat → Nat} {f : Int → List Value} {each : Int} {vs : List Value} (h : MarkedC w c f each vs) (k : Upd Q w w1) (hq : ∀ g, c g = 11 → ¬ Q g) (he : Ext w c c1) : MarkedC w1 c1 f each vs := fun i u hi => by
  obtain ⟨ao, n, cap, rfl, hn, hc, hg⟩ := h i u hi
  refine ⟨ao, n, cap, rfl, hn, hc.upd k (fun g e => hq g (hg g (by rw [e]; rfl)).1), fun g e => ?_⟩
  obtain ⟨h1, h2⟩ := hg g e
  exact ⟨by rw [he g h2]; exact h1, Nat.lt_of_lt_of_le h2 k.size⟩

/-- All lists of a kind, and their tails. -/
structure Lists (w : World) (c : Nat → Nat) (sl : TypeId) (f : Int → List Value) (ca cb : Nat) (tv ttv : Value) (b : Nat) (T TT : List Value) : Prop where
  row : Row w sl 1 tv T.length T
  rows : Row w sl 1 ttv TT.length TT
  few : T.length ≤ b
  three : TT.length = 3 * T.length
  marks : MarkedC w c f 1 T
  tails : MarkedC w c f 3 TT
  col : ∀ g, tv.ownBlock = some g → c g = ca
  cols : ∀ g, ttv.ownBlock = some g → c g = cb

theorem Lists.upd {Q : Nat → Prop} {w w1 : World} {c c1 : Nat → Nat} {sl : TypeId} {f : Int → List Value} {ca cb : Nat} {tv ttv : Value} {b : Nat} {T TT : List Value} (h : Lists w c sl f ca cb tv ttv b T TT) (k : Upd Q w w1)
    (hq : ∀ g, c g = 11 ∨ c g = ca ∨ c g = cb → ¬ Q g) (he : Ext w c c1) : Lists w1 c1 sl f ca cb tv ttv b T TT :=
  ⟨h.row.upd k (fun g e => hq g (.inr (.inl (h.col g e)))), h.rows.upd k (fun g e => hq g (.inr (.inr (h.cols g e)))), h.few, h.three, h.marks.upd k (fun g e => hq g (.inl e)) he, h.tails.upd k (fun g e => hq g (.inl e)) he,
    fun g e => by rw [he g (h.row.lt e)]; exact h.col g e, fun g e => by rw [he g (h.rows.lt e)]; exact h.cols g e⟩

theorem Lists.more {w : World} {c : Nat → Nat} {sl : TypeId} {f : Int → List Value} {ca cb : Nat} {tv ttv : Value} {b b1 : Nat} {T TT : List Value} (h : Lists w c sl f ca cb tv ttv b T TT) (hb : b ≤ b1) : Lists w c sl f ca cb tv ttv b1 T TT :=
  ⟨h.row, h.rows, Nat.le_trans h.few hb, h.three, h.marks, h.tails, h.col, h.cols⟩

def fT (n : Int) : List Value := [.string (markM n)]
def fM (n : Int) : List Value := mailCells (markMail n)
def fW (n : Int) : List Value := waitCells (markWait n)

end Go.Proofs.Ytmjdndhfmfjbiab

namespace Go.Proofs.Ytmjdndhfmfjbiab
open Go.RowKit

/-- A list that came out just now, and was written over. -/
def NewList (w w3 : World) (f : List Value) (u : Value) : Prop := ∃ ao n cap, u = .slice ao n cap ∧ n ≤ 1048576 ∧ CellsAt w3 ao (rep f n) ∧ ∀ g, u.ownBlock = some g → w.heap.size ≤ g ∧ g < w3.heap.size

theorem newList {w w3 : World} {e : TypeId} {size : Nat} {f : List Value} {ao : Option Addr} {n cap : Nat} (h : Row w3 e size (.slice ao n cap) n (rep f n)) (hn : n ≤ 1048576) (hg : ∀ g, (Value.slice ao n cap).ownBlock = some g → w.heap.size ≤ g) : NewList w w3 f (.slice ao n cap) := by
  obtain ⟨a, c, hv, -, -, hc⟩ := h.form
  simp only [Value.slice.injEq, true_and] at hv
  obtain ⟨rfl, rfl⟩ := hv
  exact ⟨ao, n, cap, rfl, hn, hc, fun g e => ⟨hg g e, h.lt e⟩⟩

theorem upd_set (w : World) (G o : Nat) (v : Value) : Upd (fun k => k = G) w (w.setCell ⟨G, o, none⟩ v) := (Upd.refl (fun k => k = G) w).setCell (p := ⟨G, o, none⟩) (fun _ => rfl) v

theorem cell_set_same {w : World} {p : Addr} {u v : Value} (h : w.cell? p = some u) : (w.setCell p v).cell? p = some v := by
  exact World.cell?_setCell_same _ _ _ h

end Go.Proofs.Ytmjdndhfmfjbiab

namespace Go.Proofs.Ytmjdndhfmfjbiab
open Go.RowKit
attribute [local go_sem ↓] Go.wp_at_zero Go.wp_at_succ appSem_eq

theorem infoTexts : (Try.prog.info? 86).map (fun i => (i.zero, i.size, i.bytes)) = some (some (.slice none 0 0), 1, 24) := by kernel_rfl

theorem flat_strs (l : List ByteArray) : l.flatMap (fun f => [Value.string f]) = l.map Value.string := by
  induction l with
  | nil => rfl
  | cons a l ih => rw [List.flatMap_cons, ih]; rfl

theorem mark_step (u : Value) (xs : List Value) (j : Nat) (h : j < xs.length) : (rep [u] j ++ xs.drop j).set j u = rep [u] (j + 1) ++ xs.drop (j + 1) := by
  have hl : (rep [u] j).length = j := by simp [rep_len]
  rw [List.drop_eq_getElem_cons h, rep_add, rep_one, List.append_assoc, List.set_append_right _ _ (by omega), hl, Nat.sub_self]
  rfl

theorem own_cells {w : World} {base : Nat} {e : TypeId} {size : Nat} {v : Value} {n : Nat} {xs : List Value} (h : w.ownsRow base e size v n xs) : ∃ ao c, v = .slice ao n c ∧ n ≤ c ∧ c ≤ maxLen ∧ CellsAt w ao xs :=
  Row.form (own_mono h (Nat.zero_le _))

theorem filters_few {S : RefS} (h : Inv S) (k : Int) : (filtersM S k).length ≤ 6 := by
  unfold filtersM
  split
  · rename_i hk
    rw [sel_len]
    exact (h.fil _ (by have := known_nat hk; omega)).1
  · simp

end Go.Proofs.Ytmjdndhfmfjbiab

namespace Go.Proofs.Ytmjdndhfmfjbiab
open Go.RowKit
attribute [local go_sem ↓] Go.wp_at_zero Go.wp_at_succ appSem_eq

theorem infoMails : (Try.prog.info? 28).map (fun i => (i.zero, i.size, i.bytes)) = some (some (.slice none 0 0), 1, 24) := by kernel_rfl
theorem infoWaits : (Try.prog.info? 44).map (fun i => (i.zero, i.size, i.bytes)) = some (some (.slice none 0 0), 1, 24) := by kernel_rfl

/-- One message of a row, written over by another. -/
theorem row5M {W : World} {base g n cap b : Nat} {cur : List MailD} {y z : MailD} (h : W.ownsRow base 35 5 (.slice (some ⟨g, 0, none⟩) n cap) n (cur.flatMap mailCells)) (hy : cur[b]? = some y) :
    (((((W.setCell ⟨g, b * 5, none⟩ (.int .i64 z.number)).setCell ⟨g, b * 5 + 1, none⟩ (.string z.topic)).setCell ⟨g, b * 5 + 2, none⟩ (.int .i64 z.value)).setCell ⟨g, b * 5 + 3, none⟩ (.int .i64 z.sentAt)).setCell ⟨g, b * 5 + 4, none⟩ (.int .i64 z.left)).ownsRow base 35 5 (.slice (some ⟨g, 0, none⟩) n cap) n ((cur.set b z).flatMap mailCells) ∧
      W.grownBy (((((W.setCell ⟨g, b * 5, none⟩ (.int .i64 z.number)).setCell ⟨g, b * 5 + 1, none⟩ (.string z.topic)).setCell ⟨g, b * 5 + 2, none⟩ (.int .i64 z.value)).setCell ⟨g, b * 5 + 3, none⟩ (.int .i64 z.sentAt)).setCell ⟨g, b * 5 + 4, none⟩ (.int .i64 z.left)) (some g) := by
  obtain ⟨hb, -⟩ := List.getElem?_eq_some_iff.1 hy
  have s0 := World.ownsRow.stored h (b * 5) (.int .i64 z.number)
  rw [show b * 5 = b * 5 + 0 from rfl, flat_set mailCells 5 mail_len cur b 0 y { y with number := z.number } _ hy (by omega) rfl] at s0
  have s1 := World.ownsRow.stored s0.1 (b * 5 + 1) (.string z.topic)
  rw [flat_set mailCells 5 mail_len _ b 1 { y with number := z.number } { y with number := z.number, topic := z.topic } _ (by rw [List.getElem?_set_self hb]) (by omega) rfl, List.set_set] at s1
  have s2 := World.ownsRow.stored s1.1 (b * 5 + 2) (.int .i64 z.value)
  rw [flat_set mailCells 5 mail_len _ b 2 { y with number := z.number, topic := z.topic } { y with number := z.number, topic := z.topic, value := z.value } _ (by rw [List.getElem?_set_self hb]) (by omega) rfl, List.set_set] at s2
  have s3 := World.ownsRow.stored s2.1 (b * 5 + 3) (.int .i64 z.sentAt)
  rw [flat_set mailCells 5 mail_len _ b 3 { y with number := z.number, topic := z.topic, value := z.value } { y with number := z.number, topic := z.topic, value := z.value, sentAt := z.sentAt } _ (by rw [List.getElem?_set_self hb]) (by omega) rfl, List.set_set] at s3
  have s4 := World.ownsRow.stored s3.1 (b * 5 + 4) (.int .i64 z.left)
  rw [flat_set mailCells 5 mail_len _ b 4 { y with number := z.number, topic := z.topic, value := z.value, sentAt := z.sentAt } z _ (by rw [List.getElem?_set_self hb]) (by omega) rfl, List.set_set] at s4
  exact ⟨s4.1, (((s0.2.trans s1.2).trans s2.2).trans s3.2).trans s4.2⟩

theorem set_step {α : Type} (u : α) (xs : List α) (j : Nat) (h : j < xs.length) : (List.replicate j u ++ xs.drop j).set j u = List.replicate (j + 1) u ++ xs.drop (j + 1) := by
  have hl : (List.replicate j u).length = j := by simp
  rw [List.drop_eq_getElem_cons h, ← List.replicate_append_replicate, List.append_assoc, List.set_append_right _ _ (by omega), hl, Nat.sub_self]
  rfl

theorem queue_few {S : RefS} (h : Inv S) (k : Int) : (queueM S k).length ≤ 10 := by
  unfold queueM
  split
  · rename_i hk
    rw [List.length_map]
    exact (h.que _ (by have := known_nat hk; omega)).1
  · simp

end Go.Proofs.Ytmjdndhfmfjbiab

namespace Go.Proofs.Ytmjdndhfmfjbiab
open Go.RowKit
attribute [local go_sem ↓] Go.wp_at_zero Go.wp_at_succ appSem_eq

theorem selN_few : ∀ (n : Nat) (l : List WaitD), (selN n l).length ≤ n
  | 0, _ => by simp [selN]
  | n + 1, l => by
    rw [selN]
    split
    · simp
    · split
      · simp
      · simp only [List.length_cons]
        exact Nat.succ_le_succ (selN_few n _)

theorem waiting_few {S : RefS} (h : Inv S) : (waitingM S).length ≤ 64 := Nat.le_trans (selN_few _ _) h.wait.1

end Go.Proofs.Ytmjdndhfmfjbiab

namespace Go.Proofs.Ytmjdndhfmfjbiab
open Go.RowKit

/-! The disk -/
theorem cat_append : ∀ (A B : List ByteArray), cat (A ++ B) = cat A ++ cat B
  | [], B => by
    show cat B = ByteArray.empty ++ cat B
    rw [ByteArray.empty_append]
  | r :: A, B => by
    rw [List.cons_append, cat, cat, cat_append A B, ByteArray.append_assoc]
theorem cat_split (R : List ByteArray) (k : Nat) : cat R = cat (R.take k) ++ cat (R.drop k) := by rw [← cat_append, List.take_append_drop]
theorem cat_size_split (R : List ByteArray) (k : Nat) : (cat R).size = (cat (R.take k)).size + (cat (R.drop k)).size := by
  conv => lhs; rw [cat_split R k]
  exact ByteArray.size_append
theorem cat_ge : ∀ (R : List ByteArray), (∀ r ∈ R, 0 < r.size) → R.length ≤ (cat R).size
  | [], _ => by simp
  | r :: R, h => by
    have h1 := h r (by simp)
    have h2 := cat_ge R (fun q hq => h q (by simp [hq]))
    rw [cat, ByteArray.size_append, List.length_cons]
    omega
/-- Of records, those ahead take up less, by a byte or more for each between. -/
theorem cat_mono {R : List ByteArray} (h : ∀ r ∈ R, 0 < r.size) {i j : Nat} (hij : i ≤ j) (hj : j ≤ R.length) : (cat (R.take i)).size + (j - i) ≤ (cat (R.take j)).size := by
  have e := cat_size_split (R.take j) i
  rw [List.take_take, Nat.min_eq_left hij] at e
  have g := cat_ge ((R.take j).drop i) (fun r hr => h r (List.mem_of_mem_take (List.mem_of_mem_drop hr)))
  rw [List.length_drop, List.length_take, Nat.min_eq_left hj] at g
  omega
theorem cat_take_le (R : List ByteArray) (i : Nat) : (cat (R.take i)).size ≤ (cat R).size := by
  rw [cat_size_split R i]; omega
theorem cat_head (R : List ByteArray) (i : Nat) : (cat R).extract 0 (cat (R.take i)).size = cat (R.take i) := by
  conv => lhs; rw [cat_split R i]
  exact ByteArray.extract_append_eq_left rfl

theorem whole_le : ∀ (R : List ByteArray) (k : Nat), wholeN R k ≤ R.length
  | [], _ => Nat.le_refl _
  | r :: R, k => by
    rw [wholeN]
    split
    · exact Nat.succ_le_succ (whole_le R _)
    · exact Nat.zero_le _
theorem whole_size : ∀ (R : List ByteArray) (k : Nat), (cat (R.take (wholeN R k))).size ≤ k
  | [], k => by
    show ByteArray.size ⟨#[]⟩ ≤ k
    exact Nat.zero_le _
  | r :: R, k => by
    rw [wholeN]
    split
    · have := whole_size R (k - r.size)
      rw [List.take_succ_cons, cat, ByteArray.size_append]
      omega
    · show ByteArray.size ⟨#[]⟩ ≤ k
      exact Nat.zero_le _
theorem whole_max : ∀ (R : List ByteArray) (k n : Nat), n ≤ R.length → (cat (R.take n)).size ≤ k → n ≤ wholeN R k
  | [], _, n, h, _ => h
  | r :: R, k, 0, _, _ => Nat.zero_le _
  | r :: R, k, n + 1, h, hk => by
    rw [List.take_succ_cons, cat, ByteArray.size_append] at hk
    rw [wholeN, if_pos (by omega)]
    exact Nat.succ_le_succ (whole_max R _ n (by simpa using h) (by omega))

/-- The last place up to n that is known. -/
theorem known_spec {ends : List Int} (h0 : ends[0]? = some 0) : ∀ n, n < ends.length → knownTo ends n ≤ n ∧ ∃ e, ends[knownTo ends n]? = some e ∧ 0 ≤ e
  | 0, _ => ⟨Nat.le_refl _, 0, h0, Int.le_refl _⟩
  | n + 1, hn => by
    obtain ⟨e, he⟩ : ∃ e, ends[n + 1]? = some e := ⟨_, List.getElem?_eq_getElem hn⟩
    by_cases hneg : e < 0
    · have hk : knownTo ends (n + 1) = knownTo ends n := by rw [knownTo, he]; simp only [if_pos hneg]
      rw [hk]
      obtain ⟨h1, h2⟩ := known_spec h0 n (by omega)
      exact ⟨by omega, h2⟩
    · have hk : knownTo ends (n + 1) = n + 1 := by rw [knownTo, he]; simp only [if_neg hneg]
      rw [hk]
      exact ⟨Nat.le_refl _, e, he, by omega⟩

/-! Room is nothing to what an operation brings about. -/
def roomed (S : RefS) (r : Int) : RefS := { S with room := r }
theorem sendOne_room (T : RefS) (m : WaitD) (a : Nat) (r : Int) : sendOne (roomed T r) m a = roomed (sendOne T m a) r := by
  unfold sendOne roomed
  simp only
  split
  · split <;> rfl
  · rfl
theorem sendTo_room (T : RefS) (m : WaitD) (r : Int) : ∀ a, sendTo (roomed T r) m a = roomed (sendTo T m a) r
  | 0 => rfl
  | a + 1 => by rw [sendTo, sendTo, sendTo_room T m r a, sendOne_room]
theorem deliverN_room (to r : Int) : ∀ (n : Nat) (T : RefS), deliverN to n (roomed T r) = roomed (deliverN to n T) r
  | 0, _ => rfl
  | n + 1, T => by
    rw [deliverN, deliverN]
    show (match bestTo T.wait T.wait.length with | none => roomed T r | some b => _) = _
    cases bestTo T.wait T.wait.length with
    | none => rfl
    | some b =>
      show (match T.wait[b]? with | none => roomed T r | some x => _) = _
      cases hx : T.wait[b]? with
      | none => simp only [hx]
      | some x =>
        simp only [hx]
        split
        · rfl
        · rw [← deliverN_room to r n, ← sendTo_room]
          rfl
theorem aged_room (T : RefS) (to r : Int) : ∀ a, agedTo (roomed T r) to a = roomed (agedTo T to a) r
  | 0 => rfl
  | a + 1 => by rw [agedTo, agedTo, aged_room T to r a]; rfl
theorem tick_room (T : RefS) (to r : Int) : tickM (roomed T r) to = roomed (tickM T to) r := by
  rw [tickM, aged_room]
  exact deliverN_room to r _ _
theorem turn_room (T : RefS) (o : OpD) (r : Int) : turnM (roomed T r) o = roomed (turnM T o) r := by
  unfold turnM
  split
  · rfl
  · split
    · rfl
    · split
      · split
        · exact sendTo_room { T with pub := T.pub + 1 } _ r 8
        · rfl
      · split
        · rfl
        · split
          · rfl
          · split
            · exact tick_room T o.b r
            · rfl

theorem replay_take {l : List OpD} (h : ∀ i o, l[i]? = some o → doneB (replay (l.take i)) o = true) : ∀ n, (replay (l.take n)).done = l.take n
  | 0 => rfl
  | n + 1 => by
    by_cases hn : n < l.length
    · have ho : l[n]? = some l[n] := List.getElem?_eq_getElem hn
      rw [List.take_add_one, ho]
      show (replay (l.take n ++ [l[n]])).done = l.take n ++ [l[n]]
      rw [replay_snoc, do_done, if_pos (h n _ ho), replay_take h n]
    · have := replay_take h n
      rw [List.take_of_length_le (by omega)] at this ⊢
      exact this

theorem Good.back {S : RefS} (h : Good S) (n : Nat) {r : Int} (h0 : 0 ≤ r) (h1 : r ≤ 500) : Good { replay (S.done.take n) with room := r } := by
  have hd := replay_take h.steps n
  obtain ⟨i, -⟩ := replay_inv (S.done.take n) (fun o ho => h.fine o (List.mem_of_mem_take ho))
  refine ⟨⟨i.time0, i.time1, i.fil, i.que, i.wait, i.lost, i.pub, i.done⟩, h0, h1, ?_, ?_, ?_⟩
  · show ∀ o ∈ (replay (S.done.take n)).done, Fine o
    rw [hd]
    exact fun o ho => h.fine o (List.mem_of_mem_take ho)
  · show roomed (replay (S.done.take n)) r = roomed (replay (replay (S.done.take n)).done) r
    rw [hd]
  · show ∀ i o, (replay (S.done.take n)).done[i]? = some o → doneB (replay ((replay (S.done.take n)).done.take i)) o = true
    rw [hd]
    intro i o ho
    have hi : i < n := by
      obtain ⟨hl, -⟩ := List.getElem?_eq_some_iff.1 ho
      rw [List.length_take] at hl
      omega
    rw [List.getElem?_take_of_lt hi] at ho
    rw [List.take_take, Nat.min_eq_left (by omega)]
    exact h.steps i o ho

theorem Good.does {S : RefS} (h : Good S) {o : OpD} (ho : Fine o) : Good (doS S o) := by
  by_cases hd : doneB S o = true
  · have hdone : (doS S o).done = S.done ++ [o] := by rw [do_done, if_pos hd]
    have hQ : S = roomed (replay S.done) S.room := h.again
    have key : ∀ (S Q : RefS) (r : Int), S = roomed Q r → Q.done = S.done ∧ wrongM S o = wrongM Q o ∧ writesB S o = writesB Q o ∧ ({ S with done := S.done ++ [o] } : RefS) = roomed { Q with done := Q.done ++ [o] } r := by
      rintro S Q r rfl
      exact ⟨rfl, rfl, rfl, rfl⟩
    obtain ⟨hQd, hw, hr, hS⟩ := key _ _ _ hQ
    have hQr : (replay S.done).room = 500 := (replay_inv S.done h.fine).2
    have hdQ : doneB (replay S.done) o = true := by
      simp only [doneB, Bool.and_eq_true, decide_eq_true_eq] at hd ⊢
      rw [hQd, hQr, ← hw, ← hr]
      have := h.room
      exact ⟨hd.1, by omega⟩
    have hst : doS S o = roomed (doS (replay S.done) o) S.room := by
      rw [doS, if_pos hd, doS, if_pos hdQ, ← turn_room, hS]
    have hroom : (doS S o).room = S.room := do_room S o
    refine ⟨h.inv.does h.room ho.1, by rw [hroom]; exact h.room0, by rw [hroom]; exact h.room, ?_, ?_, ?_⟩
    · rw [hdone]
      intro p hp
      rcases List.mem_append.1 hp with hp | hp
      · exact h.fine p hp
      · simp at hp; subst hp; exact ho
    · rw [hdone, hroom, replay_snoc]
      exact hst
    · rw [hdone]
      intro i p hp
      by_cases hi : i < S.done.length
      · rw [List.getElem?_append_left hi] at hp
        rw [List.take_append_of_le_length (by omega)]
        exact h.steps i p hp
      · rw [List.getElem?_append_right (by omega)] at hp
        obtain ⟨hl, rfl⟩ := List.getElem?_eq_some_iff.1 hp
        simp at hl
        obtain rfl : i = S.done.length := by omega
        simpa using hdQ
  · have : doS S o = S := by rw [doS, if_neg hd]
    rw [this]; exact h

theorem good_new {r : Int} (h0 : 0 ≤ r) (h1 : r ≤ 500) : Good (refNew r) :=
  ⟨inv_new r, h0, h1, fun o ho => by simp [refNew] at ho, rfl, fun i o ho => by simp [refNew] at ho⟩
end Go.Proofs.Ytmjdndhfmfjbiab

namespace Go.Proofs.Ytmjdndhfmfjbiab
open Go.RowKit

theorem MarkedC.texts {w : World} {c : Nat → Nat} {each : Int} {vs : List Value} (h : MarkedC w c fT each vs) : MarkedT w each vs := fun k u hu => by
  obtain ⟨ao, n, cap, e, hn, hc, -⟩ := h k u hu
  exact ⟨ao, n, cap, e, hn, by rw [rep_sing]; exact hc⟩
theorem MarkedC.mails {w : World} {c : Nat → Nat} {each : Int} {vs : List Value} (h : MarkedC w c fM each vs) : MarkedM w each vs := fun k u hu => by
  obtain ⟨ao, n, cap, e, hn, hc, -⟩ := h k u hu
  exact ⟨ao, n, cap, e, hn, by rw [rep_flat]; exact hc⟩
theorem MarkedC.waits {w : World} {c : Nat → Nat} {each : Int} {vs : List Value} (h : MarkedC w c fW each vs) : MarkedW w each vs := fun k u hu => by
  obtain ⟨ao, n, cap, e, hn, hc, -⟩ := h k u hu
  exact ⟨ao, n, cap, e, hn, by rw [rep_flat]; exact hc⟩

end Go.Proofs.Ytmjdndhfmfjbiab

namespace Go.Proofs.Ytmjdndhfmfjbiab
open Go.RowKit

end Go.Proofs.Ytmjdndhfmfjbiab

namespace Go.Proofs.Ytmjdndhfmfjbiab
open Go.RowKit

end Go.Proofs.Ytmjdndhfmfjbiab

namespace Go.Proofs.Ytmjdndhfmfjbiab
open Go.RowKit

/-- The world behind a return: the game has another broker, another reference and fewer ends. -/
abbrev backWorld (wA : World) (G g H1 B2 N ec : Nat) (d : ByteArray) : World :=
  ((((wA.setCell ⟨G, 0, none⟩ (.pointer (some ⟨H1, 0, none⟩))).setCell ⟨G, 1, none⟩ (.pointer (some ⟨B2, 0, none⟩))).setCell ⟨G, 2, none⟩ (.slice (some ⟨g, 0, none⟩) (N + 1) ec)).setCell ⟨g, N, none⟩ (.int .i64 (d.size : Int))).setCell ⟨G, 3, none⟩ (.string d)

end Go.Proofs.Ytmjdndhfmfjbiab

namespace Go.Proofs.Ytmjdndhfmfjbiab
open Go.RowKit

end Go.Proofs.Ytmjdndhfmfjbiab

namespace Go.Proofs.Ytmjdndhfmfjbiab
open Go.RowKit

/-- A step as a script has it: its numbers are numbers. -/
def I64 (n : Int) : Prop := -9223372036854775808 ≤ n ∧ n ≤ 9223372036854775807
structure Sane (o : OpD) : Prop where
  kind : I64 o.kind
  a : I64 o.a
  b : I64 o.b
  c : I64 o.c
  d : I64 o.d
  s : o.s.size ≤ 1048576

/-- Blocks that nobody has yet are nobody's. -/
def clean (w : World) (c : Nat → Nat) : Nat → Nat := fun k => if k < w.heap.size then c k else 0
theorem clean_ext (w : World) (c : Nat → Nat) : Ext w c (clean w c) := fun _ hk => if_pos hk
theorem clean_new (w : World) (c : Nat → Nat) {k : Nat} (h : w.heap.size ≤ k) : clean w c k = 0 := if_neg (by omega)
end Go.Proofs.Ytmjdndhfmfjbiab

namespace Go.Proofs.Ytmjdndhfmfjbiab
open Go.RowKit

/-- A text as bytes of one's own. -/
theorem bytes_of (w : World) (s : ByteArray) : ∃ cap w1, (convert 9 63 (.string s)).run Try.prog w = .ok (.slice (some ⟨w.heap.size, 0, none⟩) s.size cap) w1 ∧ Below w.heap.size w w1 ∧ w.heap.size < w1.heap.size ∧ s.size ≤ cap ∧
    (∀ j, j < s.size → w1.cell? ⟨w.heap.size, j, none⟩ = some (.int .u8 (s[j]!.toNat : Int)) ∧ w1.frozen? ⟨w.heap.size, j, none⟩ = false) := by
  refine ⟨_, _, run_bytes_of_string w 9 63 5 s Try.underlying9 Try.underlying63 Try.underlying5, ⟨rfl, rfl, rfl, by simp, fun k hk => heap_alloc_old w.drew _ hk⟩, by simp, grownCap_ge _ _ _ _, fun j hj => ⟨?_, ?_⟩⟩
  · have := World.cell?_alloc_mark w.drew (bytesRow s (grownCap w s.size 0 5)) 5 ((bytesRow s (grownCap w s.size 0 5)).size, (bytesRow s (grownCap w s.size 0 5)).size + 1) j
    refine this.trans ?_
    have hd : j < s.data.size := hj
    rw [bytesRow, Array.getElem?_append_left (by simpa using hd), Array.getElem?_map, Array.getElem?_eq_getElem hd]
    simp only [Option.map_some]
    rw [getElem!_pos s j hj]
    rfl
  · have hn := heap_alloc_new w.drew (.cells (bytesRow s (grownCap w s.size 0 5)) 5 ((bytesRow s (grownCap w s.size 0 5)).size, (bytesRow s (grownCap w s.size 0 5)).size + 1))
    have hn' : (w.drew.alloc (.cells (bytesRow s (grownCap w s.size 0 5)) 5 ((bytesRow s (grownCap w s.size 0 5)).size, (bytesRow s (grownCap w s.size 0 5)).size + 1))).heap[w.heap.size]? = some (.cells (bytesRow s (grownCap w s.size 0 5)) 5 ((bytesRow s (grownCap w s.size 0 5)).size, (bytesRow s (grownCap w s.size 0 5)).size + 1)) := hn
    unfold World.frozen?
    rw [hn']
    have hz : s.size ≤ (bytesRow s (grownCap w s.size 0 5)).size := by
      rw [bytesRow, Array.size_append, Array.size_map]
      show s.data.size ≤ _
      omega
    simp
    omega

/-- One byte of the bytes is another: the text that they are. -/
theorem bytes_back (w : World) (s : ByteArray) (g k cap : Nat) (u : UInt8) (hk : k < s.size) (hc : ∀ j, j < s.size → w.cell? ⟨g, j, none⟩ = some (.int .u8 (if j = k then (u.toNat : Int) else (s[j]!.toNat : Int)))) :
    (convert 63 9 (.slice (some ⟨g, 0, none⟩) s.size cap)).run Try.prog w = .ok (.string (s.set! k u)) w := by
  have hsz : (s.set! k u).data.toList.length = s.size := by
    rw [Array.length_toList]
    show (s.set! k u).size = s.size
    exact ByteArray.size_set! s k u
  have h := run_convert_bytes_back (P := Try.prog) w 63 9 5 ⟨g, 0, none⟩ cap (s.set! k u).data.toList Try.underlying63 Try.underlying5 Try.underlying9 (fun j hj => by
    rw [hsz] at hj
    have e : (s.set! k u).data.toList[j] = (s.set! k u)[j]! := by
      rw [getElem!_pos (s.set! k u) j (by rw [ByteArray.size_set!]; exact hj)]
      rfl
    rw [Addr.add_lit, Nat.zero_add, hc j hj, e, ByteArray.getElem!_set! s k u j hk]
    by_cases hjk : j = k
    · rw [if_pos hjk, if_pos hjk.symm]
    · rw [if_neg hjk, if_neg (fun e => hjk e.symm)])
  rw [hsz] at h
  exact h

/-- The byte that stands there when it was turned. -/
def turnedB (D : ByteArray) (n : Nat) (q : Int) : UInt8 := UInt8.ofNat (IntKind.u8.wrap ((D[n]!.toNat : Int) + (1 + q))).toNat
theorem turned_nat (D : ByteArray) (n : Nat) (q : Int) : ((turnedB D n q).toNat : Int) = IntKind.u8.wrap ((D[n]!.toNat : Int) + (1 + q)) := by
  unfold turnedB
  rw [IntKind.wrap_u8, UInt8.toNat_ofNat']
  omega
theorem turned_ne (D : ByteArray) (n : Nat) (q : Int) (h0 : 0 ≤ q) (h1 : q < 255) : turnedB D n q ≠ D[n]! := by
  intro e
  have h := turned_nat D n q
  rw [e, IntKind.wrap_u8] at h
  have := D[n]!.toNat_lt
  omega

theorem turn_facts {R : List ByteArray} {D : ByteArray} {w1 w2 w3 : World} {n cap : Nat} {q : Int} (hD : cat R = D) (b2 : Below w1.heap.size w1 w2) (b3 : Below w2.heap.size w2 w3) (hs2 : w1.heap.size ≤ w2.heap.size)
    (hby : ∀ j, j < D.size → w3.cell? ⟨w2.heap.size, j, none⟩ = some (.int .u8 (D[j]!.toNat : Int)) ∧ w3.frozen? ⟨w2.heap.size, j, none⟩ = false) (hn : n < D.size) (h0 : 0 ≤ q) (h1 : q < 255) :
    Below w1.heap.size w1 (w3.setCell ⟨w2.heap.size, n, none⟩ (.int .u8 (IntKind.u8.wrap ((D[n]!.toNat : Int) + (1 + q))))).drew ∧ Damaged (cat R) (D.set! n (turnedB D n q)) n ∧
      (convert 63 9 (.slice (some ⟨w2.heap.size, 0, none⟩) D.size cap)).run Try.prog (w3.setCell ⟨w2.heap.size, n, none⟩ (.int .u8 (IntKind.u8.wrap ((D[n]!.toNat : Int) + (1 + q))))).drew.drew =
        .ok (.string (D.set! n (turnedB D n q))) (w3.setCell ⟨w2.heap.size, n, none⟩ (.int .u8 (IntKind.u8.wrap ((D[n]!.toNat : Int) + (1 + q))))).drew.drew := by
  refine ⟨?_, ?_, ?_⟩
  · have hb : Below w1.heap.size w1 w3 := b2.trans (b3.mono hs2)
    have u := upd_set w3 w2.heap.size n (.int .u8 (IntKind.u8.wrap ((D[n]!.toNat : Int) + (1 + q))))
    exact (hb.trans (below_of_upd u hb.size (fun k e => by subst e; exact hs2))).drew
  · rw [hD]
    exact .inr ⟨hn, ByteArray.size_set! _ _ _, fun i _ hne => ByteArray.getElem!_set!_ne _ _ _ _ (fun e => hne e.symm), by rw [ByteArray.getElem!_set!_self _ _ _ hn]; exact turned_ne D n q h0 h1⟩
  · refine bytes_back _ D w2.heap.size n cap _ hn (fun j hj => ?_)
    show (w3.setCell ⟨w2.heap.size, n, none⟩ _).cell? _ = _
    by_cases hjn : j = n
    · subst hjn
      rw [if_pos rfl, World.cell?_setCell_same _ _ _ (hby j hj).1, turned_nat]
    · rw [if_neg hjn, World.cell?_setCell_other _ _ _ _ (by simp)]
      exact (hby j hj).1

end Go.Proofs.Ytmjdndhfmfjbiab

namespace Go.Proofs.Ytmjdndhfmfjbiab
open Go.RowKit

theorem ans0 (S : RefS) (o : OpD) (h : o.kind ≠ 3) : doAns S o = 0 := by
  unfold doAns
  simp [h]

theorem Outcome.from {PR : World → Nat → (Nat → Prop) → RefS → List ByteArray → Prop} {w wa w1 : World} {H : Nat} {F : Nat → Prop} {R : List ByteArray} {S1 : RefS} (hb : Below w.heap.size w wa) (h : Outcome PR wa H F R S1 w1) : Outcome PR w H F R S1 w1 := by
  obtain ⟨F1, R1, h1, h2, h3⟩ := h
  exact ⟨F1, R1, h1, (Upd.of_below hb).trans h2 (fun _ _ e => e), fun k hk => by
    rcases h3 k hk with h | h
    · exact .inl h
    · have := hb.size
      exact .inr (by omega)⟩

theorem two_int {a b c d : Int} (h1 : a = b) (h2 : c = d) : Ending.returned (.tuple #[.int .i64 a, .int .i64 c]) = .returned (.tuple #[.int .i64 b, .int .i64 d]) := by rw [h1, h2]

end Go.Proofs.Ytmjdndhfmfjbiab

namespace Go.Proofs.Ytmjdndhfmfjbiab
open Go.RowKit
attribute [local go_sem ↓] Go.wp_at_zero Go.wp_at_succ appSem_eq

theorem infoInt : (Try.prog.info? 3).map (fun i => (i.zero, i.size, i.bytes)) = some (some (.int .i64 0), 1, 8) := by kernel_rfl

end Go.Proofs.Ytmjdndhfmfjbiab

namespace Go.Proofs.Ytmjdndhfmfjbiab
open Go.RowKit
attribute [local go_sem ↓] Go.wp_at_zero Go.wp_at_succ appSem_eq

end Go.Proofs.Ytmjdndhfmfjbiab

namespace Go.Proofs.Ytmjdndhfmfjbiab
open Go.RowKit
attribute [local go_sem ↓] Go.wp_at_zero Go.wp_at_succ appSem_eq

theorem cells6s {w w1 : World} {k a b c d : Int} {s : ByteArray} {t : TypeId} (hb : Below (w.alloc (.cells #[.int .i64 k, .int .i64 a, .int .i64 b, .int .i64 c, .int .i64 d, .string s] t)).heap.size (w.alloc (.cells #[.int .i64 k, .int .i64 a, .int .i64 b, .int .i64 c, .int .i64 d, .string s] t)) w1) :
    w1.cell? ⟨w.heap.size, 0, none⟩ = some (.int .i64 k) ∧ w1.cell? ⟨w.heap.size, 1, none⟩ = some (.int .i64 a) ∧ w1.cell? ⟨w.heap.size, 2, none⟩ = some (.int .i64 b) ∧ w1.cell? ⟨w.heap.size, 3, none⟩ = some (.int .i64 c) ∧ w1.cell? ⟨w.heap.size, 4, none⟩ = some (.int .i64 d) ∧ w1.cell? ⟨w.heap.size, 5, none⟩ = some (.string s) :=
  ⟨cell_later hb (by simp), cell_later hb (by simp), cell_later hb (by simp), cell_later hb (by simp), cell_later hb (by simp), cell_later hb (by simp)⟩

def gameCells (H B : Nat) : List Value := [.pointer (some ⟨H, 0, none⟩), .pointer (some ⟨B, 0, none⟩), .slice none 0 0, .string ⟨#[]⟩, .slice none 0 0, .slice none 0 0, .slice none 0 0, .slice none 0 0, .slice none 0 0, .slice none 0 0]
def gameNew (H B : Nat) : GameV := ⟨H, B, nilV, ⟨#[]⟩, nilV, nilV, nilV, nilV, nilV, nilV⟩
theorem lists_nil (w : World) (c : Nat → Nat) (sl : TypeId) (f : Int → List Value) (ca cb b : Nat) : Lists w c sl f ca cb nilV nilV b [] [] :=
  ⟨Row.nil w sl 1, Row.nil w sl 1, Nat.zero_le _, rfl, fun k u h => by simp at h, fun k u h => by simp at h, fun g e => by simp [nilV, Value.ownBlock] at e, fun g e => by simp [nilV, Value.ownBlock] at e⟩

end Go.Proofs.Ytmjdndhfmfjbiab

namespace Go.Proofs.Ytmjdndhfmfjbiab
open Go.RowKit

end Go.Proofs.Ytmjdndhfmfjbiab

namespace Go.Proofs.Ytmjdndhfmfjbiab
open Go.RowKit

theorem played_kind {A : AimD} {k c : Int} (h : playedB A k c = true) : 1 ≤ k ∧ k ≤ 10 := by
  by_cases hk : 1 ≤ k ∧ k ≤ 10
  · exact hk
  · unfold playedB at h
    rw [if_neg (by omega), if_neg (by omega), if_neg (by omega), if_neg (by omega), if_neg (by omega), if_neg (by omega), if_neg (by omega), if_neg (by omega), if_neg (by omega), if_neg (by omega)] at h
    cases h

theorem Upd.zero {w w1 : World} {c : Nat → Nat} {w0 : World} (hz : ∀ k, k < w0.heap.size → c k = 0) (hs : w0.heap.size ≤ w.heap.size) (hb : Below w0.heap.size w0 w) (hu : Upd (fun k => c k ≠ 0) w w1) : Below w0.heap.size w0 w1 :=
  ⟨hu.os.trans hb.os, hu.tape.trans hb.tape, hu.output.trans hb.output, Nat.le_trans hs hu.size, fun k hk => (hu.block k (by omega) (by simp [hz k hk])).trans (hb.block k hk)⟩

/-- A script lies there. -/
def ScriptAt (w : World) (ao : Option Addr) (l : List OpD) : Prop := ∀ (j : Nat) o, l[j]? = some o → ∃ g off, ao = some ⟨g, off, none⟩ ∧ w.cell? ⟨g, off + j * 6, none⟩ = some (.int .i64 o.kind) ∧ w.cell? ⟨g, off + j * 6 + 1, none⟩ = some (.int .i64 o.a) ∧ w.cell? ⟨g, off + j * 6 + 2, none⟩ = some (.int .i64 o.b) ∧
  w.cell? ⟨g, off + j * 6 + 3, none⟩ = some (.int .i64 o.c) ∧ w.cell? ⟨g, off + j * 6 + 4, none⟩ = some (.int .i64 o.d) ∧ w.cell? ⟨g, off + j * 6 + 5, none⟩ = some (.string o.s)
theorem ScriptAt.below {w w1 : World} {ao : Option Addr} {l : List OpD} (h : ScriptAt w ao l) (hb : Below w.heap.size w w1) : ScriptAt w1 ao l := fun j o ho => by
  obtain ⟨g, off, e, c0, c1, c2, c3, c4, c5⟩ := h j o ho
  exact ⟨g, off, e, cell_later hb c0, cell_later hb c1, cell_later hb c2, cell_later hb c3, cell_later hb c4, cell_later hb c5⟩

end Go.Proofs.Ytmjdndhfmfjbiab

namespace Go.Proofs.Ytmjdndhfmfjbiab
open Go.RowKit Go.Deep Go.ChangeShapes Go.WideShapes
open Go.ChangeMaps (open_string shut_string)

theorem laidOut : laidOutB Try.prog = true := by kernel_rfl
theorem ownZ : ownKnob Try.prog.godebug = none := by kernel_rfl
theorem cellsInt : Try.prog.cellsOf 3 = 1 := by kernel_rfl
theorem cellsStr : Try.prog.cellsOf 9 = 1 := by kernel_rfl


theorem bulk_part {H : Type} {d : DataW H} {l : List (DataW H)} (h : d ∈ l) : Rows.uptoBulk d ≤ Rows.uptoBulkAll l := by
  induction l with
  | nil => cases h
  | cons x r ih =>
    simp only [Rows.uptoBulkAll]
    rcases List.mem_cons.1 h with e | e
    · subst e; omega
    · have := ih e; omega
theorem bulk_one {H : Type} (d : DataW H) : 1 ≤ Rows.uptoBulk d := by
  cases d with
  | lit l => cases l <;> simp [Rows.uptoBulk]
  | nil => simp [Rows.uptoBulk]
  | ptr d => simp [Rows.uptoBulk]
  | slice elems spare => simp [Rows.uptoBulk]
  | agg parts => simp [Rows.uptoBulk]
  | iface t d => simp [Rows.uptoBulk]
  | map entries => simp [Rows.uptoBulk]
  | held h => simp [Rows.uptoBulk]
theorem bulk_len {H : Type} (l : List (DataW H)) : l.length ≤ Rows.uptoBulkAll l := by
  induction l with
  | nil => simp [Rows.uptoBulkAll]
  | cons x r ih => have := bulk_one x; simp only [Rows.uptoBulkAll, List.length_cons]; omega

theorem small2 {H : Type} {d0 d1 : DataW H} (hk : Rows.uptoSmall H ([d0, d1] ++ []) = true) : Rows.uptoBulk d1 ≤ 1048576 := by
  have h : Rows.uptoBulkAll ([d0, d1] ++ []) ≤ 1048576 := of_decide_eq_true hk
  simp only [List.append_nil, Rows.uptoBulkAll] at h
  omega
theorem arr2z {args : Array Value} {a b : Value} (h : args.toList = [a, b]) : args = #[a, b] := by cases args; simp only at h; rw [h]
theorem arr1z {args : Array Value} {a : Value} (h : args.toList = [a]) : args = #[a] := by cases args; simp only at h; rw [h]

end Go.Proofs.Ytmjdndhfmfjbiab

/-
  Lists that are kept in their order, and the document's picking of the least: the same.
-/
namespace Go.Proofs.Ytmjdndhfmfjbiab
open Go.RowKit

theorem tl_inj {f g : ByteArray} (h : f.toList = g.toList) : f = g := by
  rw [ByteArray.toList_eq, ByteArray.toList_eq] at h
  exact ByteArray.ext (Array.toList_inj.1 h)
theorem tl_empty : (⟨#[]⟩ : ByteArray).toList = [] := by rw [ByteArray.toList_eq]
theorem tl_nil {f : ByteArray} (h : f.toList = []) : f = ⟨#[]⟩ := tl_inj (by rw [h, tl_empty])

theorem less_irrefl : ∀ x : List UInt8, Op.bytesLess x x = false
  | [] => rfl
  | a :: x => by simp [Op.bytesLess, less_irrefl x]
theorem less_trans : ∀ {x y z : List UInt8}, Op.bytesLess x y = true → Op.bytesLess y z = true → Op.bytesLess x z = true
  | _, [], _, h, _ => by simp [Op.bytesLess] at h
  | _, _ :: _, [], _, h => by simp [Op.bytesLess] at h
  | [], _ :: _, _ :: _, _, _ => rfl
  | a :: x, b :: y, c :: z, h1, h2 => by
    simp only [Op.bytesLess, Bool.or_eq_true, decide_eq_true_eq, Bool.and_eq_true, beq_iff_eq] at h1 h2 ⊢
    rcases h1 with h1 | ⟨rfl, h1⟩
    · rcases h2 with h2 | ⟨rfl, h2⟩
      · exact .inl (UInt8.lt_trans h1 h2)
      · exact .inl h1
    · rcases h2 with h2 | ⟨rfl, h2⟩
      · exact .inl h2
      · exact .inr ⟨rfl, less_trans h1 h2⟩
theorem less_total : ∀ (x y : List UInt8), x = y ∨ Op.bytesLess x y = true ∨ Op.bytesLess y x = true
  | [], [] => .inl rfl
  | [], _ :: _ => .inr (.inl rfl)
  | _ :: _, [] => .inr (.inr rfl)
  | a :: x, b :: y => by
    simp only [Op.bytesLess, Bool.or_eq_true, decide_eq_true_eq, Bool.and_eq_true, beq_iff_eq]
    rcases UInt8.lt_or_lt_of_ne (a := a) (b := b) |> fun h => (Classical.em (a = b)).imp id h with rfl | h | h
    · rcases less_total x y with rfl | h | h
      · exact .inl rfl
      · exact .inr (.inl (.inr ⟨rfl, h⟩))
      · exact .inr (.inr (.inr ⟨rfl, h⟩))
    · exact .inr (.inl (.inl h))
    · exact .inr (.inr (.inl h))

theorem lt_irrefl (f : ByteArray) : ltB f f = false := less_irrefl _
theorem lt_trans {f g h : ByteArray} (a : ltB f g = true) (b : ltB g h = true) : ltB f h = true := less_trans a b
theorem lt_asymm {f g : ByteArray} (a : ltB f g = true) : ltB g f = false := by
  cases h : ltB g f with
  | false => rfl
  | true => have := lt_trans a h; rw [lt_irrefl] at this; cases this
theorem lt_total (f g : ByteArray) : f = g ∨ ltB f g = true ∨ ltB g f = true := by
  rcases less_total f.toList g.toList with h | h | h
  · exact .inl (tl_inj h)
  · exact .inr (.inl h)
  · exact .inr (.inr h)
theorem gt_lt (f g : ByteArray) : gtB f g = ltB g f := by
  rcases lt_total f g with rfl | h | h
  · simp [gtB, lt_irrefl]
  · rw [lt_asymm h]
    have : Op.bytesLess f.toList g.toList = true := h
    simp [gtB, this]
  · rw [h]
    have h1 : Op.bytesLess f.toList g.toList = false := lt_asymm h
    have h2 : f.toList ≠ g.toList := fun e => by have := tl_inj e; subst this; rw [lt_irrefl] at h; cases h
    simp [gtB, h1, h2]
theorem empty_lt {f : ByteArray} (h : f.toList ≠ []) : ltB ⟨#[]⟩ f = true := by
  unfold ltB
  rw [tl_empty]
  cases hf : f.toList with
  | nil => exact absurd hf h
  | cons a l => rfl

/-- What is picked of the first k. -/
theorem pick_spec {L : List ByteArray} (hne : ∀ f ∈ L, f.toList ≠ []) (last : ByteArray) : ∀ k, k ≤ L.length →
    (pickTo L last k = ⟨#[]⟩ ∧ ∀ f ∈ L.take k, ltB last f = false) ∨ (pickTo L last k ∈ L.take k ∧ ltB last (pickTo L last k) = true ∧ ∀ f ∈ L.take k, ltB last f = true → f = pickTo L last k ∨ ltB (pickTo L last k) f = true)
  | 0, _ => .inl ⟨rfl, fun f hf => by simp at hf⟩
  | k + 1, hk => by
    have hx : L[k]? = some L[k] := List.getElem?_eq_getElem (by omega)
    generalize hf : L[k] = f at hx
    have hmem : f ∈ L := List.mem_of_getElem? hx
    rw [pick_step hx, List.take_add_one, hx]
    simp only [Option.toList_some, takesB, gt_lt]
    have hpn : ∀ g, g ∈ L.take k → g.toList.isEmpty = false := fun g hg => by
      have := hne g (List.mem_of_mem_take hg)
      cases h : g.toList with
      | nil => exact absurd h this
      | cons _ _ => rfl
    cases hl : ltB last f with
    | false =>
      simp only [Bool.false_and, Bool.false_eq_true, if_false]
      rcases pick_spec hne last k (by omega) with ⟨h1, h2⟩ | ⟨h1, h2, h3⟩
      · refine .inl ⟨h1, fun g hg => ?_⟩
        rcases List.mem_append.1 hg with hg | hg
        · exact h2 g hg
        · simp at hg; subst hg; exact hl
      · refine .inr ⟨List.mem_append_left _ h1, h2, fun g hg hlt => ?_⟩
        rcases List.mem_append.1 hg with hg | hg
        · exact h3 g hg hlt
        · simp at hg; subst hg; rw [hl] at hlt; cases hlt
    | true =>
      rcases pick_spec hne last k (by omega) with ⟨h1, h2⟩ | ⟨h1, h2, h3⟩
      · have he : (pickTo L last k).toList.isEmpty = true := by rw [h1, tl_empty]; rfl
        rw [he]
        simp only [Bool.true_or, Bool.and_self, if_true]
        refine .inr ⟨by simp, hl, fun g hg hlt => ?_⟩
        rcases List.mem_append.1 hg with hg | hg
        · rw [h2 g hg] at hlt; cases hlt
        · simp at hg; exact .inl hg
      · rw [hpn _ h1]
        simp only [Bool.true_and, Bool.false_or]
        cases hb : ltB f (pickTo L last k) with
        | true =>
          simp only [if_true]
          refine .inr ⟨by simp, hl, fun g hg hlt => ?_⟩
          rcases List.mem_append.1 hg with hg | hg
          · rcases h3 g hg hlt with rfl | h
            · exact .inr hb
            · exact .inr (lt_trans hb h)
          · simp at hg; exact .inl hg
        | false =>
          simp only [Bool.false_eq_true, if_false]
          refine .inr ⟨List.mem_append_left _ h1, h2, fun g hg hlt => ?_⟩
          rcases List.mem_append.1 hg with hg | hg
          · exact h3 g hg hlt
          · simp at hg
            subst hg
            rcases lt_total g (pickTo L last k) with h | h | h
            · exact .inl h
            · rw [h] at hb; cases hb
            · exact .inr h

/-- Texts, each less than the next. -/
abbrev SortedT (l : List ByteArray) : Prop := l.Pairwise (fun a b => ltB a b = true)

theorem sorted_lt {l : List ByteArray} (h : SortedT l) {i j : Nat} {a b : ByteArray} (hij : i < j) (ha : l[i]? = some a) (hb : l[j]? = some b) : ltB a b = true := by
  obtain ⟨hi, rfl⟩ := List.getElem?_eq_some_iff.1 ha
  obtain ⟨hj, rfl⟩ := List.getElem?_eq_some_iff.1 hb
  exact List.pairwise_iff_getElem.1 h i j hi hj hij

theorem sel_sorted {L Q : List ByteArray} (hne : ∀ f ∈ L, f.toList ≠ []) (hs : SortedT Q) (hp : Q.Perm L) : ∀ n, n ≤ Q.length → (selTo L n).1 = Q.take n ∧ ((n = 0 ∧ (selTo L n).2 = ⟨#[]⟩) ∨ ∃ m, n = m + 1 ∧ Q[m]? = some (selTo L n).2)
  | 0, _ => ⟨rfl, .inl ⟨rfl, rfl⟩⟩
  | n + 1, hn => by
    obtain ⟨ih1, ih2⟩ := sel_sorted hne hs hp n (by omega)
    have hq : Q[n]? = some Q[n] := List.getElem?_eq_getElem (by omega)
    generalize hf : Q[n] = q at hq
    have hqL : q ∈ L := hp.mem_iff.1 (List.mem_of_getElem? hq)
    -- what stands ahead is not above the last, what is left is
    have habove : ∀ i f, Q[i]? = some f → (ltB (selTo L n).2 f = true ↔ n ≤ i) := by
      intro i f hi
      have hfL : f ∈ L := hp.mem_iff.1 (List.mem_of_getElem? hi)
      rcases ih2 with ⟨rfl, h2⟩ | ⟨m, rfl, h2⟩
      · rw [h2]
        exact ⟨fun _ => Nat.zero_le _, fun _ => empty_lt (hne f hfL)⟩
      · constructor
        · intro h
          rcases Nat.lt_or_ge m i with h3 | h3
          · omega
          · rcases Nat.lt_or_eq_of_le h3 with h4 | h4
            · have := lt_asymm (sorted_lt hs h4 hi h2)
              rw [h] at this; cases this
            · subst h4
              rw [h2] at hi
              cases hi
              rw [lt_irrefl] at h; cases h
        · intro h
          exact sorted_lt hs (by omega) h2 hi
    have hpick : pickTo L (selTo L n).2 L.length = q := by
      rcases pick_spec hne (selTo L n).2 L.length (Nat.le_refl _) with ⟨-, h2⟩ | ⟨h1, h2, h3⟩
      · rw [List.take_length] at h2
        have := h2 q hqL
        rw [(habove n q hq).2 (Nat.le_refl _)] at this; cases this
      · rw [List.take_length] at h1 h3
        rcases h3 q hqL ((habove n q hq).2 (Nat.le_refl _)) with h | h
        · exact h.symm
        · obtain ⟨i, hi⟩ := List.getElem?_of_mem (hp.mem_iff.2 h1)
          have hin := (habove i _ hi).1 h2
          rcases Nat.lt_or_eq_of_le hin with h4 | h4
          · have := lt_asymm (sorted_lt hs h4 hq hi)
            rw [h] at this; cases this
          · subst h4
            rw [hq] at hi
            cases hi
            simp [lt_irrefl] at h
    refine ⟨?_, .inr ⟨n, rfl, ?_⟩⟩
    · rw [selTo, hpick, ih1, List.take_add_one, hq]
      rfl
    · rw [selTo, hpick]
      exact hq

/-- The document's list of filters is the one that is kept in order. -/
theorem sel_eq {L Q : List ByteArray} (hne : ∀ f ∈ L, f.toList ≠ []) (hs : SortedT Q) (hp : Q.Perm L) : (selTo L L.length).1 = Q := by
  have := (sel_sorted hne hs hp Q.length (Nat.le_refl _)).1
  rw [← hp.length_eq, this, List.take_length]
end Go.Proofs.Ytmjdndhfmfjbiab

namespace Go.Proofs.Ytmjdndhfmfjbiab
open Go.RowKit

theorem ahead_irrefl (x : WaitD) : aheadB x x = false := by simp [aheadB]
theorem ahead_trans {x y z : WaitD} (h1 : aheadB x y = true) (h2 : aheadB y z = true) : aheadB x z = true := by
  simp only [aheadB, Bool.or_eq_true, decide_eq_true_eq, Bool.and_eq_true, beq_iff_eq] at *
  omega
theorem ahead_asymm {x y : WaitD} (h1 : aheadB x y = true) : aheadB y x = false := by
  cases h : aheadB y x with
  | false => rfl
  | true => have := ahead_trans h1 h; rw [ahead_irrefl] at this; cases this
theorem ahead_total {x y : WaitD} (h : x.number ≠ y.number) : aheadB x y = true ∨ aheadB y x = true := by
  simp only [aheadB, Bool.or_eq_true, decide_eq_true_eq, Bool.and_eq_true, beq_iff_eq]
  omega
theorem ahead_le {x y : WaitD} (h : aheadB x y = true) : x.deadline ≤ y.deadline := by
  simp only [aheadB, Bool.or_eq_true, decide_eq_true_eq, Bool.and_eq_true, beq_iff_eq] at h
  omega

/-- The best is ahead of the others. -/
theorem best_min {l : List WaitD} : ∀ k, k ≤ l.length → ∀ b y, bestTo l k = some b → l[b]? = some y → ∀ x ∈ l.take k, aheadB x y = false
  | 0, _, b, y, h, _ => by simp [bestTo] at h
  | k + 1, hk, b, y, h, hy => by
    have hx : l[k]? = some l[k] := List.getElem?_eq_getElem (by omega)
    generalize hz : l[k] = z at hx
    intro x hxm
    rw [List.take_add_one, hx] at hxm
    cases hb : bestTo l k with
    | none =>
      rw [best_first hx hb] at h
      cases h
      have hk0 : k = 0 := by
        cases k with
        | zero => rfl
        | succ k =>
          obtain ⟨b', hb'⟩ := best_some l (k + 1) (by omega) (by omega)
          rw [hb'] at hb; cases hb
      subst hk0
      simp at hxm
      rw [hx] at hy
      cases hy
      subst hxm
      exact ahead_irrefl _
    | some b' =>
      have hb'l := best_lt l k b' hb
      obtain ⟨y', hy'⟩ : ∃ y', l[b']? = some y' := ⟨_, List.getElem?_eq_getElem (by omega)⟩
      have ih := best_min k (by omega) b' y' hb hy'
      rw [best_next hx hb hy'] at h
      cases ha : aheadB z y' with
      | true =>
        rw [ha] at h
        simp only [if_true, Option.some.injEq] at h
        subst h
        rw [hx] at hy
        cases hy
        rcases List.mem_append.1 hxm with hm | hm
        · have h1 := ih x hm
          cases h2 : aheadB x y with
          | false => rfl
          | true => have := ahead_trans h2 ha; rw [h1] at this; cases this
        · simp at hm; subst hm; exact ahead_irrefl _
      | false =>
        rw [ha] at h
        simp only [Bool.false_eq_true, if_false, Option.some.injEq] at h
        subst h
        rw [hy'] at hy
        cases hy
        rcases List.mem_append.1 hxm with hm | hm
        · exact ih x hm
        · simp at hm; subst hm; exact ha

theorem set_perm {α : Type} : ∀ (l : List α) (b : Nat) (x z : α), l[b]? = some x → (x :: l.set b z).Perm (z :: l)
  | [], b, x, z, h => by simp at h
  | a :: t, 0, x, z, h => by
    simp at h
    subst h
    exact List.Perm.swap _ _ _
  | a :: t, b + 1, x, z, h => by
    rw [List.getElem?_cons_succ] at h
    rw [List.set_cons_succ]
    exact ((List.Perm.swap _ _ _).trans ((set_perm t b x z h).cons a)).trans (List.Perm.swap _ _ _)

theorem pop_perm {l : List WaitD} {b : Nat} {x : WaitD} (h : l[b]? = some x) : (x :: popAt l b).Perm l := by
  obtain ⟨hb, -⟩ := List.getElem?_eq_some_iff.1 h
  have hne : l ≠ [] := fun e => by subst e; simp at hb
  unfold popAt
  rw [List.getLast?_eq_some_getLast hne]
  simp only
  generalize hz : l.getLast hne = z
  have hp := set_perm l b x z h
  have hne2 : l.set b z ≠ [] := fun e => by have := congrArg List.length e; simp at this; exact hne this
  have hz' : l[l.length - 1]? = some z := by rw [← List.getLast?_eq_getElem?, List.getLast?_eq_some_getLast hne, hz]
  have hl : (l.set b z).getLast hne2 = z := by
    have h3 : (l.set b z).getLast? = some z := by
      rw [List.getLast?_eq_getElem?, List.length_set, List.getElem?_set]
      split
      · rfl
      · exact hz'
    rw [List.getLast?_eq_some_getLast hne2] at h3
    exact Option.some.inj h3
  have hd : (l.set b z).dropLast ++ [z] = l.set b z := by
    have := List.dropLast_concat_getLast hne2
    rw [hl] at this
    exact this
  rw [← hd] at hp
  have h2 : (z :: (x :: (l.set b z).dropLast)).Perm (z :: l) := (List.Perm.trans (by
    have : (x :: ((l.set b z).dropLast ++ [z])) = (x :: (l.set b z).dropLast) ++ [z] := rfl
    rw [this]
    exact (List.perm_append_comm (l₁ := [z]))) hp)
  exact h2.cons_inv

/-- Messages, each sent ahead of the next. -/
abbrev SortedW (l : List WaitD) : Prop := l.Pairwise (fun a b => aheadB a b = true)

/-- The best of a list is the head of the same that is kept in order. -/
theorem best_head {l Q : List WaitD} {p : WaitD} (hs : SortedW (p :: Q)) (hp : (p :: Q).Perm l) : ∃ b, bestTo l l.length = some b ∧ l[b]? = some p := by
  have hlen : 0 < l.length := by rw [← hp.length_eq]; simp
  obtain ⟨b, hb⟩ := best_some l l.length hlen (Nat.le_refl _)
  have hbl := best_lt l _ b hb
  obtain ⟨y, hy⟩ : ∃ y, l[b]? = some y := ⟨_, List.getElem?_eq_getElem hbl⟩
  have hmin := best_min l.length (Nat.le_refl _) b y hb hy
  rw [List.take_length] at hmin
  have hyl : y ∈ p :: Q := hp.mem_iff.2 (List.mem_of_getElem? hy)
  rcases List.mem_cons.1 hyl with rfl | hyQ
  · exact ⟨b, hb, hy⟩
  · have h1 := (List.pairwise_cons.1 hs).1 y hyQ
    rw [hmin p (hp.mem_iff.1 (by simp))] at h1
    cases h1

/-- What waits, by the document, is the list that is kept in order. -/
theorem selN_eq : ∀ {Q l : List WaitD}, SortedW Q → Q.Perm l → selN l.length l = Q
  | [], l, _, hp => by
    have : l = [] := hp.symm.eq_nil
    subst this; rfl
  | p :: Q, l, hs, hp => by
    obtain ⟨b, hb, hy⟩ := best_head hs hp
    rw [sel_step hb hy]
    congr 1
    exact selN_eq (List.pairwise_cons.1 hs).2 ((hp.trans (pop_perm hy).symm).cons_inv)
end Go.Proofs.Ytmjdndhfmfjbiab

namespace Go.Proofs.Ytmjdndhfmfjbiab
open Go.RowKit

/-- A thing more, in its place: ahead of the first that it goes ahead of. -/
def insM {α : Type} (lt : α → α → Bool) (x : α) : List α → List α
  | [] => [x]
  | y :: l => if lt x y then x :: y :: l else y :: insM lt x l

theorem ins_perm {α : Type} (lt : α → α → Bool) (x : α) : ∀ l : List α, (insM lt x l).Perm (x :: l)
  | [] => List.Perm.refl _
  | y :: l => by
    rw [insM]
    split
    · exact List.Perm.refl _
    · exact ((ins_perm lt x l).cons y).trans (List.Perm.swap _ _ _)

theorem ins_sorted {α : Type} {lt : α → α → Bool} (htr : ∀ a b c, lt a b = true → lt b c = true → lt a c = true) {x : α} : ∀ {l : List α}, l.Pairwise (fun a b => lt a b = true) → (∀ y ∈ l, lt x y = true ∨ lt y x = true) → (insM lt x l).Pairwise (fun a b => lt a b = true)
  | [], _, _ => by simp [insM]
  | y :: l, hs, ht => by
    obtain ⟨h1, h2⟩ := List.pairwise_cons.1 hs
    rw [insM]
    split
    · rename_i hxy
      refine List.pairwise_cons.2 ⟨fun z hz => ?_, hs⟩
      rcases List.mem_cons.1 hz with rfl | hz
      · exact hxy
      · exact htr _ _ _ hxy (h1 z hz)
    · rename_i hxy
      refine List.pairwise_cons.2 ⟨fun z hz => ?_, ins_sorted htr h2 (fun w hw => ht w (by simp [hw]))⟩
      rcases List.mem_cons.1 ((ins_perm lt x l).mem_iff.1 hz) with rfl | hz
      · rcases ht y (by simp) with h | h
        · exact absurd h hxy
        · exact h
      · exact h1 z hz

/-- The list as a loop lays it: what stands ahead of the thing; the thing, where it is placed; what stands behind. -/
def insTo {α : Type} (lt : α → α → Bool) (x : α) (l : List α) : Nat → List α × Bool
  | 0 => ([], false)
  | k + 1 => match l[k]? with
    | none => insTo lt x l k
    | some y => if !(insTo lt x l k).2 && lt x y then ((insTo lt x l k).1 ++ [x] ++ [y], true) else ((insTo lt x l k).1 ++ [y], (insTo lt x l k).2)
theorem insTo_step {α : Type} {lt : α → α → Bool} {x y : α} {l : List α} {k : Nat} (h : l[k]? = some y) : insTo lt x l (k + 1) = if !(insTo lt x l k).2 && lt x y then ((insTo lt x l k).1 ++ [x] ++ [y], true) else ((insTo lt x l k).1 ++ [y], (insTo lt x l k).2) := by
  rw [insTo, h]
theorem insTo_len {α : Type} (lt : α → α → Bool) (x : α) (l : List α) : ∀ k, (insTo lt x l k).1.length ≤ k + 1 ∧ ((insTo lt x l k).2 = false → (insTo lt x l k).1.length ≤ k)
  | 0 => ⟨by simp [insTo], fun _ => by simp [insTo]⟩
  | k + 1 => by
    obtain ⟨h1, h2⟩ := insTo_len lt x l k
    rw [insTo]
    cases l[k]? with
    | none => exact ⟨by simp only; omega, fun h => by have := h2 h; simp only; omega⟩
    | some y =>
      simp only
      split
      · rename_i h
        simp only [Bool.and_eq_true, Bool.not_eq_true'] at h
        have := h2 h.1
        exact ⟨by simp; omega, fun h => by cases h⟩
      · exact ⟨by simp; omega, fun h => by have := h2 h; simp; omega⟩

/-- What the loop has laid is the inserted list's beginning. -/
theorem insTo_spec {α : Type} (lt : α → α → Bool) (x : α) (l : List α) : ∀ k, k ≤ l.length →
    ((insTo lt x l k).2 = true → insM lt x l = (insTo lt x l k).1 ++ l.drop k) ∧ ((insTo lt x l k).2 = false → (insTo lt x l k).1 = l.take k ∧ insM lt x l = l.take k ++ insM lt x (l.drop k))
  | 0, _ => ⟨fun h => (by cases h), fun _ => ⟨rfl, rfl⟩⟩
  | k + 1, hk => by
    have hy : l[k]? = some l[k] := List.getElem?_eq_getElem (by omega)
    have hd : l.drop k = l[k] :: l.drop (k + 1) := List.drop_eq_getElem_cons (by omega)
    generalize l[k] = y at hy hd
    obtain ⟨h1, h2⟩ := insTo_spec lt x l k (by omega)
    rw [insTo_step hy]
    cases hp : (insTo lt x l k).2 with
    | true =>
      simp only [Bool.not_true, Bool.false_and, Bool.false_eq_true, if_false]
      refine ⟨fun _ => ?_, fun h => by cases h⟩
      rw [h1 hp, hd, List.append_assoc]
      rfl
    | false =>
      obtain ⟨h3, h4⟩ := h2 hp
      cases hxy : lt x y with
      | true =>
        simp only [Bool.not_false, Bool.and_self, if_true]
        refine ⟨fun _ => ?_, fun h => by cases h⟩
        rw [h4, h3, hd, insM, if_pos hxy]
        simp
      | false =>
        simp only [Bool.not_false, Bool.and_false, Bool.false_eq_true, if_false]
        refine ⟨fun h => (by cases h), fun _ => ?_⟩
        have ht : l.take (k + 1) = l.take k ++ [y] := by rw [List.take_add_one, hy]; rfl
        refine ⟨by rw [h3, ht], ?_⟩
        rw [h4, hd, insM, hxy, ht]
        simp
/-- .. and at the end the whole of it. -/
theorem insTo_end {α : Type} (lt : α → α → Bool) (x : α) (l : List α) : insM lt x l = if (insTo lt x l l.length).2 then (insTo lt x l l.length).1 else (insTo lt x l l.length).1 ++ [x] := by
  obtain ⟨h1, h2⟩ := insTo_spec lt x l l.length (Nat.le_refl _)
  cases hp : (insTo lt x l l.length).2 with
  | true => rw [h1 hp]; simp
  | false =>
    obtain ⟨h3, h4⟩ := h2 hp
    rw [h4, h3]
    simp [insM]
end Go.Proofs.Ytmjdndhfmfjbiab

namespace Go.Proofs.Ytmjdndhfmfjbiab
open Go.RowKit

/-- What waits is nothing to what is sent. -/
def waited (T : RefS) (W : List WaitD) : RefS := { T with wait := W }
theorem waited_same (T : RefS) : waited T T.wait = T := rfl
theorem waited_twice (T : RefS) (V W : List WaitD) : waited (waited T V) W = waited T W := rfl
theorem sendOne_wait (T : RefS) (m : WaitD) (a : Nat) (W : List WaitD) : sendOne (waited T W) m a = waited (sendOne T m a) W := by
  unfold sendOne waited
  simp only
  split
  · split <;> rfl
  · rfl
theorem sendTo_wait (T : RefS) (m : WaitD) (W : List WaitD) : ∀ a, sendTo (waited T W) m a = waited (sendTo T m a) W
  | 0 => rfl
  | a + 1 => by rw [sendTo, sendTo, sendTo_wait T m W a, sendOne_wait]
/-- Messages are sent, one by one. -/
def sendAll (T : RefS) (D : List WaitD) : RefS := D.foldl (fun T x => sendTo T x 8) T
theorem sendAll_cons (T : RefS) (x : WaitD) (D : List WaitD) : sendAll T (x :: D) = sendAll (sendTo T x 8) D := by
  unfold sendAll
  rw [List.foldl_cons]
theorem sendAll_wait (W : List WaitD) : ∀ (D : List WaitD) (T : RefS), sendAll (waited T W) D = waited (sendAll T D) W
  | [], _ => rfl
  | x :: D, T => by
    rw [sendAll_cons, sendAll_cons, sendTo_wait, sendAll_wait W D]
theorem sendAll_snoc (T : RefS) (D : List WaitD) (x : WaitD) : sendAll T (D ++ [x]) = sendTo (sendAll T D) x 8 := by simp [sendAll]

def dueB (to : Int) (x : WaitD) : Bool := decide (x.deadline ≤ to)

/-- A Tick's sending, out of the list that is kept in order. -/
theorem deliver_sorted (to : Int) : ∀ (Q : List WaitD) (T : RefS) (n : Nat), SortedW Q → Q.Pairwise (fun a b => a.number ≠ b.number) → Q.Perm T.wait → Q.length ≤ n →
    ∃ W, deliverN to n T = waited (sendAll T (Q.filter (dueB to))) W ∧ (Q.filter (fun x => !dueB to x)).Perm W
  | [], T, n, _, _, hp, _ => by
    have hw : T.wait = [] := hp.symm.eq_nil
    refine ⟨T.wait, ?_, by rw [hw]; exact List.Perm.refl _⟩
    show deliverN to n T = T
    cases n with
    | zero => rfl
    | succ n => rw [deliverN, hw]; rfl
  | p :: Q, T, 0, _, _, _, hn => by simp at hn
  | p :: Q, T, n + 1, hs, hd, hp, hn => by
    obtain ⟨b, hb, hy⟩ := best_head hs hp
    obtain ⟨s1, s2⟩ := List.pairwise_cons.1 hs
    obtain ⟨d1, d2⟩ := List.pairwise_cons.1 hd
    rw [deliverN, hb]
    simp only [hy]
    by_cases ht : to < p.deadline
    · rw [if_pos ht]
      have hall : ∀ q ∈ p :: Q, dueB to q = false := fun q hq => by
        rcases List.mem_cons.1 hq with rfl | hq
        · simp [dueB]; omega
        · have := ahead_le (s1 q hq)
          simp [dueB]; omega
      refine ⟨T.wait, ?_, ?_⟩
      · rw [List.filter_eq_nil_iff.2 (fun q hq => by simp [hall q hq])]
        rfl
      · rw [List.filter_eq_self.2 (fun q hq => by simp [hall q hq])]
        exact hp
    · rw [if_neg ht]
      have hdp : dueB to p = true := by simp [dueB]; omega
      have hT : sendTo { T with wait := T.wait.filter (fun m => m.number != p.number) } p 8 = waited (sendTo T p 8) (T.wait.filter (fun m => m.number != p.number)) := sendTo_wait T p _ 8
      have hQ : Q.Perm (T.wait.filter (fun m => m.number != p.number)) := by
        have h1 := hp.filter (fun m => m.number != p.number)
        rw [List.filter_cons_of_neg (by simp)] at h1
        rw [List.filter_eq_self.2 (fun q hq => by simp; exact fun e => d1 q hq e.symm)] at h1
        exact h1
      obtain ⟨W, h1, h2⟩ := deliver_sorted to Q (waited (sendTo T p 8) (T.wait.filter (fun m => m.number != p.number))) n s2 d2 hQ (by simpa using hn)
      refine ⟨W, ?_, ?_⟩
      · rw [hT, h1, sendAll_wait, waited_twice, List.filter_cons_of_pos hdp, sendAll_cons]
      · rw [List.filter_cons_of_neg (by simp [hdp])]
        exact h2

/-- Who has a filter that fits does not hang on the filters' order. -/
theorem fitAny_perm {A B : List ByteArray} (h : A.Perm B) (t : ByteArray) : fitAny A t = fitAny B t := by
  unfold fitAny
  exact h.any_eq

theorem find_neg {α : Type} (p : α → Bool) : ∀ (l : List α) (i : Int), 0 ≤ i → (findM p l i < 0 ↔ ∀ a ∈ l, p a = false)
  | [], i, _ => by simp [findM]
  | a :: l, i, hi => by
    rw [findM]
    split
    · rename_i h
      constructor
      · intro h'; omega
      · intro h'; have := h' a (by simp); rw [h] at this; cases this
    · rename_i h
      rw [find_neg p l (i + 1) (by omega)]
      constructor
      · intro h' b hb
        rcases List.mem_cons.1 hb with rfl | hb
        · simpa using h
        · exact h' b hb
      · intro h' b hb
        exact h' b (by simp [hb])
theorem find_has {α : Type} (p : α → Bool) (l : List α) : decide (findM p l 0 < 0) = !l.any p := by
  have h := find_neg p l 0 (by omega)
  cases ha : l.any p with
  | true =>
    obtain ⟨a, hm, hp⟩ := List.any_eq_true.1 ha
    simp only [Bool.not_true, decide_eq_false_iff_not]
    intro hn
    have := h.1 hn a hm
    rw [hp] at this; cases this
  | false =>
    simp only [Bool.not_false, decide_eq_true_eq]
    exact h.2 (fun a hm => by
      have := List.any_eq_false.1 ha a hm
      simpa using this)
end Go.Proofs.Ytmjdndhfmfjbiab

/-
  The document's state, and the same as lists that are kept in their order.
-/
namespace Go.Proofs.Ytmjdndhfmfjbiab
open Go.RowKit

structure Lk (S : RefS) (fil : Nat → List ByteArray) (wait : List WaitD) : Prop where
  filS : ∀ a, a < 8 → SortedT (fil a)
  filP : ∀ a, a < 8 → (fil a).Perm (S.fil a)
  filN : ∀ a, a < 8 → ∀ f ∈ fil a, f.toList ≠ []
  waitS : SortedW wait
  waitP : wait.Perm S.wait
  apart : wait.Pairwise (fun a b => a.number ≠ b.number)
  below : ∀ m ∈ wait, m.number < S.pub

theorem Lk.filters {S : RefS} {fil : Nat → List ByteArray} {wait : List WaitD} (h : Lk S fil wait) {a : Nat} (ha : a < 8) : filtersM S a = fil a := by
  have hk : knownB (a : Int) = true := by simp [knownB]; omega
  unfold filtersM
  rw [hk]
  simp only [if_true, Int.toNat_natCast]
  exact sel_eq (fun f hf => h.filN a ha f ((h.filP a ha).mem_iff.2 hf)) (h.filS a ha) (h.filP a ha)
theorem Lk.waiting {S : RefS} {fil : Nat → List ByteArray} {wait : List WaitD} (h : Lk S fil wait) : waitingM S = wait := selN_eq h.waitS h.waitP

theorem Lk.new (room : Int) : Lk (refNew room) (fun _ => []) [] :=
  ⟨fun _ _ => List.Pairwise.nil, fun _ _ => List.Perm.refl _, fun _ _ f hf => by simp at hf, List.Pairwise.nil, List.Perm.refl _, List.Pairwise.nil, fun m hm => by simp at hm⟩

/-- What does not touch filters and what waits. -/
theorem Lk.other {S S1 : RefS} {fil : Nat → List ByteArray} {wait : List WaitD} (h : Lk S fil wait) (e1 : S1.fil = S.fil) (e2 : S1.wait = S.wait) (e3 : S.pub ≤ S1.pub) : Lk S1 fil wait :=
  ⟨h.filS, by rw [e1]; exact h.filP, h.filN, h.waitS, by rw [e2]; exact h.waitP, h.apart, fun m hm => by have := h.below m hm; omega⟩

theorem any_eq_perm {α : Type} {A B : List α} (h : A.Perm B) (p : α → Bool) : A.any p = B.any p := h.any_eq

/-- Does the client have it? -/
theorem Lk.has {S : RefS} {fil : Nat → List ByteArray} {wait : List WaitD} (h : Lk S fil wait) {a : Nat} (ha : a < 8) (s : ByteArray) : decide (findM (fun f => f.toList == s.toList) (S.fil a) 0 < 0) = !(fil a).any (fun f => f.toList == s.toList) := by
  rw [find_has, any_eq_perm (h.filP a ha)]
theorem Lk.waits {S : RefS} {fil : Nat → List ByteArray} {wait : List WaitD} (h : Lk S fil wait) (n : Int) : decide (findM (fun m : WaitD => m.number == n) S.wait 0 < 0) = !wait.any (fun m => m.number == n) := by
  rw [find_has, any_eq_perm h.waitP]

theorem setAt_all {α : Type} {f : Nat → α} {a : Nat} {v : α} {p : Nat → α → Prop} (hf : ∀ i, i < 8 → p i (f i)) (hv : p a v) : ∀ i, i < 8 → p i (setAt f a v i) := fun i hi => by
  by_cases e : i = a
  · subst e; rw [setAt_same]; exact hv
  · rw [setAt_other _ _ _ _ e]; exact hf i hi

/-- A filter more. -/
theorem Lk.sub {S : RefS} {fil : Nat → List ByteArray} {wait : List WaitD} (h : Lk S fil wait) {a : Nat} (ha : a < 8) {s : ByteArray} (hs : s.toList ≠ []) (hn : (fil a).any (fun f => f.toList == s.toList) = false) :
    Lk { S with fil := setAt S.fil a (S.fil a ++ [s]) } (setAt fil a (insM ltB s (fil a))) wait := by
  have hne : ∀ y ∈ fil a, ltB s y = true ∨ ltB y s = true := fun y hy => by
    rcases lt_total s y with e | e | e
    · subst e
      have := List.any_eq_false.1 hn s hy
      simp at this
    · exact .inl e
    · exact .inr e
  refine ⟨setAt_all (p := fun _ l => SortedT l) h.filS (ins_sorted (lt := ltB) (fun _ _ _ => lt_trans) (h.filS a ha) hne), fun i hi => ?_, setAt_all (p := fun _ (l : List ByteArray) => ∀ f ∈ l, f.toList ≠ []) h.filN (fun f hf => ?_), h.waitS, h.waitP, h.apart, h.below⟩
  · show (setAt fil a (insM ltB s (fil a)) i).Perm (setAt S.fil a (S.fil a ++ [s]) i)
    by_cases e : i = a
    · subst e
      rw [setAt_same, setAt_same]
      exact ((ins_perm ltB s (fil i)).trans ((h.filP i hi).cons s)).trans (List.perm_append_comm (l₁ := [s]))
    · rw [setAt_other _ _ _ _ e, setAt_other _ _ _ _ e]; exact h.filP i hi
  · rcases List.mem_cons.1 ((ins_perm ltB s (fil a)).mem_iff.1 hf) with rfl | hf
    · exact hs
    · exact h.filN a ha f hf

theorem Lk.unsub {S : RefS} {fil : Nat → List ByteArray} {wait : List WaitD} (h : Lk S fil wait) {a : Nat} (ha : a < 8) (s : ByteArray) :
    Lk { S with fil := setAt S.fil a ((S.fil a).filter (fun f => !(f.toList == s.toList))) } (setAt fil a ((fil a).filter (fun f => !(f.toList == s.toList)))) wait := by
  refine ⟨setAt_all (p := fun _ l => SortedT l) h.filS ((h.filS a ha).filter _), fun i hi => ?_, setAt_all (p := fun _ (l : List ByteArray) => ∀ f ∈ l, f.toList ≠ []) h.filN (fun f hf => h.filN a ha f (List.mem_filter.1 hf).1), h.waitS, h.waitP, h.apart, h.below⟩
  show (setAt fil a _ i).Perm (setAt S.fil a _ i)
  by_cases e : i = a
  · subst e
    rw [setAt_same, setAt_same]
    exact (h.filP i hi).filter _
  · rw [setAt_other _ _ _ _ e, setAt_other _ _ _ _ e]; exact h.filP i hi

/-- A message more that waits. -/
theorem Lk.later {S : RefS} {fil : Nat → List ByteArray} {wait : List WaitD} (h : Lk S fil wait) {x : WaitD} (hx : x.number = S.pub) : Lk { S with pub := S.pub + 1, wait := S.wait ++ [x] } fil (insM aheadB x wait) := by
  have hne : ∀ y ∈ wait, x.number ≠ y.number := fun y hy e => by have := h.below y hy; omega
  have hmem : ∀ m, m ∈ insM aheadB x wait → m = x ∨ m ∈ wait := fun m hm => List.mem_cons.1 ((ins_perm aheadB x wait).mem_iff.1 hm)
  refine ⟨h.filS, h.filP, h.filN, ins_sorted (lt := aheadB) (fun _ _ _ => ahead_trans) h.waitS (fun y hy => ahead_total (hne y hy)), ?_, ?_, fun m hm => ?_⟩
  · exact ((ins_perm aheadB x wait).trans (h.waitP.cons x)).trans (List.perm_append_comm (l₁ := [x]))
  · exact ((ins_perm aheadB x wait).pairwise_iff (fun e => Ne.symm e)).2 (List.pairwise_cons.2 ⟨fun y hy => hne y hy, h.apart⟩)
  · show m.number < S.pub + 1
    rcases hmem m hm with rfl | hm
    · omega
    · have := h.below m hm; omega

theorem Lk.cancel {S : RefS} {fil : Nat → List ByteArray} {wait : List WaitD} (h : Lk S fil wait) (n : Int) : Lk { S with wait := S.wait.filter (fun m => m.number != n) } fil (wait.filter (fun m => m.number != n)) :=
  ⟨h.filS, h.filP, h.filN, h.waitS.filter _, h.waitP.filter _, h.apart.filter _, fun m hm => h.below m (List.mem_filter.1 hm).1⟩

/-- Of numbers that are apart one is taken out. -/
theorem out_one {l : List WaitD} {y : WaitD} (ha : l.Pairwise (fun a b => a.number ≠ b.number)) (hy : y ∈ l) : l.Perm (y :: l.filter (fun m => m.number != y.number)) := by
  induction l with
  | nil => simp at hy
  | cons a l ih =>
    obtain ⟨h1, h2⟩ := List.pairwise_cons.1 ha
    rcases List.mem_cons.1 hy with rfl | hy
    · rw [List.filter_cons_of_neg (by simp), List.filter_eq_self.2 (fun q hq => by simp; exact fun e => h1 q hq e.symm)]
    · rw [List.filter_cons_of_pos (by simp; exact h1 y hy)]
      exact ((ih h2 hy).cons a).trans (List.Perm.swap _ _ _)

theorem Lk.move {S : RefS} {fil : Nat → List ByteArray} {wait : List WaitD} (h : Lk S fil wait) {n dl : Int} {y : WaitD} (hy : y ∈ wait) (hn : y.number = n) :
    Lk { S with wait := moveL S.wait n dl } fil (insM aheadB { y with deadline := dl } (wait.filter (fun m => m.number != n))) := by
  subst hn
  have hyS : y ∈ S.wait := h.waitP.mem_iff.1 hy
  have hapS : S.wait.Pairwise (fun a b => a.number ≠ b.number) := (h.waitP.pairwise_iff (fun e => Ne.symm e)).1 h.apart
  -- where the document finds it
  have hfind : ∃ i, findM (fun m : WaitD => m.number == y.number) S.wait 0 = (i : Nat) ∧ S.wait[i]? = some y := by
    rcases Int.lt_or_le (findM (fun m : WaitD => m.number == y.number) S.wait 0) 0 with hneg | hpos
    · have := (find_neg _ S.wait 0 (by omega)).1 hneg y hyS
      simp at this
    · obtain ⟨k, z, hk, hz, hzn⟩ := find_some _ S.wait 0 (by omega) hpos
      refine ⟨k, by omega, ?_⟩
      have hzy : z.number = y.number := by simpa using hzn
      have : z = y := by
        have hp := out_one hapS hyS
        have hzm : z ∈ y :: S.wait.filter (fun m => m.number != y.number) := hp.mem_iff.1 (List.mem_of_getElem? hz)
        rcases List.mem_cons.1 hzm with e | e
        · exact e
        · have := (List.mem_filter.1 e).2
          simp [hzy] at this
      rw [hz, this]
  obtain ⟨i, hfi, hyi⟩ := hfind
  have hmv : moveL S.wait y.number dl = S.wait.set i { y with deadline := dl } := by
    unfold moveL
    rw [hfi]
    simp only [Int.toNat_natCast, hyi]
  have hp1 := out_one h.apart hy
  have hne : ∀ z ∈ wait.filter (fun m => m.number != y.number), y.number ≠ z.number := fun z hz e => by
    have := (List.mem_filter.1 hz).2
    simp [e] at this
  have hperm : (y :: moveL S.wait y.number dl).Perm ({ y with deadline := dl } :: S.wait) := by rw [hmv]; exact set_perm _ _ _ _ hyi
  refine ⟨h.filS, h.filP, h.filN, ins_sorted (lt := aheadB) (fun _ _ _ => ahead_trans) (h.waitS.filter _) (fun z hz => ahead_total (hne z hz)), ?_, ?_, fun m hm => ?_⟩
  · show (insM aheadB _ _).Perm (moveL S.wait y.number dl)
    have h2 : (y :: moveL S.wait y.number dl).Perm (y :: ({ y with deadline := dl } :: wait.filter (fun m => m.number != y.number))) :=
      (hperm.trans ((h.waitP.symm.trans hp1).cons _)).trans (List.Perm.swap _ _ _)
    exact (ins_perm _ _ _).trans (h2.cons_inv).symm
  · exact ((ins_perm aheadB _ _).pairwise_iff (fun e => Ne.symm e)).2 (List.pairwise_cons.2 ⟨fun z hz => hne z hz, h.apart.filter _⟩)
  · rcases List.mem_cons.1 ((ins_perm aheadB _ _).mem_iff.1 hm) with rfl | hm
    · exact h.below y hy
    · exact h.below m (List.mem_filter.1 hm).1

/-- A Tick: what is due is sent, the others go on waiting. -/
theorem Lk.ticked {S T : RefS} {fil : Nat → List ByteArray} {wait : List WaitD} (h : Lk S fil wait) (to : Int) (e2 : T.wait = S.wait) :
    ∃ W, deliver to T = waited (sendAll T (wait.filter (dueB to))) W ∧ (wait.filter (fun x => !dueB to x)).Perm W := by
  have := deliver_sorted to wait T T.wait.length h.waitS h.apart (by rw [e2]; exact h.waitP) (by rw [e2, h.waitP.length_eq]; exact Nat.le_refl _)
  exact this
theorem Lk.tick {S S1 : RefS} {fil : Nat → List ByteArray} {wait W : List WaitD} (h : Lk S fil wait) (to : Int) (e1 : S1.fil = S.fil) (e2 : S1.wait = W) (e3 : S1.pub = S.pub) (hW : (wait.filter (fun x => !dueB to x)).Perm W) : Lk S1 fil (wait.filter (fun x => !dueB to x)) :=
  ⟨h.filS, by rw [e1]; exact h.filP, h.filN, h.waitS.filter _, by rw [e2]; exact hW, h.apart.filter _, fun m hm => by rw [e3]; exact h.below m (List.mem_filter.1 hm).1⟩
end Go.Proofs.Ytmjdndhfmfjbiab
