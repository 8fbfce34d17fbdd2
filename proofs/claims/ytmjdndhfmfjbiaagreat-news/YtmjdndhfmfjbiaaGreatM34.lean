import Derived.Test.YtmjdndhfmfjbiaaGreatM31
import Derived.Test.YtmjdndhfmfjbiaaGreatM32
import Derived.Test.YtmjdndhfmfjbiaaGreatM33
import Derived.Test.YtmjdndhfmfjbiaaGreatM24
/-
  THE BROKER, walked: what a disk holds is done again.
-/
namespace Go.Proofs.YtmjdndhfmfjbiaaGreat
open Go.RowKit

theorem PRc.below {w w1 : World} {H : Nat} {F : Nat → Prop} {S : RefS} {R : List ByteArray} (h : PRc w H F S R) (k : Below w.heap.size w w1) : PRc w1 H F S R := by
  obtain ⟨x, fil, wait, hb, hF⟩ := h
  exact ⟨x, fil, wait, hb.below k, hF⟩
theorem out_later {w w1 w2 : World} {H : Nat} {F : Nat → Prop} {R : List ByteArray} {S1 : RefS} (hb : Below w.heap.size w w1) (h : Outcome PRc w1 H F R S1 w2) : Outcome PRc w H F R S1 w2 := by
  obtain ⟨F1, R1, hp, hu, hk⟩ := h
  exact ⟨F1, R1, hp, (Upd.of_below hb).trans hu (fun _ _ t => t), fun k h1 => (hk k h1).imp id (fun h2 => Nat.le_trans hb.size h2)⟩

set_option maxRecDepth 100000 in
set_option maxHeartbeats 4000000 in
theorem hrRedo {w : World} {H : Nat} {F : Nat → Prop} {S : RefS} {R : List ByteArray} (o : OpD) (ho : Fine o) (hp : PRc w H F S R) (hg : Good S) :
    Calls Tryz.prog 53 #[.pointer (some ⟨H, 0, none⟩), recV (recD o)] w fun e w' => e = .returned (.tuple #[]) ∧ Outcome PRc w H F R (doS S o) w' := by
  obtain ⟨k, a, b, c, d, s⟩ := o
  obtain ⟨⟨hk1, hk2⟩, hs⟩ := ho
  simp only at hk1 hk2 hs
  have HP : Hid (PRc w H F S R) := hp
  have HG : Hid (Good S) := hg
  clear hp hg
  have hbo : ∀ o : Obj, Below w.heap.size w (w.alloc o) := fun o => below_one _ _
  have HBO : Hid (∀ o : Obj, Below w.heap.size w (w.alloc o)) := hbo
  clear hbo
  rcases (show k = 1 ∨ k = 2 ∨ k = 3 ∨ k = 4 ∨ k = 5 ∨ k = 6 ∨ k = 7 from by omega) with rfl | rfl | rfl | rfl | rfl | rfl | rfl
  · rw [show recD ⟨1, a, b, c, d, s⟩ = ⟨1, a, s, 0, 0, 0, 0, 0⟩ from by simp [recD]]
    clear hk1 hk2
    go_enter Tryz.func53, Tryz.ntmps53
    go_wp2_with fail
    refine (hrSubscribe a b c d s (HP.out.below (HBO.out _)) HG.out hs).mono ?_
    rintro e w1 ⟨rfl, h1⟩
    have H1 : Hid _ := out_later (HBO.out _) h1
    clear h1
    go_wp2_with fail
    go_end0
    exact ⟨rfl, H1.out⟩
  · rw [show recD ⟨2, a, b, c, d, s⟩ = ⟨2, a, s, 0, 0, 0, 0, 0⟩ from by simp [recD]]
    clear hk1 hk2
    go_enter Tryz.func53, Tryz.ntmps53
    go_wp2_with fail
    refine (hrUnsubscribe a b c d s (HP.out.below (HBO.out _)) HG.out hs).mono ?_
    rintro e w1 ⟨rfl, h1⟩
    have H1 : Hid _ := out_later (HBO.out _) h1
    clear h1
    go_wp2_with fail
    go_end0
    exact ⟨rfl, H1.out⟩
  · rw [show recD ⟨3, a, b, c, d, s⟩ = ⟨3, 0, s, 0, b, c, d, 0⟩ from by simp [recD]]
    clear hk1 hk2
    go_enter Tryz.func53, Tryz.ntmps53
    go_wp2_with fail
    refine (hrPublish a b c d s (HP.out.below (HBO.out _)) HG.out hs).mono ?_
    rintro e w1 ⟨rfl, h1⟩
    have H1 : Hid _ := out_later (HBO.out _) h1
    clear h1
    go_wp2_with fail
    go_end0
    exact ⟨rfl, H1.out⟩
  · rw [show recD ⟨4, a, b, c, d, s⟩ = ⟨4, 0, ⟨#[]⟩, b, 0, 0, 0, 0⟩ from by simp [recD]]
    clear hk1 hk2
    go_enter Tryz.func53, Tryz.ntmps53
    go_wp2_with fail
    refine (hrCancel a b c d s (HP.out.below (HBO.out _)) HG.out).mono ?_
    rintro e w1 ⟨rfl, h1⟩
    have H1 : Hid _ := out_later (HBO.out _) h1
    clear h1
    go_wp2_with fail
    go_end0
    exact ⟨rfl, H1.out⟩
  · rw [show recD ⟨5, a, b, c, d, s⟩ = ⟨5, 0, ⟨#[]⟩, b, 0, c, 0, 0⟩ from by simp [recD]]
    clear hk1 hk2
    go_enter Tryz.func53, Tryz.ntmps53
    go_wp2_with fail
    refine (hrMove a b c d s (HP.out.below (HBO.out _)) HG.out).mono ?_
    rintro e w1 ⟨rfl, h1⟩
    have H1 : Hid _ := out_later (HBO.out _) h1
    clear h1
    go_wp2_with fail
    go_end0
    exact ⟨rfl, H1.out⟩
  · rw [show recD ⟨6, a, b, c, d, s⟩ = ⟨6, 0, ⟨#[]⟩, 0, 0, 0, 0, b⟩ from by simp [recD]]
    clear hk1 hk2
    go_enter Tryz.func53, Tryz.ntmps53
    go_wp2_with fail
    refine (hrTick a b c d s (HP.out.below (HBO.out _)) HG.out).mono ?_
    rintro e w1 ⟨rfl, h1⟩
    have H1 : Hid _ := out_later (HBO.out _) h1
    clear h1
    go_wp2_with fail
    go_end0
    exact ⟨rfl, H1.out⟩
  · rw [show recD ⟨7, a, b, c, d, s⟩ = ⟨7, a, ⟨#[]⟩, b, 0, 0, 0, 0⟩ from by simp [recD]]
    clear hk1 hk2
    go_enter Tryz.func53, Tryz.ntmps53
    go_wp2_with fail
    refine (hrAck a b c d s (HP.out.below (HBO.out _)) HG.out).mono ?_
    rintro e w1 ⟨rfl, h1⟩
    have H1 : Hid _ := out_later (HBO.out _) h1
    clear h1
    go_wp2_with fail
    go_end0
    exact ⟨rfl, H1.out⟩
end Go.Proofs.YtmjdndhfmfjbiaaGreat

/-
  WHAT STANDS ON A DISK: the operations, one by one. No program is named here.
-/
namespace Go.Proofs.YtmjdndhfmfjbiaaGreat
open Go.RowKit

/-- States, each come of the one before by the next record of a disk. -/
structure Chain (d : ByteArray) (St : Nat → RefS) (n : Nat) : Prop where
  first : St 0 = refNew 500
  steps : ∀ i, i < n → ∃ o, 42 * i + 42 ≤ d.size ∧ chunk d i = recOf o ∧ Valid (recD o) ∧ Fine o ∧ doneB (St i) o = true ∧ St (i + 1) = doS (St i) o
  good : ∀ i, i ≤ n → Good (St i)
  len : ∀ i, i ≤ n → (St i).done.length = i
  last : d.size < 42 * n + 42 ∨ (42 * n + 42 ≤ d.size ∧ isRec (chunk d n) = false) ∨ (42 * n + 42 ≤ d.size ∧ ∃ o, chunk d n = recOf o ∧ Valid (recD o) ∧ Fine o ∧ doneB (St n) o = false)

theorem raw_rec {o : OpD} (h : Valid (recD o)) : rawR (recOf o) = recD o := by rw [rawR, recOf, dec_enc h, given_rec]
theorem is_rec {o : OpD} (h : Valid (recD o)) : isRec (recOf o) = true := by
  unfold isRec
  rw [raw_rec h]
  have hc := h.call
  have h1 : ((recD o).call != 0) = true := by simp only [bne_iff_ne, ne_eq]; omega
  rw [h1]
  simp [recOf]
theorem read_rec {o : OpD} (h : Valid (recD o)) : readV (recOf o) = .tuple #[recV (recD o), .bool true] := by rw [readV_is (is_rec h), raw_rec h]

/-- A record with a byte turned is none. -/
theorem turned_not {r t : ByteArray} (hr : Checked r) (h : Turned r t) : isRec t = false := by
  cases hi : isRec t with
  | false => rfl
  | true =>
    unfold isRec at hi
    rw [Bool.and_eq_true] at hi
    have e : (encM (rawR t)).data.toList = t.data.toList := by
      have := hi.2
      rw [beq_iff_eq, ByteArray.toList_eq, ByteArray.toList_eq] at this
      exact this
    have ht : Checked t := by
      have := enc_checked (rawR t) (raw_small t).text
      rw [ba_ext e] at this
      exact this
    obtain ⟨P, Q, x, y, e1, e2, hne⟩ := h
    exact absurd (one_turned hr ht P Q x y e1 e2) hne

theorem replay_roomed (l : List OpD) (h : ∀ o ∈ l, Fine o) : { replay l with room := 500 } = replay l := by
  have := (replay_inv l h).2
  generalize replay l = S at *
  cases S
  simp only at this
  rw [this]

/-- A disk that was a broker's, cut or with one byte turned. -/
theorem chain_back {w : World} {H : Nat} {F : Nat → Prop} {S : RefS} {R : List ByteArray} {d : ByteArray} {k : Nat} (hp : PRc w H F S R) (hg : Good S) (hd : Damaged (cat R) d k) :
    Chain d (fun i => replay (S.done.take i)) (wholeN R k) ∧ ((replay (S.done.take (wholeN R k))).done.map recOf = R.take (wholeN R k)) ∧ d.size ≤ 1048576 := by
  obtain ⟨x, fil, wait, hb, -⟩ := hp
  obtain ⟨q1, q2, q3, q4, q5⟩ := damage hb.r42 hd
  have hlen : R.length = S.done.length := by rw [hb.recs, List.length_map]
  have hget : ∀ i o, S.done[i]? = some o → R[i]? = some (recOf o) := fun i o h => by rw [hb.recs, List.getElem?_map, h]; rfl
  have htake : ∀ n, (replay (S.done.take n)).done = S.done.take n := replay_take hg.steps
  refine ⟨⟨rfl, fun i hi => ?_, fun i _ => ?_, fun i hi => ?_, ?_⟩, ?_, by have := hb.few; omega⟩
  · obtain ⟨o, ho⟩ : ∃ o, S.done[i]? = some o := ⟨_, List.getElem?_eq_getElem (by omega)⟩
    refine ⟨o, by omega, q2 i _ hi (hget i o ho), hb.valid o (List.mem_of_getElem? ho), hg.fine o (List.mem_of_getElem? ho), hg.steps i o ho, ?_⟩
    show replay (S.done.take (i + 1)) = _
    rw [List.take_add_one, ho]
    exact replay_snoc _ _
  · have h := hg.back i (r := 500) (by omega) (by omega)
    have e := replay_roomed (S.done.take i) (fun o ho => hg.fine o (List.mem_of_mem_take ho))
    rw [e] at h
    exact h
  · show (replay (S.done.take i)).done.length = i
    rw [htake, List.length_take]
    omega
  · rcases q5 with h | ⟨r, hr, h1, h2⟩
    · exact .inl h
    · refine .inr (.inl ⟨h1, turned_not ?_ h2⟩)
      have hlt : wholeN R k < S.done.length := by
        have := (List.getElem?_eq_some_iff.1 hr).1
        omega
      obtain ⟨o, ho⟩ : ∃ o, S.done[wholeN R k]? = some o := ⟨_, List.getElem?_eq_getElem hlt⟩
      rw [hget _ o ho] at hr
      cases hr
      exact enc_checked _ (hb.valid o (List.mem_of_getElem? ho)).text
  · rw [htake, hb.recs, List.map_take]
end Go.Proofs.YtmjdndhfmfjbiaaGreat

namespace Go.Proofs.YtmjdndhfmfjbiaaGreat
open Go.RowKit

theorem chunk_size {d : ByteArray} {i : Nat} (h : 42 * i + 42 ≤ d.size) : (chunk d i).size = 42 := by
  rw [ba_size] at h ⊢
  rw [chunk, ba_extract, List.length_drop, List.length_take]
  omega
theorem PRc.disk {w : World} {H : Nat} {F : Nat → Prop} {S : RefS} {R : List ByteArray} (h : PRc w H F S R) : ∃ ao c, w.cell? ⟨H, 1, none⟩ = some (.slice ao (42 * S.done.length) c) ∧ H < w.heap.size := by
  obtain ⟨x, fil, wait, hb, -⟩ := h
  obtain ⟨ao, c, hv, -, -, -⟩ := hb.rep.done.form
  have := hb.rep.cells.done
  rw [hv, hb.size] at this
  exact ⟨ao, c, this, hb.rep.cells.lt⟩

set_option maxRecDepth 100000 in
set_option maxHeartbeats 4000000 in
theorem hrRedoAll {w : World} {H : Nat} {F : Nat → Prop} {d : ByteArray} {St : Nat → RefS} {n : Nat} (hc : Chain d St n) (hd : d.size ≤ 1048576) (hp : PRc w H F (St 0) []) :
    Calls Tryz.prog 29 #[.pointer (some ⟨H, 0, none⟩), .string d] w fun e w' => e = .returned (.tuple #[]) ∧ Outcome PRc w H F [] (St n) w' := by
  have HC : Hid (Chain d St n) := hc
  have HP : Hid (PRc w H F (St 0) []) := hp
  clear hc hp
  go_enter Tryz.func29, Tryz.ntmps29
  go_wp2_with fail
  go_loopw [4] (fun m wr => ∃ i : Nat, i ≤ n ∧ 42 * i ≤ d.size ∧ m = .int .i64 ((42 * i : Nat) : Int) ∧ Outcome PRc w H F [] (St i) wr) (fun m _ => d.size + 42 - (intOf m).toNat)
  case atStart => exact ⟨0, Nat.zero_le _, Nat.zero_le _, rfl, F, [], HP.out, Upd.refl _ _, fun k hk => .inl hk⟩
  case round =>
    obtain ⟨i, hi, hid, rfl, hout⟩ := hrel
    have HO : Hid (Outcome PRc w H F [] (St i) wr) := hout
    obtain ⟨F1, R1, hp1, hu1, hk1⟩ := hout
    rw [List.nil_append] at hp1
    have HP1 : Hid (PRc wr H F1 (St i) R1) := hp1
    have HTH : Hid (∀ S2 w2, Outcome PRc wr H F1 R1 S2 w2 → Outcome PRc w H F [] S2 w2) := fun S2 w2 h => by
      obtain ⟨F2, R2, hp2, hu2, hk2⟩ := h
      refine ⟨F2, R1 ++ R2, by rw [List.nil_append]; exact hp2, hu1.trans hu2 (fun k hk t => (hk1 k t).resolve_right (by omega)), fun k h2 => ?_⟩
      rcases hk2 k h2 with h3 | h3
      · exact hk1 k h3
      · exact .inr (Nat.le_trans hu1.size h3)
    clear hp1 hu1 hk1
    have hgi := HC.out.good i hi
    have HG : Hid (Good (St i)) := hgi
    clear hgi
    by_cases hshort : d.size < 42 * i + 42
    · have HN : Hid (i = n) := by
        rcases Nat.lt_or_ge i n with h | h
        · obtain ⟨o, h1, -⟩ := HC.out.steps i h
          omega
        · exact Nat.le_antisymm hi h
      go_wp2_with fail
      go_end0
      exact ⟨rfl, by rw [← HN.out]; exact HO.out⟩
    · have hck : 42 * i + 42 ≤ d.size := by omega
      have HSZ : Hid ((chunk d i).size = 42) := chunk_size hck
      have HCK : Hid (d.extract (42 * i) (42 * i + 42) = chunk d i) := rfl
      have HDL : Hid ((St i).done.length = i) := HC.out.len i hi
      by_cases hin : i < n
      · obtain ⟨o, -, hco, hval, hfine, hdone, hnext⟩ := HC.out.steps i hin
        have HRV : Hid (readV (chunk d i) = .tuple #[recV (recD o), .bool true]) := by show _ = _; rw [hco, read_rec hval]
        have HFI : Hid (Fine o) := hfine
        have HNX : Hid (St (i + 1) = doS (St i) o) := hnext
        have HD2 : Hid ((doS (St i) o).done.length = i + 1) := by show _ = _; rw [← hnext]; exact HC.out.len (i + 1) hin
        clear hco hval hfine hdone hnext hshort
        have HMI : Hid (i + 1 ≤ n) := hin
        generalize hm : 42 * i = m at *
        have HM2 : Hid (42 * i = m) := hm
        have HM3 : Hid (42 * (i + 1) = m + 42) := by show _ = _; omega
        clear hm
        go_wp2_with fail
        rw [HCK.out]
        refine (recRead (chunk d i) wr HSZ.out).mono ?_
        rintro e w1 ⟨rfl, hb1⟩
        rw [HRV.out]
        have HB1 : Hid (Below wr.heap.size wr w1) := hb1
        have HBA : Hid (∀ o, Below wr.heap.size wr (w1.alloc o)) := fun o => hb1.alloc hb1.size _
        clear hb1
        go_wp2_with fail
        refine (hrRedo o HFI.out (HP1.out.below (HBA.out _)) HG.out).mono ?_
        rintro e w2 ⟨rfl, ho2⟩
        have HO2 : Hid (Outcome PRc w H F [] (St (i + 1)) w2) := by rw [HNX.out]; exact HTH.out _ _ (out_later (HBA.out _) ho2)
        have hdk : ∃ ao c, w2.cell? ⟨H, 1, none⟩ = some (.slice ao (m + 42) c) := by
          obtain ⟨F2, R2, hp2, -, -⟩ := ho2
          obtain ⟨ao, c, h1, -⟩ := hp2.disk
          rw [HD2.out, HM3.out] at h1
          exact ⟨ao, c, h1⟩
        obtain ⟨ao, c, hcd⟩ := hdk
        clear ho2
        go_wp2_with fail
        go_roundw
        case rel => exact ⟨i + 1, HMI.out, by rw [HM3.out]; exact hck, by rw [HM3.out]; go_num, HO2.out⟩
        case measure => simp [intOf]; omega
      · obtain rfl : i = n := by omega
        rcases HC.out.last with h | ⟨-, h⟩ | ⟨-, o, hco, hval, hfine, hno⟩
        · omega
        · have HRV : Hid (readV (chunk d i) = .tuple #[recV nilRec, .bool false]) := readV_not h
          clear h hshort
          generalize hm : 42 * i = m at *
          clear hm
          go_wp2_with fail
          rw [HCK.out]
          refine (recRead (chunk d i) wr HSZ.out).mono ?_
          rintro e w1 ⟨rfl, hb1⟩
          rw [HRV.out]
          have HBA : Hid (∀ o, Below wr.heap.size wr (w1.alloc o)) := fun o => hb1.alloc hb1.size _
          clear hb1
          go_wp2_with fail
          exact bodyPost_ret (results_none rfl _ _ _) rfl ⟨rfl, HTH.out _ _ (out_same HP1.out (HBA.out _) rfl)⟩
        · have HRV : Hid (readV (chunk d i) = .tuple #[recV (recD o), .bool true]) := by show _ = _; rw [hco, read_rec hval]
          have HFI : Hid (Fine o) := hfine
          have HNX : Hid (doS (St i) o = St i) := by show _ = _; unfold doS; rw [hno]; rfl
          clear hco hval hfine hno hshort
          generalize hm : 42 * i = m at *
          have HM2 : Hid (42 * i = m) := hm
          clear hm
          go_wp2_with fail
          rw [HCK.out]
          refine (recRead (chunk d i) wr HSZ.out).mono ?_
          rintro e w1 ⟨rfl, hb1⟩
          rw [HRV.out]
          have HBA : Hid (∀ o, Below wr.heap.size wr (w1.alloc o)) := fun o => hb1.alloc hb1.size _
          clear hb1
          go_wp2_with fail
          refine (hrRedo o HFI.out (HP1.out.below (HBA.out _)) HG.out).mono ?_
          rintro e w2 ⟨rfl, ho2⟩
          rw [HNX.out] at ho2
          have HO2 : Hid (Outcome PRc w H F [] (St i) w2) := HTH.out _ _ (out_later (HBA.out _) ho2)
          have hdk : ∃ ao c, w2.cell? ⟨H, 1, none⟩ = some (.slice ao m c) := by
            obtain ⟨F2, R2, hp2, -, -⟩ := ho2
            obtain ⟨ao, c, h1, -⟩ := hp2.disk
            rw [HDL.out, HM2.out] at h1
            exact ⟨ao, c, h1⟩
          obtain ⟨ao, c, hcd⟩ := hdk
          clear ho2
          go_wp2_with fail
          exact bodyPost_ret (results_none rfl _ _ _) rfl ⟨rfl, HO2.out⟩
end Go.Proofs.YtmjdndhfmfjbiaaGreat

/-
  THE PROGRAM keeps what is asked of a broker.
-/
namespace Go.Proofs.YtmjdndhfmfjbiaaGreat
open Go.RowKit

theorem hrep_new (w : World) (room : Int) : HRep (w.alloc (.cells (newCells room).toArray 58)) w.heap.size refNewV (refNew room) ⟨#[]⟩ := by
  have hh := heap_alloc_new w (.cells (newCells room).toArray 58)
  have key : ∀ j, (w.alloc (.cells (newCells room).toArray 58)).cell? ⟨w.heap.size, j, none⟩ = (newCells room)[j]? := fun j => by
    rw [cell_of_row _ w.heap.size j _ _ (0, 0) hh]; simp
  have fam : ∀ a, a < 8 → (newCells room)[4 + a * 3]? = some nilV ∧ (newCells room)[4 + a * 3 + 1]? = some nilV ∧ (newCells room)[4 + a * 3 + 2]? = some (.int .i64 0) := by
    intro a ha
    rcases (show a = 0 ∨ a = 1 ∨ a = 2 ∨ a = 3 ∨ a = 4 ∨ a = 5 ∨ a = 6 ∨ a = 7 from by omega) with rfl | rfl | rfl | rfl | rfl | rfl | rfl | rfl <;> exact ⟨rfl, rfl, rfl⟩
  refine ⟨⟨⟨_, hh⟩, (key 0).trans rfl, (key 1).trans rfl, (key 2).trans rfl, (key 3).trans rfl, fun a ha => (key _).trans (fam a ha).1, fun a ha => (key _).trans (fam a ha).2.1, fun a ha => (key _).trans (fam a ha).2.2, (key 28).trans rfl⟩,
    Row.nil _ _ _, fun _ _ => Row.nil _ _ _, fun _ _ => Row.nil _ _ _, Row.nil _ _ _, fun a b _ _ _ g h => ?_, fun a b _ _ _ g h => ?_⟩
  · simp [refNewV, nilV, Value.ownBlock] at h
  · simp [refNewV, nilV, Value.ownBlock] at h
theorem hfp_new {B k : Nat} (h : HFP B refNewV k) : k = B := by
  rcases h with h | h | h | ⟨a, -, h | h⟩
  · exact h
  all_goals simp [refNewV, nilV, Value.ownBlock] at h
theorem pr_new (w : World) (room : Int) : PRc (w.alloc (.cells (newCells room).toArray 58)) w.heap.size (fun k => k = w.heap.size) (refNew room) [] :=
  ⟨refNewV, fun _ => [], [], ⟨hrep_new w room, Lk.new room, Num.new room, rfl, fun o ho => by simp [refNew] at ho, Nat.zero_le _⟩, fun k => ⟨fun h => .inl h, hfp_new⟩⟩

theorem PRc.roomed {w : World} {H : Nat} {F : Nat → Prop} {S : RefS} {R : List ByteArray} (h : PRc w H F S R) (room : Int) : ∃ F1, PRc (w.setCell ⟨H, 0, none⟩ (.int .i64 room)) H F1 { S with room := room } R ∧ ∀ k, F1 k → F k ∨ w.heap.size ≤ k := by
  obtain ⟨x, fil, wait, hb, hF⟩ := h
  obtain ⟨x1, r1, u1, f1⟩ := hb.rep.setRoom room
  exact ⟨HFP H x1, ⟨x1, fil, wait, ⟨r1, hb.lk.other rfl rfl (Int.le_refl _), hb.num.room room, hb.recs, hb.valid, hb.few⟩, fun k => Iff.rfl⟩, fun k hk => (f1 k hk).imp (hF k).2 id⟩
theorem PRc.recs_eq {w : World} {H : Nat} {F : Nat → Prop} {S : RefS} {R : List ByteArray} (h : PRc w H F S R) : R = S.done.map recOf := by
  obtain ⟨x, fil, wait, hb, -⟩ := h
  exact hb.recs
theorem PRc.room_cell {w : World} {H : Nat} {F : Nat → Prop} {S : RefS} {R : List ByteArray} (h : PRc w H F S R) : w.cell? ⟨H, 0, none⟩ = some (.int .i64 S.room) ∧ w.frozen? ⟨H, 0, none⟩ = false ∧ H < w.heap.size := by
  obtain ⟨x, fil, wait, hb, -⟩ := h
  exact ⟨hb.rep.cells.room, hb.rep.cells.free 0, hb.rep.cells.lt⟩

set_option maxRecDepth 100000 in
set_option maxHeartbeats 4000000 in
theorem hrNew {d : ByteArray} {St : Nat → RefS} {n : Nat} (w : World) (room : Int) (hc : Chain d St n) (hd : d.size ≤ 1048576) (h0 : 0 ≤ room) (h1 : room ≤ 500) :
    Calls Tryz.prog 16 #[.string d, .int .i64 room] w fun e w' =>
      ∃ H F, e = .returned (.tuple #[.pointer (some ⟨H, 0, none⟩), .int .i64 0]) ∧ PRc w' H F { St n with room := room } ((St n).done.map recOf) ∧ (∀ k, F k → w.heap.size ≤ k) ∧ Below w.heap.size w w' := by
  have HC : Hid (Chain d St n) := hc
  have HPN : Hid (PRc (w.alloc (.cells (newCells 500).toArray 58)) w.heap.size (fun k => k = w.heap.size) (St 0) []) := by rw [hc.first]; exact pr_new w 500
  have HBN : Hid (Below w.heap.size w (w.alloc (.cells (newCells 500).toArray 58))) := below_one _ _
  clear hc
  go_enter Tryz.func16, Tryz.ntmps16
  go_wp2_with fail
  refine (hrRedoAll HC.out hd HPN.out).mono ?_
  rintro e w1 ⟨rfl, F1, R1, hp, hu, hk⟩
  rw [List.nil_append] at hp
  obtain ⟨k0, kf, hH⟩ := hp.room_cell
  have HP : Hid (PRc w1 w.heap.size F1 (St n) R1) := hp
  have HU : Hid (Below w.heap.size w w1) := ⟨hu.os, hu.tape, hu.output, Nat.le_trans (by simp) hu.size, fun k hk => (hu.block k (by simp; omega) (by omega)).trans (heap_alloc_old w _ hk)⟩
  have HK : Hid (∀ k, F1 k → w.heap.size ≤ k) := fun k h => by
    rcases hk k h with h2 | h2
    · omega
    · simp at h2; omega
  clear hp hu hk
  go_wp2_with fail
  go_ret2
  obtain ⟨F2, hp2, hk2⟩ := HP.out.roomed room
  refine ⟨w.heap.size, F2, rfl, ?_, fun k h => ?_, HU.out.setCell (p := ⟨w.heap.size, 0, none⟩) (Nat.le_refl _) _⟩
  · rw [HP.out.recs_eq] at hp2
    exact hp2
  · rcases hk2 k h with h2 | h2
    · exact HK.out k h2
    · exact Nat.le_trans HU.out.size h2

theorem hrNewBad (w : World) (d : ByteArray) (room : Int) (h : room < 0 ∨ 500 < room) : Calls Tryz.prog 16 #[.string d, .int .i64 room] w fun e w' => e = .returned (.tuple #[.pointer none, .int .i64 1]) ∧ Below w.heap.size w w' := by
  by_cases h0 : room < 0
  all_goals
    go_enter Tryz.func16, Tryz.ntmps16
    go_wp2_with fail
    go_ret2
    exact ⟨rfl, Below.refl _ _⟩

theorem chain_nil : Chain ⟨#[]⟩ (fun _ => refNew 500) 0 :=
  ⟨rfl, fun i hi => by omega, fun i _ => good_new (by omega) (by omega), fun i hi => by simp [refNew]; omega, .inl (by show 0 < 42; omega)⟩

theorem PRc.lt {w : World} {H : Nat} {F : Nat → Prop} {S : RefS} {R : List ByteArray} {k : Nat} (h : PRc w H F S R) (hk : F k) : k < w.heap.size := by
  obtain ⟨x, fil, wait, hb, hF⟩ := h
  exact hb.rep.lt ((hF k).1 hk)

theorem PRc.recs {w : World} {H : Nat} {F : Nat → Prop} {S : RefS} {R : List ByteArray} (h : PRc w H F S R) : R.length = S.done.length ∧ (∀ r ∈ R, 0 < r.size) ∧ (cat R).size ≤ 1048576 := by
  obtain ⟨x, fil, wait, hb, hF⟩ := h
  exact ⟨by rw [hb.recs, List.length_map], fun r hr => by rw [hb.r42 r hr]; omega, hb.len⟩

theorem filP_eq {S : RefS} {fil : Nat → List ByteArray} {wait : List WaitD} (h : Lk S fil wait) (k : Int) : filP (lk S fil wait) k = filtersM S k := by
  cases hk : knownB k
  · unfold filP filtersM; rw [hk]; rfl
  · obtain ⟨n, rfl, hn⟩ := known_nat hk
    rw [h.filters hn]
    unfold filP; rw [hk]; rfl

/-- The program. -/
def theProg : Prog where
  PR := PRc
  lt := fun h hk => h.lt hk
  upd := fun h k hs => by
    obtain ⟨x, fil, wait, hb, hF⟩ := h
    exact ⟨x, fil, wait, hb.upd k (fun i hi => hs i ((hF i).2 hi)), hF⟩
  recs := fun h => h.recs
  newBad := fun w d room h => hrNewBad w d room h
  new0 := fun w room h0 h1 => (hrNew w room chain_nil (by show 0 ≤ _; omega) h0 h1).mono fun e w' h => h
  back := fun d k room hp hg hd h0 h1 => by
    obtain ⟨hc, hr, hs⟩ := chain_back hp hg hd
    refine (hrNew _ room hc hs h0 h1).mono ?_
    rintro e w' ⟨H1, F1, he, hp1, hk, hb⟩
    exact ⟨H1, F1, he, by rw [← hr]; exact hp1, hk, hb⟩
  sub := fun a b c d s hp hg hs => hrSubscribe a b c d s hp hg hs
  unsub := fun a b c d s hp hg hs => hrUnsubscribe a b c d s hp hg hs
  publish := fun a b c d s hp hg hs => hrPublish a b c d s hp hg hs
  cancel := fun a b c d s hp hg => hrCancel a b c d s hp hg
  move := fun a b c d s hp hg => hrMove a b c d s hp hg
  tick := fun a b c d s hp hg => hrTick a b c d s hp hg
  ack := fun a b c d s hp hg => hrAck a b c d s hp hg
  time := fun hp _ => by
    obtain ⟨x, fil, wait, hb, hF⟩ := hp
    refine (hrTime _ x _ _ _ hb.rep).mono ?_
    rintro e w' ⟨rfl, rfl⟩
    exact ⟨rfl, Below.refl _ _⟩
  filters := fun k hp hg => by
    obtain ⟨x, fil, wait, hb, hF⟩ := hp
    refine (hrFilters _ x _ _ k _ hb.rep (fun n hn => ?_)).mono ?_
    · exact Nat.le_trans (Nat.le_of_eq (hb.lk.filP n hn).length_eq) (Nat.le_trans (hg.inv.fil n hn).1 (by omega))
    rintro e w' ⟨v, rfl, ho, hbw⟩
    refine ⟨v, rfl, ?_, hbw⟩
    rw [← filP_eq hb.lk k]
    exact ho
  queue := fun k hp hg => by
    obtain ⟨x, fil, wait, hb, hF⟩ := hp
    refine (hrQueue _ x _ _ k _ hb.rep hg.inv.time0 hg.inv.time1 (fun n hn => ?_)).mono ?_
    · exact ⟨Nat.le_trans (hg.inv.que n hn).1 (by omega), (hg.inv.que n hn).2⟩
    rintro e w' ⟨v, rfl, ho, hbw⟩
    exact ⟨v, rfl, ho, hbw⟩
  lost := fun k hp _ => by
    obtain ⟨x, fil, wait, hb, hF⟩ := hp
    refine (hrLost _ x _ _ k _ hb.rep).mono ?_
    rintro e w' ⟨rfl, rfl⟩
    exact ⟨rfl, Below.refl _ _⟩
  waiting := fun hp hg => by
    obtain ⟨x, fil, wait, hb, hF⟩ := hp
    refine (hrWaiting _ x _ _ _ hb.rep ?_).mono ?_
    · show wait.length ≤ _
      rw [hb.lk.waitP.length_eq]; exact Nat.le_trans hg.inv.wait.1 (by omega)
    rintro e w' ⟨v, rfl, ho, hbw⟩
    refine ⟨v, rfl, ?_, hbw⟩
    rw [hb.lk.waiting]
    exact ho
  records := fun hp _ => by
    have hlen := hp.recs.1
    obtain ⟨x, fil, wait, hb, hF⟩ := hp
    refine (hrRecords _ x _ _ _ hb.rep hb.len).mono ?_
    rintro e w' ⟨rfl, rfl⟩
    exact ⟨ret_int (by rw [hb.size, hlen]; omega), Below.refl _ _⟩
  disk := fun hp _ => by
    obtain ⟨x, fil, wait, hb, hF⟩ := hp
    refine (hrDisk _ x _ _ _ hb.rep).mono ?_
    rintro e w' ⟨rfl, rfl⟩
    exact ⟨rfl, Below.refl _ _⟩
end Go.Proofs.YtmjdndhfmfjbiaaGreat
