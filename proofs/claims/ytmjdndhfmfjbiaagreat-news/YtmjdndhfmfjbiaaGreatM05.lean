import Derived.Test.YtmjdndhfmfjbiaaGreatM04
namespace Go.Proofs.YtmjdndhfmfjbiaaGreat
open Go.RowKit

theorem Inv.sends {S : RefS} (h : Inv1 S) : (∀ a, a < 8 → ∀ f ∈ S.fil a, f.size ≤ 1048576) ∧ (∀ a, a < 8 → (S.fil a).length ≤ 1048576) ∧ (∀ a, a < 8 → 0 ≤ S.lost a ∧ S.lost a ≤ 1099511627776) ∧ (∀ a, a < 8 → (S.que a).length ≤ 1048576) := by
  refine ⟨fun a ha f hf => ?_, fun a ha => ?_, fun a ha => ?_, fun a ha => ?_⟩
  · have := (h.fil a ha).2 f hf; omega
  · have := (h.fil a ha).1; omega
  · have h1 := h.lost a ha
    have h2 := h.pub
    have h3 := h.done
    omega
  · have := (h.que a ha).1; omega

theorem cells_new2 (w : World) (o : Obj) (cs : List Value) (t : TypeId) : ∀ j u, cs[j]? = some u → ((w.alloc o).alloc (.cells cs.toArray t)).cell? ((⟨w.heap.size + 1, 0, none⟩ : Addr).add j) = some u := by
  have := cells_new (w.alloc o) cs t
  simpa using this

theorem grow_row2 {α : Type} {f : α → List Value} {w wr w1 : World} {e : TypeId} {size : Nat} {v v1 : Value} {l : List α} {x : α} {o p : Obj}
    (hown : wr.ownsRow w.heap.size e size v l.length (l.flatMap f)) (hb : Below w.heap.size w wr)
    (hown1 : w1.ownsRow w.heap.size e size v1 (l.length + 1) (l.flatMap f ++ f x)) (hg : ((wr.alloc o).alloc p).grownBy w1 v.ownBlock) :
    w1.ownsRow w.heap.size e size v1 (l ++ [x]).length ((l ++ [x]).flatMap f) ∧ Below w.heap.size w w1 :=
  ⟨by simpa using hown1, ((hb.alloc hb.size o).alloc (by have := hb.size; simp; omega) p).grown hg (by have := hb.size; simp; omega) (fun j hj => (hown.lt j hj).1)⟩

theorem refFirstB (l : List WaitD) (ao : Option Addr) (c : Nat) (w : World) (h1 : l.length ≤ c) (h2 : c ≤ maxLen) (h : CellsAt w ao (l.flatMap waitCells)) :
    Calls Tryz.prog 58 #[.slice ao l.length c] w fun e w' => e = .returned (.int .i64 (firstM l)) ∧ Below w.heap.size w w' :=
  (refFirst l ao c w h1 h2 h).mono fun _ _ ⟨he, n, hn⟩ => ⟨he, by rw [hn]; exact below_drewN (Below.refl _ _)⟩

theorem lenAt_rep {w : World} {B : Nat} {x : RefV} {S : RefS} (h : Rep w B x S) : lenAt w B = S.wait.length := by
  obtain ⟨ao, c, hv, -, -, -⟩ := h.wait.form
  have := h.cells.wait
  rw [hv] at this
  simp [lenAt, this]

set_option maxRecDepth 100000 in
set_option maxHeartbeats 4000000 in
theorem refTick (B : Nat) (x : RefV) (S : RefS) (to : Int) (w : World) (hr : Rep w B x S) (hin : Inv S) (h0 : 0 ≤ to) (h1 : to ≤ 1099511627776) :
    Calls Tryz.prog 104 #[.pointer (some ⟨B, 0, none⟩), .int .i64 to] w fun e w' =>
      e = .returned (.tuple #[]) ∧ RefStep w B x w' (tickM S to) := by
  obtain ⟨i0, hi, hz0, hz1, hz2⟩ := info_parts infoSent
  have HR : Hid (Rep w B x S) := hr
  have HI : Hid (Inv S) := hin
  have hBx := hr.cells.lt
  have ct := hr.cells.time
  have hft := hr.cells.free 2
  clear hr hin
  go_enter Tryz.func104, Tryz.ntmps104
  go_wp2_with fail
  go_loopw [4] (fun i wr => ∃ a : Nat, a ≤ 8 ∧ i = .int .i64 a ∧ RefStep w B x wr (agedTo S to a)) (fun i _ => 8 - (intOf i).toNat)
  case atStart => exact ⟨0, by omega, rfl, HR.out.setTime to⟩
  case round =>
    obtain ⟨a, ha, rfl, x1, r1, u1, f1⟩ := hrel
    have HIA : Hid (Inv (agedTo S to a)) := HI.out.aged h0 h1 a
    by_cases hlt : a < 8
    · have ha0 : (0 : Int) ≤ (a : Int) := by omega
      have ha1 : (a : Int) < 8 := by omega
      have hstep : Hid (agedTo S to (a + 1) = { agedTo S to a with que := setAt (agedTo S to a).que a (((agedTo S to a).que a).filter (aliveB to)) }) := rfl
      have hq := HIA.out.que a hlt
      generalize hTT : agedTo S to a = T at *
      clear hTT
      obtain ⟨aq, cq, hvq, q3, q4, hcq⟩ := (r1.que a hlt).form
      unfold maxLen at q4
      have HCQ : Hid (CellsAt wr aq ((T.que a).flatMap sentCells)) := hcq
      have R1 : Hid (Rep wr B x1 T) := r1
      have HTH : Hid (∀ w2 S2, RefStep wr B x1 w2 S2 → RefStep w B x w2 S2) := fun w2 S2 h => RefStep.then u1 f1 h
      have cque := r1.cells.que a hlt
      rw [hvq] at cque
      have hBl := r1.cells.lt
      have hfq := r1.cells.free (4 + a * 3 + 1)
      have HQ : Hid (∀ m ∈ T.que a, 0 ≤ m.sentAt ∧ m.sentAt ≤ 1099511627776 ∧ 0 ≤ m.life ∧ m.life ≤ 1099511627776) := hq.2
      have hql := hq.1
      clear r1 u1 f1 hcq hq ct hft hvq
      go_wp2_with fail
      go_loopw [5, 6] (fun v i w2 => ∃ k : Nat, k ≤ (T.que a).length ∧ i = .int .i64 k ∧ w2.ownsRow wr.heap.size 100 5 v (kept (aliveB to) (T.que a) k).length ((kept (aliveB to) (T.que a) k).flatMap sentCells) ∧ Below wr.heap.size wr w2) (fun _ i _ => (T.que a).length - (intOf i).toNat)
      case atStart => exact ⟨0, Nat.zero_le _, rfl, World.ownsRow_nil _ _ _ _, Below.refl _ _⟩
      case round =>
        obtain ⟨k, hk, rfl, hown, hb2⟩ := hrel
        have cque2 := cell_later hb2 cque
        have hkl := kept_le (aliveB to) (T.que a) k
        have hsz := hb2.size
        by_cases hkt : k < (T.que a).length
        · obtain ⟨y, hy⟩ : ∃ y, (T.que a)[k]? = some y := ⟨_, List.getElem?_eq_getElem hkt⟩
          obtain ⟨g, rfl, hg, c0, c1, c2, c3, c4⟩ := sent_cells (HCQ.out.below hb2) hy
          obtain ⟨y1, y2, y3, y4⟩ := HQ.out y (List.mem_of_getElem? hy)
          have HY : Hid ((T.que a)[k]? = some y) := hy
          clear hy
          cases hl0 : (y.life == 0)
          · by_cases hal : to - y.sentAt < y.life
            · have HK : Hid (kept (aliveB to) (T.que a) (k + 1) = kept (aliveB to) (T.que a) k ++ [y]) := kept_hit HY.out (by simp [aliveB, hal])
              go_wp2_with (first | (at_builtin; refine wpList_append_own _ rfl _ _ 61 rfl _ 100 i0 _ 5 48 Tryz.underlying61 hi hz0 hz1 hz2 rfl (by decide) _ _ _ rfl ((hown.alloc _).alloc _) ⟨wr.heap.size + 1, 0, none⟩ 1 1 (sentCells y) rfl rfl (cells_new2 _ _ _ _) (sent_one _) (by unfold maxLen; omega) (by omega) (by simp; omega) ?_))
              intro v' w3 hown' hgrow _
              have R := grow_row2 hown hb2 hown' hgrow
              clear hown' hgrow hown
              go_wp2
              go_roundw
              case rel => exact ⟨k + 1, by omega, by go_num, by rw [HK.out]; exact R.1, R.2⟩
              case measure => simp [intOf]; omega
            · have hal' : decide (to - y.sentAt < y.life) = false := by simpa using hal
              have HK : Hid (kept (aliveB to) (T.que a) (k + 1) = kept (aliveB to) (T.que a) k) := kept_miss HY.out (by simp only [aliveB, hl0, hal']; rfl)
              clear hal
              go_wp2
              go_roundw
              case rel => exact ⟨k + 1, by omega, by go_num, by rw [HK.out]; exact hown.alloc _, hb2.alloc hb2.size _⟩
              case measure => simp [intOf]; omega
          · have HK : Hid (kept (aliveB to) (T.que a) (k + 1) = kept (aliveB to) (T.que a) k ++ [y]) := kept_hit HY.out (by simp only [aliveB, hl0]; rfl)
            go_wp2_with (first | (at_builtin; refine wpList_append_own _ rfl _ _ 61 rfl _ 100 i0 _ 5 48 Tryz.underlying61 hi hz0 hz1 hz2 rfl (by decide) _ _ _ rfl ((hown.alloc _).alloc _) ⟨wr.heap.size + 1, 0, none⟩ 1 1 (sentCells y) rfl rfl (cells_new2 _ _ _ _) (sent_one _) (by unfold maxLen; omega) (by omega) (by simp; omega) ?_))
            intro v' w3 hown' hgrow _
            have R := grow_row2 hown hb2 hown' hgrow
            clear hown' hgrow hown
            go_wp2
            go_roundw
            case rel => exact ⟨k + 1, by omega, by go_num, by rw [HK.out]; exact R.1, R.2⟩
            case measure => simp [intOf]; omega
        · have HK : Hid (kept (aliveB to) (T.que a) k = (T.que a).filter (aliveB to)) := kept_end _ _ _ (by omega)
          obtain ⟨av, cv, rfl, -, -, -⟩ := (row_of_own hown (x1.queV a)).1.form
          have hfq2 := (hb2.frozen (p := ⟨B, 4 + a * 3 + 1, none⟩) hBl).trans hfq
          go_wp2
          go_roundw
          case rel => exact ⟨a + 1, by omega, by go_num, by
            rw [hstep.out, ← HK.out]
            have R := row_of_own hown (x1.queV a)
            exact HTH.out _ _ (R1.out.setQue hlt (Upd.of_below hb2) R.1 R.2)⟩
          case measure => simp [intOf]; omega
    · have e : a = 8 := by omega
      subst e
      have HT0 : Hid (tickM S to = deliver to (agedTo S to 8)) := rfl
      have HST : Hid (RefStep w B x wr (agedTo S to 8)) := ⟨x1, r1, u1, f1⟩
      clear r1 u1 f1 ct hft
      go_wp2_with fail
      go_loopw [8] (fun _ w2 => ∃ T, RefStep w B x w2 T ∧ Inv T ∧ deliver to (agedTo S to 8) = deliver to T) (fun _ w2 => lenAt w2 B)
      case atStart => exact ⟨_, HST.out, HIA.out, rfl⟩
      case round =>
        obtain ⟨T, ⟨x2, r2, u2, f2⟩, hIT, hD⟩ := hrel
        obtain ⟨ao, c, hv, l1, l2, hc⟩ := r2.wait.form
        have cw := r2.cells.wait
        rw [hv] at cw
        have hll := hIT.wait.1
        have HD : Hid (deliver to (agedTo S to 8) = deliver to T) := hD
        have HIT : Hid (Inv T) := hIT
        have R2 : Hid (Rep wr B x2 T) := r2
        have HTH : Hid (∀ w2 S2, RefStep wr B x2 w2 S2 → RefStep w B x w2 S2) := fun w2 S2 h => RefStep.then u2 f2 h
        have L2 : Hid (c ≤ maxLen) := l2
        have HC : Hid (CellsAt wr ao (T.wait.flatMap waitCells)) := hc
        have hBr := r2.cells.lt
        unfold maxLen at l2
        clear hIT hD r2 u2 f2 hc hv HST HIA
        go_wp2_with fail
        refine (refFirstB T.wait ao c _ l1 L2.out HC.out).mono ?_
        rintro e w3 ⟨rfl, hb3⟩
        have cw3 := cell_later hb3 cw
        have hs3 := hb3.size
        cases hb : bestTo T.wait T.wait.length with
        | none =>
          have hfm : firstM T.wait = -1 := by simp [firstM, hb, optI]
          rw [hfm]
          have HE : Hid (deliver to T = T) := deliver_none hb
          clear hfm hb
          go_wp2_with fail
          exact bodyPost_ret (results_none rfl _ _ _) rfl ⟨rfl, by rw [HT0.out, HD.out, HE.out]; exact (HTH.out _ _ (RefStep.refl R2.out)).below hb3⟩
        | some b =>
          have hfm : firstM T.wait = (b : Int) := by simp [firstM, hb, optI]
          rw [hfm]
          have hbl := best_lt T.wait _ b hb
          obtain ⟨y, hy⟩ : ∃ y, T.wait[b]? = some y := ⟨_, List.getElem?_eq_getElem hbl⟩
          obtain ⟨g, rfl, hg, c0, c1, c2, c3, c4⟩ := wait_cells (HC.out.below hb3) hy
          by_cases hd : to < y.deadline
          · have HE : Hid (deliver to T = T) := deliver_late hb hy hd
            clear hfm hb hy
            go_wp2_with fail
            exact bodyPost_ret (results_none rfl _ _ _) rfl ⟨rfl, by rw [HT0.out, HD.out, HE.out]; exact (HTH.out _ _ (RefStep.refl R2.out)).below hb3⟩
          · have HE : Hid (deliver to T = deliver to (sendTo { T with wait := T.wait.filter (fun m => m.number != y.number) } y 8)) := deliver_step hb hy hd
            have hmem := List.mem_of_getElem? hy
            have HI1 : Hid (Inv1 { T with wait := T.wait.filter (fun m => m.number != y.number) }) := (HIT.out.gone hmem).1
            have HI2 : Hid (Inv (sendTo { T with wait := T.wait.filter (fun m => m.number != y.number) } y 8)) := HIT.out.deliver1 hmem
            have HLN : Hid ((sendTo { T with wait := T.wait.filter (fun m => m.number != y.number) } y 8).wait.length < T.wait.length) := deliver_len T y hmem
            have hty := (HIT.out.wait.2 y hmem).1
            clear hfm hb hy hmem
            have hd' : y.deadline ≤ to := by omega
            go_wp2_with fail
            refine (refGone B x2 T y.number _ ((R2.out.below hb3).below (below_one _ _)) (by omega)).mono ?_
            rintro e w4 ⟨rfl, x3, r3, u3, f3⟩
            have hbx : ¬ RefFP B x2 w3.heap.size := fun hk => by have := (R2.out.below hb3).lt hk; omega
            have d0 : w4.cell? ⟨w3.heap.size, 0, none⟩ = some (.int .i64 y.number) := u3.cell (by simp) hbx
            have d1 : w4.cell? ⟨w3.heap.size, 1, none⟩ = some (.string y.topic) := u3.cell (by simp) hbx
            have d2 : w4.cell? ⟨w3.heap.size, 2, none⟩ = some (.int .i64 y.value) := u3.cell (by simp) hbx
            have d3 : w4.cell? ⟨w3.heap.size, 3, none⟩ = some (.int .i64 y.deadline) := u3.cell (by simp) hbx
            have d4 : w4.cell? ⟨w3.heap.size, 4, none⟩ = some (.int .i64 y.life) := u3.cell (by simp) hbx
            have HTH4 : Hid (∀ w5 S5, RefStep w4 B x3 w5 S5 → RefStep w B x w5 S5) := fun w5 S5 h => HTH.out _ _ (RefStep.then (Upd.of_below (hb3.trans ((below_one w3 _).mono hs3))) (fun _ hk => .inl hk) (RefStep.then u3 f3 h))
            have R3 : Hid (Rep w4 B x3 { T with wait := T.wait.filter (fun m => m.number != y.number) }) := r3
            clear u3 f3 r3 hbx
            go_wp2_with fail
            obtain ⟨g1, g2, g3, g4⟩ := Inv.sends HI1.out
            refine (refSend B x3 _ y _ R3.out (by omega) g1 g2 g3 g4).mono ?_
            rintro e w5 ⟨rfl, x5, r5, u5, f5⟩
            have HLEN : Hid (lenAt w5 B < lenAt wr B) := by
              show lenAt w5 B < lenAt wr B
              rw [lenAt_rep r5, lenAt_rep R2.out]; exact HLN.out
            have HS5 : Hid (RefStep w B x w5 (sendTo { T with wait := T.wait.filter (fun m => m.number != y.number) } y 8)) := HTH4.out _ _ ⟨x5, r5, u5, f5⟩
            clear r5 u5 f5 g1 g2 g3 g4
            go_wp2_with fail
            go_roundw
            case rel => (repeat apply Exists.intro); exact ⟨⟨_, HS5.out, HI2.out, HD.out.trans HE.out⟩, rfl⟩
            case measure => exact HLEN.out
end Go.Proofs.YtmjdndhfmfjbiaaGreat
