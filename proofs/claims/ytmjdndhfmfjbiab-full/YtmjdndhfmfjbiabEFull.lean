import Derived.Test.YtmjdndhfmfjbiabM10
import Derived.ProofKit
import Derived.OpenShut
import Derived.JoinedCond
namespace Go.Proofs.Ytmjdndhfmfjbiab
open Go.RowKit

/-- A Tick that does not go on. -/
theorem tick_still {S : RefS} {b : Int} (a c d : Int) (s : ByteArray) (h0 : 0 ≤ b) (h1 : b ≤ 1099511627776) (hn : ¬ S.time < b) : doErr S ⟨6, a, b, c, d, s⟩ = 0 ∧ doS S ⟨6, a, b, c, d, s⟩ = S := by
  have hz : wrongM S ⟨6, a, b, c, d, s⟩ = 0 := by
    have ht : isTimeM b = true := by simp [isTimeM]; omega
    simp [wrongM, tickErr, ht]
  have hwb : writesB S ⟨6, a, b, c, d, s⟩ = false := by simp [writesB]; omega
  have hd : doneB S ⟨6, a, b, c, d, s⟩ = false := by unfold doneB; rw [hwb, Bool.and_false]; rfl
  exact ⟨by unfold doErr; rw [if_pos hz, hwb]; rfl, by unfold doS; rw [hd]; rfl⟩

/-- The state behind so many Ticks. -/
structure Ticked (S : RefS) (r : Int) (k : Nat) : Prop where
  time : S.time = (k : Int)
  done : S.done.length = k
  room : S.room = r
  fil : S.fil = fun _ => []
  wait : S.wait = []

theorem ticked_step {S : RefS} {r : Int} {k : Nat} (h : Ticked S r k) (hk : (k : Int) < r) (hr : r ≤ 500) (a c d : Int) (s : ByteArray) : doErr S ⟨6, a, (k : Int) + 1, c, d, s⟩ = 0 ∧ Ticked (doS S ⟨6, a, (k : Int) + 1, c, d, s⟩) r (k + 1) := by
  obtain ⟨h2, h3, -⟩ := tick_plain (S := S) (b := (k : Int) + 1) a c d s h.wait (by omega) (by omega) (by rw [h.done, h.room]; exact hk)
  refine ⟨h2, ?_⟩
  rw [h3 (by rw [h.time]; omega)]
  obtain ⟨g1, g2, g3, g4, g5, g6, g7, g8⟩ := aged_keeps { S with done := S.done ++ [⟨6, a, (k : Int) + 1, c, d, s⟩] } ((k : Int) + 1) 8
  exact ⟨by rw [g2]; push_cast; rfl, by rw [g3]; simp [h.done], g5.trans h.room, g1.trans h.fil, g4.trans h.wait⟩

theorem hash_ok : M.isPathM true ⟨#[35]⟩ = true := by rw [M.isPath_L]; decide

/-- What a full broker says. -/
theorem ticked_full {S : RefS} {r : Int} {k : Nat} (h : Ticked S r k) (hk : (k : Int) = r) (o : OpD) (hw : wrongM S o = 0) (hb : writesB S o = true) : doErr S o = 9 ∧ doS S o = S := by
  have e := is_full hw hb (by rw [h.done, h.room]; omega)
  exact ⟨e, (not_done (by rw [e]; omega)).2.1⟩

set_option maxRecDepth 100000 in
set_option maxHeartbeats 4000000 in
theorem keepNone (k : Int) (w : World) (h0 : -9223372036854775808 ≤ k) (h1 : k ≤ 9223372036854775807) : Calls Try.prog 41 #[.int .i64 k] w fun e w' => (∃ y, e = .returned (.string y) ∧ M.isPathM true y = false ∧ M.isPathM false y = false ∧ y.size ≤ 15) ∧ Below w.heap.size w w' := by
  have hb := pick_bd k 8 (by omega)
  have HB : Hid (∀ o, Below w.heap.size w (w.alloc o)) := fun o => below_one _ _
  rcases (show pickM k 8 = 0 ∨ pickM k 8 = 1 ∨ pickM k 8 = 2 ∨ pickM k 8 = 3 ∨ pickM k 8 = 4 ∨ pickM k 8 = 5 ∨ pickM k 8 = 6 ∨ pickM k 8 = 7 from by omega) with e | e | e | e | e | e | e | e
  all_goals
    have HE : Hid (pickM k 8 = _) := e
    clear e hb
    go_enter Try.func41, Try.ntmps41
    go_wp2_with fail
    refine (keepPick k 8 _ h0 h1 (by omega) (by omega)).mono ?_
    rintro e w2 ⟨rfl, hw2⟩
    rw [HE.out, hw2]
    go_wp2_with fail
    go_ret
    refine ⟨⟨_, rfl, by rw [M.isPath_L]; decide, by rw [M.isPath_L]; decide, by decide⟩, HB.out _⟩

set_option maxRecDepth 100000 in
set_option maxHeartbeats 4000000 in
theorem fullWalk (room : Int) (s : ByteArray) (w : World) (h0 : -9223372036854775808 ≤ room) (h1 : room ≤ 9223372036854775807) (hs : s.size ≤ maxLen) :
    Calls Try.prog 8 #[.int .i64 room, .string s] w fun e w' => e = .returned (.bool true) ∧ Below w.heap.size w w' := by
  go_enter Try.func8, Try.ntmps8
  go_wp2_with fail
  refine (keepPick room 501 _ h0 h1 (by omega) (by omega)).mono ?_
  rintro e w ⟨rfl, rfl⟩
  have hr := pick_bd room 501 (by omega)
  generalize pickM room 501 = r at *
  obtain ⟨R, rfl⟩ : ∃ R : Nat, r = (R : Int) := ⟨r.toNat, by omega⟩
  have hR : R ≤ 500 := by omega
  clear hr
  go_wp2_with fail
  refine (mineOpened (R : Int) w (by omega) (by omega)).mono ?_
  rintro e w1 ⟨H, rfl, hm1⟩
  have M1 : Hid (Mine w w1 H (refNew (R : Int))) := hm1
  clear hm1
  go_wp2_with fail
  go_loopw [7] (fun i wr => ∃ (k : Nat) (S : RefS), k ≤ R ∧ i = .int .i64 (k : Int) ∧ Mine w wr H S ∧ Ticked S (R : Int) k) (fun i _ => R - (intOf i).toNat)
  case atStart => exact ⟨0, _, Nat.zero_le _, rfl, M1.out, ⟨rfl, rfl, rfl, rfl, rfl⟩⟩
  case round =>
    obtain ⟨k, S, hk, rfl, hm, ht⟩ := hrel
    have MM : Hid (Mine w wr H S) := hm
    have TT : Hid (Ticked S (R : Int) k) := ht
    clear hm ht
    by_cases hlt : k < R
    · obtain ⟨p1, p2⟩ := ticked_step TT.out (by omega) (by omega) 0 0 0 ⟨#[]⟩
      have P1 : Hid (doErr S ⟨6, 0, (k : Int) + 1, 0, 0, ⟨#[]⟩⟩ = 0) := p1
      have P2 : Hid (Ticked (doS S ⟨6, 0, (k : Int) + 1, 0, 0, ⟨#[]⟩⟩) (R : Int) (k + 1)) := p2
      clear p1 p2
      go_wp2_with fail
      refine (mineTick 0 ((k : Int) + 1) 0 0 ⟨#[]⟩ MM.out (Nat.zero_le _)).mono ?_
      rintro e w2 ⟨rfl, hm2⟩
      rw [P1.out]
      have M2 : Hid (Mine w w2 H (doS S ⟨6, 0, (k : Int) + 1, 0, 0, ⟨#[]⟩⟩)) := hm2
      clear hm2
      go_wp2_with fail
      go_roundw
      case rel => exact ⟨k + 1, _, by omega, by go_num, M2.out, P2.out⟩
      case measure => simp [intOf]; omega
    · obtain rfl : k = R := by omega
      have hg := MM.out.good
      have HTI : Hid (S.time = (k : Int)) := TT.out.time
      have HDO : Hid (S.done.length = k) := TT.out.done
      have HDK : Hid ((cat (S.done.map recOf)).size = 42 * k) := by
        obtain ⟨F, R, ⟨x, fil, wait, hb, -⟩, -, -, -⟩ := MM.out
        have := hb.size
        rw [hb.recs, TT.out.done] at this
        exact this
      have HFL : Hid (filtersM S 0 = []) := by
        show filtersM S 0 = []
        unfold filtersM
        rw [TT.out.fil]; rfl
      have HWA : Hid (waitingM S = []) := by
        show waitingM S = []
        unfold waitingM
        rw [TT.out.wait]; rfl
      have hfil0 : S.fil 0 = [] := by rw [TT.out.fil]
      -- the answers
      have hA : Hid (doErr S ⟨6, 0, (k : Int) + 1, 0, 0, ⟨#[]⟩⟩ = 9 ∧ doS S ⟨6, 0, (k : Int) + 1, 0, 0, ⟨#[]⟩⟩ = S) := by
        refine ticked_full TT.out rfl _ ?_ ?_
        · have ht : isTimeM ((k : Int) + 1) = true := by simp [isTimeM]; omega
          simp [wrongM, tickErr, ht]
        · simp [writesB, HTI.out]; omega
      have hC : Hid (doErr S ⟨1, 0, 0, 0, 0, ⟨#[35]⟩⟩ = 9 ∧ doS S ⟨1, 0, 0, 0, 0, ⟨#[35]⟩⟩ = S) := by
        refine ticked_full TT.out rfl _ ?_ (writes_not (by show (1 : Int) ≠ 6; decide))
        have hk : knownB 0 = true := by decide
        simp [wrongM, hk, hash_ok, hfil0, findM, subErr]
      have hP : Hid (∀ x c, M.isPathM false x = true → (c = 0 ∨ c = 1) → doErr S ⟨3, 0, 0, c, 0, x⟩ = 9 ∧ doAns S ⟨3, 0, 0, c, 0, x⟩ = 0 ∧ doS S ⟨3, 0, 0, c, 0, x⟩ = S) := fun x c hx hc => by
        have h1 : isTimeM 0 = true := by decide
        have h2 : isTimeM 1 = true := by decide
        have e := ticked_full TT.out rfl ⟨3, 0, 0, c, 0, x⟩ (by rcases hc with rfl | rfl <;> simp [wrongM, pubErr, hx, h1, h2, TT.out.wait]) (writes_not (by show (3 : Int) ≠ 6; decide))
        exact ⟨e.1, (not_done (by rw [e.1]; omega)).2.2, e.2⟩
      have hD : Hid (∀ y, M.isPathM true y = false → doErr S ⟨1, 0, 0, 0, 0, y⟩ = 4 ∧ doS S ⟨1, 0, 0, 0, 0, y⟩ = S) := fun y hy => by
        have hk : knownB 0 = true := by decide
        have e := is_wrong (S := S) (o := ⟨1, 0, 0, 0, 0, y⟩) (e := 4) (by simp [wrongM, hk, hy]) (by omega)
        exact ⟨e, (not_done (by rw [e]; omega)).2.1⟩
      clear hfil0 hg
      go_wp2_with fail
      refine (mineDisk MM.out).mono ?_
      rintro e wr ⟨rfl, rfl⟩
      have hdk1 := HDK.out
      generalize hdk : cat (S.done.map recOf) = dk at *
      have HDK2 : Hid (cat (S.done.map recOf) = dk) := hdk
      clear hdk
      go_wp2_with fail
      refine (keepTopic s _ hs).mono ?_
      rintro e w3 ⟨⟨x, rfl, hx⟩, hb3⟩
      have HX : Hid (M.isPathM false x = true) := hx
      have hxs : x.size ≤ 1048576 := Nat.le_trans (path15 hx) (by omega)
      have M3 : Hid (Mine w w3 H S) := MM.out.below hb3
      clear hx hb3
      go_wp2_with fail
      refine (mineTick 0 ((k : Int) + 1) 0 0 ⟨#[]⟩ M3.out (Nat.zero_le _)).mono ?_
      rintro e w4 ⟨rfl, hm4⟩
      rw [hA.out.1]
      rw [hA.out.2] at hm4
      have M4 : Hid (Mine w w4 H S) := hm4
      clear hm4
      go_wp2_with fail
      refine (keepPick room ((k : Int) + 1) _ h0 h1 (by omega) (by omega)).mono ?_
      rintro e w4 ⟨rfl, rfl⟩
      have hpk := pick_bd room ((k : Int) + 1) (by omega)
      generalize pickM room ((k : Int) + 1) = p at *
      obtain ⟨t1, t2⟩ := tick_still (S := S) (b := p) 0 0 0 ⟨#[]⟩ (by omega) (by omega) (by rw [HTI.out]; omega)
      have T1 : Hid (doErr S ⟨6, 0, p, 0, 0, ⟨#[]⟩⟩ = 0) := t1
      have T2 : Hid (doS S ⟨6, 0, p, 0, 0, ⟨#[]⟩⟩ = S) := t2
      clear t1 t2
      go_wp2_with fail
      refine (mineTick 0 p 0 0 ⟨#[]⟩ M4.out (Nat.zero_le _)).mono ?_
      rintro e w5 ⟨rfl, hm5⟩
      rw [T1.out]
      rw [T2.out] at hm5
      have M5 : Hid (Mine w w5 H S) := hm5
      clear hm5
      go_wp2_with fail
      refine (mineSub 0 0 0 0 ⟨#[35]⟩ M5.out (by show 1 ≤ _; omega)).mono ?_
      rintro e w6 ⟨rfl, hm6⟩
      rw [hC.out.1]
      rw [hC.out.2] at hm6
      have M6 : Hid (Mine w w6 H S) := hm6
      clear hm6
      go_wp2_with fail
      refine (keepNone room _ h0 h1).mono ?_
      rintro e w7 ⟨⟨y, rfl, hy1, hy2, hy3⟩, hb7⟩
      have M7 : Hid (Mine w w7 H S) := M6.out.below hb7
      have Y1 : Hid (doErr S ⟨1, 0, 0, 0, 0, y⟩ = 4 ∧ doS S ⟨1, 0, 0, 0, 0, y⟩ = S) := hD.out y hy1
      clear hy1 hy2 hb7
      go_wp2_with fail
      refine (mineSub 0 0 0 0 y M7.out (by omega)).mono ?_
      rintro e w8 ⟨rfl, hm8⟩
      rw [Y1.out.1]
      rw [Y1.out.2] at hm8
      have M8 : Hid (Mine w w8 H S) := hm8
      clear hm8
      go_wp2_with fail
      refine (minePub 0 0 0 0 x M8.out hxs).mono ?_
      rintro e w9 ⟨rfl, hm9⟩
      obtain ⟨e1, e2, e3⟩ := hP.out x 0 HX.out (.inl rfl)
      rw [e1, e2]
      rw [e3] at hm9
      have M9 : Hid (Mine w w9 H S) := hm9
      clear hm9 e1 e2 e3
      go_wp2_with fail
      refine (minePub 0 0 1 0 x M9.out hxs).mono ?_
      rintro e w10 ⟨rfl, hm10⟩
      obtain ⟨e1, e2, e3⟩ := hP.out x 1 HX.out (.inr rfl)
      rw [e1, e2]
      rw [e3] at hm10
      have M10 : Hid (Mine w w10 H S) := hm10
      clear hm10 e1 e2 e3
      go_wp2_with fail
      refine (mineTime M10.out).mono ?_
      rintro e w10 ⟨rfl, rfl⟩
      rw [HTI.out]
      go_wp2_with fail
      refine (mineRecords M10.out).mono ?_
      rintro e w10 ⟨rfl, rfl⟩
      rw [HDO.out]
      go_wp2_with fail
      refine (mineDisk M10.out).mono ?_
      rintro e w10 ⟨rfl, rfl⟩
      rw [HDK2.out]
      go_wp2_with fail
      refine (mineFilters 0 M10.out).mono ?_
      rintro e w11 ⟨v, rfl, ho11, hb11⟩
      rw [HFL.out] at ho11
      obtain ⟨af, cf, rfl, -, -, -⟩ := Row.form (row_of_own (w := w10) ho11 nilV).1
      have M11 : Hid (Mine w w11 H S) := M10.out.below hb11
      clear ho11 hb11
      go_wp2_with fail
      refine (mineWaiting M11.out).mono ?_
      rintro e w12 ⟨v, rfl, ho12, hb12⟩
      rw [HWA.out] at ho12
      obtain ⟨aw, cw, rfl, -, -, -⟩ := Row.form (row_of_own (w := w11) ho12 nilV).1
      have HBW : Hid (Below w.heap.size w w12) := (M11.out.below hb12).out
      clear ho12 hb12
      have hge : (k : Int) ≤ (dk.size : Int) := by omega
      go_wp2_with fail
      go_ret
      exact ⟨ret_bool' (show decide ((k : Int) ≤ 42 * (k : Int)) = true from decide_eq_true (by omega)), HBW.out⟩
open Go.ChangeShapes Go.WideShapes Go.ChangeAt
open Go.ChangeMaps (open_string shut_string)

theorem arr2k {args : Array Value} {a b : Value} (h : args.toList = [a, b]) : args = #[a, b] := by cases args; simp only at h; rw [h]
theorem ownK : ownKnob Try.prog.godebug = none := by kernel_rfl

set_option maxRecDepth 100000 in
theorem fullLifted (os : Os) (started : os.Started) (H : Type) (enc : TypeId × Value → H) :
    ReturnsInHanded {} Try.checked os 8 .any (Rows.fullSpec.pre6 enc Try.prog Try.f8 Rows.fullRow.domain false) (Rows.fullSpec.post enc Try.prog Try.f8 false true false false) := by
  refine returnsInHanded_of_change (C := Try.checked) ownK started (by kernel_rfl) Try.func8
    (ChangeSpec.witness6 (enc := enc) (C := Try.checked) false ⟨#[], #[.int .i64 0, .string .empty], []⟩ 8 (by kernel_rfl) (by kernel_rfl) (by kernel_rfl) (by kernel_rfl)) ?_
  intro W base args ds gs before hval0 hW hcnd _
  have hval : ∀ (j : Nat) t v, Try.f8.params[j]? = some t → args[j]? = some v → Value.okWide Try.prog W .any base t v := hval0
  have hW' := hW
  obtain ⟨p, q, hA0, hV, rfl, hfz, hnd⟩ := hW
  have hA : DataW.TrodAll enc Try.prog W 0 (fun _ => true) true Try.f8.params.toList args.toList ds p := hA0
  rw [Try.params8] at hA hval
  obtain ⟨v0, vs0, d0, ds0, p0, q0, hargs, rfl, rfl, h0, r0⟩ := trodAll_cons hA
  obtain ⟨v1, vs1, d1, ds1, p1, q1, rfl, rfl, rfl, h1, r1⟩ := trodAll_cons r0
  obtain ⟨rfl, rfl, rfl⟩ := trodAll_nil r1
  obtain rfl := arr2k hargs
  obtain ⟨rfl, rfl⟩ := trodVars_none hV
  obtain ⟨n1, rfl, rfl, rfl, w1⟩ := open_int Try.underlying3 (hval 0 3 v0 rfl rfl) h0
  obtain ⟨s, rfl, rfl, rfl, hmax⟩ := open_string Try.underlying9 (hval 1 9 v1 rfl rfl) h1
  clear hA0 hval0 hcnd
  simp only [List.append_nil] at hW'
  refine (fullWalk n1 s W (bounds_i64 w1).1 (bounds_i64 w1).2 hmax).mono fun e W' ⟨he, hg⟩ => ?_
  subst he
  exact ⟨_, rfl, _, _, _, [], [], [], hW', trodAll_mk1 (shut_bool Try.underlying4 _), trodAll_cons_mk (shut_int Try.underlying3 w1) (trodAll_cons_mk (shut_string Try.underlying9 hmax) trodAll_mk0), rfl, hg.frame _, fun h => by cases h⟩

theorem full_holds : Rows.FullSaid :=
  OpenClaim.holds_of_wide 8 Try.f8 rfl rfl rfl rfl rfl rfl rfl ⟨rfl, rfl, rfl, rfl, rfl⟩ rfl rfl rfl rfl rfl (by kernel_rfl) Try.func8 (by kernel_rfl)
    (of_decide_eq_true (by kernel_rfl)) (by unfold Func.isWrapper; first | (rw [if_pos (by decide +kernel)]; kernel_rfl) | (rw [if_neg (by decide +kernel)]; exact ⟨rfl, rfl⟩))
    (fun os started H enc _ => fullLifted os started H enc)
end Go.Proofs.Ytmjdndhfmfjbiab
