import Derived.Test.YtmjdndhfmfjbiabM07
import Derived.ProofKit
import Derived.OpenShut
import Derived.JoinedCond
import Derived.Test.YtmjdndhfmfjbiabM08
namespace Go.Proofs.Ytmjdndhfmfjbiab
open Go.RowKit

/-- A Tick that does not go on. -/
theorem tick_still {S : RefS} {b : Int} (a c d : Int) (s : ByteArray) (h0 : 0 ≤ b) (h1 : b ≤ 1099511627776) (hn : ¬ S.time < b) : doErr S ⟨6, a, b, c, d, s⟩ = 0 ∧ doS S ⟨6, a, b, c, d, s⟩ = S := by
  have hz : wrongM S ⟨6, a, b, c, d, s⟩ = 0 := by
    have ht : isTimeM b = true := by simp [isTimeM]; omega
    simp [wrongM, tickErr, ht]
  have hwb : writesB S ⟨6, a, b, c, d, s⟩ = false := by simp [writesB]; omega
  have hd : doneB S ⟨6, a, b, c, d, s⟩ = false := by unfold doneB; rw [hwb, Bool.and_false]; rfl
  exact ⟨by unfold doErr; rw [if_pos hz, hwb]; rfl, by unfold doS; rw [hd]; rfl⟩

/-- The state behind so many Ticks. -/
structure Ticked (S : RefS) (r : Int) (k : Nat) : Prop where
  time : S.time = (k : Int)
  done : S.done.length = k
  room : S.room = r
  fil : S.fil = fun _ => []
  wait : S.wait = []

theorem ticked_step {S : RefS} {r : Int} {k : Nat} (h : Ticked S r k) (hk : (k : Int) < r) (hr : r ≤ 500) (a c d : Int) (s : ByteArray) : doErr S ⟨6, a, (k : Int) + 1, c, d, s⟩ = 0 ∧ Ticked (doS S ⟨6, a, (k : Int) + 1, c, d, s⟩) r (k + 1) := by
  obtain ⟨h2, h3, -⟩ := tick_plain (S := S) (b := (k : Int) + 1) a c d s h.wait (by omega) (by omega) (by rw [h.done, h.room]; exact hk)
  refine ⟨h2, ?_⟩
  rw [h3 (by rw [h.time]; omega)]
  obtain ⟨g1, g2, g3, g4, g5, g6, g7, g8⟩ := aged_keeps { S with done := S.done ++ [⟨6, a, (k : Int) + 1, c, d, s⟩] } ((k : Int) + 1) 8
  exact ⟨by rw [g2]; push_cast; rfl, by rw [g3]; simp [h.done], g5.trans h.room, g1.trans h.fil, g4.trans h.wait⟩

theorem hash_ok : M.isPathM true ⟨#[35]⟩ = true := by rw [M.isPath_L]; decide

/-- What a full broker says. -/
theorem ticked_full {S : RefS} {r : Int} {k : Nat} (h : Ticked S r k) (hk : (k : Int) = r) (o : OpD) (hw : wrongM S o = 0) (hb : writesB S o = true) : doErr S o = 9 ∧ doS S o = S := by
  have e := is_full hw hb (by rw [h.done, h.room]; omega)
  exact ⟨e, (not_done (by rw [e]; omega)).2.1⟩

set_option maxRecDepth 100000 in
set_option maxHeartbeats 4000000 in
theorem keepNone (k : Int) (w : World) (h0 : -9223372036854775808 ≤ k) (h1 : k ≤ 9223372036854775807) : Calls Try.prog 41 #[.int .i64 k] w fun e w' => (∃ y, e = .returned (.string y) ∧ M.isPathM true y = false ∧ M.isPathM false y = false ∧ y.size ≤ 15) ∧ Below w.heap.size w w' := by
  have hb := pick_bd k 8 (by omega)
  have HB : Hid (∀ o, Below w.heap.size w (w.alloc o)) := fun o => below_one _ _
  rcases (show pickM k 8 = 0 ∨ pickM k 8 = 1 ∨ pickM k 8 = 2 ∨ pickM k 8 = 3 ∨ pickM k 8 = 4 ∨ pickM k 8 = 5 ∨ pickM k 8 = 6 ∨ pickM k 8 = 7 from by omega) with e | e | e | e | e | e | e | e
  all_goals
    have HE : Hid (pickM k 8 = _) := e
    clear e hb
    go_enter Try.func41, Try.ntmps41
    go_wp2_with fail
    refine (keepPick k 8 _ h0 h1 (by omega) (by omega)).mono ?_
    rintro e w2 ⟨rfl, hw2⟩
    rw [HE.out, hw2]
    go_wp2_with fail
    go_ret
    refine ⟨⟨_, rfl, by rw [M.isPath_L]; decide, by rw [M.isPath_L]; decide, by decide⟩, HB.out _⟩

set_option maxRecDepth 100000 in
set_option maxHeartbeats 4000000 in
theorem fullWalk (room : Int) (s : ByteArray) (w : World) (h0 : -9223372036854775808 ≤ room) (h1 : room ≤ 9223372036854775807) (hs : s.size ≤ maxLen) :
    Calls Try.prog 8 #[.int .i64 room, .string s] w fun e w' => e = .returned (.bool true) ∧ Below w.heap.size w w' := by
  go_enter Try.func8, Try.ntmps8
  go_wp2_with fail
  refine (keepPick room 501 _ h0 h1 (by omega) (by omega)).mono ?_
  rintro e w ⟨rfl, rfl⟩
  have hr := pick_bd room 501 (by omega)
  generalize pickM room 501 = r at *
  obtain ⟨R, rfl⟩ : ∃ R : Nat, r = (R : Int) := ⟨r.toNat, by omega⟩
  have hR : R ≤ 500 := by omega
  clear hr
  go_wp2_with fail
  refine (mineOpened (R : Int) w (by omega) (by omega)).mono ?_
  rintro e w1 ⟨H, rfl, hm1⟩
  have M1 : Hid (Mine w w1 H (refNew (R : Int))) := hm1
  clear hm1
  go_wp2_with fail
  go_loopw [7] (fun i wr => ∃ (k : Nat) (S : RefS), k ≤ R ∧ i = .int .i64 (k : Int) ∧ Mine w wr H S ∧ Ticked S (R : Int) k) (fun i _ => R - (intOf i).toNat)
  case atStart => exact ⟨0, _, Nat.zero_le _, rfl, M1.out, ⟨rfl, rfl, rfl, rfl, rfl⟩⟩
  case round =>
    obtain ⟨k, S, hk, rfl, hm, ht⟩ := hrel
    have MM : Hid (Mine w wr H S) := hm
    have TT : Hid (Ticked S (R : Int) k) := ht
    clear hm ht
    by_cases hlt : k < R
    · obtain ⟨p1, p2⟩ := ticked_step TT.out (by omega) (by omega) 0 0 0 ⟨#[]⟩
      have P1 : Hid (doErr S ⟨6, 0, (k : Int) + 1, 0, 0, ⟨#[]⟩⟩ = 0) := p1
      have P2 : Hid (Ticked (doS S ⟨6, 0, (k : Int) + 1, 0, 0, ⟨#[]⟩⟩) (R : Int) (k + 1)) := p2
      clear p1 p2
      go_wp2_with fail
      refine (mineTick 0 ((k : Int) + 1) 0 0 ⟨#[]⟩ MM.out (Nat.zero_le _)).mono ?_
      rintro e w2 ⟨rfl, hm2⟩
      rw [P1.out]
      have M2 : Hid (Mine w w2 H (doS S ⟨6, 0, (k : Int) + 1, 0, 0, ⟨#[]⟩⟩)) := hm2
      clear hm2
      go_wp2_with fail
      go_roundw
      case rel => exact ⟨k + 1, _, by omega, by go_num, M2.out, P2.out⟩
      case measure => simp [intOf]; omega
    · obtain rfl : k = R := by omega
      have hg := MM.out.good
      have HTI : Hid (S.time = (k : Int)) := TT.out.time
      have HDO : Hid (S.done.length = k) := TT.out.done
      have HDK : Hid ((cat (S.done.map recOf)).size = 42 * k) := by
        obtain ⟨F, R, ⟨x, fil, wait, hb, -⟩, -, -, -⟩ := MM.out
        have := hb.size
        rw [hb.recs, TT.out.done] at this
        exact this
      have HFL : Hid (filtersM S 0 = []) := by
        show filtersM S 0 = []
        unfold filtersM
        rw [TT.out.fil]; rfl
      have HWA : Hid (waitingM S = []) := by
        show waitingM S = []
        unfold waitingM
        rw [TT.out.wait]; rfl
      have hfil0 : S.fil 0 = [] := by rw [TT.out.fil]
      -- the answers
      have hA : Hid (doErr S ⟨6, 0, (k : Int) + 1, 0, 0, ⟨#[]⟩⟩ = 9 ∧ doS S ⟨6, 0, (k : Int) + 1, 0, 0, ⟨#[]⟩⟩ = S) := by
        refine ticked_full TT.out rfl _ ?_ ?_
        · have ht : isTimeM ((k : Int) + 1) = true := by simp [isTimeM]; omega
          simp [wrongM, tickErr, ht]
        · simp [writesB, HTI.out]; omega
      have hC : Hid (doErr S ⟨1, 0, 0, 0, 0, ⟨#[35]⟩⟩ = 9 ∧ doS S ⟨1, 0, 0, 0, 0, ⟨#[35]⟩⟩ = S) := by
        refine ticked_full TT.out rfl _ ?_ (writes_not (by show (1 : Int) ≠ 6; decide))
        have hk : knownB 0 = true := by decide
        simp [wrongM, hk, hash_ok, hfil0, findM, subErr]
      have hP : Hid (∀ x c, M.isPathM false x = true → (c = 0 ∨ c = 1) → doErr S ⟨3, 0, 0, c, 0, x⟩ = 9 ∧ doAns S ⟨3, 0, 0, c, 0, x⟩ = 0 ∧ doS S ⟨3, 0, 0, c, 0, x⟩ = S) := fun x c hx hc => by
        have h1 : isTimeM 0 = true := by decide
        have h2 : isTimeM 1 = true := by decide
        have e := ticked_full TT.out rfl ⟨3, 0, 0, c, 0, x⟩ (by rcases hc with rfl | rfl <;> simp [wrongM, pubErr, hx, h1, h2, TT.out.wait]) (writes_not (by show (3 : Int) ≠ 6; decide))
        exact ⟨e.1, (not_done (by rw [e.1]; omega)).2.2, e.2⟩
      have hD : Hid (∀ y, M.isPathM true y = false → doErr S ⟨1, 0, 0, 0, 0, y⟩ = 4 ∧ doS S ⟨1, 0, 0, 0, 0, y⟩ = S) := fun y hy => by
        have hk : knownB 0 = true := by decide
        have e := is_wrong (S := S) (o := ⟨1, 0, 0, 0, 0, y⟩) (e := 4) (by simp [wrongM, hk, hy]) (by omega)
        exact ⟨e, (not_done (by rw [e]; omega)).2.1⟩
      clear hfil0 hg
      go_wp2_with fail
      refine (mineDisk MM.out).mono ?_
      rintro e wr ⟨rfl, rfl⟩
      have hdk1 := HDK.out
      generalize hdk : cat (S.done.map recOf) = dk at *
      have HDK2 : Hid (cat (S.done.map recOf) = dk) := hdk
      clear hdk
      go_wp2_with fail
      refine (keepTopic s _ hs).mono ?_
      rintro e w3 ⟨⟨x, rfl, hx⟩, hb3⟩
      have HX : Hid (M.isPathM false x = true) := hx
      have hxs : x.size ≤ 1048576 := Nat.le_trans (path15 hx) (by omega)
      have M3 : Hid (Mine w w3 H S) := MM.out.below hb3
      clear hx hb3
      go_wp2_with fail
      refine (mineTick 0 ((k : Int) + 1) 0 0 ⟨#[]⟩ M3.out (Nat.zero_le _)).mono ?_
      rintro e w4 ⟨rfl, hm4⟩
      rw [hA.out.1]
      rw [hA.out.2] at hm4
      have M4 : Hid (Mine w w4 H S) := hm4
      clear hm4
      go_wp2_with fail
      refine (keepPick room ((k : Int) + 1) _ h0 h1 (by omega) (by omega)).mono ?_
      rintro e w4 ⟨rfl, rfl⟩
      have hpk := pick_bd room ((k : Int) + 1) (by omega)
      generalize pickM room ((k : Int) + 1) = p at *
      obtain ⟨t1, t2⟩ := tick_still (S := S) (b := p) 0 0 0 ⟨#[]⟩ (by omega) (by omega) (by rw [HTI.out]; omega)
      have T1 : Hid (doErr S ⟨6, 0, p, 0, 0, ⟨#[]⟩⟩ = 0) := t1
      have T2 : Hid (doS S ⟨6, 0, p, 0, 0, ⟨#[]⟩⟩ = S) := t2
      clear t1 t2
      go_wp2_with fail
      refine (mineTick 0 p 0 0 ⟨#[]⟩ M4.out (Nat.zero_le _)).mono ?_
      rintro e w5 ⟨rfl, hm5⟩
      rw [T1.out]
      rw [T2.out] at hm5
      have M5 : Hid (Mine w w5 H S) := hm5
      clear hm5
      go_wp2_with fail
      refine (mineSub 0 0 0 0 ⟨#[35]⟩ M5.out (by show 1 ≤ _; omega)).mono ?_
      rintro e w6 ⟨rfl, hm6⟩
      rw [hC.out.1]
      rw [hC.out.2] at hm6
      have M6 : Hid (Mine w w6 H S) := hm6
      clear hm6
      go_wp2_with fail
      refine (keepNone room _ h0 h1).mono ?_
      rintro e w7 ⟨⟨y, rfl, hy1, hy2, hy3⟩, hb7⟩
      have M7 : Hid (Mine w w7 H S) := M6.out.below hb7
      have Y1 : Hid (doErr S ⟨1, 0, 0, 0, 0, y⟩ = 4 ∧ doS S ⟨1, 0, 0, 0, 0, y⟩ = S) := hD.out y hy1
      clear hy1 hy2 hb7
      go_wp2_with fail
      refine (mineSub 0 0 0 0 y M7.out (by omega)).mono ?_
      rintro e w8 ⟨rfl, hm8⟩
      rw [Y1.out.1]
      rw [Y1.out.2] at hm8
      have M8 : Hid (Mine w w8 H S) := hm8
      clear hm8
      go_wp2_with fail
      refine (minePub 0 0 0 0 x M8.out hxs).mono ?_
      rintro e w9 ⟨rfl, hm9⟩
      obtain ⟨e1, e2, e3⟩ := hP.out x 0 HX.out (.inl rfl)
      rw [e1, e2]
      rw [e3] at hm9
      have M9 : Hid (Mine w w9 H S) := hm9
      clear hm9 e1 e2 e3
      go_wp2_with fail
      refine (minePub 0 0 1 0 x M9.out hxs).mono ?_
      rintro e w10 ⟨rfl, hm10⟩
      obtain ⟨e1, e2, e3⟩ := hP.out x 1 HX.out (.inr rfl)
      rw [e1, e2]
      rw [e3] at hm10
      have M10 : Hid (Mine w w10 H S) := hm10
      clear hm10 e1 e2 e3
      go_wp2_with fail
      refine (mineTime M10.out).mono ?_
      rintro e w10 ⟨rfl, rfl⟩
      rw [HTI.out]
      go_wp2_with fail
      refine (mineRecords M10.out).mono ?_
      rintro e w10 ⟨rfl, rfl⟩
      rw [HDO.out]
      go_wp2_with fail
      refine (mineDisk M10.out).mono ?_
      rintro e w10 ⟨rfl, rfl⟩
      rw [HDK2.out]
      go_wp2_with fail
      refine (mineFilters 0 M10.out).mono ?_
      rintro e w11 ⟨v, rfl, ho11, hb11⟩
      rw [HFL.out] at ho11
      obtain ⟨af, cf, rfl, -, -, -⟩ := Row.form (row_of_own (w := w10) ho11 nilV).1
      have M11 : Hid (Mine w w11 H S) := M10.out.below hb11
      clear ho11 hb11
      go_wp2_with fail
      refine (mineWaiting M11.out).mono ?_
      rintro e w12 ⟨v, rfl, ho12, hb12⟩
      rw [HWA.out] at ho12
      obtain ⟨aw, cw, rfl, -, -, -⟩ := Row.form (row_of_own (w := w11) ho12 nilV).1
      have HBW : Hid (Below w.heap.size w w12) := (M11.out.below hb12).out
      clear ho12 hb12
      have hge : (k : Int) ≤ (dk.size : Int) := by omega
      go_wp2_with fail
      go_ret
      exact ⟨ret_bool' (show decide ((k : Int) ≤ 42 * (k : Int)) = true from decide_eq_true (by omega)), HBW.out⟩
open Go.ChangeShapes Go.WideShapes Go.ChangeAt
open Go.ChangeMaps (open_string shut_string)

theorem arr2k {args : Array Value} {a b : Value} (h : args.toList = [a, b]) : args = #[a, b] := by cases args; simp only at h; rw [h]
theorem ownK : ownKnob Try.prog.godebug = none := by kernel_rfl

set_option maxRecDepth 100000 in
theorem fullLifted (os : Os) (started : os.Started) (H : Type) (enc : TypeId × Value → H) :
    ReturnsInHanded {} Try.checked os 8 .any (Rows.fullSpec.pre6 enc Try.prog Try.f8 Rows.fullRow.domain false) (Rows.fullSpec.post enc Try.prog Try.f8 false true false false) := by
  refine returnsInHanded_of_change (C := Try.checked) ownK started (by kernel_rfl) Try.func8
    (ChangeSpec.witness6 (enc := enc) (C := Try.checked) false ⟨#[], #[.int .i64 0, .string .empty], []⟩ 8 (by kernel_rfl) (by kernel_rfl) (by kernel_rfl) (by kernel_rfl)) ?_
  intro W base args ds gs before hval0 hW hcnd _
  have hval : ∀ (j : Nat) t v, Try.f8.params[j]? = some t → args[j]? = some v → Value.okWide Try.prog W .any base t v := hval0
  have hW' := hW
  obtain ⟨p, q, hA0, hV, rfl, hfz, hnd⟩ := hW
  have hA : DataW.TrodAll enc Try.prog W 0 (fun _ => true) true Try.f8.params.toList args.toList ds p := hA0
  rw [Try.params8] at hA hval
  obtain ⟨v0, vs0, d0, ds0, p0, q0, hargs, rfl, rfl, h0, r0⟩ := trodAll_cons hA
  obtain ⟨v1, vs1, d1, ds1, p1, q1, rfl, rfl, rfl, h1, r1⟩ := trodAll_cons r0
  obtain ⟨rfl, rfl, rfl⟩ := trodAll_nil r1
  obtain rfl := arr2k hargs
  obtain ⟨rfl, rfl⟩ := trodVars_none hV
  obtain ⟨n1, rfl, rfl, rfl, w1⟩ := open_int Try.underlying3 (hval 0 3 v0 rfl rfl) h0
  obtain ⟨s, rfl, rfl, rfl, hmax⟩ := open_string Try.underlying9 (hval 1 9 v1 rfl rfl) h1
  clear hA0 hval0 hcnd
  simp only [List.append_nil] at hW'
  refine (fullWalk n1 s W (bounds_i64 w1).1 (bounds_i64 w1).2 hmax).mono fun e W' ⟨he, hg⟩ => ?_
  subst he
  exact ⟨_, rfl, _, _, _, [], [], [], hW', trodAll_mk1 (shut_bool Try.underlying4 _), trodAll_cons_mk (shut_int Try.underlying3 w1) (trodAll_cons_mk (shut_string Try.underlying9 hmax) trodAll_mk0), rfl, hg.frame _, fun h => by cases h⟩

theorem full_holds : Rows.FullSaid :=
  OpenClaim.holds_of_wide 8 Try.f8 rfl rfl rfl rfl rfl rfl rfl ⟨rfl, rfl, rfl, rfl, rfl⟩ rfl rfl rfl rfl rfl (by kernel_rfl) Try.func8 (by kernel_rfl)
    (of_decide_eq_true (by kernel_rfl)) (by unfold Func.isWrapper; first | (rw [if_pos (by decide +kernel)]; kernel_rfl) | (rw [if_neg (by decide +kernel)]; exact ⟨rfl, rfl⟩))
    (fun os started H enc _ => fullLifted os started H enc)
end Go.Proofs.Ytmjdndhfmfjbiab

/-
  heraldkeep: messages that are published one by one, some at once, some later.
-/
namespace Go.Proofs.Ytmjdndhfmfjbiab
open Go.RowKit

/-- A message that is to be published, raw. -/
structure LetD where
  delay : Int
  value : Int
  s : ByteArray
def LetsAt (w : World) (ao : Option Addr) (l : List LetD) : Prop := ∀ j y, l[j]? = some y → ∃ g off, ao = some ⟨g, off, none⟩ ∧ w.cell? ⟨g, off + j * 3, none⟩ = some (.int .i64 y.delay) ∧ w.cell? ⟨g, off + j * 3 + 1, none⟩ = some (.int .i64 y.value) ∧ w.cell? ⟨g, off + j * 3 + 2, none⟩ = some (.string y.s)

theorem MineF.lk {w0 w : World} {H : Nat} {F : Nat → Prop} {S : RefS} (h : MineF w0 w H F S) : ∃ fil, Lk S fil (waitingM S) := by
  obtain ⟨R, ⟨x, fil, wait, hb, -⟩, -, -, -⟩ := h
  have := hb.lk
  rw [← hb.lk.waiting] at this
  exact ⟨fil, this⟩

/-- A message that waits. -/
theorem pub_later {S : RefS} {x : ByteArray} {v c : Int} (a : Int) (hx : M.isPathM false x = true) (hv0 : 0 ≤ v) (hv1 : v ≤ 1073741824) (hc0 : 0 < c) (hc1 : c ≤ 1099511627776) (hw : S.wait.length < 64) (hr : (S.done.length : Int) < S.room) :
    doErr S ⟨3, a, v, c, 0, x⟩ = 0 ∧ doAns S ⟨3, a, v, c, 0, x⟩ = S.pub ∧ doS S ⟨3, a, v, c, 0, x⟩ = { S with done := S.done ++ [⟨3, a, v, c, 0, x⟩], pub := S.pub + 1, wait := S.wait ++ [⟨S.pub, x, v, laterM S.time c, 0⟩] } := by
  have hz : wrongM S ⟨3, a, v, c, 0, x⟩ = 0 := by
    have h1 : isTimeM 0 = true := by decide
    have h2 : isTimeM c = true := by simp [isTimeM]; omega
    have e : wrongM S ⟨3, a, v, c, 0, x⟩ = pubErr (M.isPathM false x) v c 0 S.wait.length := by simp [wrongM]
    rw [e, pubErr, hx, if_neg (by simp), if_neg (by omega), if_neg (by omega), h2, if_neg (by simp), h1, if_neg (by simp), if_pos hc0, if_neg (by omega)]
  obtain ⟨q1, q2, q3⟩ := is_done hz (writes_not (by show (3 : Int) ≠ 6; decide)) hr
  have hcne : c ≠ 0 := by omega
  exact ⟨q2, by unfold doAns; rw [q1]; rfl, by rw [q3]; simp [turnM, hcne]⟩

theorem waiting_later {S S1 : RefS} {fil : Nat → List ByteArray} {x : WaitD} (h : Lk S fil (waitingM S)) (hx : x.number = S.pub) (e1 : S1.fil = S.fil) (e2 : S1.wait = S.wait ++ [x]) (e3 : S1.pub = S.pub + 1) : waitingM S1 = insM aheadB x (waitingM S) := by
  have h1 := h.later hx
  have h2 : Lk S1 fil (insM aheadB x (waitingM S)) := h1.other e1 e2 (by rw [e3]; exact Int.le_refl _)
  exact h2.waiting
theorem waiting_same {S S1 : RefS} {fil : Nat → List ByteArray} (h : Lk S fil (waitingM S)) (e1 : S1.fil = S.fil) (e2 : S1.wait = S.wait) (e3 : S.pub ≤ S1.pub) : waitingM S1 = waitingM S := (h.other e1 e2 e3).waiting
theorem waiting_len {S : RefS} {fil : Nat → List ByteArray} (h : Lk S fil (waitingM S)) : (waitingM S).length = S.wait.length := h.waitP.length_eq

/-- Where the publishing stands: the client c takes all. -/
structure PubI (c : Nat) (now : Int) (S : RefS) (k : Nat) (MS : List MailD) (WS : List WaitD) (t : Nat) : Prop where
  time : S.time = now
  pub : S.pub = (k : Int)
  room : S.room = 500
  fit : ∀ x, fitAny (S.fil c) x = true
  wait : waitingM S = WS
  count : MS.length + WS.length = k
  que : (S.que c).map (mailOf now) = MS.take 10
  life : ∀ m ∈ S.que c, m.life = 0
  lost : S.lost c = ((MS.length - 10 : Nat) : Int)
  done : S.done.length ≤ t + k
  lifeW : ∀ m ∈ S.wait, m.life = 0

theorem PubI.start {c : Nat} {now : Int} {S : RefS} {t : Nat} (h1 : S.time = now) (h2 : S.pub = 0) (h3 : S.room = 500) (h4 : ∀ x, fitAny (S.fil c) x = true) (h5 : S.wait = []) (h6 : S.que c = []) (h7 : S.lost c = 0) (h8 : S.done.length ≤ t) : PubI c now S 0 [] [] t :=
  ⟨h1, h2, h3, h4, by unfold waitingM; rw [h5]; rfl, rfl, by rw [h6]; rfl, by rw [h6]; exact fun m hm => by simp at hm, h7, h8, by rw [h5]; exact fun m hm => by simp at hm⟩

theorem pubI_now {c : Nat} {now : Int} {S : RefS} {k : Nat} {MS : List MailD} {WS : List WaitD} {t : Nat} {fil : Nat → List ByteArray} (h : PubI c now S k MS WS t) (hlk : Lk S fil (waitingM S)) (hc : c < 8) (ht : t + k < 500) {x : ByteArray} {v : Int} (hx : M.isPathM false x = true) (hv0 : 0 ≤ v) (hv1 : v ≤ 1073741824) (a : Int) :
    doErr S ⟨3, a, v, 0, 0, x⟩ = 0 ∧ doAns S ⟨3, a, v, 0, 0, x⟩ = (k : Int) ∧ PubI c now (doS S ⟨3, a, v, 0, 0, x⟩) (k + 1) (MS ++ [⟨(k : Int), x, v, now, 0⟩]) WS t := by
  obtain ⟨p1, p2, p3⟩ := pub_now (S := S) (x := x) (v := v) (life := 0) a hx hv0 hv1 (by omega) (by omega) (by rw [h.room]; have := h.done; omega)
  refine ⟨p1, p2.trans h.pub, ?_⟩
  rw [p3]
  obtain ⟨k1, k2, k3, k4, k5, k6, -⟩ := sendTo_keeps { S with done := S.done ++ [⟨3, a, v, 0, 0, x⟩], pub := S.pub + 1 } ⟨S.pub, x, v, 0, 0⟩ 8
  have q := send_at { S with done := S.done ++ [⟨3, a, v, 0, 0, x⟩], pub := S.pub + 1 } ⟨S.pub, x, v, 0, 0⟩ c hc
  have l := send_lost { S with done := S.done ++ [⟨3, a, v, 0, 0, x⟩], pub := S.pub + 1 } ⟨S.pub, x, v, 0, 0⟩ c hc
  have q' : (sendTo { S with done := S.done ++ [⟨3, a, v, 0, 0, x⟩], pub := S.pub + 1 } ⟨S.pub, x, v, 0, 0⟩ 8).que c = if 10 ≤ (S.que c).length then S.que c else S.que c ++ [⟨S.pub, x, v, S.time, 0⟩] := by
    rw [q]
    show (if fitAny (S.fil c) x = true then (if 10 ≤ (S.que c).length then S.que c else S.que c ++ [sentOf _ _]) else S.que c) = _
    rw [h.fit x, if_pos rfl]; rfl
  have l' : (sendTo { S with done := S.done ++ [⟨3, a, v, 0, 0, x⟩], pub := S.pub + 1 } ⟨S.pub, x, v, 0, 0⟩ 8).lost c = if 10 ≤ (S.que c).length then S.lost c + 1 else S.lost c := by
    rw [l]
    show (if fitAny (S.fil c) x = true then (if 10 ≤ (S.que c).length then S.lost c + 1 else S.lost c) else S.lost c) = _
    rw [h.fit x, if_pos rfl]
  have hql : (S.que c).length = min 10 MS.length := by
    have := congrArg List.length h.que
    rw [List.length_map, List.length_take] at this
    exact this
  generalize sendTo { S with done := S.done ++ [⟨3, a, v, 0, 0, x⟩], pub := S.pub + 1 } ⟨S.pub, x, v, 0, 0⟩ 8 = T at *
  have hm : mailOf now ⟨S.pub, x, v, S.time, 0⟩ = ⟨(k : Int), x, v, now, 0⟩ := by rw [h.pub, h.time]; rfl
  have hcount := h.count
  refine ⟨k2.trans h.time, by rw [k6]; show S.pub + 1 = _; rw [h.pub]; push_cast; rfl, k5.trans h.room, by rw [k1]; exact h.fit, ?_, by rw [List.length_append]; simp; omega, ?_, ?_, ?_, by rw [k3]; have := h.done; simp; omega, by rw [k4]; exact h.lifeW⟩
  · rw [waiting_same hlk k1 k4 (by rw [k6]; show S.pub ≤ S.pub + 1; omega)]; exact h.wait
  · rw [q']
    by_cases hten : 10 ≤ (S.que c).length
    · rw [if_pos hten, h.que, List.take_append_of_le_length (by omega)]
    · rw [if_neg hten, List.map_append, h.que, List.map_cons, hm, List.map_nil, List.take_of_length_le (by omega), List.take_of_length_le (by simp; omega)]
  · rw [q']
    by_cases hten : 10 ≤ (S.que c).length
    · rw [if_pos hten]; exact h.life
    · rw [if_neg hten]
      intro m hm2
      rcases List.mem_append.1 hm2 with hm2 | hm2
      · exact h.life m hm2
      · rw [List.mem_singleton] at hm2; subst hm2; rfl
  · rw [l', h.lost]
    by_cases hten : 10 ≤ (S.que c).length
    · rw [if_pos hten, List.length_append, List.length_singleton]; omega
    · rw [if_neg hten, List.length_append, List.length_singleton]; omega

theorem pubI_later {c : Nat} {now : Int} {S : RefS} {k : Nat} {MS : List MailD} {WS : List WaitD} {t : Nat} {fil : Nat → List ByteArray} (h : PubI c now S k MS WS t) (hlk : Lk S fil (waitingM S)) (ht : t + k < 500) (hw : WS.length < 64) {x : ByteArray} {v d : Int} (hx : M.isPathM false x = true) (hv0 : 0 ≤ v) (hv1 : v ≤ 1073741824) (hd0 : 0 < d) (hd1 : d ≤ 1099511627776) (a : Int) :
    doErr S ⟨3, a, v, d, 0, x⟩ = 0 ∧ doAns S ⟨3, a, v, d, 0, x⟩ = (k : Int) ∧ PubI c now (doS S ⟨3, a, v, d, 0, x⟩) (k + 1) MS (insM aheadB ⟨(k : Int), x, v, laterM now d, 0⟩ WS) t := by
  have hwl : S.wait.length = WS.length := by rw [← waiting_len hlk, h.wait]
  obtain ⟨p1, p2, p3⟩ := pub_later (S := S) (x := x) (v := v) (c := d) a hx hv0 hv1 hd0 hd1 (by omega) (by rw [h.room]; have := h.done; omega)
  refine ⟨p1, p2.trans h.pub, ?_⟩
  rw [p3]
  have hcount := h.count
  have hlen : (insM aheadB (⟨(k : Int), x, v, laterM now d, 0⟩ : WaitD) WS).length = WS.length + 1 := by rw [(ins_perm aheadB _ WS).length_eq]; rfl
  refine ⟨h.time, by show S.pub + 1 = _; rw [h.pub]; push_cast; rfl, h.room, h.fit, ?_, by omega, h.que, h.life, h.lost, by have := h.done; simp; omega, fun m hm => ?_⟩
  rotate_left
  · rcases List.mem_append.1 hm with hm | hm
    · exact h.lifeW m hm
    · rw [List.mem_singleton] at hm; subst hm; rfl
  rw [waiting_later (S1 := { S with done := S.done ++ [⟨3, a, v, d, 0, x⟩], pub := S.pub + 1, wait := S.wait ++ [⟨S.pub, x, v, laterM S.time d, 0⟩] }) (x := ⟨S.pub, x, v, laterM S.time d, 0⟩) hlk rfl rfl rfl rfl, h.wait, h.pub, h.time]
end Go.Proofs.Ytmjdndhfmfjbiab

namespace Go.Proofs.Ytmjdndhfmfjbiab
open Go.RowKit

theorem typed_apart {w : World} {b1 b2 : Nat} {e1 e2 : TypeId} {s1 s2 n1 n2 : Nat} {v1 v2 : Value} {x1 x2 : List Value} (h1 : w.ownsRow b1 e1 s1 v1 n1 x1) (h2 : w.ownsRow b2 e2 s2 v2 n2 x2) (hne : e1 ≠ e2) : ∀ g, v1.ownBlock = some g → v2.ownBlock ≠ some g := fun _ hg1 hg2 =>
  typed_ne (Row.typed (own_mono h1 (Nat.zero_le _)) hg1) (Row.typed (own_mono h2 (Nat.zero_le _)) hg2) hne rfl

set_option maxRecDepth 100000 in
set_option maxHeartbeats 8000000 in
theorem keepPublished (c : Nat) (hc : c < 8) (n : Nat) (hn : n ≤ 64) (now : Int) (hn0 : 0 ≤ now) (hn1 : now ≤ 1099511627776) (t : Nat) (ht : t ≤ 100) (l : List LetD) (ao : Option Addr) (m cap : Nat) (hl : l.length = m) (w0 w : World) (hsc : LetsAt w0 ao l)
    (hbd : ∀ y ∈ l, (-9223372036854775808 ≤ y.delay ∧ y.delay ≤ 9223372036854775807) ∧ (-9223372036854775808 ≤ y.value ∧ y.value ≤ 9223372036854775807) ∧ y.s.size ≤ maxLen) (H : Nat) (F : Nat → Prop) (S : RefS) (hM : MineF w0 w H F S) (hI : PubI c now S 0 [] [] t) :
    Calls Try.prog 20 #[.pointer (some ⟨H, 0, none⟩), .slice ao m cap, .int .i64 (n : Int), .int .i64 now] w fun e w' => ∃ S1 F1 mv wv MS WS, e = .returned (.tuple #[mv, wv, .bool true]) ∧ (∃ k, k ≤ n ∧ PubI c now S1 k MS WS t) ∧ MineF w0 w' H F1 S1 ∧
      w'.ownsRow w.heap.size 35 5 mv MS.length (MS.flatMap mailCells) ∧ w'.ownsRow w.heap.size 50 5 wv WS.length (WS.flatMap waitCells) ∧ (∀ g, mv.ownBlock = some g → ¬ F1 g) ∧ (∀ g, wv.ownBlock = some g → ¬ F1 g) := by
  obtain ⟨i0, hi, hz0, hz1, hz2⟩ := info_parts infoMail
  have HL : Hid (l.length = m) := hl
  have HSC : Hid (LetsAt w0 ao l) := hsc
  have HBD : Hid (∀ y ∈ l, (-9223372036854775808 ≤ y.delay ∧ y.delay ≤ 9223372036854775807) ∧ (-9223372036854775808 ≤ y.value ∧ y.value ≤ 9223372036854775807) ∧ y.s.size ≤ maxLen) := hbd
  have HM0 : Hid (MineF w0 w H F S) := hM
  have HI0 : Hid (PubI c now S 0 [] [] t) := hI
  clear hl hsc hbd hM hI
  go_enter Try.func20, Try.ntmps20
  go_wp2_with fail
  go_loopw [11, 12, 13] (fun mv wv i wr => ∃ (k : Nat) (S1 : RefS) (F1 : Nat → Prop) (MS : List MailD) (WS : List WaitD), k ≤ m ∧ k ≤ n ∧ i = .int .i64 (k : Int) ∧ PubI c now S1 k MS WS t ∧ MineF w0 wr H F1 S1 ∧ w.heap.size ≤ wr.heap.size ∧
    wr.ownsRow w.heap.size 35 5 mv MS.length (MS.flatMap mailCells) ∧ wr.ownsRow w.heap.size 50 5 wv WS.length (WS.flatMap waitCells) ∧ (∀ g, mv.ownBlock = some g → ¬ F1 g) ∧ (∀ g, wv.ownBlock = some g → ¬ F1 g)) (fun _ _ i _ => n - (intOf i).toNat)
  case atStart => exact ⟨0, S, F, [], [], Nat.zero_le _, Nat.zero_le _, rfl, HI0.out, HM0.out, Nat.le_refl _, World.ownsRow_nil _ _ _ _, World.ownsRow_nil _ _ _ _, fun g hg => by simp [Value.ownBlock] at hg, fun g hg => by simp [Value.ownBlock] at hg⟩
  case round =>
    obtain ⟨k, S1, F1, MS, WS, hkm, hkn, rfl, hI, hM, hsz, hom, how, hapm, hapw⟩ := hrel
    have hcnt := hI.count
    have II : Hid (PubI c now S1 k MS WS t) := hI
    have MM : Hid (MineF w0 wr H F1 S1) := hM
    have APM : Hid _ := hapm
    have APW : Hid _ := hapw
    obtain ⟨fl, hlk⟩ := hM.lk
    have LK : Hid (Lk S1 fl (waitingM S1)) := hlk
    have hbw := hM.mine.out.size
    have hMSl : MS.length ≤ 64 := by omega
    have hWSl : WS.length ≤ 64 := by omega
    have HCNT : Hid (MS.length + WS.length = k) := hcnt
    clear hI hM hapm hapw hlk hcnt
    by_cases hlt : k < m ∧ k < n
    · obtain ⟨hlt1, hlt2⟩ := hlt
      obtain ⟨y, hy⟩ : ∃ y, l[k]? = some y := ⟨_, List.getElem?_eq_getElem (by rw [HL.out]; exact hlt1)⟩
      obtain ⟨⟨yd0, yd1⟩, ⟨yv0, yv1⟩, ys⟩ := HBD.out y (List.mem_of_getElem? hy)
      obtain ⟨gs, off, rfl, e0, e1, e2⟩ := HSC.out k y hy
      have f0 := cell_later MM.out.mine.out e0
      have f1 := cell_later MM.out.mine.out e1
      have f2 := cell_later MM.out.mine.out e2
      obtain ⟨am, cm, rfl, -, -, -⟩ := Row.form (row_of_own (w := w) hom nilV).1
      obtain ⟨aw, cw, rfl, -, -, hcw⟩ := Row.form (row_of_own (w := w) how nilV).1
      have HOM : Hid _ := hom
      have HOW : Hid _ := how
      have HCW : Hid (CellsAt wr aw (WS.flatMap waitCells)) := hcw
      clear hy hom how hcw e0 e1 e2
      go_wp2_with fail
      refine (keepTopic y.s _ ys).mono ?_
      rintro e w2 ⟨⟨x, rfl, hx⟩, hb2⟩
      have HX : Hid (M.isPathM false x = true) := hx
      have hxs : x.size ≤ 1048576 := Nat.le_trans (path15 hx) (by omega)
      have g0 := cell_later hb2 f0
      have g1 := cell_later hb2 f1
      have M2 : Hid (MineF w0 w2 H F1 S1) := MM.out.below hb2
      have HOM2 : Hid _ := own_below HOM.out hb2
      have HOW2 : Hid _ := own_below HOW.out hb2
      have HCW2 : Hid (CellsAt w2 aw (WS.flatMap waitCells)) := HCW.out.below hb2
      have hs2 : wr.heap.size ≤ w2.heap.size := hb2.size
      clear hx hb2 f0 f1 f2
      go_wp2_with fail
      refine (keepPick y.value 1073741825 _ yv0 yv1 (by omega) (by omega)).mono ?_
      rintro e w2 ⟨rfl, rfl⟩
      have hv := pick_bd y.value 1073741825 (by omega)
      generalize pickM y.value 1073741825 = V at *
      go_wp2_with fail
      refine (keepPick y.delay 1099511627777 _ yd0 yd1 (by omega) (by omega)).mono ?_
      rintro e w2 ⟨rfl, rfl⟩
      have hd := pick_bd y.delay 1099511627777 (by omega)
      generalize pickM y.delay 1099511627777 = D at *
      clear g0 g1
      by_cases hD : D = 0
      · subst hD
        obtain ⟨q1, q2, q3⟩ := pubI_now (v := V) II.out LK.out hc (by omega) HX.out (by omega) (by omega) 0
        have Q1 : Hid (doErr S1 ⟨3, 0, V, 0, 0, x⟩ = 0) := q1
        have Q2 : Hid (doAns S1 ⟨3, 0, V, 0, 0, x⟩ = (k : Int)) := q2
        have Q3 : Hid (PubI c now (doS S1 ⟨3, 0, V, 0, 0, x⟩) (k + 1) (MS ++ [⟨(k : Int), x, V, now, 0⟩]) WS t) := q3
        clear q1 q2 q3
        go_wp2_with fail
        refine (mineFPub 0 V 0 0 x M2.out hxs).mono ?_
        rintro e w5 ⟨rfl, F5, hm5, hu5, hF5, hk5⟩
        rw [Q1.out, Q2.out]
        have M5 : Hid (MineF w0 w5 H F5 (doS S1 ⟨3, 0, V, 0, 0, x⟩)) := hm5
        have HOM5 : Hid (w5.ownsRow w.heap.size 35 5 (.slice am MS.length cm) MS.length (MS.flatMap mailCells)) := own_upd HOM2.out hu5 (fun g hg hf => APM.out g hg hf)
        have HOW5 : Hid (w5.ownsRow w.heap.size 50 5 (.slice aw WS.length cw) WS.length (WS.flatMap waitCells)) := own_upd HOW2.out hu5 (fun g hg hf => APW.out g hg hf)
        have APM5 : Hid (∀ g, (Value.slice am MS.length cm).ownBlock = some g → ¬ F5 g) := fun g hg hf => (hk5 g hf).elim (APM.out g hg) (fun h2 => absurd (World.ownsRow.lt HOM2.out g hg).2 (by omega))
        have APW5 : Hid (∀ g, (Value.slice aw WS.length cw).ownBlock = some g → ¬ F5 g) := fun g hg hf => (hk5 g hf).elim (APW.out g hg) (fun h2 => absurd (World.ownsRow.lt HOW2.out g hg).2 (by omega))
        have hs5 : w2.heap.size ≤ w5.heap.size := hu5.size
        clear hm5 hu5 hF5 hk5
        obtain ⟨v6, w6, hrun, hown6, hgrow, -, hat⟩ := run_append_own_at (P := Try.prog) (w5.alloc (.cells (mailCells ⟨(k : Int), x, V, now, 0⟩).toArray 35)) w.heap.size 28 28 35 i0 _ 5 48 Try.underlying28 hi hz0 hz1 hz2 rfl (by omega) _ _ _ (World.ownsRow.alloc HOM5.out _) ⟨w5.heap.size, 0, none⟩ 1 1 (mailCells ⟨(k : Int), x, V, now, 0⟩) rfl (cells_new _ _ _) (mail_one _) (by unfold maxLen; omega) (by omega) (by simp; omega)
        have hu6 : Upd (fun i => (Value.slice am MS.length cm).ownBlock = some i) (w5.alloc (.cells (mailCells ⟨(k : Int), x, V, now, 0⟩).toArray 35)) w6 := (Upd.refl _ _).grown hgrow (fun i e _ => e)
        have hb0 : w0.heap.size ≤ w.heap.size := HM0.out.mine.out.size
        have M6 : Hid (MineF w0 w6 H F5 (doS S1 ⟨3, 0, V, 0, 0, x⟩)) :=
          (M5.out.below (below_one _ _)).upd hu6 (fun g hg => Nat.le_trans hb0 (World.ownsRow.lt HOM5.out g hg).1) (fun g hf hg => APM5.out g hg hf)
        have HOM6 : Hid (w6.ownsRow w.heap.size 35 5 v6 (MS ++ [(⟨(k : Int), x, V, now, 0⟩ : MailD)]).length ((MS ++ [(⟨(k : Int), x, V, now, 0⟩ : MailD)]).flatMap mailCells)) := by
          show World.ownsRow _ _ _ _ _ _ _
          simpa using hown6
        have HOW6 : Hid (w6.ownsRow w.heap.size 50 5 (.slice aw WS.length cw) WS.length (WS.flatMap waitCells)) := own_upd (World.ownsRow.alloc HOW5.out _) hu6 (fun g hg e => typed_apart HOW5.out HOM5.out (by decide) g hg e)
        have APM6 : Hid (∀ g, v6.ownBlock = some g → ¬ F5 g) := fun g hg hf => by
          rcases hat with h | h
          · exact APM5.out g (h.symm.trans hg) hf
          · rw [h] at hg
            simp at hg
            have := M5.out.lt hf
            omega
        have hs6 : w5.heap.size ≤ w6.heap.size := Nat.le_trans (by simp) hu6.size
        clear hown6 hgrow hat hu6
        go_wp2_with (first | (at_builtin; refine wpList_append_run rfl _ _ 28 rfl _ _ _ _ rfl rfl hrun ?_))
        go_wp2_with fail
        go_roundw
        case rel => exact ⟨k + 1, _, F5, _, WS, by omega, by omega, by go_num, Q3.out, M6.out, by omega, HOM6.out, HOW6.out, APM6.out, APW5.out⟩
        case measure => simp [intOf]; omega
      · have hD0 : 0 < D := by omega
        have hDb : (D == 0) = false := by simp; omega
        have hWS : WS.length < 64 := by have := HCNT.out; omega
        obtain ⟨q1, q2, q3⟩ := pubI_later II.out LK.out (by omega) hWS HX.out (by omega) (by omega) hD0 (by omega) 0 (v := V)
        have Q1 : Hid (doErr S1 ⟨3, 0, V, D, 0, x⟩ = 0) := q1
        have Q2 : Hid (doAns S1 ⟨3, 0, V, D, 0, x⟩ = (k : Int)) := q2
        have Q3 : Hid (PubI c now (doS S1 ⟨3, 0, V, D, 0, x⟩) (k + 1) MS (insM aheadB ⟨(k : Int), x, V, laterM now D, 0⟩ WS) t) := q3
        clear q1 q2 q3
        go_wp2_with fail
        refine (mineFPub 0 V D 0 x M2.out hxs).mono ?_
        rintro e w5 ⟨rfl, F5, hm5, hu5, hF5, hk5⟩
        rw [Q1.out, Q2.out]
        have M5 : Hid (MineF w0 w5 H F5 (doS S1 ⟨3, 0, V, D, 0, x⟩)) := hm5
        have HOM5 : Hid (w5.ownsRow w.heap.size 35 5 (.slice am MS.length cm) MS.length (MS.flatMap mailCells)) := own_upd HOM2.out hu5 (fun g hg hf => APM.out g hg hf)
        have HOW5 : Hid (w5.ownsRow w.heap.size 50 5 (.slice aw WS.length cw) WS.length (WS.flatMap waitCells)) := own_upd HOW2.out hu5 (fun g hg hf => APW.out g hg hf)
        have APM5 : Hid (∀ g, (Value.slice am MS.length cm).ownBlock = some g → ¬ F5 g) := fun g hg hf => (hk5 g hf).elim (APM.out g hg) (fun h2 => absurd (World.ownsRow.lt HOM2.out g hg).2 (by omega))
        have hs5 : w2.heap.size ≤ w5.heap.size := hu5.size
        obtain ⟨aw5, cw5, hvw5, -, -, hcw5⟩ := Row.form (row_of_own (w := w) HOW5.out nilV).1
        simp only [Value.slice.injEq, true_and] at hvw5
        obtain ⟨rfl, rfl⟩ := hvw5
        have HCW5 : Hid (CellsAt w5 aw (WS.flatMap waitCells)) := hcw5
        clear hm5 hu5 hF5 hk5 hcw5
        have HPL : Hid (∀ w', CellsAt w' aw (WS.flatMap waitCells) → Calls Try.prog 25 #[.slice aw WS.length cw, .agg #[.int .i64 (k : Int), .string x, .int .i64 V, .int .i64 (laterM now D), .int .i64 0]] w' fun e w6 => ∃ v, e = .returned v ∧
            w6.ownsRow w'.heap.size 50 5 v (insM aheadB ⟨(k : Int), x, V, laterM now D, 0⟩ WS).length ((insM aheadB ⟨(k : Int), x, V, laterM now D, 0⟩ WS).flatMap waitCells) ∧ Below w'.heap.size w' w6) :=
          fun w' h => keepPlaced WS aw cw ⟨(k : Int), x, V, laterM now D, 0⟩ w' (by omega) h
        go_wp2_with fail
        refine (keepLater now D _ hn0 hn1 (by omega) (by omega)).mono ?_
        rintro e w5 ⟨rfl, rfl⟩
        go_wp2_with fail
        refine (HPL.out _ HCW5.out).mono ?_
        rintro e w6 ⟨v6, rfl, ho6, hb6⟩
        have M6 : Hid (MineF w0 w6 H F5 (doS S1 ⟨3, 0, V, D, 0, x⟩)) := M5.out.below hb6
        have HOM6 : Hid (w6.ownsRow w.heap.size 35 5 (.slice am MS.length cm) MS.length (MS.flatMap mailCells)) := own_below HOM5.out hb6
        have HOW6 : Hid (w6.ownsRow w.heap.size 50 5 v6 (insM aheadB ⟨(k : Int), x, V, laterM now D, 0⟩ WS).length ((insM aheadB ⟨(k : Int), x, V, laterM now D, 0⟩ WS).flatMap waitCells)) := own_mono ho6 (by omega)
        have APW6 : Hid (∀ g, v6.ownBlock = some g → ¬ F5 g) := fun g hg hf => by
          have h1 := (World.ownsRow.lt ho6 g hg).1
          have h2 := M5.out.lt hf
          omega
        have hs6 := hb6.size
        clear ho6 hb6
        go_wp2_with fail
        go_roundw
        case rel => exact ⟨k + 1, _, F5, MS, _, by omega, by omega, by go_num, Q3.out, M6.out, by omega, HOM6.out, HOW6.out, APM5.out, APW6.out⟩
        case measure => simp [intOf]; omega
    · by_cases hk2 : k < m
      · have hk3 : ¬ k < n := fun h => hlt ⟨hk2, h⟩
        clear hlt
        have HOM : Hid _ := hom
        have HOW : Hid _ := how
        clear hom how
        go_wp2_with fail
        go_ret3
        exact ⟨S1, F1, _, _, MS, WS, rfl, ⟨k, hkn, II.out⟩, MM.out, HOM.out, HOW.out, APM.out, APW.out⟩
      · clear hlt
        have HOM : Hid _ := hom
        have HOW : Hid _ := how
        clear hom how
        go_wp2_with fail
        go_ret3
        exact ⟨S1, F1, _, _, MS, WS, rfl, ⟨k, hkn, II.out⟩, MM.out, HOM.out, HOW.out, APM.out, APW.out⟩
end Go.Proofs.Ytmjdndhfmfjbiab

/-
  heraldkeep: topic and filter as functions of the raw text.
-/
namespace Go.Proofs.Ytmjdndhfmfjbiab
open Go.RowKit

def bytesOf (cs : List Int) : ByteArray := ⟨(cs.map fun n => UInt8.ofNat n.toNat).toArray⟩
def wordM (b : Int) : ByteArray := if b / 9 % 3 = 0 then bytesOf [97 + b % 3] else if b / 9 % 3 = 1 then bytesOf [97 + b % 3, 97 + (b + b / 3) % 3] else bytesOf [97 + b % 3, 97 + (b + b / 3) % 3, 97 + (b + 2 * (b / 3)) % 3]
def byteAt (s : ByteArray) (k : Nat) : Int := (((s.data.toList[k]?).getD 0).toNat : Int)

set_option maxRecDepth 100000 in
set_option maxHeartbeats 1000000 in
theorem textWord (b : Int) (w : World) (h0 : 0 ≤ b) (h1 : b ≤ 255) :
    Calls Try.prog 45 #[.int .i64 b] w fun e w' => (e = .returned (.string (wordM b)) ∧ M.isWordL (M.L (wordM b)) = true) ∧ Below w.heap.size w w' := by
  rcases (show b / 9 % 3 = 0 ∨ b / 9 % 3 = 1 ∨ b / 9 % 3 = 2 from by omega) with hn | hn | hn
  · have e : wordM b = bytesOf [97 + b % 3] := by unfold wordM; rw [if_pos hn]
    rw [e]
    clear e
    have hmk : ∀ w : World, (Instr.makeSlice 63 (.int .i64 1) (.int .i64 1)).run Try.prog w = .ok (.slice (some ⟨w.heap.size, 0, none⟩) 1 1) (w.alloc (.cells #[(.int .u8 0)] 5)) := fun w => by kernel_rfl
    have hcv := conv_new w [97 + b % 3]
    simp only [List.length_cons, List.length_nil, List.map_cons, List.map_nil, Nat.zero_add] at hcv
    go_enter Try.func45, Try.ntmps45
    go_wp2_with fail
    refine wp_loop_rounds 2 ?_
    rw [rounds_succ]
    go_wp2_with fail
    rw [rounds_succ]
    go_wp2_with fail
    go_ret
    exact ⟨⟨rfl, word_ok [97 + b % 3] (by simp) (by simp) (by simp; omega)⟩, (Below.refl _ _).alloc (Nat.le_refl _) _⟩
  · have e : wordM b = bytesOf [97 + b % 3, 97 + (b + b / 3) % 3] := by unfold wordM; rw [if_neg (by omega), if_pos hn]
    rw [e]
    clear e
    have hmk : ∀ w : World, (Instr.makeSlice 63 (.int .i64 2) (.int .i64 2)).run Try.prog w = .ok (.slice (some ⟨w.heap.size, 0, none⟩) 2 2) (w.alloc (.cells #[(.int .u8 0), (.int .u8 0)] 5)) := fun w => by kernel_rfl
    have hcv := conv_new w [97 + b % 3, 97 + (b + b / 3) % 3]
    simp only [List.length_cons, List.length_nil, List.map_cons, List.map_nil, Nat.zero_add, Nat.reduceAdd] at hcv
    go_enter Try.func45, Try.ntmps45
    go_wp2_with fail
    refine wp_loop_rounds 3 ?_
    rw [rounds_succ]
    go_wp2_with fail
    rw [rounds_succ]
    go_wp2_with fail
    rw [rounds_succ]
    go_wp2_with fail
    go_ret
    exact ⟨⟨rfl, word_ok [97 + b % 3, 97 + (b + b / 3) % 3] (by simp) (by simp) (by simp; omega)⟩, (Below.refl _ _).alloc (Nat.le_refl _) _⟩
  · have e : wordM b = bytesOf [97 + b % 3, 97 + (b + b / 3) % 3, 97 + (b + 2 * (b / 3)) % 3] := by unfold wordM; rw [if_neg (by omega), if_neg (by omega)]
    rw [e]
    clear e
    have hmk : ∀ w : World, (Instr.makeSlice 63 (.int .i64 3) (.int .i64 3)).run Try.prog w = .ok (.slice (some ⟨w.heap.size, 0, none⟩) 3 3) (w.alloc (.cells #[(.int .u8 0), (.int .u8 0), (.int .u8 0)] 5)) := fun w => by kernel_rfl
    have hcv := conv_new w [97 + b % 3, 97 + (b + b / 3) % 3, 97 + (b + 2 * (b / 3)) % 3]
    simp only [List.length_cons, List.length_nil, List.map_cons, List.map_nil, Nat.zero_add, Nat.reduceAdd] at hcv
    go_enter Try.func45, Try.ntmps45
    go_wp2_with fail
    refine wp_loop_rounds 4 ?_
    rw [rounds_succ]
    go_wp2_with fail
    rw [rounds_succ]
    go_wp2_with fail
    rw [rounds_succ]
    go_wp2_with fail
    rw [rounds_succ]
    go_wp2_with fail
    go_ret
    exact ⟨⟨rfl, word_ok [97 + b % 3, 97 + (b + b / 3) % 3, 97 + (b + 2 * (b / 3)) % 3] (by simp) (by simp) (by simp; omega)⟩, (Below.refl _ _).alloc (Nat.le_refl _) _⟩

/-- What comes of so much, and so many bytes still to go. -/
def topG (s : ByteArray) : Nat → Nat → ByteArray → ByteArray
  | 0, _, y => y
  | f + 1, k, y => if k < s.size then topG s f (k + 1) (y ++ ⟨#[47]⟩ ++ wordM (byteAt s k)) else y
def topicM (s : ByteArray) : ByteArray := if s.toList.isEmpty then ⟨#[97]⟩ else topG s 3 1 (wordM (byteAt s 0))
def endG (y : ByteArray) : ByteArray := if y.toList.isEmpty then ⟨#[35]⟩ else y
def strokeG (k : Nat) (y : ByteArray) : ByteArray := if 0 < k then y ++ ⟨#[47]⟩ else y
def filG (s : ByteArray) : Nat → Nat → ByteArray → ByteArray
  | 0, _, y => endG y
  | f + 1, k, y => if k < s.size then (if byteAt s k / 32 = 0 ∨ byteAt s k / 32 = 1 then filG s f (k + 1) (strokeG k y ++ ⟨#[43]⟩) else if byteAt s k / 32 = 2 then strokeG k y ++ ⟨#[35]⟩ else filG s f (k + 1) (strokeG k y ++ wordM (byteAt s k))) else endG y
def filterM (s : ByteArray) : ByteArray := filG s 4 0 ⟨#[]⟩

def TopG (s : ByteArray) (k : Nat) (y : ByteArray) : Prop := topG s (4 - k) k y = topicM s
def FilG (s : ByteArray) (k : Nat) (y : ByteArray) : Prop := filG s (4 - k) k y = filterM s
theorem byteAt_get {s : ByteArray} {k : Nat} (h : k < s.size) : byteAt s k = (((s[k]'h).toNat : Nat) : Int) := by
  unfold byteAt
  have h' : k < s.data.toList.length := by simpa using h
  rw [List.getElem?_eq_getElem h', Option.getD_some]
  rfl
theorem TopG.first {s : ByteArray} (h : s.toList.isEmpty = false) (hp : 0 < s.size) : TopG s 1 (wordM ((s[0]'hp).toNat : Nat)) := by
  unfold TopG topicM
  rw [h, ← byteAt_get hp]; rfl
theorem TopG.next {s : ByteArray} {k : Nat} {y : ByteArray} (h : TopG s k y) (h4 : k < 4) (hlt : k < s.size) : TopG s (k + 1) (y ++ ⟨#[47]⟩ ++ wordM ((s[k]'hlt).toNat : Nat)) := by
  unfold TopG at h ⊢
  rw [← h, ← byteAt_get hlt, show 4 - k = (4 - (k + 1)) + 1 from by omega, topG, if_pos hlt]
theorem TopG.stop {s : ByteArray} {k : Nat} {y : ByteArray} (h : TopG s k y) (h4 : ¬ (k < s.size ∧ k < 4)) : y = topicM s := by
  unfold TopG at h
  rw [← h]
  by_cases hk : k < 4
  · rw [show 4 - k = (4 - (k + 1)) + 1 from by omega, topG, if_neg (fun hh => h4 ⟨hh, hk⟩)]
  · rw [show 4 - k = 0 from by omega, topG]
theorem FilG.stop {s : ByteArray} {k : Nat} {y : ByteArray} (h : FilG s k y) (h4 : ¬ (k < s.size ∧ k < 4)) : endG y = filterM s := by
  unfold FilG at h
  rw [← h]
  by_cases hk : k < 4
  · rw [show 4 - k = (4 - (k + 1)) + 1 from by omega, filG, if_neg (fun hh => h4 ⟨hh, hk⟩)]
  · rw [show 4 - k = 0 from by omega, filG]
theorem FilG.unfold {s : ByteArray} {k : Nat} {y : ByteArray} (h : FilG s k y) (h4 : k < 4) (hlt : k < s.size) {c : Int} (hc : (((s[k]'hlt).toNat : Nat) : Int) = c) :
    (if c / 32 = 0 ∨ c / 32 = 1 then filG s (4 - (k + 1)) (k + 1) (strokeG k y ++ ⟨#[43]⟩) else if c / 32 = 2 then strokeG k y ++ ⟨#[35]⟩ else filG s (4 - (k + 1)) (k + 1) (strokeG k y ++ wordM c)) = filterM s := by
  unfold FilG at h
  rw [← h, show 4 - k = (4 - (k + 1)) + 1 from by omega, filG, if_pos hlt, byteAt_get hlt, hc]
theorem FilG.plus {s : ByteArray} {k : Nat} {y : ByteArray} (h : FilG s k y) (h4 : k < 4) (hlt : k < s.size) {c : Int} (hc : (((s[k]'hlt).toNat : Nat) : Int) = c) (h2 : c / 32 = 0 ∨ c / 32 = 1) : FilG s (k + 1) (strokeG k y ++ ⟨#[43]⟩) := by
  have := h.unfold h4 hlt hc
  rw [if_pos h2] at this
  exact this
theorem FilG.hash {s : ByteArray} {k : Nat} {y : ByteArray} (h : FilG s k y) (h4 : k < 4) (hlt : k < s.size) {c : Int} (hc : (((s[k]'hlt).toNat : Nat) : Int) = c) (h2 : c / 32 = 2) : strokeG k y ++ ⟨#[35]⟩ = filterM s := by
  have := h.unfold h4 hlt hc
  rw [if_neg (by omega), if_pos h2] at this
  exact this
theorem FilG.word {s : ByteArray} {k : Nat} {y : ByteArray} (h : FilG s k y) (h4 : k < 4) (hlt : k < s.size) {c : Int} (hc : (((s[k]'hlt).toNat : Nat) : Int) = c) (h2 : ¬ (c / 32 = 0 ∨ c / 32 = 1)) (h3 : ¬ c / 32 = 2) : FilG s (k + 1) (strokeG k y ++ wordM c) := by
  have := h.unfold h4 hlt hc
  rw [if_neg h2, if_neg h3] at this
  exact this
end Go.Proofs.Ytmjdndhfmfjbiab

namespace Go.Proofs.Ytmjdndhfmfjbiab
open Go.RowKit

set_option maxRecDepth 100000 in
set_option maxHeartbeats 1000000 in
theorem textTopic (s : ByteArray) (w : World) (hs : s.size ≤ maxLen) :
    Calls Try.prog 10 #[.string s] w fun e w' => (∃ x, e = .returned (.string x) ∧ M.isPathM false x = true ∧ x = topicM s) ∧ Below w.heap.size w w' := by
  unfold maxLen at hs
  cases h0 : s.toList.isEmpty
  · have hp : 0 < s.size := by
      rw [M.L_toList] at h0
      rw [← M.L_len]
      cases hl : M.L s with
      | nil => rw [hl] at h0; cases h0
      | cons _ _ => simp
    have hby := (s[0]'hp).toNat_lt
    have G1 : Hid (TopG s 1 (wordM ((s[0]'hp).toNat : Nat))) := TopG.first h0 hp
    go_enter Try.func10, Try.ntmps10
    go_wp2_with fail
    refine (textWord _ _ (by omega) (by omega)).mono ?_
    rintro e w1 ⟨⟨rfl, hx⟩, hb1⟩
    generalize wordM ((s[0]'hp).toNat : Nat) = x at *
    go_wp2_with fail
    go_loopw [3, 4] (fun v i wr => ∃ (k : Nat) (x : ByteArray), 1 ≤ k ∧ k ≤ 4 ∧ k ≤ s.size ∧ i = .int .i64 k ∧ v = .string x ∧ M.TInv k x ∧ TopG s k x ∧ Below w.heap.size w wr) (fun _ i _ => s.size - (intOf i).toNat)
    case atStart => exact ⟨1, x, by omega, by omega, by omega, rfl, rfl, M.tinv_one hx, G1.out, hb1⟩
    case round =>
      obtain ⟨k, y, hk1, hk4, hks, rfl, rfl, hy, hg, hbr⟩ := hrel
      have HY : Hid (M.TInv k y) := hy
      have HG : Hid (TopG s k y) := hg
      have hyz := hy.1
      clear hy hx hb1 hg G1
      by_cases hlt : k < s.size
      · by_cases hl4 : k < 4
        · have hby := (s[k]'hlt).toNat_lt
          have HN : Hid (TopG s (k + 1) (y ++ ⟨#[47]⟩ ++ wordM ((s[k]'hlt).toNat : Nat))) := HG.out.next hl4 hlt
          go_wp2_with (go_at_call 45; refine (textWord _ _ (by omega) (by omega)).mono ?_; rintro e w2 ⟨⟨rfl, hz⟩, hb2⟩; have hzz := word_size hz)
          go_roundw
          case rel => exact ⟨k + 1, _, by omega, by omega, by omega, by go_num, rfl, M.tinv_succ HY.out hl4 (by assumption), HN.out, hbr.trans ((by assumption : Below wr.heap.size wr _).mono hbr.size)⟩
          case measure => simp [intOf]; omega
        · go_wp2_with fail
          go_ret
          exact ⟨⟨_, rfl, M.tinv_end HY.out hk4, HG.out.stop (by omega)⟩, hbr⟩
      · go_wp2_with fail
        go_ret
        exact ⟨⟨_, rfl, M.tinv_end HY.out hk4, HG.out.stop (by omega)⟩, hbr⟩
  · have HE : Hid (⟨#[97]⟩ = topicM s) := by show _ = _; unfold topicM; rw [h0]; rfl
    go_enter Try.func10, Try.ntmps10
    go_wp2_with fail
    go_ret
    exact ⟨⟨_, rfl, by rw [M.isPath_L]; decide, HE.out⟩, Below.refl _ _⟩

set_option maxRecDepth 100000 in
set_option maxHeartbeats 2000000 in
theorem textFilter (s : ByteArray) (w : World) (hs : s.size ≤ maxLen) :
    Calls Try.prog 72 #[.string s] w fun e w' => (∃ x, e = .returned (.string x) ∧ M.isPathM true x = true ∧ x = filterM s) ∧ Below w.heap.size w w' := by
  unfold maxLen at hs
  have G0 : Hid (FilG s 0 ⟨#[]⟩) := by show _ = _; rfl
  go_enter Try.func72, Try.ntmps72
  go_wp2_with fail
  go_loopw [3, 4] (fun v i wr => ∃ (k : Nat) (x : ByteArray), k ≤ 4 ∧ k ≤ s.size ∧ i = .int .i64 k ∧ v = .string x ∧ M.FInv k x ∧ FilG s k x ∧ Below w.heap.size w wr) (fun _ i _ => s.size - (intOf i).toNat)
  case atStart => exact ⟨0, _, by omega, by omega, rfl, rfl, ⟨by decide, .inl ⟨rfl, rfl⟩⟩, G0.out, Below.refl _ _⟩
  case round =>
    obtain ⟨k, y, hk4, hks, rfl, rfl, hy, hg, hbr⟩ := hrel
    have HY : Hid (M.FInv k y) := hy
    have HG : Hid (FilG s k y) := hg
    have hyz := hy.1
    clear hy hg
    by_cases hlt : k < s.size
    · by_cases hl4 : k < 4
      · have hby := (s[k]'hlt).toNat_lt
        have HS : Hid (∀ c, (((s[k]'hlt).toNat : Nat) : Int) = c → ((c / 32 = 0 ∨ c / 32 = 1) → FilG s (k + 1) (strokeG k y ++ ⟨#[43]⟩)) ∧ (c / 32 = 2 → strokeG k y ++ ⟨#[35]⟩ = filterM s) ∧ (¬ (c / 32 = 0 ∨ c / 32 = 1) → ¬ c / 32 = 2 → FilG s (k + 1) (strokeG k y ++ wordM c))) :=
          fun c hc => ⟨HG.out.plus hl4 hlt hc, HG.out.hash hl4 hlt hc, HG.out.word hl4 hlt hc⟩
        generalize hcc : (((s[k]'hlt).toNat : Nat) : Int) = c
        have HC := HS.out c hcc
        have HC1 : Hid ((c / 32 = 0 ∨ c / 32 = 1) → FilG s (k + 1) (strokeG k y ++ ⟨#[43]⟩)) := HC.1
        have HC2 : Hid (c / 32 = 2 → strokeG k y ++ ⟨#[35]⟩ = filterM s) := HC.2.1
        have HC3 : Hid (¬ (c / 32 = 0 ∨ c / 32 = 1) → ¬ c / 32 = 2 → FilG s (k + 1) (strokeG k y ++ wordM c)) := HC.2.2
        clear HC HS
        by_cases hk0 : 0 < k
        · have HSK : Hid (strokeG k y = y ++ ⟨#[47]⟩) := by show _ = _; unfold strokeG; rw [if_pos hk0]
          rw [HSK.out] at HC1 HC2 HC3
          go_wp2_with (go_at_call 45; refine (textWord _ _ (by omega) (by omega)).mono ?_; rintro e w2 ⟨⟨rfl, hz⟩, hb2⟩; have hzz := word_size hz)
          · go_roundw
            case rel => exact ⟨k + 1, _, by omega, by omega, by go_num, rfl, M.finv_succ HY.out hk0 hl4 plus_ok, HC1.out (by simp only [beq_iff_eq] at *; omega), hbr⟩
            case measure => simp [intOf]; omega
          · go_roundw
            case rel => exact ⟨k + 1, _, by omega, by omega, by go_num, rfl, M.finv_succ HY.out hk0 hl4 plus_ok, HC1.out (by simp only [beq_iff_eq, beq_eq_false_iff_ne, ne_eq] at *; omega), hbr⟩
            case measure => simp [intOf]; omega
          · go_ret
            exact ⟨⟨_, rfl, M.finv_hash HY.out hk0 hl4, HC2.out (by simp only [beq_iff_eq, beq_eq_false_iff_ne, ne_eq] at *; omega)⟩, hbr⟩
          · go_roundw
            case rel => exact ⟨k + 1, _, by omega, by omega, by go_num, rfl, M.finv_succ HY.out hk0 hl4 (okW_word (by assumption)), HC3.out (by simp only [beq_eq_false_iff_ne, ne_eq] at *; omega) (by simp only [beq_eq_false_iff_ne, ne_eq] at *; omega), hbr.trans ((by assumption : Below wr.heap.size wr _).mono hbr.size)⟩
            case measure => simp [intOf]; omega
        · obtain rfl : k = 0 := by omega
          have HSK : Hid (strokeG 0 y = y) := by show _ = _; unfold strokeG; rw [if_neg (by omega)]
          rw [HSK.out] at HC1 HC2 HC3
          go_wp2_with (go_at_call 45; refine (textWord _ _ (by omega) (by omega)).mono ?_; rintro e w2 ⟨⟨rfl, hz⟩, hb2⟩; have hzz := word_size hz)
          · go_roundw
            case rel => exact ⟨1, _, by omega, by omega, by go_num, rfl, M.finv_zero HY.out plus_ok, HC1.out (by simp only [beq_iff_eq] at *; omega), hbr⟩
            case measure => simp [intOf]; omega
          · go_roundw
            case rel => exact ⟨1, _, by omega, by omega, by go_num, rfl, M.finv_zero HY.out plus_ok, HC1.out (by simp only [beq_iff_eq, beq_eq_false_iff_ne, ne_eq] at *; omega), hbr⟩
            case measure => simp [intOf]; omega
          · go_ret
            exact ⟨⟨_, rfl, M.finv_hash0 HY.out, HC2.out (by simp only [beq_iff_eq, beq_eq_false_iff_ne, ne_eq] at *; omega)⟩, hbr⟩
          · go_roundw
            case rel => exact ⟨1, _, by omega, by omega, by go_num, rfl, M.finv_zero HY.out (okW_word (by assumption)), HC3.out (by simp only [beq_eq_false_iff_ne, ne_eq] at *; omega) (by simp only [beq_eq_false_iff_ne, ne_eq] at *; omega), hbr.trans ((by assumption : Below wr.heap.size wr _).mono hbr.size)⟩
            case measure => simp [intOf]; omega
      · have HEN : Hid (endG y = filterM s) := HG.out.stop (by omega)
        rcases M.finv_end HY.out hk4 with he | ⟨he, hp⟩
        all_goals
          go_wp2_with fail
          go_ret
        · exact ⟨⟨_, rfl, hash_path, by rw [← HEN.out]; unfold endG; rw [he]; rfl⟩, hbr⟩
        · exact ⟨⟨_, rfl, hp, by rw [← HEN.out]; unfold endG; rw [he]; rfl⟩, hbr⟩
    · have HEN : Hid (endG y = filterM s) := HG.out.stop (by omega)
      rcases M.finv_end HY.out hk4 with he | ⟨he, hp⟩
      all_goals
        go_wp2_with fail
        go_ret
      · exact ⟨⟨_, rfl, hash_path, by rw [← HEN.out]; unfold endG; rw [he]; rfl⟩, hbr⟩
      · exact ⟨⟨_, rfl, hp, by rw [← HEN.out]; unfold endG; rw [he]; rfl⟩, hbr⟩
end Go.Proofs.Ytmjdndhfmfjbiab

/-
  heraldkeep.do: one operation, out of a raw step.
-/
namespace Go.Proofs.Ytmjdndhfmfjbiab
open Go.RowKit

structure StepD where
  kind : Int
  a : Int
  b : Int
  c : Int
  d : Int
  s : ByteArray
def StepOk (o : StepD) : Prop := (-9223372036854775808 ≤ o.kind ∧ o.kind ≤ 9223372036854775807) ∧ (-9223372036854775808 ≤ o.a ∧ o.a ≤ 9223372036854775807) ∧ (-9223372036854775808 ≤ o.b ∧ o.b ≤ 9223372036854775807) ∧ (-9223372036854775808 ≤ o.c ∧ o.c ≤ 9223372036854775807) ∧ (-9223372036854775808 ≤ o.d ∧ o.d ≤ 9223372036854775807) ∧ o.s.size ≤ maxLen
def stepV (o : StepD) : Value := .agg #[.int .i64 o.kind, .int .i64 o.a, .int .i64 o.b, .int .i64 o.c, .int .i64 o.d, .string o.s]
def opK (o : StepD) (k : Int) : OpD :=
  if k = 0 then ⟨1, pickM o.a 8, 0, 0, 0, filterM o.s⟩
  else if k = 1 then ⟨2, pickM o.a 8, 0, 0, 0, filterM o.s⟩
  else if k = 2 then ⟨3, 0, pickM o.b 1073741825, pickM o.c 1099511627777, pickM o.d 1099511627777, topicM o.s⟩
  else if k = 3 then ⟨4, 0, o.b, 0, 0, ⟨#[]⟩⟩
  else if k = 4 then ⟨5, 0, o.b, 1 + pickM o.c 1099511627776, 0, ⟨#[]⟩⟩
  else if k = 5 then ⟨6, 0, pickM o.b 1099511627777, 0, 0, ⟨#[]⟩⟩
  else ⟨7, pickM o.a 8, o.b, 0, 0, ⟨#[]⟩⟩
def opOf (o : StepD) : OpD := opK o (pickM o.kind 7)
theorem ans_none {S : RefS} {o : OpD} (h : o.kind ≠ 3) : doAns S o = 0 := by unfold doAns; rw [if_neg h]; split <;> rfl

/-- The state behind a step. -/
def goS (S : RefS) (o : StepD) : RefS := doS S (opOf o)
def goE (S : RefS) (o : StepD) : Int := doErr S (opOf o)
def goA (S : RefS) (o : StepD) : Int := doAns S (opOf o)
theorem go_is {S : RefS} {o : StepD} {k : Int} {p : OpD} (hk : pickM o.kind 7 = k) (hp : opK o k = p) : goS S o = doS S p ∧ goE S o = doErr S p ∧ goA S o = doAns S p := by
  have e : opOf o = p := by unfold opOf; rw [hk, hp]
  exact ⟨by unfold goS; rw [e], by unfold goE; rw [e], by unfold goA; rw [e]⟩
end Go.Proofs.Ytmjdndhfmfjbiab

namespace Go.Proofs.Ytmjdndhfmfjbiab
open Go.RowKit

theorem MineStep.later {w0 w w1 w2 : World} {H : Nat} {F : Nat → Prop} {S1 : RefS} (hb : Below w.heap.size w w1) (h : MineStep w0 w1 H F S1 w2) : MineStep w0 w H F S1 w2 := by
  obtain ⟨F1, hm, hu, hF, hk⟩ := h
  exact ⟨F1, hm, (Upd.of_below hb).trans hu (fun _ _ t => t), hF, fun k h1 => (hk k h1).imp id (fun h2 => Nat.le_trans hb.size h2)⟩
theorem MineStep.cell {w0 w w1 : World} {H : Nat} {F : Nat → Prop} {S1 : RefS} (h : MineStep w0 w H F S1 w1) {p : Addr} {v : Value} (hc : w.cell? p = some v) (hn : ¬ F p.block) : w1.cell? p = some v := by
  obtain ⟨F1, hm, hu, -⟩ := h
  exact hu.cell hc hn
theorem step6 {w w1 : World} {o : StepD} {t : TypeId} (hb : Below (w.alloc (Obj.cells #[.int .i64 o.kind, .int .i64 o.a, .int .i64 o.b, .int .i64 o.c, .int .i64 o.d, .string o.s] t)).heap.size (w.alloc (Obj.cells #[.int .i64 o.kind, .int .i64 o.a, .int .i64 o.b, .int .i64 o.c, .int .i64 o.d, .string o.s] t)) w1) :
    w1.cell? ⟨w.heap.size, 0, none⟩ = some (.int .i64 o.kind) ∧ w1.cell? ⟨w.heap.size, 1, none⟩ = some (.int .i64 o.a) ∧ w1.cell? ⟨w.heap.size, 2, none⟩ = some (.int .i64 o.b) ∧
      w1.cell? ⟨w.heap.size, 3, none⟩ = some (.int .i64 o.c) ∧ w1.cell? ⟨w.heap.size, 4, none⟩ = some (.int .i64 o.d) ∧ w1.cell? ⟨w.heap.size, 5, none⟩ = some (.string o.s) :=
  ⟨cell_later hb (by simp), cell_later hb (by simp), cell_later hb (by simp), cell_later hb (by simp), cell_later hb (by simp), cell_later hb (by simp)⟩

set_option maxRecDepth 100000 in
set_option maxHeartbeats 4000000 in
theorem keepDo0 {w0 w : World} {H : Nat} {F : Nat → Prop} {S : RefS} (o : StepD) (ho : StepOk o) (h : MineF w0 w H F S) (e : pickM o.kind 7 = 0) :
    Calls Try.prog 68 #[.pointer (some ⟨H, 0, none⟩), stepV o] w fun e w' => e = .returned (.tuple #[.int .i64 (goA S o), .int .i64 (goE S o)]) ∧ MineStep w0 w H F (goS S o) w' := by
  obtain ⟨⟨k0, k1⟩, ⟨a0, a1⟩, ⟨b0, b1⟩, ⟨c0, c1⟩, ⟨d0, d1⟩, hs⟩ := ho
  have HM : Hid (MineF w0 w H F S) := h
  clear h
  obtain ⟨g1, g2, g3⟩ := go_is (S := S) (p := ⟨1, pickM o.a 8, 0, 0, 0, filterM o.s⟩) e (by simp [opK])
  rw [g1, g2, g3]
  have HK : Hid (pickM o.kind 7 = 0) := e
  clear e g1 g2 g3
  have hA := pick_bd o.a 8 (by omega)
  have hC := pick_bd o.c 1099511627776 (by omega)
  generalize hA1 : pickM o.a 8 = A at *
  generalize hf1 : filterM o.s = f
  generalize ht1 : topicM o.s = t
  generalize hB1 : pickM o.b 1073741825 = B
  generalize hC1 : pickM o.c 1099511627777 = C
  generalize hD1 : pickM o.d 1099511627777 = D
  generalize hE1 : pickM o.c 1099511627776 = E at *
  generalize hG1 : pickM o.b 1099511627777 = G
  have HA1 : Hid (pickM o.a 8 = A) := hA1
  have HF1 : Hid (filterM o.s = f) := hf1
  have HT1 : Hid (topicM o.s = t) := ht1
  have HBX : Hid (pickM o.b 1073741825 = B) := hB1
  have HCX : Hid (pickM o.c 1099511627777 = C) := hC1
  have HDX : Hid (pickM o.d 1099511627777 = D) := hD1
  have HEX : Hid (pickM o.c 1099511627776 = E) := hE1
  have HGX : Hid (pickM o.b 1099511627777 = G) := hG1
  clear hA1 hf1 ht1 hB1 hC1 hD1 hE1 hG1
  unfold stepV
  go_enter Try.func68, Try.ntmps68
  go_wp2_with fail
  refine (keepPick o.a 8 _ a0 a1 (by omega) (by omega)).mono ?_
  rintro e w1 ⟨rfl, hw1⟩
  rw [HA1.out]
  subst hw1
  go_wp2_with fail
  refine (textFilter o.s _ hs).mono ?_
  rintro e w2 ⟨⟨f', rfl, hf, hfe⟩, hb2⟩
  obtain rfl := (hfe.trans HF1.out).symm
  obtain ⟨i0, i1, i2, i3, i4, i5⟩ := step6 hb2
  have hfs : f.size ≤ 1048576 := Nat.le_trans (path15 hf) (by omega)
  have HB2 : Hid (Below w.heap.size w w2) := (below_one w _).trans (hb2.mono (by simp))
  clear hf hb2 hfe
  go_wp2_with fail
  refine (textTopic o.s _ hs).mono ?_
  rintro e w3 ⟨⟨t', rfl, ht, hte⟩, hb3⟩
  obtain rfl := (hte.trans HT1.out).symm
  have j0 := cell_later hb3 i0
  have j1 := cell_later hb3 i1
  have j2 := cell_later hb3 i2
  have j3 := cell_later hb3 i3
  have j4 := cell_later hb3 i4
  have hts : t.size ≤ 1048576 := Nat.le_trans (path15 ht) (by omega)
  have HB3 : Hid (Below w.heap.size w w3) := HB2.out.trans (hb3.mono HB2.out.size)
  clear ht hb3 hte i0 i1 i2 i3 i4 i5
  have M3 : Hid (MineF w0 w3 H F S) := HM.out.below HB3.out
  go_wp2_with fail
  refine (keepPick o.kind 7 _ k0 k1 (by omega) (by omega)).mono ?_
  rintro e w3 ⟨rfl, rfl⟩
  rw [HK.out]
  go_wp2_with fail
  refine (mineFSub A 0 0 0 f M3.out hfs).mono ?_
  rintro e w4 ⟨rfl, hm4⟩
  have M4 : Hid (MineStep w0 w H F _ w4) := hm4.later HB3.out
  clear hm4
  go_wp2_with fail
  go_ret2
  exact ⟨by rw [ans_none (by show (1 : Int) ≠ 3; decide)]; rfl, M4.out⟩

set_option maxRecDepth 100000 in
set_option maxHeartbeats 4000000 in
theorem keepDo1 {w0 w : World} {H : Nat} {F : Nat → Prop} {S : RefS} (o : StepD) (ho : StepOk o) (h : MineF w0 w H F S) (e : pickM o.kind 7 = 1) :
    Calls Try.prog 68 #[.pointer (some ⟨H, 0, none⟩), stepV o] w fun e w' => e = .returned (.tuple #[.int .i64 (goA S o), .int .i64 (goE S o)]) ∧ MineStep w0 w H F (goS S o) w' := by
  obtain ⟨⟨k0, k1⟩, ⟨a0, a1⟩, ⟨b0, b1⟩, ⟨c0, c1⟩, ⟨d0, d1⟩, hs⟩ := ho
  have HM : Hid (MineF w0 w H F S) := h
  clear h
  obtain ⟨g1, g2, g3⟩ := go_is (S := S) (p := ⟨2, pickM o.a 8, 0, 0, 0, filterM o.s⟩) e (by simp [opK])
  rw [g1, g2, g3]
  have HK : Hid (pickM o.kind 7 = 1) := e
  clear e g1 g2 g3
  have hA := pick_bd o.a 8 (by omega)
  have hC := pick_bd o.c 1099511627776 (by omega)
  generalize hA1 : pickM o.a 8 = A at *
  generalize hf1 : filterM o.s = f
  generalize ht1 : topicM o.s = t
  generalize hB1 : pickM o.b 1073741825 = B
  generalize hC1 : pickM o.c 1099511627777 = C
  generalize hD1 : pickM o.d 1099511627777 = D
  generalize hE1 : pickM o.c 1099511627776 = E at *
  generalize hG1 : pickM o.b 1099511627777 = G
  have HA1 : Hid (pickM o.a 8 = A) := hA1
  have HF1 : Hid (filterM o.s = f) := hf1
  have HT1 : Hid (topicM o.s = t) := ht1
  have HBX : Hid (pickM o.b 1073741825 = B) := hB1
  have HCX : Hid (pickM o.c 1099511627777 = C) := hC1
  have HDX : Hid (pickM o.d 1099511627777 = D) := hD1
  have HEX : Hid (pickM o.c 1099511627776 = E) := hE1
  have HGX : Hid (pickM o.b 1099511627777 = G) := hG1
  clear hA1 hf1 ht1 hB1 hC1 hD1 hE1 hG1
  unfold stepV
  go_enter Try.func68, Try.ntmps68
  go_wp2_with fail
  refine (keepPick o.a 8 _ a0 a1 (by omega) (by omega)).mono ?_
  rintro e w1 ⟨rfl, hw1⟩
  rw [HA1.out]
  subst hw1
  go_wp2_with fail
  refine (textFilter o.s _ hs).mono ?_
  rintro e w2 ⟨⟨f', rfl, hf, hfe⟩, hb2⟩
  obtain rfl := (hfe.trans HF1.out).symm
  obtain ⟨i0, i1, i2, i3, i4, i5⟩ := step6 hb2
  have hfs : f.size ≤ 1048576 := Nat.le_trans (path15 hf) (by omega)
  have HB2 : Hid (Below w.heap.size w w2) := (below_one w _).trans (hb2.mono (by simp))
  clear hf hb2 hfe
  go_wp2_with fail
  refine (textTopic o.s _ hs).mono ?_
  rintro e w3 ⟨⟨t', rfl, ht, hte⟩, hb3⟩
  obtain rfl := (hte.trans HT1.out).symm
  have j0 := cell_later hb3 i0
  have j1 := cell_later hb3 i1
  have j2 := cell_later hb3 i2
  have j3 := cell_later hb3 i3
  have j4 := cell_later hb3 i4
  have hts : t.size ≤ 1048576 := Nat.le_trans (path15 ht) (by omega)
  have HB3 : Hid (Below w.heap.size w w3) := HB2.out.trans (hb3.mono HB2.out.size)
  clear ht hb3 hte i0 i1 i2 i3 i4 i5
  have M3 : Hid (MineF w0 w3 H F S) := HM.out.below HB3.out
  go_wp2_with fail
  refine (keepPick o.kind 7 _ k0 k1 (by omega) (by omega)).mono ?_
  rintro e w3 ⟨rfl, rfl⟩
  rw [HK.out]
  go_wp2_with fail
  refine (mineFUnsub A 0 0 0 f M3.out hfs).mono ?_
  rintro e w4 ⟨rfl, hm4⟩
  have M4 : Hid (MineStep w0 w H F _ w4) := hm4.later HB3.out
  clear hm4
  go_wp2_with fail
  go_ret2
  exact ⟨by rw [ans_none (by show (2 : Int) ≠ 3; decide)]; rfl, M4.out⟩

set_option maxRecDepth 100000 in
set_option maxHeartbeats 4000000 in
theorem keepDo3 {w0 w : World} {H : Nat} {F : Nat → Prop} {S : RefS} (o : StepD) (ho : StepOk o) (h : MineF w0 w H F S) (e : pickM o.kind 7 = 3) :
    Calls Try.prog 68 #[.pointer (some ⟨H, 0, none⟩), stepV o] w fun e w' => e = .returned (.tuple #[.int .i64 (goA S o), .int .i64 (goE S o)]) ∧ MineStep w0 w H F (goS S o) w' := by
  obtain ⟨⟨k0, k1⟩, ⟨a0, a1⟩, ⟨b0, b1⟩, ⟨c0, c1⟩, ⟨d0, d1⟩, hs⟩ := ho
  have HM : Hid (MineF w0 w H F S) := h
  clear h
  obtain ⟨g1, g2, g3⟩ := go_is (S := S) (p := ⟨4, 0, o.b, 0, 0, ⟨#[]⟩⟩) e (by simp [opK])
  rw [g1, g2, g3]
  have HK : Hid (pickM o.kind 7 = 3) := e
  clear e g1 g2 g3
  have hA := pick_bd o.a 8 (by omega)
  have hC := pick_bd o.c 1099511627776 (by omega)
  generalize hA1 : pickM o.a 8 = A at *
  generalize hf1 : filterM o.s = f
  generalize ht1 : topicM o.s = t
  generalize hB1 : pickM o.b 1073741825 = B
  generalize hC1 : pickM o.c 1099511627777 = C
  generalize hD1 : pickM o.d 1099511627777 = D
  generalize hE1 : pickM o.c 1099511627776 = E at *
  generalize hG1 : pickM o.b 1099511627777 = G
  have HA1 : Hid (pickM o.a 8 = A) := hA1
  have HF1 : Hid (filterM o.s = f) := hf1
  have HT1 : Hid (topicM o.s = t) := ht1
  have HBX : Hid (pickM o.b 1073741825 = B) := hB1
  have HCX : Hid (pickM o.c 1099511627777 = C) := hC1
  have HDX : Hid (pickM o.d 1099511627777 = D) := hD1
  have HEX : Hid (pickM o.c 1099511627776 = E) := hE1
  have HGX : Hid (pickM o.b 1099511627777 = G) := hG1
  clear hA1 hf1 ht1 hB1 hC1 hD1 hE1 hG1
  unfold stepV
  go_enter Try.func68, Try.ntmps68
  go_wp2_with fail
  refine (keepPick o.a 8 _ a0 a1 (by omega) (by omega)).mono ?_
  rintro e w1 ⟨rfl, hw1⟩
  rw [HA1.out]
  subst hw1
  go_wp2_with fail
  refine (textFilter o.s _ hs).mono ?_
  rintro e w2 ⟨⟨f', rfl, hf, hfe⟩, hb2⟩
  obtain rfl := (hfe.trans HF1.out).symm
  obtain ⟨i0, i1, i2, i3, i4, i5⟩ := step6 hb2
  have hfs : f.size ≤ 1048576 := Nat.le_trans (path15 hf) (by omega)
  have HB2 : Hid (Below w.heap.size w w2) := (below_one w _).trans (hb2.mono (by simp))
  clear hf hb2 hfe
  go_wp2_with fail
  refine (textTopic o.s _ hs).mono ?_
  rintro e w3 ⟨⟨t', rfl, ht, hte⟩, hb3⟩
  obtain rfl := (hte.trans HT1.out).symm
  have j0 := cell_later hb3 i0
  have j1 := cell_later hb3 i1
  have j2 := cell_later hb3 i2
  have j3 := cell_later hb3 i3
  have j4 := cell_later hb3 i4
  have hts : t.size ≤ 1048576 := Nat.le_trans (path15 ht) (by omega)
  have HB3 : Hid (Below w.heap.size w w3) := HB2.out.trans (hb3.mono HB2.out.size)
  clear ht hb3 hte i0 i1 i2 i3 i4 i5
  have M3 : Hid (MineF w0 w3 H F S) := HM.out.below HB3.out
  go_wp2_with fail
  refine (keepPick o.kind 7 _ k0 k1 (by omega) (by omega)).mono ?_
  rintro e w3 ⟨rfl, rfl⟩
  rw [HK.out]
  go_wp2_with fail
  refine (mineFCancel 0 o.b 0 0 ⟨#[]⟩ M3.out (Nat.zero_le _)).mono ?_
  rintro e w4 ⟨rfl, hm4⟩
  have M4 : Hid (MineStep w0 w H F _ w4) := hm4.later HB3.out
  clear hm4
  go_wp2_with fail
  go_ret2
  exact ⟨by rw [ans_none (by show (4 : Int) ≠ 3; decide)]; rfl, M4.out⟩

set_option maxRecDepth 100000 in
set_option maxHeartbeats 4000000 in
theorem keepDo5 {w0 w : World} {H : Nat} {F : Nat → Prop} {S : RefS} (o : StepD) (ho : StepOk o) (h : MineF w0 w H F S) (e : pickM o.kind 7 = 5) :
    Calls Try.prog 68 #[.pointer (some ⟨H, 0, none⟩), stepV o] w fun e w' => e = .returned (.tuple #[.int .i64 (goA S o), .int .i64 (goE S o)]) ∧ MineStep w0 w H F (goS S o) w' := by
  obtain ⟨⟨k0, k1⟩, ⟨a0, a1⟩, ⟨b0, b1⟩, ⟨c0, c1⟩, ⟨d0, d1⟩, hs⟩ := ho
  have HM : Hid (MineF w0 w H F S) := h
  clear h
  obtain ⟨g1, g2, g3⟩ := go_is (S := S) (p := ⟨6, 0, pickM o.b 1099511627777, 0, 0, ⟨#[]⟩⟩) e (by simp [opK])
  rw [g1, g2, g3]
  have HK : Hid (pickM o.kind 7 = 5) := e
  clear e g1 g2 g3
  have hA := pick_bd o.a 8 (by omega)
  have hC := pick_bd o.c 1099511627776 (by omega)
  generalize hA1 : pickM o.a 8 = A at *
  generalize hf1 : filterM o.s = f
  generalize ht1 : topicM o.s = t
  generalize hB1 : pickM o.b 1073741825 = B
  generalize hC1 : pickM o.c 1099511627777 = C
  generalize hD1 : pickM o.d 1099511627777 = D
  generalize hE1 : pickM o.c 1099511627776 = E at *
  generalize hG1 : pickM o.b 1099511627777 = G
  have HA1 : Hid (pickM o.a 8 = A) := hA1
  have HF1 : Hid (filterM o.s = f) := hf1
  have HT1 : Hid (topicM o.s = t) := ht1
  have HBX : Hid (pickM o.b 1073741825 = B) := hB1
  have HCX : Hid (pickM o.c 1099511627777 = C) := hC1
  have HDX : Hid (pickM o.d 1099511627777 = D) := hD1
  have HEX : Hid (pickM o.c 1099511627776 = E) := hE1
  have HGX : Hid (pickM o.b 1099511627777 = G) := hG1
  clear hA1 hf1 ht1 hB1 hC1 hD1 hE1 hG1
  unfold stepV
  go_enter Try.func68, Try.ntmps68
  go_wp2_with fail
  refine (keepPick o.a 8 _ a0 a1 (by omega) (by omega)).mono ?_
  rintro e w1 ⟨rfl, hw1⟩
  rw [HA1.out]
  subst hw1
  go_wp2_with fail
  refine (textFilter o.s _ hs).mono ?_
  rintro e w2 ⟨⟨f', rfl, hf, hfe⟩, hb2⟩
  obtain rfl := (hfe.trans HF1.out).symm
  obtain ⟨i0, i1, i2, i3, i4, i5⟩ := step6 hb2
  have hfs : f.size ≤ 1048576 := Nat.le_trans (path15 hf) (by omega)
  have HB2 : Hid (Below w.heap.size w w2) := (below_one w _).trans (hb2.mono (by simp))
  clear hf hb2 hfe
  go_wp2_with fail
  refine (textTopic o.s _ hs).mono ?_
  rintro e w3 ⟨⟨t', rfl, ht, hte⟩, hb3⟩
  obtain rfl := (hte.trans HT1.out).symm
  have j0 := cell_later hb3 i0
  have j1 := cell_later hb3 i1
  have j2 := cell_later hb3 i2
  have j3 := cell_later hb3 i3
  have j4 := cell_later hb3 i4
  have hts : t.size ≤ 1048576 := Nat.le_trans (path15 ht) (by omega)
  have HB3 : Hid (Below w.heap.size w w3) := HB2.out.trans (hb3.mono HB2.out.size)
  clear ht hb3 hte i0 i1 i2 i3 i4 i5
  have M3 : Hid (MineF w0 w3 H F S) := HM.out.below HB3.out
  go_wp2_with fail
  refine (keepPick o.kind 7 _ k0 k1 (by omega) (by omega)).mono ?_
  rintro e w3 ⟨rfl, rfl⟩
  rw [HK.out]
  go_wp2_with fail
  refine (keepPick o.b 1099511627777 _ b0 b1 (by omega) (by omega)).mono ?_
  rintro e w3 ⟨rfl, rfl⟩
  rw [HGX.out]
  go_wp2_with fail
  refine (mineFTick 0 G 0 0 ⟨#[]⟩ M3.out (Nat.zero_le _)).mono ?_
  rintro e w4 ⟨rfl, hm4⟩
  have M4 : Hid (MineStep w0 w H F _ w4) := hm4.later HB3.out
  clear hm4
  go_wp2_with fail
  go_ret2
  exact ⟨by rw [ans_none (by show (6 : Int) ≠ 3; decide)]; rfl, M4.out⟩

set_option maxRecDepth 100000 in
set_option maxHeartbeats 4000000 in
theorem keepDo6 {w0 w : World} {H : Nat} {F : Nat → Prop} {S : RefS} (o : StepD) (ho : StepOk o) (h : MineF w0 w H F S) (e : pickM o.kind 7 = 6) :
    Calls Try.prog 68 #[.pointer (some ⟨H, 0, none⟩), stepV o] w fun e w' => e = .returned (.tuple #[.int .i64 (goA S o), .int .i64 (goE S o)]) ∧ MineStep w0 w H F (goS S o) w' := by
  obtain ⟨⟨k0, k1⟩, ⟨a0, a1⟩, ⟨b0, b1⟩, ⟨c0, c1⟩, ⟨d0, d1⟩, hs⟩ := ho
  have HM : Hid (MineF w0 w H F S) := h
  clear h
  obtain ⟨g1, g2, g3⟩ := go_is (S := S) (p := ⟨7, pickM o.a 8, o.b, 0, 0, ⟨#[]⟩⟩) e (by simp [opK])
  rw [g1, g2, g3]
  have HK : Hid (pickM o.kind 7 = 6) := e
  clear e g1 g2 g3
  have hA := pick_bd o.a 8 (by omega)
  have hC := pick_bd o.c 1099511627776 (by omega)
  generalize hA1 : pickM o.a 8 = A at *
  generalize hf1 : filterM o.s = f
  generalize ht1 : topicM o.s = t
  generalize hB1 : pickM o.b 1073741825 = B
  generalize hC1 : pickM o.c 1099511627777 = C
  generalize hD1 : pickM o.d 1099511627777 = D
  generalize hE1 : pickM o.c 1099511627776 = E at *
  generalize hG1 : pickM o.b 1099511627777 = G
  have HA1 : Hid (pickM o.a 8 = A) := hA1
  have HF1 : Hid (filterM o.s = f) := hf1
  have HT1 : Hid (topicM o.s = t) := ht1
  have HBX : Hid (pickM o.b 1073741825 = B) := hB1
  have HCX : Hid (pickM o.c 1099511627777 = C) := hC1
  have HDX : Hid (pickM o.d 1099511627777 = D) := hD1
  have HEX : Hid (pickM o.c 1099511627776 = E) := hE1
  have HGX : Hid (pickM o.b 1099511627777 = G) := hG1
  clear hA1 hf1 ht1 hB1 hC1 hD1 hE1 hG1
  unfold stepV
  go_enter Try.func68, Try.ntmps68
  go_wp2_with fail
  refine (keepPick o.a 8 _ a0 a1 (by omega) (by omega)).mono ?_
  rintro e w1 ⟨rfl, hw1⟩
  rw [HA1.out]
  subst hw1
  go_wp2_with fail
  refine (textFilter o.s _ hs).mono ?_
  rintro e w2 ⟨⟨f', rfl, hf, hfe⟩, hb2⟩
  obtain rfl := (hfe.trans HF1.out).symm
  obtain ⟨i0, i1, i2, i3, i4, i5⟩ := step6 hb2
  have hfs : f.size ≤ 1048576 := Nat.le_trans (path15 hf) (by omega)
  have HB2 : Hid (Below w.heap.size w w2) := (below_one w _).trans (hb2.mono (by simp))
  clear hf hb2 hfe
  go_wp2_with fail
  refine (textTopic o.s _ hs).mono ?_
  rintro e w3 ⟨⟨t', rfl, ht, hte⟩, hb3⟩
  obtain rfl := (hte.trans HT1.out).symm
  have j0 := cell_later hb3 i0
  have j1 := cell_later hb3 i1
  have j2 := cell_later hb3 i2
  have j3 := cell_later hb3 i3
  have j4 := cell_later hb3 i4
  have hts : t.size ≤ 1048576 := Nat.le_trans (path15 ht) (by omega)
  have HB3 : Hid (Below w.heap.size w w3) := HB2.out.trans (hb3.mono HB2.out.size)
  clear ht hb3 hte i0 i1 i2 i3 i4 i5
  have M3 : Hid (MineF w0 w3 H F S) := HM.out.below HB3.out
  go_wp2_with fail
  refine (keepPick o.kind 7 _ k0 k1 (by omega) (by omega)).mono ?_
  rintro e w3 ⟨rfl, rfl⟩
  rw [HK.out]
  go_wp2_with fail
  refine (mineFAck A o.b 0 0 ⟨#[]⟩ M3.out (Nat.zero_le _)).mono ?_
  rintro e w4 ⟨rfl, hm4⟩
  have M4 : Hid (MineStep w0 w H F _ w4) := hm4.later HB3.out
  clear hm4
  go_wp2_with fail
  go_ret2
  exact ⟨by rw [ans_none (by show (7 : Int) ≠ 3; decide)]; rfl, M4.out⟩

end Go.Proofs.Ytmjdndhfmfjbiab
