import Derived.Test.YtmjdndhfmfjbiaaGreatM27
import Derived.Test.YtmjdndhfmfjbiaaGreatM23
import Derived.Test.YtmjdndhfmfjbiaaGreatM24
import Derived.Deep.RegionWith
import Derived.Test.YtmjdndhfmfjbiaaGreatM03
/-
  THE BROKER, walked: the small ones, and what is shown.
-/
namespace Go.Proofs.YtmjdndhfmfjbiaaGreat
open Go.RowKit

theorem hrIsClient (c : Int) (w : World) : Calls Tryz.prog 54 #[.int .i64 c] w fun e w' => e = .returned (.bool (knownB c)) ∧ w' = w := by
  by_cases h0 : 0 ≤ c
  all_goals
    go_enter Tryz.func54, Tryz.ntmps54
    go_wp2
    go_ret
    exact ⟨ret_bool' (by unfold knownB; first | (rw [decide_eq_true h0]; rfl) | (rw [decide_eq_false (by omega)]; rfl)), rfl⟩

def isValueM (v : Int) : Bool := decide (0 ≤ v) && decide (v ≤ 1073741824)
theorem hrIsValue (v : Int) (w : World) : Calls Tryz.prog 84 #[.int .i64 v] w fun e w' => e = .returned (.bool (isValueM v)) ∧ w' = w := by
  by_cases h0 : 0 ≤ v
  all_goals
    go_enter Tryz.func84, Tryz.ntmps84
    go_wp2
    go_ret
    exact ⟨ret_bool' (by unfold isValueM; first | (rw [decide_eq_true h0]; rfl) | (rw [decide_eq_false (by omega)]; rfl)), rfl⟩

theorem hrIsInstant (t : Int) (w : World) : Calls Tryz.prog 85 #[.int .i64 t] w fun e w' => e = .returned (.bool (isTimeM t)) ∧ w' = w := by
  by_cases h0 : 0 ≤ t
  all_goals
    go_enter Tryz.func85, Tryz.ntmps85
    go_wp2
    go_ret
    exact ⟨ret_bool' (by unfold isTimeM; first | (rw [decide_eq_true h0]; rfl) | (rw [decide_eq_false (by omega)]; rfl)), rfl⟩

theorem hrRecords (H : Nat) (x : RefV) (T : RefS) (D : ByteArray) (w : World) (hr : HRep w H x T D) (hd : D.size ≤ 1048576) :
    Calls Tryz.prog 31 #[.pointer (some ⟨H, 0, none⟩)] w fun e w' => e = .returned (.int .i64 ((D.size : Int) / 42)) ∧ w' = w := by
  obtain ⟨ao, c, hv, h1, h2, -⟩ := hr.done.form
  have k1 := hr.cells.done
  rw [hv] at k1
  clear hr hv
  go_enter Tryz.func31, Tryz.ntmps31
  go_wp2_with fail
  go_ret
  exact ⟨rfl, rfl⟩

theorem hrIsFull (H : Nat) (x : RefV) (T : RefS) (D : ByteArray) (w : World) (hr : HRep w H x T D) (hd : D.size ≤ 1048576) :
    Calls Tryz.prog 78 #[.pointer (some ⟨H, 0, none⟩)] w fun e w' => e = .returned (.bool (decide (T.room ≤ (D.size : Int) / 42))) ∧ Below w.heap.size w w' := by
  have HR : Hid (HRep w H x T D) := hr
  have k0 := hr.cells.room
  clear hr
  go_enter Tryz.func78, Tryz.ntmps78
  go_wp2_with fail
  go_region_with (go_at_call 31; refine (hrRecords H x T D _ (HR.out.below below_drew) hd).mono ?_; rintro e w2 ⟨rfl, rfl⟩)
  all_goals go_wp2_with fail
  all_goals go_ret
  all_goals exact ⟨rfl, below_drew⟩

theorem hrTime (H : Nat) (x : RefV) (T : RefS) (D : ByteArray) (w : World) (hr : HRep w H x T D) :
    Calls Tryz.prog 22 #[.pointer (some ⟨H, 0, none⟩)] w fun e w' => e = .returned (.int .i64 T.time) ∧ w' = w := by
  have k0 := hr.cells.time
  clear hr
  go_enter Tryz.func22, Tryz.ntmps22
  go_wp2_with fail
  go_ret
  exact ⟨rfl, rfl⟩

theorem nil_text (w : World) : (convert 50 9 (.slice none 0 0)).run Tryz.prog w = .ok (.string ⟨#[]⟩) w := by
  rw [run_convert_bytes_string w 50 9 5 none 0 0 Tryz.underlying50 Tryz.underlying5 Tryz.underlying9]
  rfl

theorem disk_text {w : World} {v : Value} {D : ByteArray} (h : Row w 5 1 v D.size (Lib.strCells D)) : (convert 50 9 v).run Tryz.prog w = .ok (.string D) w := by
  rcases h.2 with ⟨rfl, h0⟩ | ⟨g, cap, cur, rfl, hb, hg, rest⟩
  · have : D = ⟨#[]⟩ := by
      apply ba_ext
      rw [ba_size] at h0
      exact List.eq_nil_of_length_eq_zero h0
    rw [this]
    exact nil_text w
  · have h1 := run_convert_bytes_back (P := Tryz.prog) w 50 9 5 ⟨g, 0, none⟩ cap D.data.toList Tryz.underlying50 Tryz.underlying5 Tryz.underlying9 (fun j hj => by
      refine h.cells (g := g) rfl j _ ?_
      rw [Lib.strCells, List.getElem?_map, List.getElem?_eq_getElem hj]
      rfl)
    rw [← ba_size] at h1
    exact h1

theorem hrDisk (H : Nat) (x : RefV) (T : RefS) (D : ByteArray) (w : World) (hr : HRep w H x T D) :
    Calls Tryz.prog 30 #[.pointer (some ⟨H, 0, none⟩)] w fun e w' => e = .returned (.string D) ∧ w' = w := by
  have hcv := disk_text hr.done
  have k1 := hr.cells.done
  clear hr
  generalize x.doneV = v at *
  go_enter Tryz.func30, Tryz.ntmps30
  go_wp2_with fail
  go_ret
  exact ⟨rfl, rfl⟩

theorem hrLost (H : Nat) (x : RefV) (T : RefS) (D : ByteArray) (k : Int) (w : World) (hr : HRep w H x T D) :
    Calls Tryz.prog 40 #[.pointer (some ⟨H, 0, none⟩), .int .i64 k] w fun e w' => e = .returned (.int .i64 (lostM T k)) ∧ w' = w := by
  have HR : Hid (HRep w H x T D) := hr
  clear hr
  cases hk : knownB k
  · have HE : Hid (lostM T k = 0) := by show _ = _; unfold lostM; rw [hk]; rfl
    go_enter Tryz.func40, Tryz.ntmps40
    go_wp2_with fail
    refine (hrIsClient k _).mono ?_
    rintro e w1 ⟨rfl, rfl⟩
    rw [hk]
    go_wp2_with fail
    go_ret
    exact ⟨ret_int HE.out.symm, rfl⟩
  · obtain ⟨n, rfl, hn⟩ := known_nat hk
    have HE : Hid (lostM T (n : Int) = T.lost n) := by show _ = _; unfold lostM; rw [hk]; rfl
    have HK : Hid (knownB (n : Int) = true) := hk
    have k0 := HR.out.cells.lost n hn
    have hn0 : (0 : Int) ≤ (n : Int) := by omega
    have hn1 : (n : Int) < 8 := by omega
    clear hk
    go_enter Tryz.func40, Tryz.ntmps40
    go_wp2_with fail
    refine (hrIsClient (n : Int) _).mono ?_
    rintro e w1 ⟨rfl, rfl⟩
    rw [HK.out]
    go_wp2_with fail
    go_ret
    exact ⟨ret_int HE.out.symm, rfl⟩
end Go.Proofs.YtmjdndhfmfjbiaaGreat

/-
  THE BROKER, walked: its lists that are shown; what it writes.
-/
namespace Go.Proofs.YtmjdndhfmfjbiaaGreat
open Go.RowKit

theorem flat_sing (l : List ByteArray) : l.flatMap (fun f => [Value.string f]) = l.map Value.string := by
  induction l with
  | nil => rfl
  | cons a l ih => simp [ih]

def filP (T : RefS) (k : Int) : List ByteArray := if knownB k = true then T.fil k.toNat else []

set_option maxRecDepth 100000 in
theorem hrFilters (H : Nat) (x : RefV) (T : RefS) (D : ByteArray) (k : Int) (w : World) (hr : HRep w H x T D) (hl : ∀ a, a < 8 → (T.fil a).length ≤ 1048576) :
    Calls Tryz.prog 33 #[.pointer (some ⟨H, 0, none⟩), .int .i64 k] w fun e w' => ∃ v, e = .returned v ∧ w'.ownsRow w.heap.size 9 1 v (filP T k).length ((filP T k).flatMap (fun f => [Value.string f])) ∧ Below w.heap.size w w' := by
  have HR : Hid (HRep w H x T D) := hr
  clear hr
  cases hk : knownB k
  · have HE : Hid (filP T k = []) := by show _ = _; unfold filP; rw [hk]; rfl
    go_enter Tryz.func33, Tryz.ntmps33
    go_wp2_with fail
    refine (hrIsClient k _).mono ?_
    rintro e w1 ⟨rfl, rfl⟩
    rw [hk]
    go_wp2_with fail
    go_ret
    exact ⟨_, rfl, by rw [HE.out]; exact World.ownsRow_nil _ _ _ _, Below.refl _ _⟩
  · obtain ⟨n, rfl, hn⟩ := known_nat hk
    have HE : Hid (filP T (n : Int) = T.fil n) := by show _ = _; unfold filP; rw [hk]; rfl
    have HK : Hid (knownB (n : Int) = true) := hk
    obtain ⟨ao, c, hv, -, -, hc⟩ := (HR.out.fil n hn).form
    have k0 := HR.out.cells.fil n hn
    rw [hv] at k0
    have HC : Hid (CellsAt w ao ((T.fil n).map Value.string)) := hc
    have hln := hl n hn
    have hn0 : (0 : Int) ≤ (n : Int) := by omega
    have hn1 : (n : Int) < 8 := by omega
    clear hk hv hc hl
    go_enter Tryz.func33, Tryz.ntmps33
    go_wp2_with fail
    refine (hrIsClient (n : Int) _).mono ?_
    rintro e w1 ⟨rfl, rfl⟩
    rw [HK.out]
    go_wp2_with fail
    refine (hrCopyFilters (T.fil n) ao c _ hln HC.out).mono ?_
    rintro e w2 ⟨v, rfl, ho, hb⟩
    go_wp2_with fail
    go_ret
    exact ⟨_, rfl, by rw [HE.out]; exact ho, hb⟩

def queP (T : RefS) (k : Int) : List MailD := if knownB k = true then (T.que k.toNat).map (mailOf T.time) else []

set_option maxRecDepth 100000 in
theorem hrQueue (H : Nat) (x : RefV) (T : RefS) (D : ByteArray) (k : Int) (w : World) (hr : HRep w H x T D) (h0 : 0 ≤ T.time) (h1 : T.time ≤ 1099511627776)
    (hl : ∀ a, a < 8 → (T.que a).length ≤ 1048576 ∧ ∀ m ∈ T.que a, 0 ≤ m.sentAt ∧ m.sentAt ≤ 1099511627776 ∧ 0 ≤ m.life ∧ m.life ≤ 1099511627776) :
    Calls Tryz.prog 37 #[.pointer (some ⟨H, 0, none⟩), .int .i64 k] w fun e w' => ∃ v, e = .returned v ∧ w'.ownsRow w.heap.size 76 5 v (queP T k).length ((queP T k).flatMap mailCells) ∧ Below w.heap.size w w' := by
  have HR : Hid (HRep w H x T D) := hr
  clear hr
  cases hk : knownB k
  · have HE : Hid (queP T k = []) := by show _ = _; unfold queP; rw [hk]; rfl
    go_enter Tryz.func37, Tryz.ntmps37
    go_wp2_with fail
    refine (hrIsClient k _).mono ?_
    rintro e w1 ⟨rfl, rfl⟩
    rw [hk]
    go_wp2_with fail
    go_ret
    exact ⟨_, rfl, by rw [HE.out]; exact World.ownsRow_nil _ _ _ _, Below.refl _ _⟩
  · obtain ⟨n, rfl, hn⟩ := known_nat hk
    have HE : Hid (queP T (n : Int) = (T.que n).map (mailOf T.time)) := by show _ = _; unfold queP; rw [hk]; rfl
    have HK : Hid (knownB (n : Int) = true) := hk
    obtain ⟨ao, c, hv, -, -, hc⟩ := (HR.out.que n hn).form
    have k0 := HR.out.cells.que n hn
    rw [hv] at k0
    have k1 := HR.out.cells.time
    have HC : Hid (CellsAt w ao ((T.que n).flatMap msgCells)) := hc
    have hln := (hl n hn).1
    have HL : Hid (∀ m ∈ T.que n, 0 ≤ m.sentAt ∧ m.sentAt ≤ 1099511627776 ∧ 0 ≤ m.life ∧ m.life ≤ 1099511627776) := (hl n hn).2
    have hn0 : (0 : Int) ≤ (n : Int) := by omega
    have hn1 : (n : Int) < 8 := by omega
    clear hk hv hc hl
    go_enter Tryz.func37, Tryz.ntmps37
    go_wp2_with fail
    refine (hrIsClient (n : Int) _).mono ?_
    rintro e w1 ⟨rfl, rfl⟩
    rw [HK.out]
    go_wp2_with fail
    go_region_with (go_at_call 56; refine (hrShownQueue (T.que n) ao c T.time _ hln (HC.out.below below_drew) h0 h1 HL.out).mono ?_; rintro e w2 ⟨v, rfl, ho, hb⟩)
    all_goals go_wp2_with fail
    all_goals go_ret
    all_goals exact ⟨_, rfl, by rw [HE.out]; exact ho, below_drew.trans hb⟩

set_option maxRecDepth 100000 in
theorem hrWaiting (H : Nat) (x : RefV) (T : RefS) (D : ByteArray) (w : World) (hr : HRep w H x T D) (hl : T.wait.length ≤ 1048576) :
    Calls Tryz.prog 42 #[.pointer (some ⟨H, 0, none⟩)] w fun e w' => ∃ v, e = .returned v ∧ w'.ownsRow w.heap.size 80 5 v T.wait.length (T.wait.flatMap waitCells) ∧ Below w.heap.size w w' := by
  obtain ⟨ao, c, hv, -, -, hc⟩ := hr.wait.form
  have k0 := hr.cells.wait
  rw [hv] at k0
  have HC : Hid (CellsAt w ao (T.wait.flatMap waitCells)) := hc
  clear hr hv hc
  go_enter Tryz.func42, Tryz.ntmps42
  go_wp2_with fail
  refine (hrCopyWaiting T.wait ao c _ hl HC.out).mono ?_
  rintro e w2 ⟨v, rfl, ho, hb⟩
  go_wp2_with fail
  go_ret
  exact ⟨_, rfl, ho, hb⟩

theorem disk_app (D t : ByteArray) : Lib.strCells D ++ Lib.strCells t = Lib.strCells (D ++ t) := by
  simp [Lib.strCells]
theorem ba_size_app (D t : ByteArray) : (D ++ t).size = D.size + t.size := by rw [ba_size, ba_list, List.length_append, ← ba_size, ← ba_size]

/-- A text's bytes behind a row: in its own room, or in a new one. -/
theorem app_str (W : World) (v : Value) (n : Nat) (xs : List Value) (hrow : Row W 5 1 v n xs) (t : ByteArray) (h0 : 0 < t.size) (hn : n + t.size ≤ 1099511627776) :
    ∃ v1 w1, (Builtin.append_ #[50, 9] 50 #[v, .string t]).run Tryz.prog W = .ok v1 w1 ∧ Row w1 5 1 v1 (n + t.size) (xs ++ Lib.strCells t) ∧ Upd (fun k => v.ownBlock = some k) W w1 ∧ Fresh W v v1 := by
  obtain ⟨i0, hi, hz0, hz1, hz2⟩ := info_parts infoU8
  obtain ⟨v1, w1, hr, hown, hg, -⟩ := Lib.run_append_own_string (P := Tryz.prog) W 0 50 9 50 5 i0 Tryz.underlying50 Tryz.underlying9 hi hz0 hz1 hz2 v n xs hrow t (by unfold maxLen; omega) (by omega) (Nat.zero_le _)
  refine ⟨v1, w1, hr, hown, (Upd.refl _ W).grown hg (fun i e _ => e), ?_⟩
  have new : ∀ n c w2, (Builtin.append_ #[50, 9] 50 #[v, .string t]).run Tryz.prog W = .ok (.slice (some ⟨W.heap.size, 0, none⟩) n c) w2 → Fresh W v v1 := fun n c w2 e => by
    rw [hr] at e
    simp only [Result.ok.injEq] at e
    rw [e.1]
    intro g hgg
    simp [Value.ownBlock] at hgg
    exact .inr (by omega)
  rcases hrow.2 with ⟨rfl, rfl⟩ | ⟨g, cap, cur, rfl, hbg, hgg, hnc, hcm, hcs, htake⟩
  · exact new _ _ _ (run_append_nil_string (P := Tryz.prog) W 50 9 50 5 i0 (.int .u8 0) Tryz.underlying50 Tryz.underlying9 hi hz0 t h0 (by omega) (by rw [hz2]; omega))
  · by_cases hroom : n + t.size ≤ cap
    · have e := Lib.run_append_room_string (P := Tryz.prog) W 50 9 50 5 i0 Tryz.underlying50 Tryz.underlying9 hi hz1 g n cap cur hgg t hroom (by omega)
      rw [hr] at e
      simp only [Result.ok.injEq] at e
      rw [e.1]
      exact fun k hk => .inl hk
    · have holds : ∀ j u, xs[j]? = some u → W.cell? ((⟨g, 0, none⟩ : Addr).add j) = some u := World.ownsRow.cells hrow (g := g) rfl
      exact new _ _ _ (Lib.run_append_grow_string (P := Tryz.prog) W 50 9 50 5 i0 (.int .u8 0) Tryz.underlying50 Tryz.underlying9 hi hz0 ⟨g, 0, none⟩ n cap xs (by rw [hz1]; exact hrow.1) holds t (by omega) (by omega) (by rw [hz2]; exact growslice_fits (by omega) (by omega)))

theorem wpList_append_run2 {P : Program} {w : World} {ops : Array Oper} {rest : List Oper} {o : Oper} {a : Act} {Q : Exit → Act → World → Prop} (hgd : o.guard = none) (s x : Operand) (t t2 : TypeId)
    (ho : o.op = .call { callee := .builtin .append, args := #[s, x], argTypes := #[t, t2] }) (u y v' : Value) (w' : World) (hs : a.eval s = u) (hx : a.eval x = y) (hr : (Builtin.append_ #[t, t2] o.type #[u, y]).run P w = .ok v' w')
    (h : wpList P ops Q rest (a.put o.dst v') w') : wpList P ops Q (o :: rest) a w := by
  refine wpList_plain hgd fun K hK => ?_
  unfold Oper.wp execOp
  simp only [ho, resolve, invoke, builtin, Sem.run_bind, Sem.run_pure, Result.andThen_ok, List.map_toArray, List.map_cons, List.map_nil, hs, hx, hr]
  exact hK _ _ h

set_option maxRecDepth 100000 in
set_option maxHeartbeats 1000000 in
theorem hrWrite (H : Nat) (x : RefV) (T : RefS) (D : ByteArray) (r : RecD) (w : World) (hr : HRep w H x T D) (hd : D.size ≤ 1048576) (hs : Small r) :
    Calls Tryz.prog 81 #[.pointer (some ⟨H, 0, none⟩), recV r] w fun e w' => e = .returned (.tuple #[]) ∧ HStep w H x w' T (D ++ encM r) := by
  obtain ⟨i0, hi, hz0, hz1, hz2⟩ := info_parts infoU8
  have HR : Hid (HRep w H x T D) := hr
  have hH := hr.cells.lt
  clear hr
  have hsz := enc_size r hs.text
  go_enter Tryz.func81, Tryz.ntmps81
  go_wp2_with fail
  refine (recWrite r _ hs).mono ?_
  rintro e w1 ⟨rfl, hb1⟩
  have HB1 : Hid (Below w.heap.size w w1) := (below_one _ _).trans (hb1.mono (by simp))
  have HR1 : Hid (HRep w1 H x T D) := HR.out.below HB1.out
  have k1 := HR1.out.cells.done
  have hf1 := HR1.out.cells.free 1
  have hown := HR1.out.done
  have HAP : Hid (∀ g, x.doneV.ownBlock = some g → g ≠ H) := HR1.out.apart.1
  have hH1 := HR1.out.cells.lt
  clear hb1
  have HX : Hid (Lib.strCells D ++ Lib.strCells (encM r) = Lib.strCells (D ++ encM r)) := disk_app _ _
  have HY : Hid ((D ++ encM r).size = D.size + (encM r).size) := ba_size_app _ _
  have hle : (encM r).size ≤ 42 := by omega
  have hpo : 0 < (encM r).size := by omega
  clear hsz
  generalize hen : encM r = t at *
  have HEN : Hid (encM r = t) := hen
  clear hen
  obtain ⟨v', w2, hrun, hown', hu, hfr⟩ := app_str w1 x.doneV D.size (Lib.strCells D) hown t (by omega) (by omega)
  have HU : Hid (Upd (fun k => x.doneV.ownBlock = some k) w1 w2) := hu
  have HO : Hid (Row w2 5 1 v' (D ++ t).size (Lib.strCells (D ++ t))) := by rw [HY.out, ← HX.out]; exact hown'
  have k2 : w2.cell? ⟨H, 1, none⟩ = some x.doneV := HU.out.cell k1 (fun e => HAP.out H e rfl)
  have hf2 : w2.frozen? ⟨H, 1, none⟩ = false := (HU.out.frozen hH1 (fun e => HAP.out H e rfl)).trans hf1
  clear hown hu
  have HF : Hid (Fresh w1 x.doneV v') := hfr
  obtain ⟨a1, c1, rfl, -, -, -⟩ := Row.form hown'
  clear hown' hfr
  go_wp2_with (first | (at_builtin; refine wpList_append_run2 rfl _ _ 50 9 rfl _ _ _ _ rfl rfl hrun ?_))
  clear k1 hf1
  go_wp2_with fail
  go_end0
  exact ⟨rfl, by rw [HEN.out]; exact HStep.then (Upd.of_below HB1.out) (fun _ hk => .inl hk) (HR1.out.setDone HU.out HO.out HF.out)⟩
end Go.Proofs.YtmjdndhfmfjbiaaGreat

/-
  THE BROKER, walked: what is sent.
-/
namespace Go.Proofs.YtmjdndhfmfjbiaaGreat
open Go.RowKit
attribute [local go_sem ↓] Go.wp_at_zero Go.wp_at_succ appSem_eq

/-- A client is given a message. -/
def recvM (T : RefS) (a : Nat) (q : SentD) : RefS := if 10 ≤ (T.que a).length then { T with lost := setAt T.lost a (T.lost a + 1) } else { T with que := setAt T.que a (T.que a ++ [q]) }

set_option maxRecDepth 100000 in
set_option maxHeartbeats 4000000 in
theorem hrReceive (H : Nat) (x : RefV) (T : RefS) (D : ByteArray) (a : Nat) (q : SentD) (w : World) (hr : HRep w H x T D) (ha : a < 8) (hl : 0 ≤ T.lost a ∧ T.lost a ≤ 1099511627776) (hq : (T.que a).length ≤ 1048576) :
    Calls Tryz.prog 111 #[.pointer (some ⟨H, 4 + a * 3, none⟩), msgV q] w fun e w' => e = .returned (.tuple #[]) ∧ HStep w H x w' (recvM T a q) D := by
  obtain ⟨i0, hi, hz0, hz1, hz2⟩ := info_parts infoMsg
  have HR : Hid (HRep w H x T D) := hr
  have hH := hr.cells.lt
  clear hr
  obtain ⟨aq, cq, hvq, q3, q4, -⟩ := (HR.out.que a ha).form
  unfold maxLen at q4
  have cque := HR.out.cells.que a ha
  rw [hvq] at cque
  have clost := HR.out.cells.lost a ha
  by_cases h10 : 10 ≤ (T.que a).length
  · have HE : Hid (recvM T a q = { T with lost := setAt T.lost a (T.lost a + 1) }) := if_pos h10
    have hfr := HR.out.cells.free (4 + a * 3 + 2)
    go_enter Tryz.func111, Tryz.ntmps111
    go_wp2_with fail
    exact bodyPost_ret (results_none rfl _ _ _) rfl ⟨rfl, by rw [HE.out]; exact (HR.out.setLost ha _).below (below_one _ _)⟩
  · have HE : Hid (recvM T a q = { T with que := setAt T.que a (T.que a ++ [q]) }) := if_neg h10
    have hfr := HR.out.cells.free (4 + a * 3 + 1)
    have hbA : Below w.heap.size w (w.alloc (Obj.cells #[.int .i64 q.number, .string q.topic, .int .i64 q.value, .int .i64 q.life, .int .i64 q.sentAt] 117)) := below_one _ _
    have RA : Hid (HRep (w.alloc (Obj.cells #[.int .i64 q.number, .string q.topic, .int .i64 q.value, .int .i64 q.life, .int .i64 q.sentAt] 117)) H x T D) := HR.out.below hbA
    have hrow : Hid (Row (w.alloc (Obj.cells #[.int .i64 q.number, .string q.topic, .int .i64 q.value, .int .i64 q.life, .int .i64 q.sentAt] 117)) 117 5 (.slice aq (T.que a).length cq) (T.que a).length ((T.que a).flatMap msgCells)) := by
      have := RA.out.que a ha
      rw [hvq] at this
      exact this
    have hqB : (x.queV a).ownBlock ≠ some H := fun e => (RA.out.apart.2.2.2.1 a H ha e rfl)
    rw [hvq] at hqB
    have HBA : Hid (Below w.heap.size w (w.alloc (Obj.cells #[.int .i64 q.number, .string q.topic, .int .i64 q.value, .int .i64 q.life, .int .i64 q.sentAt] 117))) := hbA
    obtain ⟨v1, w1, hrun, hown1, hgrow, -, hat⟩ := run_append_own_at (P := Tryz.prog) ((w.alloc (Obj.cells #[.int .i64 q.number, .string q.topic, .int .i64 q.value, .int .i64 q.life, .int .i64 q.sentAt] 117)).alloc (Obj.cells #[.int .i64 q.number, .string q.topic, .int .i64 q.value, .int .i64 q.life, .int .i64 q.sentAt] 117)).drew 0 52 52 117 i0 _ 5 48 Tryz.underlying52 hi hz0 hz1 hz2 rfl (by omega)
      (.slice aq (T.que a).length cq) (T.que a).length _ ((hrow.out.alloc _).drew) ⟨w.heap.size + 1, 0, none⟩ 1 1 (msgCells q) rfl (World.news_of_block (cs := (msgCells q).toArray) (t := 117) (fr := (0, 0)) (by have h := heap_alloc_new (w.alloc (Obj.cells #[.int .i64 q.number, .string q.topic, .int .i64 q.value, .int .i64 q.life, .int .i64 q.sentAt] 117)) (Obj.cells #[.int .i64 q.number, .string q.topic, .int .i64 q.value, .int .i64 q.life, .int .i64 q.sentAt] 117); rw [show (w.alloc (Obj.cells #[.int .i64 q.number, .string q.topic, .int .i64 q.value, .int .i64 q.life, .int .i64 q.sentAt] 117)).heap.size = w.heap.size + 1 from by simp] at h; exact h)) (msg_one _)
      (by unfold maxLen; omega) (by omega) (by omega)
    rw [appSem_eq] at hrun
    have hw1 : w1.cell? ⟨H, 4 + a * 3 + 1, none⟩ = some (.slice aq (T.que a).length cq) := (hgrow.cell_far _ (by simp; omega) (Ne.symm hqB)).trans ((World.cell?_alloc_past _ _ _ (by simp; omega)).trans ((World.cell?_alloc_past _ _ _ hH).trans cque))
    have hf1 : w1.frozen? ⟨H, 4 + a * 3 + 1, none⟩ = false := (hgrow.frozen_far _ (by simp; omega) (Ne.symm hqB)).trans ((World.frozen?_alloc_past _ _ _ (by simp; omega)).trans ((World.frozen?_alloc_past _ _ _ hH).trans hfr))
    obtain ⟨a1, c1, rfl, -, -, -⟩ := Row.form hown1
    have HO1 : Hid (Row w1 117 5 (.slice a1 ((T.que a).length + 1) c1) ((T.que a).length + 1) ((T.que a).flatMap msgCells ++ msgCells q)) := hown1
    have HU1 : Hid (Upd (fun k => (x.queV a).ownBlock = some k) w w1) := by
      rw [hvq]; exact ((((Upd.refl _ w).alloc _).alloc _).drew).grown hgrow (fun i e _ => e)
    have HF1 : Hid (Fresh w (x.queV a) (.slice a1 ((T.que a).length + 1) c1)) := by
      rw [hvq]
      intro g hg
      rcases hat with h | h
      · exact .inl (h.symm.trans hg)
      · rw [h] at hg
        simp at hg
        exact .inr (by omega)
    clear hown1 hgrow hat hbA
    go_enter Tryz.func111, Tryz.ntmps111
    go_wp2_with fail
    go_region
    all_goals go_wp2_with fail
    go_end0
    exact ⟨rfl, by rw [HE.out]; exact HR.out.setQue ha (l := T.que a ++ [q]) HU1.out (by simpa using HO1.out) HF1.out⟩
end Go.Proofs.YtmjdndhfmfjbiaaGreat
