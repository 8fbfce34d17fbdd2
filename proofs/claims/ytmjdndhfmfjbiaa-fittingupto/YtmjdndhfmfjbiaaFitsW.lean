import Derived.Test.YtmjdndhfmfjbiaaTopW
namespace Go.Proofs.Ytmjdndhfmfjbiaa
open Go.RowKit

theorem along_nil (f t : List ByteArray) (k : Nat) (hf : f.length ≤ k) (hk : k ≤ t.length) (hk2 : k ≤ f.length) : M.alongM (f.drop k) (t.drop k) = ((f.length : Int) == (t.length : Int)) := by
  rw [List.drop_of_length_le hf, M.alongM, Bool.eq_iff_iff]
  simp
  omega
theorem along_short (f t : List ByteArray) (k : Nat) (x : ByteArray) (h : f[k]? = some x) (ht : t.length ≤ k) : M.alongM (f.drop k) (t.drop k) = (x.toList == [35]) := by
  obtain ⟨hk, rfl⟩ := List.getElem?_eq_some_iff.1 h
  rw [List.drop_of_length_le ht, List.drop_eq_getElem_cons hk, M.alongM]
theorem along_step (f t : List ByteArray) (k : Nat) (x y : ByteArray) (h : f[k]? = some x) (ht : t[k]? = some y) :
    M.alongM (f.drop k) (t.drop k) = ((x.toList == [35]) || (((x.toList == [43]) || (x.toList == y.toList)) && M.alongM (f.drop (k + 1)) (t.drop (k + 1)))) := by
  obtain ⟨hk, rfl⟩ := List.getElem?_eq_some_iff.1 h
  obtain ⟨hk', rfl⟩ := List.getElem?_eq_some_iff.1 ht
  rw [List.drop_eq_getElem_cons hk, List.drop_eq_getElem_cons hk', M.alongM]

theorem strs_cell {w : World} {g : Nat} {xs : List ByteArray} (h : StrsAt w (some ⟨g, 0, none⟩) xs) {k : Nat} {x : ByteArray} (hx : xs[k]? = some x) : w.cell? ⟨g, k, none⟩ = some (.string x) := by
  obtain ⟨b, o, e, hc⟩ := h k x hx
  simp only [Option.some.injEq, Addr.mk.injEq] at e
  obtain ⟨rfl, rfl, -⟩ := e
  simpa using hc

set_option maxRecDepth 100000 in
set_option maxHeartbeats 1000000 in
theorem topFits (f t : ByteArray) (w : World) (hf : f.size ≤ 1048576) (ht : t.size ≤ 1048576) :
    Calls Try.prog 28 #[.string f, .string t] w fun e w' => e = .returned (.bool (M.alongM (M.wordsM f) (M.wordsM t))) ∧ Below w.heap.size w w' := by
  go_enter Try.func28, Try.ntmps28
  go_wp2_with fail
  refine (topWordsE f _ hf).mono ?_
  rintro e w1 ⟨g1, c1, rfl, a1, a2, a3, a4⟩
  go_wp2_with fail
  refine (topWordsE t _ ht).mono ?_
  rintro e w2 ⟨g2, c2, rfl, b1, b2, b3, b4⟩
  have hl1 := M.wordsM_len f
  have hl2 := M.wordsM_len t
  have HBel : Hid (Below w.heap.size w w2) := a4.trans (b4.mono a4.size)
  have A3 : Hid _ := a3.below b4
  have B3 : Hid _ := b3
  clear a3 b3 a4 b4
  generalize hfs : M.wordsM f = fs at *
  generalize hts : M.wordsM t = ts at *
  have HV : Hid (M.alongM (M.wordsM f) (M.wordsM t) = M.alongM fs ts) := by subst hfs hts; exact rfl
  clear hfs hts
  go_wp2_with fail
  go_loopw [7] (fun i wr => ∃ k : Nat, k ≤ fs.length ∧ k ≤ ts.length ∧ i = .int .i64 k ∧ M.alongM fs ts = M.alongM (fs.drop k) (ts.drop k) ∧ ∃ n, wr = w2.drewN n) (fun i _ => fs.length - (intOf i).toNat)
  case atStart => exact ⟨0, Nat.zero_le _, Nat.zero_le _, rfl, rfl, 0, rfl⟩
  case round =>
    obtain ⟨k, hk, hk2, rfl, hl, n, rfl⟩ := hrel
    have HL : Hid _ := hl
    clear hl
    by_cases hlt : k < fs.length
    · obtain ⟨x, hx⟩ : ∃ x, fs[k]? = some x := ⟨_, List.getElem?_eq_getElem hlt⟩
      have hc : w2.cell? ⟨g1, k, none⟩ = some (.string x) := strs_cell A3.out hx
      by_cases hlt2 : k < ts.length
      · obtain ⟨y, hy⟩ : ∃ y, ts[k]? = some y := ⟨_, List.getElem?_eq_getElem hlt2⟩
        have hd : w2.cell? ⟨g2, k, none⟩ = some (.string y) := strs_cell B3.out hy
        have HS : Hid _ := along_step fs ts k x y hx hy
        clear hx hy
        cases h35 : (x.toList == [35])
        · cases h43 : (x.toList == [43])
          · cases heq : (x.toList == y.toList)
            · go_wp2_with fail
              go_quiet (fail)
              go_wp2_with fail
              go_ret
              exact ⟨ret_bool (by rw [HV.out, HL.out, HS.out]; simp [h35, h43, heq]), HBel.out.trans ⟨rfl, rfl, rfl, Nat.le_refl _, fun _ _ => rfl⟩⟩
            · go_wp2_with fail
              go_quiet (fail)
              go_wp2_with fail
              go_roundw
              case rel => exact ⟨k + 1, by omega, by omega, by go_num, by rw [HL.out, HS.out]; simp [h35, h43, heq], _, rfl⟩
              case measure => simp [intOf]; omega
          · go_wp2_with fail
            go_quiet (fail)
            go_wp2_with fail
            go_roundw
            case rel => exact ⟨k + 1, by omega, by omega, by go_num, by rw [HL.out, HS.out]; simp [h35, h43], _, rfl⟩
            case measure => simp [intOf]; omega
        · go_wp2_with fail
          go_ret
          exact ⟨ret_bool (by rw [HV.out, HL.out, HS.out]; simp [h35]), HBel.out.trans ⟨rfl, rfl, rfl, Nat.le_refl _, fun _ _ => rfl⟩⟩
      · have HS : Hid _ := along_short fs ts k x hx (by omega)
        clear hx
        cases h35 : (x.toList == [35])
        all_goals
          go_wp2_with fail
          go_ret
          exact ⟨ret_bool (by rw [HV.out, HL.out, HS.out]; simp [h35]), HBel.out.trans ⟨rfl, rfl, rfl, Nat.le_refl _, fun _ _ => rfl⟩⟩
    · have HS : Hid _ := along_nil fs ts k (by omega) hk2 hk
      go_wp2_with fail
      go_ret
      exact ⟨ret_bool (by rw [HV.out, HL.out, HS.out]), HBel.out.trans ⟨rfl, rfl, rfl, Nat.le_refl _, fun _ _ => rfl⟩⟩
end Go.Proofs.Ytmjdndhfmfjbiaa
