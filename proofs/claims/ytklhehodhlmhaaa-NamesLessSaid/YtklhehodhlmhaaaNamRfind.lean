/- Contracts of the document's Find and Few. -/
import Derived.Test.YtklhehodhlmhaaaNamFind
namespace Go.Proofs.Ytklhehodhlmhaaa
open Go.ChangeShapes Go.WideShapes Go.RowKit
set_option linter.unusedVariables false

theorem rfind_any (a : Option Addr) (n c : Nat) (ws : List Wd) (nm : List Int) (w : World) (h : Ws w a n c ws) (hw : ∀ x ∈ ws, x.ok 1000) (hn : n ≤ 1000) (hx : bytesOk nm) (hl : nm.length ≤ 1000) :
    Calls Try.prog 15 #[.slice a n c, .string (strOfNums nm)] w fun e w' => e = .returned (.int .i64 (fnd ws nm)) ∧ Below w.heap.size w w' := by
  have hb := Sz.bd h
  have hF := Lib.hid (fun W => rfold_any nm W hx hl)
  have hlen := Lib.hid h.len
  have hh := Lib.hid h
  have hff := Lib.hid (fold_ok hx)
  have hww := Lib.hid hw
  have e0 : Hid (fnd ws nm = fndK ws (fold nm) n) := Lib.hid (by rw [← h.len]; rfl)
  have hBe := Lib.hid (fun (x : List Int) (hx' : bytesOk x) => str_beq (fold_ok hx') hff.out)
  generalize strOfNums (fold nm) = z at *
  generalize fold nm = f at *
  generalize strOfNums nm = s at *
  clear h hw hx hl
  go_enter Try.func15, Try.ntmps15
  go_wp2
  go_loopw [5] (fun i wr => ∃ k : Nat, k ≤ n ∧ i = .int .i64 ((k : Int) - 1) ∧ Hid (fnd ws nm = fndK ws f k) ∧ Hid (Below w.heap.size w wr)) (fun i _ => (intOf i + 1).toNat)
  case atStart => exact ⟨n, Nat.le_refl _, rfl, e0, Lib.hid (Below.refl _ _)⟩
  case round =>
    obtain ⟨k, hk, rfl, e1, hB⟩ := hrel
    rcases k with _ | j
    · go_wp2
      go_ret
      rw [e1.out]
      exact ⟨rfl, hB.out⟩
    · rw [show ((j + 1 : Nat) : Int) - 1 = (j : Int) by omega]
      obtain ⟨b, o, rfl, hr⟩ := (hh.out.below hB.out).at (i := j) (by omega)
      have hok : (ws.getD j default).ok 1000 := hww.out _ (by have := hlen.out; simp [List.getD, show j < ws.length by omega])
      obtain ⟨q0, q1, q2, q3⟩ := word_cells hr
      have hC := Lib.hid (fun W => rfold_any (ws.getD j default).nm W hok.1 hok.2)
      have hbe := hBe.out _ hok.1
      cases hhid : (ws.getD j default).hid with
      | true =>
        have hno : hit (ws.getD j default) f = false := by unfold hit; rw [hhid]; rfl
        have e2 := Lib.hid (e1.out.trans (fndK_no hno))
        rw [hhid] at q3
        clear hok hr hhid hno hbe
        generalize (ws.getD j default) = x at *
        go_wp2
        exact ⟨⟨j, by omega, rfl, e2, hB⟩, by simp only [intOf]; omega⟩
      | false =>
        rw [hhid] at q3
        by_cases hq : fold (ws.getD j default).nm = f
        · have hyes : hit (ws.getD j default) f = true := by unfold hit; rw [hhid, hq]; simp
          have e2 := Lib.hid (e1.out.trans (fndK_yes hyes))
          rw [decide_eq_true hq] at hbe
          clear hok hr hhid hyes hq
          generalize strOfNums (fold (ws.getD j default).nm) = y at *
          generalize strOfNums (ws.getD j default).nm = t at *
          clear q1 q2
          go_wp2_with (first | (go_at_call 10; (with_reducible refine (hC.out _).mono ?_); rintro e w2 ⟨rfl, hb2⟩; replace hb2 := Lib.hid (hB.out.trans (hb2.mono hB.out.size))) | (go_at_call 10; (with_reducible refine (hF.out _).mono ?_); rintro e w3 ⟨rfl, hb3⟩; replace hb3 := Lib.hid (hb2.out.trans (hb3.mono hb2.out.size))))
          go_ret
          rw [e2.out]
          exact ⟨rfl, hb3.out⟩
        · have hno : hit (ws.getD j default) f = false := by unfold hit; rw [decide_eq_false hq]; simp
          have e2 := Lib.hid (e1.out.trans (fndK_no hno))
          rw [decide_eq_false hq] at hbe
          clear hok hr hhid hno hq
          generalize strOfNums (fold (ws.getD j default).nm) = y at *
          generalize strOfNums (ws.getD j default).nm = t at *
          clear q1 q2
          go_wp2_with (first | (go_at_call 10; (with_reducible refine (hC.out _).mono ?_); rintro e w2 ⟨rfl, hb2⟩; replace hb2 := Lib.hid (hB.out.trans (hb2.mono hB.out.size))) | (go_at_call 10; (with_reducible refine (hF.out _).mono ?_); rintro e w3 ⟨rfl, hb3⟩; replace hb3 := Lib.hid (hb2.out.trans (hb3.mono hb2.out.size))))
          exact ⟨⟨j, by omega, rfl, e2, hb3⟩, by simp only [intOf]; omega⟩

/-- 30 words, of 60 bytes as a name, at most -/
def fewB (ws : List Wd) : Bool := decide ((∀ i, i < ws.length → i < 31 → (ws.getD i default).nm.length ≤ 60) ∧ ws.length ≤ 30)
theorem fewB_yes {ws : List Wd} (h : fewB ws = true) : ws.length ≤ 30 ∧ ∀ x ∈ ws, x.nm.length ≤ 60 := by
  obtain ⟨h1, h2⟩ := of_decide_eq_true h
  refine ⟨h2, fun x hx => ?_⟩
  obtain ⟨i, hi, rfl⟩ := List.getElem_of_mem hx
  have := h1 i hi (by omega)
  simpa [List.getD, hi] using this
theorem fewB_no {ws : List Wd} {i : Nat} (h1 : i < ws.length) (h2 : i < 31) (h3 : 60 < (ws.getD i default).nm.length) : fewB ws = false :=
  decide_eq_false fun h => by
    have := h.1 i h1 h2
    omega
theorem fewB_end {ws : List Wd} {n k : Nat} (hn : ws.length = n) (h1 : ∀ i, i < k → (ws.getD i default).nm.length ≤ 60) (h2 : k = n ∨ k = 31) : fewB ws = decide (n ≤ 30) := by
  unfold fewB
  rw [hn]
  by_cases h : n ≤ 30
  · rw [decide_eq_true h]
    exact decide_eq_true ⟨fun i hi _ => h1 i (by omega), h⟩
  · rw [decide_eq_false h]
    exact decide_eq_false fun hh => h hh.2

theorem few_any (a : Option Addr) (n c : Nat) (ws : List Wd) (w : World) (h : Ws w a n c ws) :
    Calls Try.prog 13 #[.slice a n c] w fun e w' => e = .returned (.bool (fewB ws)) ∧ w = w' := by
  have hb := Sz.bd h
  have hlen := Lib.hid h.len
  have hh := Lib.hid h
  clear h
  go_enter Try.func13, Try.ntmps13
  go_wp2
  go_loop [3] (fun i => ∃ k : Nat, k ≤ n ∧ k ≤ 31 ∧ i = .int .i64 k ∧ Hid (∀ i, i < k → (ws.getD i default).nm.length ≤ 60)) (fun i => 31 - (intOf i).toNat)
  case atStart => exact ⟨0, Nat.zero_le _, Nat.zero_le _, rfl, Lib.hid fun i hi => absurd hi (Nat.not_lt_zero i)⟩
  case round =>
    obtain ⟨k, hk, hk2, rfl, he⟩ := hrel
    by_cases h1 : k < n
    · by_cases h2 : k < 31
      · obtain ⟨b, o, rfl, hr⟩ := hh.out.at h1
        obtain ⟨q0, q1, q2, q3⟩ := word_cells hr
        have hs := str_size (ws.getD k default).nm
        by_cases h3 : 60 < (ws.getD k default).nm.length
        · have e2 := Lib.hid (fewB_no (by have := hlen.out; omega) h2 h3)
          clear hr q1 q2 q3
          generalize strOfNums (ws.getD k default).nm = t at *
          generalize (ws.getD k default).nm.length = m at *
          go_wp2
          go_ret
          rw [e2.out]
          exact ⟨rfl, rfl⟩
        · have e2 : Hid (∀ i, i < k + 1 → (ws.getD i default).nm.length ≤ 60) := Lib.hid fun i hi => by
            by_cases hik : i = k
            · subst hik
              omega
            · exact he.out i (by omega)
          clear hr q1 q2 q3
          generalize strOfNums (ws.getD k default).nm = t at *
          generalize (ws.getD k default).nm.length = m at *
          go_wp2
          exact ⟨⟨k + 1, by omega, by omega, by go_num, e2⟩, by simp only [intOf]; omega⟩
      · obtain rfl : k = 31 := by omega
        have e2 := Lib.hid (fewB_end hlen.out he.out (.inr rfl))
        clear he
        go_wp2
        go_ret
        rw [e2.out]
        exact ⟨by simp; omega, rfl⟩
    · obtain rfl : k = n := by omega
      have e2 := Lib.hid (fewB_end hlen.out he.out (.inl rfl))
      clear he
      go_wp2
      go_ret
      rw [e2.out]
      exact ⟨by simp; omega, rfl⟩
end Go.Proofs.Ytklhehodhlmhaaa
