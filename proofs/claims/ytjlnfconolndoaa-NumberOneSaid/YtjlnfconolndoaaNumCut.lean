/- Contracts of the closure that cuts a mark off, of whole. -/
import Derived.Test.YtjlnfconolndoaaNumLeaf
namespace Go.Proofs.Ytjlnfconolndoaa
open Go.ChangeShapes Go.WideShapes Go.ChangeAt Go.RowKit
set_option linter.unusedVariables false

/-- a string in a cell of its own -/
def Boxed (w : World) (S : Nat) (xs : List Int) : Prop := w.heap[S]? = some (.cells #[.string (strOfNums xs)] 9 (0, 0)) ∧ bytesOk xs ∧ xs.length ≤ 1000

theorem cutL_len (xs : List Int) (c : Int) : (cutL xs c).length ≤ xs.length := by
  unfold cutL
  split
  · simp
  · exact Nat.le_refl _
theorem cutL_ok {xs : List Int} (h : bytesOk xs) (c : Int) : bytesOk (cutL xs c) := by
  unfold cutL
  split
  · exact h.tail
  · exact h

theorem cut1_any (c : Int) (xs : List Int) (S B : Nat) (w : World) (hB : B ≤ S) (h : Boxed w S xs) (hc : 0 ≤ c ∧ c ≤ 255) :
    Calls Try.prog 16 #[.int .u8 c, .pointer (some ⟨S, 0, none⟩)] w fun e w' => e = .returned (.bool (isC xs c)) ∧ Boxed w' S (cutL xs c) ∧ Below B w w' := by
  have hs := str_size xs
  have hbx := Lib.hid h
  obtain ⟨h, hx, hn⟩ := h
  have hx' := Lib.hid (cutL_ok hx c)
  have hn' := Lib.hid (Nat.le_trans (cutL_len xs c) hn)
  have hcell := cell_of_one h
  have hfree := free_of_one h
  have hlt := lt_of_block h
  have h' := Lib.hid h
  cases xs with
  | nil =>
    have hE : ((strOfNums []).toList == []) = true := by rw [str_list]; rfl
    clear h
    go_enter Try.func16, Try.ntmps16
    go_wp2
    go_ret
    exact ⟨rfl, ⟨h'.out, hx'.out, hn'.out⟩, Below.refl _ _⟩
  | cons x cs =>
    have hxb := hx x (List.mem_cons_self ..)
    have hat := fun w => str_at hx (k := 0) (by simp) w
    have hat2 : ∀ w, (Instr.index 9 (.string (strOfNums (x :: cs))) (.int .i64 0)).run Try.prog w = .ok (.int .u8 x) w := hat
    have hE : ((strOfNums (x :: cs)).toList == []) = false := by rw [str_list]; rfl
    have hfrom := str_from (x :: cs)
    rw [← hs, List.tail_cons] at hfrom
    have hs1 : 1 ≤ (strOfNums (x :: cs)).size := by rw [hs]; simp
    have hs2 : (strOfNums (x :: cs)).size ≤ 1000 := by rw [hs]; exact hn
    have hF := Lib.hid hfrom
    generalize strOfNums (x :: cs) = s at *
    clear hat h hs hn hx hfrom
    by_cases h1 : x = c
    · subst h1
      go_enter Try.func16, Try.ntmps16
      go_wp2
      go_ret
      refine ⟨by simp [isC], ⟨?_, hx'.out, hn'.out⟩, (Below.refl _ _).setCell (by simpa using hB) _⟩
      have e : cutL (x :: cs) x = cs := by simp [cutL, isC]
      rw [e, ← hF.out]
      exact one_setCell h'.out
    · have e : isC (x :: cs) c = false := by simpa [isC] using h1
      have hne : (x != c) = true := by simpa using h1
      go_enter Try.func16, Try.ntmps16
      go_wp2
      go_ret
      refine ⟨by rw [e]; rfl, ⟨?_, hx'.out, hn'.out⟩, Below.refl _ _⟩
      rw [cutL, if_neg (by simp [e])]
      exact hbx.out.1

theorem wbd (n : Int) : -9223372036854775808 ≤ wrap64 n ∧ wrap64 n ≤ 9223372036854775807 := by unfold wrap64; omega
theorem drop_cons {xs : List Int} {k : Nat} (h : k < xs.length) : xs.drop k = xs.getD k 0 :: xs.drop (k + 1) := by
  rw [List.drop_eq_getElem_cons h]
  simp [List.getD, h]

theorem whole_any (xs : List Int) (b : Int) (w : World) (hx : bytesOk xs) (hn : xs.length ≤ 1000) (hb : -9223372036854775808 ≤ b ∧ b ≤ 9223372036854775807) :
    Calls Try.prog 17 #[.string (strOfNums xs), .int .i64 b] w fun e w' => e = .returned (.tuple #[.int .i64 (wholeL xs b).1, .bool (wholeL xs b).2]) ∧ w = w' := by
  have hs := str_size xs
  by_cases h0 : xs = []
  · have hE : ((strOfNums xs).toList == []) = true := by subst h0; rw [str_list]; rfl
    have e : Hid (wholeL xs b = (0, false)) := by show wholeL xs b = _; rw [wholeL, if_pos (.inl h0)]
    rw [e.out]
    clear h0
    go_enter Try.func17, Try.ntmps17
    go_wp2
    go_ret2
    exact ⟨rfl, rfl⟩
  · have hE : ((strOfNums xs).toList == []) = false := by
      cases xs with
      | nil => exact absurd rfl h0
      | cons x xs => rw [str_list]; rfl
    cases hB : isB b with
    | false =>
      have e : Hid (wholeL xs b = (0, false)) := by show wholeL xs b = _; rw [wholeL, if_pos (.inr hB)]
      rw [e.out]
      clear h0
      go_enter Try.func17, Try.ntmps17
      go_wp2_with (go_at_call 13; (with_reducible refine (isBase_any _ _ hb).mono ?_); rintro e w' ⟨rfl, rfl⟩)
      go_ret2
      exact ⟨rfl, rfl⟩
    | true =>
      have e : Hid (wholeL xs b = rd b 0 xs) := by show wholeL xs b = _; rw [wholeL, if_neg (by simp [h0, hB])]
      have hbb := isB_bd hB
      rw [e.out]
      clear h0
      have hx' := Lib.hid hx
      obtain ⟨n, hn'⟩ : ∃ n, n = xs.length := ⟨_, rfl⟩
      rw [← hn'] at hs hn
      have hnn := Lib.hid hn'
      have hat := Lib.hid (fun k (hk : k < xs.length) => str_at hx hk)
      generalize strOfNums xs = s at *
      clear hn' hx
      go_enter Try.func17, Try.ntmps17
      go_wp2_with (go_at_call 13; (with_reducible refine (isBase_any _ _ hb).mono ?_); rintro e w' ⟨rfl, rfl⟩)
      go_loop [6, 18] (fun u i => ∃ k : Nat, ∃ v : Int, k ≤ n ∧ i = .int .i64 k ∧ u = .int .i64 v ∧ (-9223372036854775808 ≤ v ∧ v ≤ 9223372036854775807) ∧ rd b 0 xs = rd b v (xs.drop k)) (fun _ i => n - (intOf i).toNat)
      case atStart => exact ⟨0, 0, by omega, rfl, rfl, by decide, rfl⟩
      case round =>
        obtain ⟨k, v, hk, rfl, rfl, hv, hrd⟩ := hrel
        by_cases hkn : k < n
        · have hkx : k < xs.length := by have := hnn.out; omega
          have hxk := hx'.out.get k
          have hat1 := hat.out k hkx
          rw [drop_cons hkx] at hrd
          generalize xs.getD k 0 = x at *
          have hf := figI_bd x
          obtain ⟨d, hd⟩ : ∃ d, d = figI x := ⟨_, rfl⟩
          have hfig := Lib.hid (fun w => figure_any x w hxk)
          rw [← hd] at hfig hf
          by_cases hdb : b ≤ d
          · rw [rd_no (by omega)] at hrd
            have hrd' := Lib.hid hrd
            clear hrd hd hkx
            go_wp2_with (go_at_call 20; (with_reducible refine (hfig.out _).mono ?_); rintro e w' ⟨rfl, rfl⟩)
            go_ret2
            rw [hrd'.out]
            exact ⟨rfl, rfl⟩
          · rw [rd_on (by omega), ← hd] at hrd
            have hrd' := Lib.hid hrd
            clear hrd hd hkx
            go_wp2_with (go_at_call 20; (with_reducible refine (hfig.out _).mono ?_); rintro e w' ⟨rfl, rfl⟩)
            exact ⟨⟨k + 1, _, by omega, by go_num, rfl, wbd _, hrd'.out⟩, by simp only [intOf]; omega⟩
        · obtain rfl : k = n := by omega
          rw [hnn.out, List.drop_length, rd_end] at hrd
          have hrd' := Lib.hid hrd
          clear hrd
          go_wp2
          go_ret2
          rw [hrd'.out]
          exact ⟨rfl, rfl⟩
end Go.Proofs.Ytjlnfconolndoaa
