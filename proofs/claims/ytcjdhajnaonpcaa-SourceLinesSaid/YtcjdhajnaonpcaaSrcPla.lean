/- Contracts of Place, the program's (a range over a string, valid UTF-8 or not) and the document's. -/
import Derived.Test.YtcjdhajnaonpcaaSrcUnt
import Derived.Laws.RangeAny
import Derived.LoopTactic
namespace Go.Proofs.Ytcjdhajnaonpcaa
open Go.ChangeShapes Go.WideShapes Go.RowKit
set_option linter.unusedVariables false

/-! ### a rune's bytes -/
theorem rune_stretch (s : ByteArray) (pos : Nat) (h : pos < s.size) (ha : 128 ≤ (s[pos]'h).toNat) : ∀ d, d < (Utf8.decode s pos).2 → pos + d < s.size ∧ 128 ≤ (s.get! (pos + d)).toNat := by
  have hn : ¬ (s[pos]'h).toNat < 128 := by omega
  have h0 : 128 ≤ (s.get! (pos + 0)).toNat := by rw [get_at s pos h]; exact ha
  simp only [Utf8.decode, get_at s pos h, hn, if_false]
  repeat' split
  all_goals intro d hd
  all_goals have hd4 : d = 0 ∨ d = 1 ∨ d = 2 ∨ d = 3 := by omega
  all_goals simp only [Bool.and_eq_true, decide_eq_true_eq, beq_iff_eq] at *
  all_goals rcases hd4 with rfl | rfl | rfl | rfl
  all_goals first | omega | exact ⟨h, h0⟩ | (refine ⟨?_, ?_⟩ <;> omega)
theorem str_byte {ys : List Int} (hy : bytesOk ys) {i : Nat} (hi : i < ys.length) : (((strOfNums ys).get! i).toNat : Int) = ys.getD i 0 := by
  have hz : i < (strOfNums ys).size := by rw [str_size]; exact hi
  have := get_at (strOfNums ys) i hz
  rw [Nat.add_zero] at this
  rw [this]
  exact str_get hy hi hz
/-- one step of a range over a string: a line feed, or a stretch without one -/
theorem rune_step {ys : List Int} (hy : bytesOk ys) {pos : Nat} (hp : pos < ys.length) :
    ((Utf8.decode (strOfNums ys) pos).1 = 10 ∧ (Utf8.decode (strOfNums ys) pos).2 = 1 ∧ ys.getD pos 0 = 10) ∨
    (((Utf8.decode (strOfNums ys) pos).1 : Int) ≠ 10 ∧ 1 ≤ (Utf8.decode (strOfNums ys) pos).2 ∧ pos + (Utf8.decode (strOfNums ys) pos).2 ≤ ys.length ∧ ∀ i, pos ≤ i → i < pos + (Utf8.decode (strOfNums ys) pos).2 → ¬ ys.getD i 0 = 10) := by
  have hz : pos < (strOfNums ys).size := by rw [str_size]; exact hp
  have hb := str_get hy hp hz
  by_cases ha : ((strOfNums ys)[pos]'hz).toNat < 128
  · rw [decode_ascii _ _ hz ha]
    by_cases h10 : ys.getD pos 0 = 10
    · exact .inl ⟨by show _ = 10; omega, rfl, h10⟩
    · refine .inr ⟨by show (_ : Int) ≠ 10; omega, Nat.le_refl _, hp, fun i h1 h2 => ?_⟩
      have h2 : i < pos + 1 := h2
      obtain rfl : i = pos := by omega
      exact h10
  · have hw := decode_high _ pos hz (by omega)
    have hst := rune_stretch _ pos hz (by omega)
    refine .inr ⟨by omega, hw.2, ?_, fun i h1 h2 => ?_⟩
    · have := (hst ((Utf8.decode (strOfNums ys) pos).2 - 1) (by omega)).1
      rw [str_size] at this
      omega
    · obtain ⟨d, rfl⟩ : ∃ d, i = pos + d := ⟨i - pos, by omega⟩
      have h3 := hst d (by omega)
      rw [str_size] at h3
      have := str_byte hy h3.1
      omega

theorem place_any (xs : List Int) (a : Int) (w : World) (hx : bytesOk xs) (hn : xs.length ≤ 1000) (ha : -9223372036854775808 ≤ a ∧ a ≤ 9223372036854775807) :
    Calls Try.prog 15 #[.string (strOfNums xs), .int .i64 a] w fun e w' =>
      e = .returned (.tuple #[.int .i64 (plc (xs.take (bdN xs.length a))).1, .int .i64 (plc (xs.take (bdN xs.length a))).2]) ∧ Below w.heap.size w w' := by
  have hb0 : Below w.heap.size w (w.alloc (cellOf xs)) := (Below.refl w.heap.size w).alloc (Nat.le_refl _) (cellOf xs)
  have hB := Lib.hid (bounds_any xs w)
  have hC := Lib.hid (bounded_any xs w.heap.size a _ (heap_alloc_new w (cellOf xs)) hn ha)
  generalize w.alloc (cellOf xs) = V at *
  obtain ⟨k, hk⟩ : ∃ k, k = bdN xs.length a := ⟨_, rfl⟩
  have hkn : k ≤ xs.length := hk ▸ bdN_le _ _
  rw [← hk] at hC ⊢
  have hcut := run_cutTo xs hkn
  rw [cutN_start] at hcut
  have hy : bytesOk (xs.take k) := hx.take k
  have hyl : (xs.take k).length = k := by simp; omega
  have hk1 : k ≤ 1000 := by omega
  generalize xs.take k = ys at *
  have hrs := Lib.hid (fun (pos : Nat) (hp : pos < ys.length) => rune_step hy hp)
  have hzs := str_size ys
  rw [hyl] at hzs
  replace hyl := Lib.hid hyl
  have hbi : Hid (∀ s pos, Below w.heap.size w (V.iter s pos)) := Lib.hid (fun s pos => hb0.alloc hb0.size _)
  generalize strOfNums ys = t at *
  generalize strOfNums xs = s at *
  clear hk hkn hn hx hb0 hy
  go_enter Try.func15, Try.ntmps15
  go_wp2_with (first | (go_at_call 18; (with_reducible refine hB.out.mono ?_); rintro e w' ⟨rfl, rfl⟩) | (go_at_call 21; (with_reducible refine hC.out.mono ?_); rintro e w' ⟨rfl, rfl⟩))
  go_loopw [7, 8] (fun l b wr => ∃ pos : Nat, ∃ lv bv : Int, pos ≤ k ∧ wr = V.iter t pos ∧ l = .int .i64 lv ∧ b = .int .i64 bv ∧ Hid (plc (ys.take pos) = (lv, (pos : Int) - bv + 1)) ∧ (1 ≤ lv ∧ lv ≤ pos + 1) ∧ (0 ≤ bv ∧ bv ≤ pos)) (fun _ _ wr => k - wr.iterPos V.heap.size)
  case atStart => exact ⟨0, 1, 0, Nat.zero_le _, rfl, rfl, rfl, Lib.hid rfl, by decide, by decide⟩
  case round =>
    obtain ⟨pos, lv, bv, hpk, rfl, rfl, rfl, hP, hl, hc⟩ := hrel
    by_cases hp : pos < k
    · have hnx : ∀ ty, (Instr.next (.pointer (some ⟨V.heap.size, 0, none⟩)) true ty).run Try.prog (V.iter t pos) = .ok (.tuple #[.bool true, .int .i64 pos, .int .i32 (Utf8.decode t pos).1]) (V.iter t (pos + (Utf8.decode t pos).2)) := fun ty => run_next_any V t pos ty (by rw [hzs]; exact hp)
      have hpy : pos < ys.length := by have := hyl.out; omega
      have hst := hrs.out pos hpy
      have hrb := decode_le t pos
      generalize (Utf8.decode t pos).1 = r at *
      generalize (Utf8.decode t pos).2 = d at *
      rcases hst with ⟨rfl, rfl, h10⟩ | ⟨hne, hd1, hdn, hfree⟩
      · have hP2 : Hid (plc (ys.take (pos + 1)) = (lv + 1, ((pos + 1 : Nat) : Int) - (pos + 1) + 1)) := by
          apply Lib.hid
          rw [plc_step hpy, hP.out, stp_yes h10]
          exact congrArg (Prod.mk (lv + 1)) (by omega)
        clear hP h10 hpy hrb
        go_wp2
        exact ⟨⟨pos + 1, _, _, by omega, rfl, by go_num, by go_num, hP2, by omega, by omega⟩, by simp; omega⟩
      · have hP2 : Hid (plc (ys.take (pos + d)) = (lv, ((pos + d : Nat) : Int) - bv + 1)) := by
          apply Lib.hid
          rw [plc_free d hdn hfree, hP.out]
          exact congrArg (Prod.mk lv) (by show (pos : Int) - bv + 1 + d = _; omega)
        have hdk : pos + d ≤ k := by have := hyl.out; omega
        have hneb : ((r : Int) == 10) = false := by simpa using hne
        clear hP hpy hfree hdn hne
        go_wp2
        exact ⟨⟨pos + d, _, _, hdk, rfl, rfl, rfl, hP2, by omega, by omega⟩, by simp; omega⟩
    · have hnx : ∀ ty, (Instr.next (.pointer (some ⟨V.heap.size, 0, none⟩)) true ty).run Try.prog (V.iter t pos) = .ok (.tuple #[.bool false]) (V.iter t pos) := fun ty => run_next_end V t pos ty (by rw [hzs]; exact hp)
      obtain rfl : pos = k := by omega
      have hP2 : Hid (plc ys = (lv, (pos : Int) - bv + 1)) := by
        apply Lib.hid
        rw [← hP.out, List.take_of_length_le (by have := hyl.out; omega)]
      clear hP
      go_wp2
      go_ret2
      rw [hP2.out]
      exact ⟨rfl, hbi.out _ _⟩

theorem rplace_any (xs : List Int) (a : Int) (w : World) (hx : bytesOk xs) (hn : xs.length ≤ 1000) (ha : -9223372036854775808 ≤ a ∧ a ≤ 9223372036854775807) :
    Calls Try.prog 16 #[.string (strOfNums xs), .int .i64 a] w fun e w' =>
      e = .returned (.tuple #[.int .i64 (plc (xs.take (bdN xs.length a))).1, .int .i64 (plc (xs.take (bdN xs.length a))).2]) ∧ w = w' := by
  have hC := Lib.hid (rbound_any xs a w hn ha)
  obtain ⟨k, hk⟩ : ∃ k, k = bdN xs.length a := ⟨_, rfl⟩
  have hkn : k ≤ xs.length := hk ▸ bdN_le _ _
  rw [← hk] at hC ⊢
  obtain ⟨n, hn'⟩ : ∃ n, n = xs.length := ⟨_, rfl⟩
  rw [← hn'] at hn hkn
  have hnn := Lib.hid hn'
  have hx' := Lib.hid hx
  have hat := Lib.hid (fun k (hk : k < xs.length) => str_at hx hk)
  generalize strOfNums xs = s at *
  clear hn' hx hk
  go_enter Try.func16, Try.ntmps16
  go_wp2
  go_loop [6, 7, 8] (fun l c i => ∃ j : Nat, ∃ lv cv : Int, j ≤ k ∧ l = .int .i64 lv ∧ c = .int .i64 cv ∧ i = .int .i64 j ∧ Hid (plc (xs.take j) = (lv, cv)) ∧ (1 ≤ lv ∧ lv ≤ j + 1) ∧ (1 ≤ cv ∧ cv ≤ j + 1)) (fun _ _ i => k - (intOf i).toNat)
  case atStart => exact ⟨0, 1, 1, Nat.zero_le _, rfl, rfl, rfl, Lib.hid rfl, by decide, by decide⟩
  case round =>
    obtain ⟨j, lv, cv, hj, rfl, rfl, rfl, hP, hl, hc⟩ := hrel
    by_cases hjk : j < k
    · have hjx : j < xs.length := by have := hnn.out; omega
      have hxb := hx'.out.get j
      have hat1 := hat.out j hjx
      by_cases hb : xs.getD j 0 = 10
      · have hP2 : Hid (plc (xs.take (j + 1)) = (lv + 1, 1)) := Lib.hid (by rw [plc_step hjx, hP.out, stp_yes hb])
        have hne : (xs.getD j 0 == 10) = true := by simpa using hb
        clear hP hb hjx
        generalize xs.getD j 0 = x at *
        go_wp2_with (go_at_call 17; (with_reducible refine hC.out.mono ?_); rintro e w' ⟨rfl, rfl⟩)
        exact ⟨⟨j + 1, _, _, by omega, by go_num, rfl, by go_num, hP2, by omega, by omega⟩, by simp only [intOf]; omega⟩
      · have hP2 : Hid (plc (xs.take (j + 1)) = (lv, cv + 1)) := Lib.hid (by rw [plc_step hjx, hP.out, stp_no hb])
        have hne : (xs.getD j 0 == 10) = false := by simpa using hb
        clear hP hb hjx
        generalize xs.getD j 0 = x at *
        go_wp2_with (go_at_call 17; (with_reducible refine hC.out.mono ?_); rintro e w' ⟨rfl, rfl⟩)
        exact ⟨⟨j + 1, _, _, by omega, rfl, by go_num, by go_num, hP2, by omega, by omega⟩, by simp only [intOf]; omega⟩
    · obtain rfl : j = k := by omega
      go_wp2_with (go_at_call 17; (with_reducible refine hC.out.mono ?_); rintro e w' ⟨rfl, rfl⟩)
      go_ret2
      rw [hP.out]
      exact ⟨rfl, rfl⟩
end Go.Proofs.Ytcjdhajnaonpcaa
