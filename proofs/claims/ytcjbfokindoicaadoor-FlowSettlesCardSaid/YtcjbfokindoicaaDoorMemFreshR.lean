/- The document's SetCell: its bytes lie in memory made since. -/
import Derived.Test.YtcjbfokindoicaaDoorMemRef
namespace Go.Proofs.YtcjbfokindoicaaDoor.Me
set_option maxRecDepth 100000
open Go.ChangeShapes Go.WideShapes Go.ChangeAt Go.RowKit
set_option linter.unusedVariables false

set_option maxHeartbeats 400000 in
theorem rsetCell_fresh (a : Option Addr) (n c : Nat) (xs : List Int) (p v : Int) (w : World) (h : Mem w a n c xs) (hn : n ≤ 140737488355328) (hp : -9223372036854775808 ≤ p ∧ p ≤ 9223372036854775807) (hv : -9223372036854775808 ≤ v ∧ v ≤ 9223372036854775807) (h1 : tC n p = 0) :
    Calls Tryd.prog 50 #[.slice a n c, .int .i64 p, .int .i64 v] w fun e w' => ∃ a' c', e = .returned (.tuple #[.slice a' (setC xs p v).length c', .int .i64 0]) ∧ Mem w' a' (setC xs p v).length c' (setC xs p v) ∧ Below w.heap.size w w' ∧ ∀ y, a' = some y → w.heap.size ≤ y.block := by
  have hb := h.bd.1
  have hcel := Lib.hid (rcell_any a n c xs p w h hp)
  have t0 : (tC n p != 0) = false := by rw [h1]; rfl
  obtain ⟨q1, q2, _⟩ := tC_in h1
  obtain ⟨q, rfl⟩ := Int.eq_ofNat_of_zero_le q1
  have hq : q + 8 ≤ n := by omega
  obtain ⟨g, cap, w2, happ, hO, hb2⟩ := app_u8 h hn
  have e2 : Hid (setC xs (q : Int) v = putN xs q v 8 ∧ tC n (q : Int) = 0 ∧ byteOk (putN xs q v 8) ∧ xs.length = n) := ⟨by unfold setC; rw [h.len, if_pos h1]; rfl, h1, putN_ok h.ok q v 8, h.len⟩
  have hx0 : IntKind.u64.wrap v = xsN v 0 := by
    unfold xsN
    simp [IntKind.wrap, IntKind.bits, IntKind.signed]
  obtain ⟨x0, hx0'⟩ : ∃ x, x = xsN v 0 := ⟨_, rfl⟩
  rw [← hx0'] at hx0
  have hx0'' := Lib.hid hx0'
  have happ' := Lib.hid happ
  have hO' := Lib.hid hO
  clear h1 h hO happ hx0'
  go_enter Tryd.func50, Tryd.ntmps50
  go_wp2_with (first | (go_at_call 65; (with_reducible refine (hcel.out).mono ?_); rintro e w' ⟨rfl, rfl⟩) | (at_builtin; refine wpList_append_run rfl (.tmp 22) (.tmp 23) 22 rfl _ _ _ rfl rfl happ'.out ?_))
  go_loopw [11, 12] (fun x i wr => ∃ k : Nat, k ≤ 8 ∧ i = .int .i64 k ∧ x = .int .u64 (xsN v k) ∧ Own wr w.heap.size g n cap (putN xs q v k) ∧ Below w.heap.size w wr) (fun _ i _ => 8 - (intOf i).toNat)
  case atStart => exact ⟨0, by omega, rfl, congrArg (Value.int .u64) hx0''.out, hO'.out, hb2⟩
  case round =>
    obtain ⟨k, hk, rfl, hxv, hO, hbk⟩ := hrel
    by_cases hk8 : k < 8
    · obtain ⟨hc, hf⟩ := hO.at (show q + k < n by omega)
      obtain ⟨x1, x2⟩ := xsN_bd v k
      have hs := xsN_byte v k hk8
      have hnx := xsN_next v k
      have hB := hO.base.1
      have hy := byteA_bd v k
      obtain ⟨y, hy'⟩ : ∃ y, y = byteA v k := ⟨_, rfl⟩
      obtain ⟨x, hx'⟩ : ∃ x, x = xsN v k := ⟨_, rfl⟩
      obtain ⟨z, hz'⟩ : ∃ x, x = xsN v (k + 1) := ⟨_, rfl⟩
      rw [← hx', ← hy'] at hs
      rw [← hx', ← hz'] at hnx
      rw [← hx'] at hxv x1 x2
      rw [← hy'] at hy
      subst hxv
      have hs8 : IntKind.u8.wrap y = y := by rw [uw8]; omega
      have hO2 := Lib.hid (hO.put (q + k) y)
      have hb2 := Lib.hid (hbk.setCell (p := ⟨g, q + k, none⟩) hB (.int .u8 y))
      have hyy := Lib.hid hy'
      have hzz := Lib.hid hz'
      clear hO hbk hy' hx' hz'
      go_wp2
      refine ⟨⟨k + 1, by omega, by go_num, congrArg (Value.int .u64) (hnx.trans hzz.out), ?_, hb2.out⟩, by simp only [intOf]; omega⟩
      have hO3 := hO2.out
      rw [hyy.out] at hO3 ⊢
      exact hO3
    · obtain rfl : k = 8 := by omega
      have hO2 := Lib.hid hO
      have hb2 := Lib.hid hbk
      generalize xsN v 8 = x at *
      subst hxv
      clear hO hbk
      go_wp2
      go_ret2
      rw [e2.out.1, e2.out.2.1, putN_len, e2.out.2.2.2]
      exact ⟨_, cap, rfl, Own.mem (B := w.heap.size) hO2.out e2.out.2.2.1, hb2.out, fun y hy => by obtain rfl := Option.some.inj hy; exact (Own.base hO2.out).1⟩
end Go.Proofs.YtcjbfokindoicaaDoor.Me
