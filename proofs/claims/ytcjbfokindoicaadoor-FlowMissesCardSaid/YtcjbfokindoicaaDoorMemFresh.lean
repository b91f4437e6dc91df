/- SetCell's bytes lie in memory made since. -/
import Derived.Test.YtcjbfokindoicaaDoorMemSet
namespace Go.Proofs.YtcjbfokindoicaaDoor.Me
set_option maxRecDepth 100000
open Go.ChangeShapes Go.WideShapes Go.ChangeAt Go.RowKit
set_option linter.unusedVariables false

theorem setCell_fresh (a : Option Addr) (n c : Nat) (xs : List Int) (p v : Int) (w : World) (h : Mem w a n c xs) (hn : n ≤ 281474976710656) (hp : -9223372036854775808 ≤ p ∧ p ≤ 9223372036854775807) (hv : -9223372036854775808 ≤ v ∧ v ≤ 9223372036854775807) (h1 : tC n p = 0) :
    Calls Tryd.prog 66 #[.slice a n c, .int .i64 p, .int .i64 v] w fun e w' => ∃ a' c', e = .returned (.tuple #[.slice a' (setC xs p v).length c', .int .i64 0]) ∧ Mem w' a' (setC xs p v).length c' (setC xs p v) ∧ Below w.heap.size w w' ∧ ∀ y, a' = some y → w.heap.size ≤ y.block := by
  have hb := h.bd.1
  have t0 : (tC n p != 0) = false := by rw [h1]; rfl
  obtain ⟨q1, q2, _⟩ := tC_in h1
  obtain ⟨q, rfl⟩ := Int.eq_ofNat_of_zero_le q1
  have e2 : Hid (setC xs (q : Int) v = putN xs q v 8 ∧ tC n (q : Int) = 0 ∧ byteOk (putN xs q v 8) ∧ xs.length = n) := ⟨by unfold setC; rw [h.len, if_pos h1]; rfl, h1, putN_ok h.ok q v 8, h.len⟩
  have hcall := Lib.hid (with_any a n c xs q 8 v w h hn (by omega) (by omega) hv)
  clear h1 h
  go_enter Tryd.func66, Tryd.ntmps66
  go_wp2_with (first | (go_at_call 31; (with_reducible refine (ofCell_any _ _ _ _ _ (by assumption) (by assumption)).mono ?_); rintro e w' ⟨rfl, rfl⟩) | (go_at_call 69; refine (hcall.out).mono ?_; rintro e w1 ⟨g, rfl, hO, hb1⟩))
  go_ret2
  rw [e2.out.1, e2.out.2.1, putN_len, e2.out.2.2.2]
  exact ⟨_, n, rfl, hO.mem e2.out.2.2.1, hb1, fun y hy => by obtain rfl := Option.some.inj hy; exact hO.base.1⟩
end Go.Proofs.YtcjbfokindoicaaDoor.Me
