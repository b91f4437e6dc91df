/- flo.turned and flo.ofOne: their closures and the map. -/
import Derived.Test.YtbgaoipgfmaijaaFloRtwo
import Derived.RegionTactic
import Derived.Laws.BitsAllLaws
namespace Go.Proofs.Ytbgaoipgfmaijaa
open Go.ChangeShapes Go.WideShapes Go.ChangeAt Go.RowKit
set_option linter.unusedVariables false

theorem turned_any (f : FuncId) (w : World) :
    Calls Try.prog 44 #[.func (Fn.func f) #[] #[]] w fun e w' => e = .returned (.func (Fn.func 54) #[] #[.pointer (some ⟨w.heap.size, 0, none⟩)]) ∧ w.alloc (.cells #[.func (Fn.func f) #[] #[]] 51) = w' := by
  go_enter Try.func44, Try.ntmps44
  go_wp2
  go_ret
  exact ⟨rfl, rfl⟩
theorem xor_any (x : Nat) (w : World) :
    Calls Try.prog 45 #[.int .u64 x] w fun e w' => e = .returned (.int .u64 (bits .xor .u64 x 9223372036854775808)) ∧ w = w' := by
  go_enter Try.func45, Try.ntmps45
  go_wp2
  go_ret
  exact ⟨rfl, rfl⟩
theorem andnot_any (x : Nat) (w : World) :
    Calls Try.prog 46 #[.int .u64 x] w fun e w' => e = .returned (.int .u64 (bits .andNot .u64 x 9223372036854775808)) ∧ w = w' := by
  go_enter Try.func46, Try.ntmps46
  go_wp2
  go_ret
  exact ⟨rfl, rfl⟩
/-! ### signs turned, signs away -/
def flipB (x : Nat) : Nat := Ieee.double.word (!ng x) (rg x)
theorem flip_xor (x : Nat) (hx : x < 18446744073709551616) : (x ^^^ 9223372036854775808 : Nat) = flipB x := by
  have h1 := Nat.xor_mod_two_pow (a := x) (b := 9223372036854775808) (n := 63)
  have h2 := Nat.xor_div_two_pow (a := x) (b := 9223372036854775808) (n := 63)
  rw [show (2 : Nat) ^ 63 = 9223372036854775808 by decide] at h1 h2
  rw [Nat.mod_self, Nat.xor_zero] at h1
  rw [show 9223372036854775808 / 9223372036854775808 = 1 by decide] at h2
  unfold flipB; rw [word_eq]; unfold ng rg
  by_cases h : x / 9223372036854775808 = 0
  · rw [h] at h2 ⊢; rw [show (0 ^^^ 1 : Nat) = 1 by decide] at h2; simp; omega
  · have h' : x / 9223372036854775808 = 1 := by omega
    rw [h'] at h2 ⊢; rw [show (1 ^^^ 1 : Nat) = 0 by decide] at h2; simp; omega
theorem xor_flip (x : Nat) (hx : x < 18446744073709551616) : bits .xor .u64 x 9223372036854775808 = (flipB x : Int) := by
  have := u64_xor_nat x 9223372036854775808 hx (by omega)
  rw [← flip_xor x hx]; exact this
theorem and_low (x : Nat) : (x &&& 9223372036854775807 : Nat) = rg x := by
  have := Nat.and_two_pow_sub_one_eq_mod x 63
  exact this
theorem andnot_abs (x : Nat) (hx : x < 18446744073709551616) : bits .andNot .u64 x 9223372036854775808 = (rg x : Int) := by
  have := u64_andNot_nat x 9223372036854775808 hx (by omega)
  rw [← and_low x]; exact this
theorem and_abs (x : Nat) (hx : x < 18446744073709551616) : bits .and .u64 x 9223372036854775807 = (rg x : Int) := by
  have := u64_and_nat x 9223372036854775807 hx (by omega)
  rw [← and_low x]; exact this
theorem rg_lt (x : Nat) : rg x < 9223372036854775808 := Nat.mod_lt _ (by omega)
theorem rg_rg (x : Nat) : rg (rg x) = rg x := Nat.mod_mod _ _
theorem rg_flip (x : Nat) : rg (flipB x) = rg x := rg_word _ _ (rg_lt x)
theorem ng_flip (x : Nat) : ng (flipB x) = !ng x := ng_word _ _ (rg_lt x)
theorem nan_flip (x : Nat) : nanB (flipB x) = nanB x := by unfold nanB; rw [rg_flip]
theorem nan_rg (x : Nat) : nanB (rg x) = nanB x := by unfold nanB; rw [rg_rg]
theorem flip_lt (x : Nat) : flipB x < 18446744073709551616 := by
  have := rg_lt x
  unfold flipB; rw [word_eq]; cases ng x <;> simp <;> omega
theorem flip_flip (x : Nat) (hx : x < 18446744073709551616) : flipB (flipB x) = x := by
  have h := word_self x hx
  unfold flipB at *
  rw [ng_word _ _ (rg_lt x), rg_word _ _ (rg_lt x), Bool.not_not]; exact h

/-! ### the closures -/
theorem turn_call (x b : Nat) (w : World) (hx : x < 18446744073709551616) (hc : w.cell? ⟨b, 0, none⟩ = some (.func (Fn.func 45) #[] #[])) :
    Calls Try.prog 54 #[.float .f64 x, .pointer (some ⟨b, 0, none⟩)] w (Flt (some (flipB x)) w) := by
  have hd := run_tobits
  have hd2 := run_frombits
  have H := Lib.hid (xor_flip x hx)
  go_enter Try.func54, Try.ntmps54
  go_wp2
  go_quiet ((go_at_call 45; exact Calls.quiet_of_same ((xor_any _ _).mono fun _ _ h => ⟨h.1, h.2.symm⟩)))
  go_wp2
  go_ret
  exact ⟨_, rfl, by rw [H.out]; rfl, _, rfl⟩
theorem abs_call (x b : Nat) (w : World) (hx : x < 18446744073709551616) (hc : w.cell? ⟨b, 0, none⟩ = some (.func (Fn.func 46) #[] #[])) :
    Calls Try.prog 54 #[.float .f64 x, .pointer (some ⟨b, 0, none⟩)] w (Flt (some (rg x)) w) := by
  have hd := run_tobits
  have hd2 := run_frombits
  have H := Lib.hid (andnot_abs x hx)
  go_enter Try.func54, Try.ntmps54
  go_wp2
  go_quiet ((go_at_call 46; exact Calls.quiet_of_same ((andnot_any _ _).mono fun _ _ h => ⟨h.1, h.2.symm⟩)))
  go_wp2
  go_ret
  exact ⟨_, rfl, by rw [H.out]; rfl, _, rfl⟩
theorem sqrt_any (x : Nat) (w : World) :
    Calls Try.prog 32 #[.float .f64 x] w (Flt (Ieee.double.sqrt x) w) := by
  cases h : Ieee.double.sqrt x with
  | some r =>
    have hd := run_sqrt_ok x r h
    clear h
    go_enter Try.func32, Try.ntmps32
    go_wp2
    go_ret
    exact flt_some 0 rfl
  | none =>
    have hd := run_sqrt_nan x h
    clear h
    go_enter Try.func32, Try.ntmps32
    go_wp2
    go_ret
    exact flt_nan 1 rfl (nanOf_bits _ _ _).1
def floB (x : Nat) : Option Nat := if nanB x then none else some (flB x)
theorem floor_any (x : Nat) (hx : x < 18446744073709551616) (w : World) :
    Calls Try.prog 33 #[.float .f64 x] w (Flt (floB x) w) := by
  cases h : nanB x
  · have e : floB x = some (flB x) := by unfold floB; rw [h]; rfl
    rw [e]
    have hd := run_floor_ok x h
    clear h e
    go_enter Try.func33, Try.ntmps33
    go_wp2
    go_ret
    exact flt_some 0 rfl
  · have e : floB x = none := by unfold floB; rw [h]; rfl
    rw [e]
    obtain ⟨r, w1, hrun, hr, hlt, n, rfl⟩ := run_floor_nan x hx h w
    clear h e
    go_enter Try.func33, Try.ntmps33
    go_wp2
    go_ret
    exact flt_nan n rfl hr
theorem csqrt_any (x : Nat) (w : World) :
    Calls Try.prog 47 #[.float .f64 x] w (Flt (Ieee.double.sqrt x) w) := by
  go_enter Try.func47, Try.ntmps47
  go_wp2_with (go_at_call 32; refine (sqrt_any _ _).mono ?_; rintro e w' ⟨r, rfl, hr, n, rfl⟩; have HR := Lib.hid hr; clear hr)
  go_ret
  exact ⟨r, rfl, HR.out, n, rfl⟩
theorem cfloor_any (x : Nat) (hx : x < 18446744073709551616) (w : World) :
    Calls Try.prog 48 #[.float .f64 x] w (Flt (floB x) w) := by
  go_enter Try.func48, Try.ntmps48
  go_wp2_with (go_at_call 33; refine (floor_any _ hx _).mono ?_; rintro e w' ⟨r, rfl, hr, n, rfl⟩; have HR := Lib.hid hr; clear hr)
  go_ret
  exact ⟨r, rfl, HR.out, n, rfl⟩

/-! ### the map -/
theorem set_under (W : World) (b : Nat) (hb : b < W.heap.size) (o p : Obj) : { (W.alloc o) with heap := (W.alloc o).heap.setIfInBounds b p } = ({ W with heap := W.heap.setIfInBounds b p } : World).alloc o := by
  have e : (W.alloc o).heap = W.heap.push o := rfl
  have e2 : (W.heap.push o).setIfInBounds b p = (W.heap.setIfInBounds b p).push o := by
    apply Array.ext_getElem?
    intro i
    rw [Array.getElem?_setIfInBounds, Array.getElem?_push, Array.getElem?_push, Array.size_push, Array.size_setIfInBounds, Array.getElem?_setIfInBounds]
    by_cases h : b = i
    · subst h; simp [hb, Nat.ne_of_lt hb, Nat.lt_succ_of_lt hb]
    · rw [if_neg h, if_neg h]
  rw [e, e2]; rfl
theorem run_insert_at {P : Program} {T K E : TypeId} (hT : P.underlying T = some (.map K E)) (hK : P.underlying K = some (.int .u8)) (es : Array MapEntry) (clock : Nat) (k : Int) (v : Value)
    (hk : Instr.findNow (.int .u8) (.int .u8 k) es.toList 0 = some none) (w : World) (b : Nat) (hb : w.heap[b]? = some (.map es clock)) :
    (Instr.mapUpdate T (.map (some b)) (.int .u8 k) v).run P w = .ok () { w with heap := w.heap.setIfInBounds b (.map (es.push { key := .int .u8 k, val := v, born := clock }) (clock + 1)) } := by
  have hik : MapKept.IsKey (.int .u8) (.int .u8 k) := rfl
  simp [Instr.mapUpdate, run_underlying hT, MapKept.run_getObj_map hb, MapKept.run_checkKey hK hik, MapKept.run_findKey hK hk, MapKept.run_setObj_map _ hb, Result.andThen]
theorem heap_1 (w : World) (o p : Obj) : ((w.alloc o).alloc p).heap[w.heap.size]? = some o := by
  rw [(MapKept.heap_alloc (w.alloc o) p).2 _ (by rw [show (w.alloc o).heap.size = w.heap.size + 1 from by simp]; omega)]; exact (MapKept.heap_alloc w o).1
theorem heap_2 (w : World) (o p q : Obj) : (((w.alloc o).alloc p).alloc q).heap[w.heap.size]? = some o := by
  rw [(MapKept.heap_alloc ((w.alloc o).alloc p) q).2 _ (by rw [show ((w.alloc o).alloc p).heap.size = w.heap.size + 1 + 1 from by simp]; omega)]; exact heap_1 w o p
theorem run_insert1 {P : Program} {T K E : TypeId} (hT : P.underlying T = some (.map K E)) (hK : P.underlying K = some (.int .u8)) (es : Array MapEntry) (clock : Nat) (k : Int) (v : Value)
    (hk : Instr.findNow (.int .u8) (.int .u8 k) es.toList 0 = some none) (w : World) (o : Obj) :
    (Instr.mapUpdate T (.map (some w.heap.size)) (.int .u8 k) v).run P ((w.alloc (.map es clock)).alloc o) = .ok () ((w.alloc (.map (es.push { key := .int .u8 k, val := v, born := clock }) (clock + 1))).alloc o) := by
  rw [run_insert_at hT hK es clock k v hk _ _ (heap_1 w _ o), set_under _ _ (by simp), set_last]
theorem run_insert2 {P : Program} {T K E : TypeId} (hT : P.underlying T = some (.map K E)) (hK : P.underlying K = some (.int .u8)) (es : Array MapEntry) (clock : Nat) (k : Int) (v : Value)
    (hk : Instr.findNow (.int .u8) (.int .u8 k) es.toList 0 = some none) (w : World) (o p : Obj) :
    (Instr.mapUpdate T (.map (some w.heap.size)) (.int .u8 k) v).run P (((w.alloc (.map es clock)).alloc o).alloc p) = .ok () (((w.alloc (.map (es.push { key := .int .u8 k, val := v, born := clock }) (clock + 1))).alloc o).alloc p) := by
  rw [run_insert_at hT hK es clock k v hk _ _ (heap_2 w _ o p), set_under _ _ (by simp; omega), set_under _ _ (by simp), set_last]
end Go.Proofs.Ytbgaoipgfmaijaa
