/- Contracts of the closures in flo.ofTwo and flo.ofOne. -/
import Derived.Test.YtbgaoipgfmaijaaFloLeaf
namespace Go.Proofs.Ytbgaoipgfmaijaa
open Go.ChangeShapes Go.WideShapes Go.ChangeAt Go.RowKit
set_option linter.unusedVariables false

def tlo : Option Nat → Int
  | some r => tld r
  | none => 9221120237041090560
/-- A float comes back, told as o is; but draws nothing has turned. -/
def Flt (o : Option Nat) (w : World) (e : Ending) (w' : World) : Prop := ∃ r, e = .returned (.float .f64 r) ∧ tld r = tlo o ∧ ∃ n, w' = w.drewN n
theorem flt_some {r : Nat} {w : World} (n : Nat) {o : Option Nat} (h : o = some r) : Flt o w (.returned (.float .f64 r)) (w.drewN n) := ⟨r, rfl, by rw [h]; rfl, n, rfl⟩
theorem flt_nan {r : Nat} {w : World} (n : Nat) {o : Option Nat} (h : o = none) (hr : nanB r = true) : Flt o w (.returned (.float .f64 r)) (w.drewN n) := ⟨r, rfl, by rw [h]; exact (tld_nan hr).symm, n, rfl⟩

theorem cadd_any (x y : Nat) (w : World) :
    Calls Try.prog 35 #[.float .f64 x, .float .f64 y] w (Flt (Ieee.double.add x y) w) := by
  cases h : Ieee.double.add x y with
  | some r =>
    have hd := fun (w : World) => run_float_arith (P := Try.prog) w .add 39 .f64 x y r h
    clear h
    go_enter Try.func35, Try.ntmps35
    go_wp2
    go_ret
    exact flt_some 0 rfl
  | none =>
    have hd := fun (w : World) => run_arith_nan (P := Try.prog) .add 39 x y (.inl rfl) h w
    clear h
    go_enter Try.func35, Try.ntmps35
    go_wp2
    go_ret
    exact flt_nan 1 rfl (nanOf_bits _ _ _).1
theorem csub_any (x y : Nat) (w : World) :
    Calls Try.prog 36 #[.float .f64 x, .float .f64 y] w (Flt (Ieee.double.sub x y) w) := by
  cases h : Ieee.double.sub x y with
  | some r =>
    have hd := fun (w : World) => run_float_arith (P := Try.prog) w .sub 39 .f64 x y r h
    clear h
    go_enter Try.func36, Try.ntmps36
    go_wp2
    go_ret
    exact flt_some 0 rfl
  | none =>
    have hd := fun (w : World) => run_arith_nan (P := Try.prog) .sub 39 x y (.inr (.inl rfl)) h w
    clear h
    go_enter Try.func36, Try.ntmps36
    go_wp2
    go_ret
    exact flt_nan 1 rfl (nanOf_bits _ _ _).1
theorem cmul_any (x y : Nat) (w : World) :
    Calls Try.prog 37 #[.float .f64 x, .float .f64 y] w (Flt (Ieee.double.mul x y) w) := by
  cases h : Ieee.double.mul x y with
  | some r =>
    have hd := fun (w : World) => run_float_arith (P := Try.prog) w .mul 39 .f64 x y r h
    clear h
    go_enter Try.func37, Try.ntmps37
    go_wp2
    go_ret
    exact flt_some 0 rfl
  | none =>
    have hd := fun (w : World) => run_arith_nan (P := Try.prog) .mul 39 x y (.inr (.inr (.inl rfl))) h w
    clear h
    go_enter Try.func37, Try.ntmps37
    go_wp2
    go_ret
    exact flt_nan 1 rfl (nanOf_bits _ _ _).1
theorem cquo_any (x y : Nat) (w : World) :
    Calls Try.prog 38 #[.float .f64 x, .float .f64 y] w (Flt (Ieee.double.div x y) w) := by
  cases h : Ieee.double.div x y with
  | some r =>
    have hd := fun (w : World) => run_float_arith (P := Try.prog) w .quo 39 .f64 x y r h
    clear h
    go_enter Try.func38, Try.ntmps38
    go_wp2
    go_ret
    exact flt_some 0 rfl
  | none =>
    have hd := fun (w : World) => run_arith_nan (P := Try.prog) .quo 39 x y (.inr (.inr (.inr rfl))) h w
    clear h
    go_enter Try.func38, Try.ntmps38
    go_wp2
    go_ret
    exact flt_nan 1 rfl (nanOf_bits _ _ _).1
theorem mn_num {x y r : Nat} (h : mnB x y = some r) : nanB x = false := by
  cases hx : nanB x
  · rfl
  · unfold mnB at h; rw [order_nan x y (.inl hx)] at h; cases h
theorem mx_num {x y r : Nat} (h : mxB x y = some r) : nanB x = false := by
  cases hx : nanB x
  · rfl
  · unfold mxB at h; rw [order_nan x y (.inl hx)] at h; cases h
theorem mn_none {x y : Nat} (h : mnB x y = none) : Ieee.double.order x y = none := by
  unfold mnB at h
  cases ho : Ieee.double.order x y with
  | none => rfl
  | some o => rw [ho] at h; cases o <;> cases h
theorem mx_none {x y : Nat} (h : mxB x y = none) : Ieee.double.order x y = none := by
  unfold mxB at h
  cases ho : Ieee.double.order x y with
  | none => rfl
  | some o => rw [ho] at h; cases o <;> cases h
theorem cmin_any (x y : Nat) (w : World) :
    Calls Try.prog 39 #[.float .f64 x, .float .f64 y] w (Flt (mnB x y) w) := by
  cases h : mnB x y with
  | some r =>
    have hd := fun (T : Array TypeId) (t : TypeId) (w : World) => run_min_ok (P := Try.prog) t x y r (mn_num h) h w T
    clear h
    go_enter Try.func39, Try.ntmps39
    go_wp2
    go_ret
    exact flt_some 0 rfl
  | none =>
    have hd := fun (T : Array TypeId) (t : TypeId) (w : World) => run_min_nan (P := Try.prog) t x y (mn_none h) w T
    clear h
    go_enter Try.func39, Try.ntmps39
    go_wp2
    go_ret
    exact flt_nan 1 rfl (nanOf_minmax _ _ _ _).1
theorem cmax_any (x y : Nat) (w : World) :
    Calls Try.prog 40 #[.float .f64 x, .float .f64 y] w (Flt (mxB x y) w) := by
  cases h : mxB x y with
  | some r =>
    have hd := fun (T : Array TypeId) (t : TypeId) (w : World) => run_max_ok (P := Try.prog) t x y r (mx_num h) h w T
    clear h
    go_enter Try.func40, Try.ntmps40
    go_wp2
    go_ret
    exact flt_some 0 rfl
  | none =>
    have hd := fun (T : Array TypeId) (t : TypeId) (w : World) => run_max_nan (P := Try.prog) t x y (mx_none h) w T
    clear h
    go_enter Try.func40, Try.ntmps40
    go_wp2
    go_ret
    exact flt_nan 1 rfl (nanOf_minmax _ _ _ _).1
end Go.Proofs.Ytbgaoipgfmaijaa
