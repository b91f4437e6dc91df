/- Contracts of package flo's small functions and of the document's answers for them. -/
import Derived.Test.YtbgaoipgfmaijaaFloExt
namespace Go.Proofs.Ytbgaoipgfmaijaa
open Go.ChangeShapes Go.WideShapes Go.ChangeAt Go.RowKit
set_option linter.unusedVariables false

/-! ### floats' operations where the result is a NaN -/
theorem run_arith_nan {P : Program} (op : BinOp) (t : TypeId) (x y : Nat) (ho : op = .add ∨ op = .sub ∨ op = .mul ∨ op = .quo) (h : floatBits op .f64 x y = none) (w : World) :
    (binOp op t (.float .f64 x) (.float .f64 y)).run P w = .ok (.float .f64 (nanOf w (.nanBits .f64 x y))) w.drew := by
  unfold floatBits at h
  rcases ho with rfl | rfl | rfl | rfl <;> simp only at h <;> simp [binOp, Op.floatArith, h, Question.forced, nanOf]
theorem run_min_nan {P : Program} (t : TypeId) (x y : Nat) (h : Ieee.double.order x y = none) (w : World) (T : Array TypeId) :
    (Builtin.min_ T t #[.float .f64 x, .float .f64 y]).run P w = .ok (.float .f64 (nanOf w (.nanMinMax .f64 false x y))) w.drew := by
  have h' : FloatKind.f64.format.order x y = none := h
  simp [Builtin.min_, Builtin.min2, h', Question.forced, nanOf]
theorem run_max_nan {P : Program} (t : TypeId) (x y : Nat) (h : Ieee.double.order x y = none) (w : World) (T : Array TypeId) :
    (Builtin.max_ T t #[.float .f64 x, .float .f64 y]).run P w = .ok (.float .f64 (nanOf w (.nanMinMax .f64 true x y))) w.drew := by
  have h' : FloatKind.f64.format.order x y = none := h
  simp [Builtin.max_, Builtin.max2, h', Question.forced, nanOf]
def mnB (x y : Nat) : Option Nat := match Ieee.double.order x y with
  | none => none
  | some .lt => some x
  | some .gt => some y
  | some .eq => some (if ng x then x else y)
def mxB (x y : Nat) : Option Nat := match Ieee.double.order x y with
  | none => none
  | some .lt => some y
  | some .gt => some x
  | some .eq => some (if ng x then y else x)
theorem neg_read {x : Nat} (h : nanB x = false) : (Ieee.double.read x).neg = ng x := by
  have := nan_fin h
  by_cases e : rg x = infR
  · rw [read_inf x e]; rfl
  · obtain ⟨m, i, e1, _⟩ := read_fin x (by omega)
    rw [e1]; rfl
theorem run_min_ok {P : Program} (t : TypeId) (x y r : Nat) (hx : nanB x = false) (h : mnB x y = some r) (w : World) (T : Array TypeId) :
    (Builtin.min_ T t #[.float .f64 x, .float .f64 y]).run P w = .ok (.float .f64 r) w := by
  unfold mnB at h
  have hn : (FloatKind.f64.decode x).neg = ng x := neg_read hx
  have e : FloatKind.f64.format.order x y = Ieee.double.order x y := rfl
  cases ho : Ieee.double.order x y with
  | none => rw [ho] at h; cases h
  | some o => rw [ho] at h e; cases o <;> simp only [Option.some.injEq] at h <;> subst h <;> simp [Builtin.min_, Builtin.min2, e, hn]
theorem run_max_ok {P : Program} (t : TypeId) (x y r : Nat) (hx : nanB x = false) (h : mxB x y = some r) (w : World) (T : Array TypeId) :
    (Builtin.max_ T t #[.float .f64 x, .float .f64 y]).run P w = .ok (.float .f64 r) w := by
  unfold mxB at h
  have hn : (FloatKind.f64.decode x).neg = ng x := neg_read hx
  have e : FloatKind.f64.format.order x y = Ieee.double.order x y := rfl
  cases ho : Ieee.double.order x y with
  | none => rw [ho] at h; cases h
  | some o => rw [ho] at h e; cases o <;> simp only [Option.some.injEq] at h <;> subst h <;> simp [Builtin.max_, Builtin.max2, e, hn]

/-! ### flo.float, flo.told, math.IsNaN -/
def cb (a : Int) : Nat := (IntKind.u64.wrap a).toNat
def tld (x : Nat) : Int := if nanB x then 9221120237041090560 else wrap64 x
theorem float_any (a : Int) (w : World) :
    Calls Try.prog 26 #[.int .i64 a] w fun e w' => e = .returned (.float .f64 (cb a)) ∧ w = w' := by
  have hd := run_frombits
  go_enter Try.func26, Try.ntmps26
  go_wp2
  go_ret
  exact ⟨rfl, rfl⟩
theorem isnan_any (x : Nat) (w : World) :
    Calls Try.prog 41 #[.float .f64 x] w fun e w' => e = .returned (.bool (nanB x)) ∧ w = w' := by
  have h : (Ieee.double.order x x != some .eq) = nanB x := by rw [bne, order_self]; simp
  have H := Lib.hid h
  clear h
  go_enter Try.func41, Try.ntmps41
  go_wp2
  go_ret
  exact ⟨congrArg (fun b => Ending.returned (.bool b)) H.out, rfl⟩
theorem retI {k : IntKind} {a b : Int} (h : a = b) : Ending.returned (.int k a) = .returned (.int k b) := by rw [h]
def nanI : Int := 9221120237041090560
theorem tld_nan {x : Nat} (h : nanB x = true) : 9221120237041090560 = tld x := by unfold tld; rw [h, if_pos rfl]
theorem tld_num {x : Nat} (h : nanB x = false) : wrap64 x = tld x := by unfold tld; rw [h, if_neg Bool.false_ne_true]
theorem told_num (x : Nat) (w : World) (h : nanB x = false) :
    Calls Try.prog 25 #[.float .f64 x] w fun e w' => e = .returned (.int .i64 (tld x)) ∧ w = w' := by
  have hd := run_tobits
  have H := Lib.hid (tld_num h)
  go_enter Try.func25, Try.ntmps25
  go_wp2_with (go_at_call 41; refine (isnan_any _ _).mono ?_; rintro e w' ⟨rfl, rfl⟩)
  go_ret
  exact ⟨retI H.out, rfl⟩
theorem told_nan (x : Nat) (w : World) (h : nanB x = true) :
    Calls Try.prog 25 #[.float .f64 x] w fun e w' => e = .returned (.int .i64 (tld x)) ∧ w = w' := by
  have H := Lib.hid (tld_nan h)
  go_enter Try.func25, Try.ntmps25
  go_wp2_with (go_at_call 41; refine (isnan_any _ _).mono ?_; rintro e w' ⟨rfl, rfl⟩)
  go_ret
  exact ⟨retI H.out, rfl⟩
theorem told_any (x : Nat) (w : World) :
    Calls Try.prog 25 #[.float .f64 x] w fun e w' => e = .returned (.int .i64 (tld x)) ∧ w = w' := by
  cases h : nanB x
  · exact told_num x w h
  · exact told_nan x w h
end Go.Proofs.Ytbgaoipgfmaijaa
