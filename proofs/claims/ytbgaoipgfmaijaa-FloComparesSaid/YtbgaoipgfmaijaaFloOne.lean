/- flo.One and the document's One: their contracts. -/
import Derived.Test.YtbgaoipgfmaijaaFloOne0
namespace Go.Proofs.Ytbgaoipgfmaijaa
open Go.ChangeShapes Go.WideShapes Go.ChangeAt Go.RowKit
set_option linter.unusedVariables false

def on0 (b : Nat) : MapEntry := { key := .int .u8 110, val := .func (Fn.func 54) #[] #[.pointer (some ⟨b + 1, 0, none⟩)], born := 0 }
def on1 (b : Nat) : MapEntry := { key := .int .u8 97, val := .func (Fn.func 54) #[] #[.pointer (some ⟨b + 1 + 1, 0, none⟩)], born := 1 }
def on2 : MapEntry := { key := .int .u8 115, val := .func (Fn.func 47) #[] #[], born := 2 }
def on3 : MapEntry := { key := .int .u8 102, val := .func (Fn.func 48) #[] #[], born := 3 }
def oneES (b : Nat) : Array MapEntry := #[on0 b, on1 b, on2, on3]
def cel1 : Obj := .cells #[.func (Fn.func 45) #[] #[]] 51
def cel2 : Obj := .cells #[.func (Fn.func 46) #[] #[]] 51
theorem turned_1 (w : World) :
    Calls Try.prog 44 #[.func (Fn.func 45) #[] #[]] w fun e w' => e = .returned (.func (Fn.func 54) #[] #[.pointer (some ⟨w.heap.size, 0, none⟩)]) ∧ w.alloc cel1 = w' := turned_any _ w
theorem turned_2 (w : World) :
    Calls Try.prog 44 #[.func (Fn.func 46) #[] #[]] w fun e w' => e = .returned (.func (Fn.func 54) #[] #[.pointer (some ⟨w.heap.size, 0, none⟩)]) ∧ w.alloc cel2 = w' := turned_any _ w
def oneW (w : World) : World := ((w.alloc (.map (oneES w.heap.size) 4)).alloc cel1).alloc cel2
theorem ofone_any (w : World) :
    Calls Try.prog 31 #[] w fun e w' => e = .returned (.map (some w.heap.size)) ∧ oneW w = w' := by
  have hmm := @run_makeMap Try.prog
  have h0 : ∀ w : World, (Instr.mapUpdate 46 (.map (some w.heap.size)) (.int .u8 110) (.func (Fn.func 54) #[] #[.pointer (some ⟨w.heap.size + 1, 0, none⟩)])).run Try.prog ((w.alloc (.map #[] 0)).alloc cel1) = .ok () ((w.alloc (.map #[on0 w.heap.size] 1)).alloc cel1) := fun w => run_insert1 Try.underlying46 Try.underlying5 #[] 0 110 _ rfl w cel1
  have h1 : ∀ w : World, (Instr.mapUpdate 46 (.map (some w.heap.size)) (.int .u8 97) (.func (Fn.func 54) #[] #[.pointer (some ⟨w.heap.size + 1 + 1, 0, none⟩)])).run Try.prog (((w.alloc (.map #[on0 w.heap.size] 1)).alloc cel1).alloc cel2) = .ok () (((w.alloc (.map #[on0 w.heap.size, on1 w.heap.size] 2)).alloc cel1).alloc cel2) := fun w => run_insert2 Try.underlying46 Try.underlying5 #[on0 w.heap.size] 1 97 _ rfl w cel1 cel2
  have h2 : ∀ w : World, (Instr.mapUpdate 46 (.map (some w.heap.size)) (.int .u8 115) (.func (Fn.func 47) #[] #[])).run Try.prog (((w.alloc (.map #[on0 w.heap.size, on1 w.heap.size] 2)).alloc cel1).alloc cel2) = .ok () (((w.alloc (.map #[on0 w.heap.size, on1 w.heap.size, on2] 3)).alloc cel1).alloc cel2) := fun w => run_insert2 Try.underlying46 Try.underlying5 #[on0 w.heap.size, on1 w.heap.size] 2 115 _ rfl w cel1 cel2
  have h3 : ∀ w : World, (Instr.mapUpdate 46 (.map (some w.heap.size)) (.int .u8 102) (.func (Fn.func 48) #[] #[])).run Try.prog (((w.alloc (.map #[on0 w.heap.size, on1 w.heap.size, on2] 3)).alloc cel1).alloc cel2) = .ok () (((w.alloc (.map #[on0 w.heap.size, on1 w.heap.size, on2, on3] 4)).alloc cel1).alloc cel2) := fun w => run_insert2 Try.underlying46 Try.underlying5 #[on0 w.heap.size, on1 w.heap.size, on2] 3 102 _ rfl w cel1 cel2
  go_enter Try.func31, Try.ntmps31
  go_wp2_with (first | (go_at_call 44; refine (turned_1 _).mono ?_; rintro e w' ⟨rfl, rfl⟩) | (go_at_call 44; refine (turned_2 _).mono ?_; rintro e w' ⟨rfl, rfl⟩))
  go_ret
  exact ⟨rfl, rfl⟩

def onB (op : Int) : Bool := op == 110 || op == 97 || op == 115 || op == 102
def onF (op : Int) (x : Nat) : Option Nat := if op = 110 then some (flipB x) else if op = 97 then some (rg x) else if op = 115 then Ieee.double.sqrt x else floB x
def onI (op a : Int) : Int := if onB op then tlo (onF op (cb a)) else 0
theorem onI_110 (a : Int) : tlo (some (flipB (cb a))) = onI 110 a := by
  unfold onI onF
  rw [show onB 110 = true from by decide, if_pos rfl, if_pos rfl]
theorem onI_97 (a : Int) : tlo (some (rg (cb a))) = onI 97 a := by
  unfold onI onF
  rw [show onB 97 = true from by decide, if_pos rfl, if_neg (by decide), if_pos rfl]
theorem onI_115 (a : Int) : tlo (Ieee.double.sqrt (cb a)) = onI 115 a := by
  unfold onI onF
  rw [show onB 115 = true from by decide, if_pos rfl, if_neg (by decide), if_neg (by decide), if_pos rfl]
theorem onI_102 (a : Int) : tlo (floB (cb a)) = onI 102 a := by
  unfold onI onF
  rw [show onB 102 = true from by decide, if_pos rfl, if_neg (by decide), if_neg (by decide), if_neg (by decide)]
theorem oneW_cell1 (w : World) : (oneW w).cell? ⟨w.heap.size + 1, 0, none⟩ = some (.func (Fn.func 45) #[] #[]) := by
  unfold oneW cel1; go_simp
theorem oneW_cell2 (w : World) : (oneW w).cell? ⟨w.heap.size + 1 + 1, 0, none⟩ = some (.func (Fn.func 46) #[] #[]) := by
  unfold oneW cel2; go_simp
theorem oneW_below (w : World) : Below w.heap.size w (oneW w) := (((Below.refl _ _).alloc (Nat.le_refl _) _).alloc (by simp) _).alloc (by simp; omega) _
theorem one_110 (a : Int) (w : World) :
    Calls Try.prog 11 #[.int .u8 110, .int .i64 a] w (IB (onI 110 a) (onB 110) w) := by
  have hl := run_find (P := Try.prog) Try.underlying46 Try.underlying5 (oneES w.heap.size) 4 110 (.func (Fn.func 54) #[] #[.pointer (some ⟨w.heap.size + 1, 0, none⟩)]) 0 rfl w.heap.size (oneW w) (heap_2 w _ _ _)
  go_enter Try.func11, Try.ntmps11
  go_wp2_with (first | (go_at_call 31; refine (ofone_any _).mono ?_; rintro e w' ⟨rfl, rfl⟩) | (go_at_call 26; refine (float_any _ _).mono ?_; rintro e w' ⟨rfl, rfl⟩) | (go_at_call 54; refine (turn_call _ _ _ (cb_lt a) (oneW_cell1 w)).mono ?_; rintro e w' ⟨r, rfl, hr, n, rfl⟩; have HR := Lib.hid hr; clear hr) | (go_at_call 25; refine (told_any _ _).mono ?_; rintro e w' ⟨rfl, rfl⟩))
  go_ret2
  exact ⟨retIB (HR.out.trans (onI_110 a)) rfl, below_drewN (oneW_below w) _⟩
theorem one_97 (a : Int) (w : World) :
    Calls Try.prog 11 #[.int .u8 97, .int .i64 a] w (IB (onI 97 a) (onB 97) w) := by
  have hl := run_find (P := Try.prog) Try.underlying46 Try.underlying5 (oneES w.heap.size) 4 97 (.func (Fn.func 54) #[] #[.pointer (some ⟨w.heap.size + 1 + 1, 0, none⟩)]) 1 rfl w.heap.size (oneW w) (heap_2 w _ _ _)
  go_enter Try.func11, Try.ntmps11
  go_wp2_with (first | (go_at_call 31; refine (ofone_any _).mono ?_; rintro e w' ⟨rfl, rfl⟩) | (go_at_call 26; refine (float_any _ _).mono ?_; rintro e w' ⟨rfl, rfl⟩) | (go_at_call 54; refine (abs_call _ _ _ (cb_lt a) (oneW_cell2 w)).mono ?_; rintro e w' ⟨r, rfl, hr, n, rfl⟩; have HR := Lib.hid hr; clear hr) | (go_at_call 25; refine (told_any _ _).mono ?_; rintro e w' ⟨rfl, rfl⟩))
  go_ret2
  exact ⟨retIB (HR.out.trans (onI_97 a)) rfl, below_drewN (oneW_below w) _⟩
theorem one_115 (a : Int) (w : World) :
    Calls Try.prog 11 #[.int .u8 115, .int .i64 a] w (IB (onI 115 a) (onB 115) w) := by
  have hl := run_find (P := Try.prog) Try.underlying46 Try.underlying5 (oneES w.heap.size) 4 115 (.func (Fn.func 47) #[] #[]) 2 rfl w.heap.size (oneW w) (heap_2 w _ _ _)
  go_enter Try.func11, Try.ntmps11
  go_wp2_with (first | (go_at_call 31; refine (ofone_any _).mono ?_; rintro e w' ⟨rfl, rfl⟩) | (go_at_call 26; refine (float_any _ _).mono ?_; rintro e w' ⟨rfl, rfl⟩) | (go_at_call 47; refine (csqrt_any _ _).mono ?_; rintro e w' ⟨r, rfl, hr, n, rfl⟩; have HR := Lib.hid hr; clear hr) | (go_at_call 25; refine (told_any _ _).mono ?_; rintro e w' ⟨rfl, rfl⟩))
  go_ret2
  exact ⟨retIB (HR.out.trans (onI_115 a)) rfl, below_drewN (oneW_below w) _⟩
theorem one_102 (a : Int) (w : World) :
    Calls Try.prog 11 #[.int .u8 102, .int .i64 a] w (IB (onI 102 a) (onB 102) w) := by
  have hl := run_find (P := Try.prog) Try.underlying46 Try.underlying5 (oneES w.heap.size) 4 102 (.func (Fn.func 48) #[] #[]) 3 rfl w.heap.size (oneW w) (heap_2 w _ _ _)
  go_enter Try.func11, Try.ntmps11
  go_wp2_with (first | (go_at_call 31; refine (ofone_any _).mono ?_; rintro e w' ⟨rfl, rfl⟩) | (go_at_call 26; refine (float_any _ _).mono ?_; rintro e w' ⟨rfl, rfl⟩) | (go_at_call 48; refine (cfloor_any _ (cb_lt a) _).mono ?_; rintro e w' ⟨r, rfl, hr, n, rfl⟩; have HR := Lib.hid hr; clear hr) | (go_at_call 25; refine (told_any _ _).mono ?_; rintro e w' ⟨rfl, rfl⟩))
  go_ret2
  exact ⟨retIB (HR.out.trans (onI_102 a)) rfl, below_drewN (oneW_below w) _⟩
theorem find1_no (op : Int) (b : Nat) (h : onB op = false) : Instr.findNow (.int .u8) (.int .u8 op) (oneES b).toList 0 = some none := by
  simp only [onB, Bool.or_eq_false_iff] at h
  obtain ⟨⟨⟨h1, h2⟩, h3⟩, h4⟩ := h
  simp [oneES, Instr.findNow, Instr.sameNow, on0, on1, on2, on3, h1, h2, h3, h4]
theorem one_no (op a : Int) (w : World) (h : onB op = false) :
    Calls Try.prog 11 #[.int .u8 op, .int .i64 a] w (IB 0 false w) := by
  have hl := run_find_no (P := Try.prog) Try.underlying46 Try.underlying5 (oneES w.heap.size) 4 op .nilFunc (fun w => by kernel_rfl) (find1_no op _ h) w.heap.size (oneW w) (heap_2 w _ _ _)
  clear h
  go_enter Try.func11, Try.ntmps11
  go_wp2_with (first | (go_at_call 31; refine (ofone_any _).mono ?_; rintro e w' ⟨rfl, rfl⟩))
  go_ret2
  exact ⟨rfl, oneW_below w⟩
theorem one_any (op a : Int) (w : World) :
    Calls Try.prog 11 #[.int .u8 op, .int .i64 a] w (IB (onI op a) (onB op) w) := by
  cases h : onB op
  · have e : onI op a = 0 := by unfold onI; rw [h]; rfl
    rw [e]; exact one_no op a w h
  · rw [← h]
    simp only [onB, Bool.or_eq_true, beq_iff_eq] at h
    rcases h with ((rfl | rfl) | rfl) | rfl
    · exact one_110 a w
    · exact one_97 a w
    · exact one_115 a w
    · exact one_102 a w

/-! ### the document's One -/
theorem sqrt_nan (x : Nat) (h : nanB x = true) : Ieee.double.sqrt x = none := by
  obtain ⟨s, t, e⟩ := read_nanD h
  unfold Ieee.Format.sqrt; rw [e]; rfl
theorem onI_nan (op a : Int) (hop : onB op = true) (h : nanB (cb a) = true) : 9221120237041090560 = onI op a := by
  unfold onI; rw [hop, if_pos rfl]; unfold onF
  split
  · exact tld_nan (by rw [nan_flip]; exact h)
  split
  · exact tld_nan (by rw [nan_rg]; exact h)
  split
  · rw [sqrt_nan _ h]; rfl
  · unfold floB; rw [h]; rfl
theorem rone_no (op a : Int) (w : World) (h : onB op = false) :
    Calls Try.prog 12 #[.int .u8 op, .int .i64 a] w (RB 0 false w) := by
  simp only [onB, Bool.or_eq_false_iff] at h
  obtain ⟨⟨⟨h1, h2⟩, h3⟩, h4⟩ := h
  have k1 : (op != 110) = true := by rw [bne, h1]; rfl
  have k2 : (op != 97) = true := by rw [bne, h2]; rfl
  have k3 : (op != 115) = true := by rw [bne, h3]; rfl
  have k4 : (op != 102) = true := by rw [bne, h4]; rfl
  go_enter Try.func12, Try.ntmps12
  go_wp2
  go_ret2
  exact ⟨rfl, 0, rfl⟩
theorem rone_nan (op a : Int) (w : World) (h : onB op = true) (hx : nanB (cb a) = true) :
    Calls Try.prog 12 #[.int .u8 op, .int .i64 a] w (RB (onI op a) true w) := by
  have H := Lib.hid (onI_nan op a h hx)
  simp only [onB, Bool.or_eq_true, beq_iff_eq] at h
  rcases h with ((rfl | rfl) | rfl) | rfl
  all_goals
    go_enter Try.func12, Try.ntmps12
    go_wp2_with (go_at_call 14; refine (num_any _ _).mono ?_; rintro e w' ⟨rfl, rfl⟩)
    go_ret2
    exact ⟨retIB H.out rfl, 0, rfl⟩
theorem uw_cb (a : Int) : IntKind.u64.wrap a = (cb a : Int) := by unfold cb; rw [uw]; omega
theorem rone_110 (a : Int) (w : World) (hx : nanB (cb a) = false) :
    Calls Try.prog 12 #[.int .u8 110, .int .i64 a] w (RB (onI 110 a) true w) := by
  have hd := run_cb a
  have H := Lib.hid (show wrap64 (bits .xor .u64 (IntKind.u64.wrap a) 9223372036854775808) = onI 110 a by
    rw [uw_cb, xor_flip _ (cb_lt a)]; exact (tld_num (by rw [nan_flip]; exact hx)).trans (onI_110 a))
  go_enter Try.func12, Try.ntmps12
  go_wp2_with (go_at_call 14; refine (num_any _ _).mono ?_; rintro e w' ⟨rfl, rfl⟩)
  go_ret2
  exact ⟨retIB H.out rfl, 0, rfl⟩
theorem rone_97 (a : Int) (w : World) (hx : nanB (cb a) = false) :
    Calls Try.prog 12 #[.int .u8 97, .int .i64 a] w (RB (onI 97 a) true w) := by
  have hd := run_cb a
  have H := Lib.hid (show wrap64 (bits .and .u64 (IntKind.u64.wrap a) 9223372036854775807) = onI 97 a by
    rw [uw_cb, and_abs _ (cb_lt a)]; exact (tld_num (by rw [nan_rg]; exact hx)).trans (onI_97 a))
  go_enter Try.func12, Try.ntmps12
  go_wp2_with (go_at_call 14; refine (num_any _ _).mono ?_; rintro e w' ⟨rfl, rfl⟩)
  go_ret2
  exact ⟨retIB H.out rfl, 0, rfl⟩
theorem rone_115 (a : Int) (w : World) (hx : nanB (cb a) = false) :
    Calls Try.prog 12 #[.int .u8 115, .int .i64 a] w (RB (onI 115 a) true w) := by
  have hd := run_cb a
  go_enter Try.func12, Try.ntmps12
  go_wp2_with (first | (go_at_call 14; refine (num_any _ _).mono ?_; rintro e w' ⟨rfl, rfl⟩) | (go_at_call 32; refine (sqrt_any _ _).mono ?_; rintro e w' ⟨r, rfl, hr, n, rfl⟩; have HR := Lib.hid hr; clear hr) | (go_at_call 28; refine (rcell_any _ _).mono ?_; rintro e w' ⟨rfl, rfl⟩))
  go_ret2
  exact ⟨retIB (HR.out.trans (onI_115 a)) rfl, n, rfl⟩
theorem rone_102 (a : Int) (w : World) (hx : nanB (cb a) = false) :
    Calls Try.prog 12 #[.int .u8 102, .int .i64 a] w (RB (onI 102 a) true w) := by
  have hd := run_cb a
  go_enter Try.func12, Try.ntmps12
  go_wp2_with (first | (go_at_call 14; refine (num_any _ _).mono ?_; rintro e w' ⟨rfl, rfl⟩) | (go_at_call 33; refine (floor_any _ (cb_lt a) _).mono ?_; rintro e w' ⟨r, rfl, hr, n, rfl⟩; have HR := Lib.hid hr; clear hr) | (go_at_call 28; refine (rcell_any _ _).mono ?_; rintro e w' ⟨rfl, rfl⟩))
  go_ret2
  exact ⟨retIB (HR.out.trans (onI_102 a)) rfl, n, rfl⟩
theorem rone_any (op a : Int) (w : World) :
    Calls Try.prog 12 #[.int .u8 op, .int .i64 a] w (RB (onI op a) (onB op) w) := by
  cases h : onB op
  · have e : onI op a = 0 := by unfold onI; rw [h]; rfl
    rw [e]; exact rone_no op a w h
  · cases hx : nanB (cb a)
    · simp only [onB, Bool.or_eq_true, beq_iff_eq] at h
      rcases h with ((rfl | rfl) | rfl) | rfl
      · exact rone_110 a w hx
      · exact rone_97 a w hx
      · exact rone_115 a w hx
      · exact rone_102 a w hx
    · exact rone_nan op a w h hx
end Go.Proofs.Ytbgaoipgfmaijaa
