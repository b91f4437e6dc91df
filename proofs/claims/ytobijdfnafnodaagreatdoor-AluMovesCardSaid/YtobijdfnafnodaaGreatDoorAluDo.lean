/- find, and Do with what it recovers from. -/
import Derived.Test.YtobijdfnafnodaaGreatDoorAluMaps
namespace Go.Proofs.YtobijdfnafnodaaGreatDoor
set_option maxRecDepth 100000
open Go.ChangeShapes Go.WideShapes Go.ChangeAt Go.RowKit
open Sk (Sl ints Own)
open On (bytesOk Laid nm)
set_option linter.unusedVariables false

def orP (a : Option Phi) (b : Option Phi) : Option Phi := match a with
  | some φ => some φ
  | none => b
def lk5 (f : List Int) : Option Phi := orP (lkp tb5 f) none
def lk4 (f : List Int) : Option Phi := orP (lkp tb4 f) (lk5 f)
def lk3 (f : List Int) : Option Phi := orP (lkp tb3 f) (lk4 f)
def lk2 (f : List Int) : Option Phi := orP (lkp tb2 f) (lk3 f)
def lk1 (f : List Int) : Option Phi := orP (lkp tb1 f) (lk2 f)
def lkA (f : List Int) : Option Phi := orP (lkp tb0 f) (lk1 f)
def lkF : Nat → List Int → Option Phi
  | 0, f => lkA f
  | 1, f => lk1 f
  | 2, f => lk2 f
  | 3, f => lk3 f
  | 4, f => lk4 f
  | 5, f => lk5 f
  | _, _ => none

theorem MapIs.no {W : World} {B : Nat} {l : Tbl} (h : MapIs W B l) {f : List Int} (hf : bytesOk f) (hn : lkp l f = none) :
    (Instr.lookup 58 (.map (some B)) (.string (strOfNums f)) true).run Tryz.prog W = .ok (.tuple #[.nilFunc, .bool false]) W := by
  rcases h.lookup hf with ⟨h1, _⟩ | ⟨F, φ, _, h2, _⟩
  · exact h1
  · rw [hn] at h2; cases h2
theorem MapIs.yes {W : World} {B : Nat} {l : Tbl} (h : MapIs W B l) {f : List Int} (hf : bytesOk f) {φ : Phi} (hn : lkp l f = some φ) :
    ∃ F, (Instr.lookup 58 (.map (some B)) (.string (strOfNums f)) true).run Tryz.prog W = .ok (.tuple #[F, .bool true]) W ∧ WordIs W F φ := by
  rcases h.lookup hf with ⟨_, h2⟩ | ⟨F, ψ, h1, h2, h3⟩
  · rw [hn] at h2; cases h2
  · rw [hn] at h2
    injection h2 with h2
    subst h2
    exact ⟨F, h1, h3⟩

def FindEnd (w : World) : Option Phi → Ending → World → Prop
  | none, e, w' => e = .returned (.tuple #[.nilFunc, .bool false]) ∧ Below w.heap.size w w'
  | some φ, e, w' => ∃ F, e = .returned (.tuple #[F, .bool true]) ∧ WordIs w' F φ ∧ Below w.heap.size w w'

abbrev F6 : Array Value := #[.func (.func 29) #[] #[], .func (.func 30) #[] #[], .func (.func 31) #[] #[], .func (.func 32) #[] #[], .func (.func 33) #[] #[], .func (.func 34) #[] #[]]
def Six (w wr : World) : Prop := Below (w.heap.size + 1) (w.alloc (.cells F6 56)) wr
theorem Six.cell {w wr : World} (h : Six w wr) (i : Nat) {v : Value} (hv : F6[i]? = some v) : wr.cell? ⟨w.heap.size, i, none⟩ = some v := by
  have h1 := Below.cell (p := ⟨w.heap.size, i, none⟩) h (Nat.lt_succ_self _)
  rw [h1]
  unfold World.cell?
  rw [heap_alloc_new w _]
  exact hv
theorem Six.go {w wr w2 : World} (h : Six w wr) (hb : Below wr.heap.size wr w2) : Six w w2 := Below.trans h (hb.mono (by have := Below.size h; simp at this; exact this))
theorem Six.below {w wr : World} (h : Six w wr) : Below w.heap.size w wr := ((Below.refl w.heap.size w).alloc (Nat.le_refl _) _).trans (Below.mono h (Nat.le_succ _))

set_option maxHeartbeats 4000000 in
theorem find_any (f : List Int) (w : World) (hf : bytesOk f) :
    Calls Tryz.prog 18 #[.string (strOfNums f)] w (FindEnd w (lkA f)) := by
  have hmf := Sk.mkf
  have h0 : Six w (w.alloc (.cells F6 56)) := Below.refl _ _
  have hno := Lib.hid (fun (W : World) (B : Nat) (l : Tbl) (h : MapIs W B l) (hn : lkp l f = none) => h.no hf hn)
  have hyes := Lib.hid (fun (W : World) (B : Nat) (l : Tbl) (φ : Phi) (h : MapIs W B l) (hn : lkp l f = some φ) => h.yes hf hn)
  clear hf
  generalize strOfNums f = s at *
  go_enter Tryz.func18, Tryz.ntmps18
  go_wp2
  go_loopw [10] (fun i wr => ∃ k : Nat, k ≤ 6 ∧ i = .int .i64 k ∧ Hid (lkA f = lkF k f) ∧ Hid (Six w wr)) (fun i _ => 6 - (intOf i).toNat)
  case atStart => exact ⟨0, by decide, rfl, Lib.hid rfl, Lib.hid h0⟩
  case round =>
    obtain ⟨k, hk, rfl, hl, hS⟩ := hrel
    obtain rfl | rfl | rfl | rfl | rfl | rfl | rfl : k = 0 ∨ k = 1 ∨ k = 2 ∨ k = 3 ∨ k = 4 ∨ k = 5 ∨ k = 6 := by omega
    · have c0 := hS.out.cell 0 rfl
      have hSb := hS.out
      cases hq : lkp tb0 f with
      | none =>
        have hl' : lkA f = lkF 1 f := by rw [hl.out]; show orP (lkp tb0 f) (lk1 f) = lk1 f; rw [hq]; rfl
        replace hl' := Lib.hid hl'
        have hn := Lib.hid (fun (W : World) (B : Nat) (h : MapIs W B tb0) => hno.out W B tb0 h hq)
        clear hq hno hyes hl h0 hSb
        go_wp2_with (go_at_call 29; (with_reducible refine (ofPlaces_any _).mono ?_); rintro e w1 ⟨B, rfl, hM, hb⟩; have hr := hn.out _ _ hM; have hS2 := Lib.hid (hS.out.go hb); clear hM hb)
        refine ⟨⟨1, by decide, by rfl, hl', hS2⟩, by decide⟩
      | some φ =>
        have hl' : lkA f = some φ := by rw [hl.out]; show orP (lkp tb0 f) (lk1 f) = some φ; rw [hq]; rfl
        rw [hl']
        have hn := Lib.hid (fun (W : World) (B : Nat) (h : MapIs W B tb0) => hyes.out W B tb0 φ h hq)
        clear hq hno hyes hl hl' h0 hSb
        go_wp2_with (go_at_call 29; (with_reducible refine (ofPlaces_any _).mono ?_); rintro e w1 ⟨B, rfl, hM, hb⟩; obtain ⟨F, hr, hW⟩ := hn.out _ _ hM; replace hW := Lib.hid hW; have hS2 := Lib.hid (hS.out.go hb); clear hM hb)
        go_ret2
        exact ⟨_, rfl, hW.out, hS2.out.below⟩
    · have c0 := hS.out.cell 1 rfl
      have hSb := hS.out
      cases hq : lkp tb1 f with
      | none =>
        have hl' : lkA f = lkF 2 f := by rw [hl.out]; show orP (lkp tb1 f) (lk2 f) = lk2 f; rw [hq]; rfl
        replace hl' := Lib.hid hl'
        have hn := Lib.hid (fun (W : World) (B : Nat) (h : MapIs W B tb1) => hno.out W B tb1 h hq)
        clear hq hno hyes hl h0 hSb
        go_wp2_with (go_at_call 30; (with_reducible refine (ofOne_any _).mono ?_); rintro e w1 ⟨B, rfl, hM, hb⟩; have hr := hn.out _ _ hM; have hS2 := Lib.hid (hS.out.go hb); clear hM hb)
        refine ⟨⟨2, by decide, by rfl, hl', hS2⟩, by decide⟩
      | some φ =>
        have hl' : lkA f = some φ := by rw [hl.out]; show orP (lkp tb1 f) (lk2 f) = some φ; rw [hq]; rfl
        rw [hl']
        have hn := Lib.hid (fun (W : World) (B : Nat) (h : MapIs W B tb1) => hyes.out W B tb1 φ h hq)
        clear hq hno hyes hl hl' h0 hSb
        go_wp2_with (go_at_call 30; (with_reducible refine (ofOne_any _).mono ?_); rintro e w1 ⟨B, rfl, hM, hb⟩; obtain ⟨F, hr, hW⟩ := hn.out _ _ hM; replace hW := Lib.hid hW; have hS2 := Lib.hid (hS.out.go hb); clear hM hb)
        go_ret2
        exact ⟨_, rfl, hW.out, hS2.out.below⟩
    · have c0 := hS.out.cell 2 rfl
      have hSb := hS.out
      cases hq : lkp tb2 f with
      | none =>
        have hl' : lkA f = lkF 3 f := by rw [hl.out]; show orP (lkp tb2 f) (lk3 f) = lk3 f; rw [hq]; rfl
        replace hl' := Lib.hid hl'
        have hn := Lib.hid (fun (W : World) (B : Nat) (h : MapIs W B tb2) => hno.out W B tb2 h hq)
        clear hq hno hyes hl h0 hSb
        go_wp2_with (go_at_call 31; (with_reducible refine (ofTwo_any _).mono ?_); rintro e w1 ⟨B, rfl, hM, hb⟩; have hr := hn.out _ _ hM; have hS2 := Lib.hid (hS.out.go hb); clear hM hb)
        refine ⟨⟨3, by decide, by rfl, hl', hS2⟩, by decide⟩
      | some φ =>
        have hl' : lkA f = some φ := by rw [hl.out]; show orP (lkp tb2 f) (lk3 f) = some φ; rw [hq]; rfl
        rw [hl']
        have hn := Lib.hid (fun (W : World) (B : Nat) (h : MapIs W B tb2) => hyes.out W B tb2 φ h hq)
        clear hq hno hyes hl hl' h0 hSb
        go_wp2_with (go_at_call 31; (with_reducible refine (ofTwo_any _).mono ?_); rintro e w1 ⟨B, rfl, hM, hb⟩; obtain ⟨F, hr, hW⟩ := hn.out _ _ hM; replace hW := Lib.hid hW; have hS2 := Lib.hid (hS.out.go hb); clear hM hb)
        go_ret2
        exact ⟨_, rfl, hW.out, hS2.out.below⟩
    · have c0 := hS.out.cell 3 rfl
      have hSb := hS.out
      cases hq : lkp tb3 f with
      | none =>
        have hl' : lkA f = lkF 4 f := by rw [hl.out]; show orP (lkp tb3 f) (lk4 f) = lk4 f; rw [hq]; rfl
        replace hl' := Lib.hid hl'
        have hn := Lib.hid (fun (W : World) (B : Nat) (h : MapIs W B tb3) => hno.out W B tb3 h hq)
        clear hq hno hyes hl h0 hSb
        go_wp2_with (go_at_call 32; (with_reducible refine (ofQuotients_any _).mono ?_); rintro e w1 ⟨B, rfl, hM, hb⟩; have hr := hn.out _ _ hM; have hS2 := Lib.hid (hS.out.go hb); clear hM hb)
        refine ⟨⟨4, by decide, by rfl, hl', hS2⟩, by decide⟩
      | some φ =>
        have hl' : lkA f = some φ := by rw [hl.out]; show orP (lkp tb3 f) (lk4 f) = some φ; rw [hq]; rfl
        rw [hl']
        have hn := Lib.hid (fun (W : World) (B : Nat) (h : MapIs W B tb3) => hyes.out W B tb3 φ h hq)
        clear hq hno hyes hl hl' h0 hSb
        go_wp2_with (go_at_call 32; (with_reducible refine (ofQuotients_any _).mono ?_); rintro e w1 ⟨B, rfl, hM, hb⟩; obtain ⟨F, hr, hW⟩ := hn.out _ _ hM; replace hW := Lib.hid hW; have hS2 := Lib.hid (hS.out.go hb); clear hM hb)
        go_ret2
        exact ⟨_, rfl, hW.out, hS2.out.below⟩
    · have c0 := hS.out.cell 4 rfl
      have hSb := hS.out
      cases hq : lkp tb4 f with
      | none =>
        have hl' : lkA f = lkF 5 f := by rw [hl.out]; show orP (lkp tb4 f) (lk5 f) = lk5 f; rw [hq]; rfl
        replace hl' := Lib.hid hl'
        have hn := Lib.hid (fun (W : World) (B : Nat) (h : MapIs W B tb4) => hno.out W B tb4 h hq)
        clear hq hno hyes hl h0 hSb
        go_wp2_with (go_at_call 33; (with_reducible refine (ofQuestions_any _).mono ?_); rintro e w1 ⟨B, rfl, hM, hb⟩; have hr := hn.out _ _ hM; have hS2 := Lib.hid (hS.out.go hb); clear hM hb)
        refine ⟨⟨5, by decide, by rfl, hl', hS2⟩, by decide⟩
      | some φ =>
        have hl' : lkA f = some φ := by rw [hl.out]; show orP (lkp tb4 f) (lk5 f) = some φ; rw [hq]; rfl
        rw [hl']
        have hn := Lib.hid (fun (W : World) (B : Nat) (h : MapIs W B tb4) => hyes.out W B tb4 φ h hq)
        clear hq hno hyes hl hl' h0 hSb
        go_wp2_with (go_at_call 33; (with_reducible refine (ofQuestions_any _).mono ?_); rintro e w1 ⟨B, rfl, hM, hb⟩; obtain ⟨F, hr, hW⟩ := hn.out _ _ hM; replace hW := Lib.hid hW; have hS2 := Lib.hid (hS.out.go hb); clear hM hb)
        go_ret2
        exact ⟨_, rfl, hW.out, hS2.out.below⟩
    · have c0 := hS.out.cell 5 rfl
      have hSb := hS.out
      cases hq : lkp tb5 f with
      | none =>
        have hl' : lkA f = lkF 6 f := by rw [hl.out]; show orP (lkp tb5 f) (none) = none; rw [hq]; rfl
        replace hl' := Lib.hid hl'
        have hn := Lib.hid (fun (W : World) (B : Nat) (h : MapIs W B tb5) => hno.out W B tb5 h hq)
        clear hq hno hyes hl h0 hSb
        go_wp2_with (go_at_call 34; (with_reducible refine (ofFloats_any _).mono ?_); rintro e w1 ⟨B, rfl, hM, hb⟩; have hr := hn.out _ _ hM; have hS2 := Lib.hid (hS.out.go hb); clear hM hb)
        refine ⟨⟨6, by decide, by rfl, hl', hS2⟩, by decide⟩
      | some φ =>
        have hl' : lkA f = some φ := by rw [hl.out]; show orP (lkp tb5 f) (none) = some φ; rw [hq]; rfl
        rw [hl']
        have hn := Lib.hid (fun (W : World) (B : Nat) (h : MapIs W B tb5) => hyes.out W B tb5 φ h hq)
        clear hq hno hyes hl hl' h0 hSb
        go_wp2_with (go_at_call 34; (with_reducible refine (ofFloats_any _).mono ?_); rintro e w1 ⟨B, rfl, hM, hb⟩; obtain ⟨F, hr, hW⟩ := hn.out _ _ hM; replace hW := Lib.hid hW; have hS2 := Lib.hid (hS.out.go hb); clear hM hb)
        go_ret2
        exact ⟨_, rfl, hW.out, hS2.out.below⟩
    · clear h0
      go_wp2
      go_ret2
      rw [hl.out]
      exact ⟨rfl, hS.out.below⟩

/-- the deferred function: what gave up is told; where nothing did, nothing turns -/
theorem catch_panicking (p : Addr) (t x : Int) (older : List PanicEntry) (w : World) (hc : w.cell? p = some (.int .i64 x)) (hz : w.frozen? p = false) :
    CallsD Tryz.prog 19 #[.pointer (some p)] (.panicking ({ v := .iface 42 (.int .i64 t), recovered := false } :: older)) w fun e u' w' =>
      e = .returned (.tuple #[]) ∧ u' = .panicking ({ v := .iface 42 (.int .i64 t), recovered := true } :: older) ∧ w' = w.setCell p (.int .i64 t) := by
  have hta : ∀ w : World, (Instr.typeAssert (.iface 42 (.int .i64 t)) 20 42 false).run Tryz.prog w = .ok (.int .i64 t) w := fun _ => by kernel_rfl
  refine callsD_of_wpS Tryz.func19 rfl fun c₀ cs hu => ?_
  apply wpS_seq
  apply wpS_region
  simp [wpOpsS, go_sem, recoverD, hu, Tryz.ntmps19, Exit.thenS]
  apply wpS_seq
  apply wpS_region
  simp [wpOpsS, go_sem, Exit.thenS]
  refine wpS_cond (t := true) (by simp [Act.eval, Array.replicate]) ?_
  simp only [if_true]
  apply wpS_region
  simp [wpOpsS, go_sem, hta, hc, hz, bodyPostS, results, Tryz.results19]
theorem catch_idle (p : Addr) (w : World) :
    CallsD Tryz.prog 19 #[.pointer (some p)] .returning w fun e u' w' => e = .returned (.tuple #[]) ∧ u' = .returning ∧ w' = w := by
  refine callsD_of_wpS Tryz.func19 rfl fun c₀ cs hu => ?_
  apply wpS_seq
  apply wpS_region
  simp [wpOpsS, go_sem, recoverD, hu, Tryz.ntmps19, Exit.thenS]
  apply wpS_seq
  apply wpS_region
  simp [wpOpsS, go_sem, Exit.thenS]
  refine wpS_cond (t := false) (by simp [Act.eval, Array.replicate]) ?_
  simp only [Bool.false_eq_true, if_false]
  refine wpS_of_wp (wp_skip ?_)
  cases c₀
  simp_all [bodyPostS, results, Tryz.results19]
end Go.Proofs.YtobijdfnafnodaaGreatDoor
