/- Function values told by what they do; the closures of one, two, asks, taking. -/
import Derived.Test.YtobijdfnafnodaaGreatDoorAluKeep
import Derived.StillTailTactics
import Derived.Deep.RegionWith
import Derived.Test.YtobijdfnafnodaaGreatDoorCellLeaf
namespace Go.Proofs.YtobijdfnafnodaaGreatDoor
set_option maxRecDepth 100000
open Go.ChangeShapes Go.WideShapes Go.ChangeAt Go.RowKit
open Sk (Sl ints Own)
set_option linter.unusedVariables false

def ToldEnd (w : World) : Except Int (List Int) → Ending → World → Prop
  | .error t, e, w' => e = Ending.panicked [{ v := Value.iface 42 (Value.int IntKind.i64 (t)), recovered := false }] ∧ Below w.heap.size w w'
  | .ok l, e, w' => ∃ a n c, e = .returned (.slice a n c) ∧ Sl w' a n c (ints l) ∧ Below w.heap.size w w'
def ValEnd (w : World) : Except Int Int → Ending → World → Prop
  | .error t, e, w' => e = Ending.panicked [{ v := Value.iface 42 (Value.int IntKind.i64 (t)), recovered := false }] ∧ Below w.heap.size w w'
  | .ok y, e, w' => e = .returned (.int .i64 y) ∧ Below w.heap.size w w'
def BoolEnd (w : World) (b : Bool) (e : Ending) (w' : World) : Prop := e = .returned (.bool b) ∧ Below w.heap.size w w'
def WordEnd (w : World) : Except Int (List Int × List Int) → Ending → World → Prop
  | .error t, e, w' => e = Ending.panicked [{ v := Value.iface 42 (Value.int IntKind.i64 (t)), recovered := false }] ∧ Below w.heap.size w w'
  | .ok (b, l), e, w' => ∃ a n c a2 n2 c2, e = .returned (.tuple #[.slice a n c, .slice a2 n2 c2]) ∧ Sl w' a n c (ints b) ∧ Sl w' a2 n2 c2 (ints l) ∧ Below w.heap.size w w'

/-- it has a body: a call enters it -/
def Ent (k : Nat) : Prop := ∀ (args : Array Value) (w : World), (callFunc k args).run Tryz.prog w = .ok (.enter k args) w
/-- a function of one cell, of two; one that asks; one of a list -/
def OneIs (W : World) (F : Value) (h : Int → Except Int Int) : Prop := ∃ k cap, F = .func (.func k) #[] cap ∧ Ent k ∧ ∀ w, Keep W w → ∀ x, I64 x → Calls Tryz.prog k (#[.int .i64 x] ++ cap) w (ValEnd w (h x))
def TwoIs (W : World) (F : Value) (h : Int → Int → Int) : Prop := ∃ k cap, F = .func (.func k) #[] cap ∧ Ent k ∧ ∀ w, Keep W w → ∀ x y, I64 x → I64 y → Calls Tryz.prog k (#[.int .i64 x, .int .i64 y] ++ cap) w (ValEnd w (.ok (h x y)))
def AskOne (W : World) (F : Value) (h : Int → Bool) : Prop := ∃ k cap, F = .func (.func k) #[] cap ∧ Ent k ∧ ∀ w, Keep W w → ∀ x, I64 x → Calls Tryz.prog k (#[.int .i64 x] ++ cap) w (BoolEnd w (h x))
def AskTwo (W : World) (F : Value) (h : Int → Int → Bool) : Prop := ∃ k cap, F = .func (.func k) #[] cap ∧ Ent k ∧ ∀ w, Keep W w → ∀ x y, I64 x → I64 y → Calls Tryz.prog k (#[.int .i64 x, .int .i64 y] ++ cap) w (BoolEnd w (h x y))
def AskIs (W : World) (F : Value) (m : Nat) (h : List Int → Bool) : Prop := ∃ k cap, F = .func (.func k) #[] cap ∧ Ent k ∧ ∀ w, Keep W w → ∀ a c vs, Sl w a m c (ints vs) → I64s vs → Calls Tryz.prog k (#[.slice a m c] ++ cap) w (BoolEnd w (h vs))
def ToldIs (W : World) (F : Value) (m : Nat) (γ : List Int → Except Int (List Int)) : Prop := ∃ k cap, F = .func (.func k) #[] cap ∧ Ent k ∧ ∀ w, Keep W w → ∀ a c vs, Sl w a m c (ints vs) → I64s vs → Calls Tryz.prog k (#[.slice a m c] ++ cap) w (ToldEnd w (γ vs))
def WordIs (W : World) (F : Value) (φ : List Int → Except Int (List Int × List Int)) : Prop := ∃ k cap, F = .func (.func k) #[] cap ∧ Ent k ∧ ∀ w, Keep W w → ∀ a n c xs, Sl w a n c (ints xs) → n ≤ 1000000 → I64s xs → Calls Tryz.prog k (#[.slice a n c] ++ cap) w (WordEnd w (φ xs))
theorem OneIs.keep {W w : World} {F : Value} {h} (H : OneIs W F h) (hk : Keep W w) : OneIs w F h := let ⟨k, cap, e, g, H⟩ := H; ⟨k, cap, e, g, fun w2 h2 => H w2 (hk.trans h2)⟩
theorem TwoIs.keep {W w : World} {F : Value} {h} (H : TwoIs W F h) (hk : Keep W w) : TwoIs w F h := let ⟨k, cap, e, g, H⟩ := H; ⟨k, cap, e, g, fun w2 h2 => H w2 (hk.trans h2)⟩
theorem AskOne.keep {W w : World} {F : Value} {h} (H : AskOne W F h) (hk : Keep W w) : AskOne w F h := let ⟨k, cap, e, g, H⟩ := H; ⟨k, cap, e, g, fun w2 h2 => H w2 (hk.trans h2)⟩
theorem AskTwo.keep {W w : World} {F : Value} {h} (H : AskTwo W F h) (hk : Keep W w) : AskTwo w F h := let ⟨k, cap, e, g, H⟩ := H; ⟨k, cap, e, g, fun w2 h2 => H w2 (hk.trans h2)⟩
theorem AskIs.keep {W w : World} {F : Value} {m h} (H : AskIs W F m h) (hk : Keep W w) : AskIs w F m h := let ⟨k, cap, e, g, H⟩ := H; ⟨k, cap, e, g, fun w2 h2 => H w2 (hk.trans h2)⟩
theorem ToldIs.keep {W w : World} {F : Value} {m h} (H : ToldIs W F m h) (hk : Keep W w) : ToldIs w F m h := let ⟨k, cap, e, g, H⟩ := H; ⟨k, cap, e, g, fun w2 h2 => H w2 (hk.trans h2)⟩
theorem WordIs.keep {W w : World} {F : Value} {h} (H : WordIs W F h) (hk : Keep W w) : WordIs w F h := let ⟨k, cap, e, g, H⟩ := H; ⟨k, cap, e, g, fun w2 h2 => H w2 (hk.trans h2)⟩

/-- what is thrown goes on, what is left is taken on -/
def lst (r : Except Int Int) : Except Int (List Int) := match r with
  | .error t => .error t
  | .ok y => .ok [y]

theorem one_is (W : World) (F : Value) (h : Int → Except Int Int) (p : Addr) (hF : OneIs W F h) (hp : W.cell? p = some F) :
    ToldIs W (.func (.func 118) #[] #[.pointer (some p)]) 1 (fun vs => lst (h (vs.getD 0 0))) := by
  obtain ⟨k, cap, rfl, hE, hC⟩ := hF
  have hE : ∀ (args : Array Value) (w : World), (callFunc k args).run Tryz.prog w = .ok (.enter k args) w := hE
  refine ⟨_, _, rfl, fun _ _ => by kernel_rfl, fun w hk a c vs hS hI => ?_⟩
  have hn := hS.nums
  have hbd := hS.bd
  obtain ⟨b, o, rfl, g0⟩ := hS.int (i := 0) (by omega)
  have hx := hI.at (i := 0)
  have c1 := hk.cell hp
  have hb0 : Below w.heap.size w w.drew := (Below.refl _ _).drew
  have hcall := Lib.hid (hC w.drew (hk.trans (Keep.of hb0)) _ hx)
  have hfr := Lib.hid (fun (V : World) (y : Int) => Sk.fresh V [y] (by simp))
  have hn1 := Sk.new1
  show Calls Tryz.prog 118 #[.slice (some ⟨b, o, none⟩) 1 c, .pointer (some p)] w (ToldEnd w (lst (h (vs.getD 0 0))))
  generalize vs.getD 0 0 = x at *
  simp only [Nat.add_zero] at g0
  clear hC hk hS hI hx hn
  cases hh : h x with
  | error t =>
    rw [hh] at hcall
    go_enter Tryz.func118, Tryz.ntmps118
    go_wp2
    go_still_tail 4, (by kernel_rfl)
    change wpList _ _ _ _ _ w.drew
    generalize w.drew = w2 at *
    go_wp2_with ((with_reducible refine hcall.out.mono ?_); rintro e w3 ⟨rfl, hb3⟩)
    exact ⟨rfl, rfl, hb0.trans (hb3.mono hb0.size)⟩
  | ok y =>
    rw [hh] at hcall
    go_enter Tryz.func118, Tryz.ntmps118
    go_wp2
    go_still_tail 4, (by kernel_rfl)
    change wpList _ _ _ _ _ w.drew
    generalize w.drew = w2 at *
    go_wp2_with ((with_reducible refine hcall.out.mono ?_); rintro e w3 ⟨rfl, hb3⟩; obtain ⟨f1, f2⟩ := hfr.out w3 y)
    go_ret
    exact ⟨_, _, _, rfl, f1, (hb0.trans (hb3.mono hb0.size)).trans (f2.mono (by have := hb0.size; have := hb3.size; omega))⟩

theorem two_is (W : World) (F : Value) (h : Int → Int → Int) (p : Addr) (hF : TwoIs W F h) (hp : W.cell? p = some F) :
    ToldIs W (.func (.func 119) #[] #[.pointer (some p)]) 2 (fun vs => .ok [h (vs.getD 0 0) (vs.getD 1 0)]) := by
  obtain ⟨k, cap, rfl, hE, hC⟩ := hF
  have hE : ∀ (args : Array Value) (w : World), (callFunc k args).run Tryz.prog w = .ok (.enter k args) w := hE
  refine ⟨_, _, rfl, fun _ _ => by kernel_rfl, fun w hk a c vs hS hI => ?_⟩
  have hn := hS.nums
  have hbd := hS.bd
  obtain ⟨b, o, rfl, g0⟩ := hS.int (i := 0) (by omega)
  obtain ⟨b', o', e', g1⟩ := hS.int (i := 1) (by omega)
  simp only [Option.some.injEq, Addr.mk.injEq, and_true] at e'
  obtain ⟨rfl, rfl⟩ := e'
  have hx := hI.at (i := 0)
  have hy := hI.at (i := 1)
  have c1 := hk.cell hp
  have hb0 : Below w.heap.size w w.drew := (Below.refl _ _).drew
  have hcall := Lib.hid (hC w.drew (hk.trans (Keep.of hb0)) _ _ hx hy)
  have hfr := Lib.hid (fun (V : World) (y : Int) => Sk.fresh V [y] (by simp))
  have hn1 := Sk.new1
  show Calls Tryz.prog 119 #[.slice (some ⟨b, o, none⟩) 2 c, .pointer (some p)] w (ToldEnd w (.ok [h (vs.getD 0 0) (vs.getD 1 0)]))
  generalize vs.getD 0 0 = x at *
  generalize vs.getD 1 0 = y at *
  generalize h x y = z at *
  simp only [Nat.add_zero] at g0
  clear hC hk hS hI hx hy hn
  go_enter Tryz.func119, Tryz.ntmps119
  go_wp2
  go_still_tail 7, (by kernel_rfl)
  change wpList _ _ _ _ _ w.drew
  generalize w.drew = w2 at *
  go_wp2_with ((with_reducible refine hcall.out.mono ?_); rintro e w3 ⟨rfl, hb3⟩; obtain ⟨f1, f2⟩ := hfr.out w3 z)
  go_ret
  exact ⟨_, _, _, rfl, f1, (hb0.trans (hb3.mono hb0.size)).trans (f2.mono (by have := hb0.size; have := hb3.size; omega))⟩

theorem askone_is (W : World) (F : Value) (h : Int → Bool) (p : Addr) (hF : AskOne W F h) (hp : W.cell? p = some F) :
    AskIs W (.func (.func 125) #[] #[.pointer (some p)]) 1 (fun vs => h (vs.getD 0 0)) := by
  obtain ⟨k, cap, rfl, hE, hC⟩ := hF
  have hE : ∀ (args : Array Value) (w : World), (callFunc k args).run Tryz.prog w = .ok (.enter k args) w := hE
  refine ⟨_, _, rfl, fun _ _ => by kernel_rfl, fun w hk a c vs hS hI => ?_⟩
  have hn := hS.nums
  have hbd := hS.bd
  obtain ⟨b, o, rfl, g0⟩ := hS.int (i := 0) (by omega)
  have hx := hI.at (i := 0)
  have c1 := hk.cell hp
  have hb0 : Below w.heap.size w w.drew := (Below.refl _ _).drew
  have hcall := Lib.hid (hC w.drew (hk.trans (Keep.of hb0)) _ hx)
  show Calls Tryz.prog 125 #[.slice (some ⟨b, o, none⟩) 1 c, .pointer (some p)] w (BoolEnd w (h (vs.getD 0 0)))
  generalize vs.getD 0 0 = x at *
  generalize h x = z at *
  simp only [Nat.add_zero] at g0
  clear hC hk hS hI hx hn
  go_enter Tryz.func125, Tryz.ntmps125
  go_wp2
  go_still_tail 4, (by kernel_rfl)
  change wpList _ _ _ _ _ w.drew
  generalize w.drew = w2 at *
  go_wp2_with ((with_reducible refine hcall.out.mono ?_); rintro e w3 ⟨rfl, hb3⟩)
  go_ret
  exact ⟨rfl, hb0.trans (hb3.mono hb0.size)⟩

theorem asktwo_is (W : World) (F : Value) (h : Int → Int → Bool) (p : Addr) (hF : AskTwo W F h) (hp : W.cell? p = some F) :
    AskIs W (.func (.func 124) #[] #[.pointer (some p)]) 2 (fun vs => h (vs.getD 0 0) (vs.getD 1 0)) := by
  obtain ⟨k, cap, rfl, hE, hC⟩ := hF
  have hE : ∀ (args : Array Value) (w : World), (callFunc k args).run Tryz.prog w = .ok (.enter k args) w := hE
  refine ⟨_, _, rfl, fun _ _ => by kernel_rfl, fun w hk a c vs hS hI => ?_⟩
  have hn := hS.nums
  have hbd := hS.bd
  obtain ⟨b, o, rfl, g0⟩ := hS.int (i := 0) (by omega)
  obtain ⟨b', o', e', g1⟩ := hS.int (i := 1) (by omega)
  simp only [Option.some.injEq, Addr.mk.injEq, and_true] at e'
  obtain ⟨rfl, rfl⟩ := e'
  have hx := hI.at (i := 0)
  have hy := hI.at (i := 1)
  have c1 := hk.cell hp
  have hb0 : Below w.heap.size w w.drew := (Below.refl _ _).drew
  have hcall := Lib.hid (hC w.drew (hk.trans (Keep.of hb0)) _ _ hx hy)
  show Calls Tryz.prog 124 #[.slice (some ⟨b, o, none⟩) 2 c, .pointer (some p)] w (BoolEnd w (h (vs.getD 0 0) (vs.getD 1 0)))
  generalize vs.getD 0 0 = x at *
  generalize vs.getD 1 0 = y at *
  generalize h x y = z at *
  simp only [Nat.add_zero] at g0
  clear hC hk hS hI hx hy hn
  go_enter Tryz.func124, Tryz.ntmps124
  go_wp2
  go_still_tail 7, (by kernel_rfl)
  change wpList _ _ _ _ _ w.drew
  generalize w.drew = w2 at *
  go_wp2_with ((with_reducible refine hcall.out.mono ?_); rintro e w3 ⟨rfl, hb3⟩)
  go_ret
  exact ⟨rfl, hb0.trans (hb3.mono hb0.size)⟩

theorem asks_is (W : World) (F : Value) (m : Nat) (h : List Int → Bool) (p : Addr) (hF : AskIs W F m h) (hp : W.cell? p = some F) :
    ToldIs W (.func (.func 126) #[] #[.pointer (some p)]) m (fun vs => .ok [Ce.flagI (h vs)]) := by
  obtain ⟨k, cap, rfl, hE, hC⟩ := hF
  have hE : ∀ (args : Array Value) (w : World), (callFunc k args).run Tryz.prog w = .ok (.enter k args) w := hE
  refine ⟨_, _, rfl, fun _ _ => by kernel_rfl, fun w hk a c vs hS hI => ?_⟩
  have c1 := hk.cell hp
  have hcall := Lib.hid (hC w hk a c vs hS hI)
  have hfr := Lib.hid (fun (V : World) (y : Int) => Sk.fresh V [y] (by simp))
  have hn1 := Sk.new1
  show Calls Tryz.prog 126 #[.slice a m c, .pointer (some p)] w (ToldEnd w (.ok [Ce.flagI (h vs)]))
  generalize h vs = z at *
  clear hC hk hS hI
  go_enter Tryz.func126, Tryz.ntmps126
  go_wp2_with (first | (go_at_call 17; (with_reducible refine (Ce.flag_any _ _).mono ?_); rintro e w4 ⟨rfl, rfl⟩; obtain ⟨f1, f2⟩ := hfr.out w3 (Ce.flagI z)) | ((with_reducible refine hcall.out.mono ?_); rintro e w3 ⟨rfl, hb3⟩))
  go_ret
  exact ⟨_, _, _, rfl, f1, hb3.trans (f2.mono hb3.size)⟩

/-- a word that takes m values -/
def tk (m : Nat) (γ : List Int → Except Int (List Int)) (xs : List Int) : Except Int (List Int × List Int) :=
  if xs.length < m then .error (-4) else match γ (xs.drop (xs.length - m)) with
    | .error t => .error t
    | .ok l => .ok (xs.take (xs.length - m), l)
theorem taking_is (W : World) (F : Value) (m : Nat) (γ : List Int → Except Int (List Int)) (p q : Addr) (hF : ToldIs W F m γ) (hm : m ≤ 10) (hp : W.cell? p = some (.int .i64 (m : Int))) (hq : W.cell? q = some F) :
    WordIs W (.func (.func 113) #[] #[.pointer (some p), .pointer (some q)]) (tk m γ) := by
  obtain ⟨k, cap, rfl, hE, hC⟩ := hF
  have hE : ∀ (args : Array Value) (w : World), (callFunc k args).run Tryz.prog w = .ok (.enter k args) w := hE
  refine ⟨_, _, rfl, fun _ _ => by kernel_rfl, fun w hk a n c xs hS hn hI => ?_⟩
  have hl := hS.nums
  have c1 := hk.cell hp
  show Calls Tryz.prog 113 #[.slice a n c, .pointer (some p), .pointer (some q)] w _
  by_cases hc : n < m
  · have ht := Lib.hid (take_no a n c m xs w hS (by omega) hc hm)
    have e1 : tk m γ xs = .error (-4) := if_pos (by omega)
    rw [e1]
    clear e1 hC hk hS hI
    go_enter Tryz.func113, Tryz.ntmps113
    go_wp2_with (go_at_call 114; (with_reducible refine ht.out.mono ?_); rintro e w1 ⟨rfl, hb1⟩)
    exact ⟨rfl, rfl, hb1⟩
  · have ht := Lib.hid (take_ok a n c m xs w hS (by omega) (by omega) hm)
    have hcall := Lib.hid (fun (w1 : World) (hb : Below w.heap.size w w1) a2 c2 (h2 : Sl w1 a2 m c2 (ints (xs.drop (n - m)))) => hC w1 (hk.trans (Keep.of hb)) a2 c2 _ h2 (hI.drop _))
    have hq1 := Lib.hid (fun (w1 : World) (hb : Below w.heap.size w w1) => (hk.trans (Keep.of hb)).cell hq)
    clear hC hk hS hI hp hq
    cases hg : γ (xs.drop (n - m)) with
    | error t =>
      have e1 : tk m γ xs = .error t := by unfold tk; rw [if_neg (by omega), hl, hg]
      rw [e1]
      rw [hg] at hcall
      clear hg e1
      generalize xs.drop (n - m) = ys at *
      go_enter Tryz.func113, Tryz.ntmps113
      go_wp2_with (first | (go_at_call 114; (with_reducible refine ht.out.mono ?_); rintro e w1 ⟨a1, d1, a2, d2, rfl, hs1, hs2, hb1⟩; have q1 := hq1.out _ hb1; replace hcall := Lib.hid (hcall.out _ hb1 _ _ hs2); clear hs2; replace hs1 := Lib.hid hs1; replace hb1 := Lib.hid hb1) | ((with_reducible refine hcall.out.mono ?_); rintro e w3 ⟨rfl, hb3⟩))
      exact ⟨rfl, rfl, hb1.out.trans (hb3.mono hb1.out.size)⟩
    | ok l =>
      have e1 : tk m γ xs = .ok (xs.take (n - m), l) := by unfold tk; rw [if_neg (by omega), hl, hg]
      rw [e1]
      rw [hg] at hcall
      clear hg e1
      generalize xs.drop (n - m) = ys at *
      go_enter Tryz.func113, Tryz.ntmps113
      go_wp2_with (first | (go_at_call 114; (with_reducible refine ht.out.mono ?_); rintro e w1 ⟨a1, d1, a2, d2, rfl, hs1, hs2, hb1⟩; have q1 := hq1.out _ hb1; replace hcall := Lib.hid (hcall.out _ hb1 _ _ hs2); clear hs2; replace hs1 := Lib.hid hs1; replace hb1 := Lib.hid hb1) | ((with_reducible refine hcall.out.mono ?_); rintro e w3 ⟨a3, n3, d3, rfl, hs3, hb3⟩))
      go_ret2
      exact ⟨_, _, _, _, _, _, rfl, hs1.out.below hb3, hs3, hb1.out.trans (hb3.mono hb1.out.size)⟩
end Go.Proofs.YtobijdfnafnodaaGreatDoor
