/- The statements' own helpers: awake, word, top, twice. -/
import Derived.Test.YtobijdfnafnodaaGreatDoorAluRdo
namespace Go.Proofs.YtobijdfnafnodaaGreatDoor
set_option maxRecDepth 100000
open Go.ChangeShapes Go.WideShapes Go.ChangeAt Go.RowKit
open Sk (Sl ints Own)
open On (Laid bytesOk)
set_option linter.unusedVariables false

theorem laid_on {w W : World} (hL : Laid w) (h : Below w.heap.size w W) : Laid W := hL.below h (Nat.le_refl _)
theorem find_at (xs : List Int) (s : ByteArray) (k : Int) (W : World) (hL : Laid W) (hs : s = strOfNums xs) (hx : bytesOk xs) (hn : xs.length ≤ 1000) (hk : On.fnO (On.fold xs) = k) :
    Calls Tryz.prog 16 #[.string s] W fun e w' => e = .returned (.int .i64 k) ∧ Below W.heap.size W w' := by
  rw [hs, ← hk]
  exact On.find_any xs W hL hx hn
/-- what Do tells, with the list's size -/
def DoAt (w : World) (n : Nat) (xs : List Int) (t : Int) (z : Bool) (e : Ending) (w' : World) : Prop := ∃ a c, e = .returned (.tuple #[.slice a n c, .int .i64 t, .bool z]) ∧ Sl w' a n c (ints xs) ∧ Below w.heap.size w w'
theorem DoEnd.at {w : World} {r : List Int × Int × Bool} {e : Ending} {w' : World} (h : DoEnd w r e w') {n : Nat} {xs : List Int} {t : Int} {z : Bool} (hr : r = (xs, t, z)) (hn : xs.length = n) : DoAt w n xs t z e w' := by
  obtain ⟨a, m, c, he, hs, hb⟩ := h
  subst hr
  have := hs.nums
  simp only at this he hs
  subst hn
  subst this
  exact ⟨a, c, he, hs, hb⟩

theorem do_new (op : Int) (ds : List Int) (d : Int) (V : World) (hL : Laid V) (ho : I64 op) (hI : I64s ds) (hd : I64 d) (hl : ds.length ≤ 1000) (k : Nat) (hk : ds.length = k) (n : Nat) (xs : List Int) (t : Int) (z : Bool) (hr : doR (phO op) ds d = (xs, t, z)) (hn : xs.length = n) :
    Calls Tryz.prog 9 #[.int .i64 op, .slice (some ⟨V.heap.size, 0, none⟩) k k, .int .i64 d] (V.alloc (.cells (ints ds).toArray 3)) fun e w' => DoAt V n xs t z e w' := by
  subst hk
  obtain ⟨f1, f2⟩ := Sk.fresh V ds hl
  refine (do_phO op _ _ _ ds d _ (laid_on hL f2) ho f1 (by omega) hI hd).mono fun e w' h => ?_
  obtain ⟨a, c, he, hs, hb⟩ := h.at hr hn
  exact ⟨a, c, he, hs, f2.trans (hb.mono f2.size)⟩

set_option maxHeartbeats 1000000 in
theorem awake_any (w : World) (hL : Laid w) :
    Calls Tryz.prog 8 #[] w fun e w' => e = .returned (.bool true) ∧ Below w.heap.size w w' := by
  have t1 := Lib.hid (fun (V : World) (h : Below w.heap.size w V) => find_at [47, 109, 111, 100] ⟨#[47, 109, 111, 100]⟩ 33 V (laid_on hL h) (by decide +kernel) (by unfold bytesOk; decide) (by decide) (by decide +kernel))
  have t2 := Lib.hid (fun (V : World) (h : Below w.heap.size w V) => find_at [100, 117, 112] ⟨#[100, 117, 112]⟩ 13 V (laid_on hL h) (by decide +kernel) (by unfold bytesOk; decide) (by decide) (by decide +kernel))
  have t3 := Lib.hid (fun (V : World) (h : Below w.heap.size w V) => find_at [64] ⟨#[64]⟩ 78 V (laid_on hL h) (by decide +kernel) (by unfold bytesOk; decide) (by decide) (by decide +kernel))
  have d1 : Hid (∀ V, Below w.heap.size w V → Calls Tryz.prog 9 #[.int .i64 33, .slice (some ⟨V.heap.size, 0, none⟩) 3 3, .int .i64 9] (V.alloc (.cells #[.int .i64 5, .int .i64 (-7), .int .i64 2] 3)) fun e w' => DoAt V 3 [5, 1, -4] 0 true e w') := Lib.hid fun V h =>
    do_new 33 [5, -7, 2] 9 V (laid_on hL h) (by unfold I64; omega) (by unfold I64s I64; decide) (by unfold I64; omega) (by decide) 3 rfl 3 _ _ _ (by decide +kernel) rfl
  have d2 : Hid (∀ V, Below w.heap.size w V → Calls Tryz.prog 9 #[.int .i64 13, .slice (some ⟨V.heap.size, 0, none⟩) 1 1, .int .i64 1] (V.alloc (.cells #[.int .i64 1] 3)) fun e w' => DoAt V 0 [] (-3) true e w') := Lib.hid fun V h =>
    do_new 13 [1] 1 V (laid_on hL h) (by unfold I64; omega) (by unfold I64s I64; decide) (by unfold I64; omega) (by decide) 1 rfl 0 _ _ _ (by decide +kernel) rfl
  have d3 : Hid (∀ V, Below w.heap.size w V → Calls Tryz.prog 9 #[.int .i64 78, .slice (some ⟨V.heap.size, 0, none⟩) 1 1, .int .i64 1] (V.alloc (.cells #[.int .i64 1] 3)) fun e w' => DoAt V 0 [] 0 false e w') := Lib.hid fun V h =>
    do_new 78 [1] 1 V (laid_on hL h) (by unfold I64; omega) (by unfold I64s I64; decide) (by unfold I64; omega) (by decide) 1 rfl 0 _ _ _ (by decide +kernel) rfl
  clear hL
  go_enter Tryz.func8, Tryz.ntmps8
  go_wp2_with (first
    | (go_at_call 16; (with_reducible refine (t1.out _ (Below.refl _ _)).mono ?_); rintro e w1 ⟨rfl, b1⟩; have B1 := Lib.hid b1; clear b1)
    | (go_at_call 9; (with_reducible refine (d1.out _ B1.out).mono ?_); rintro e w2 ⟨a2, c2, rfl, hs2, b2⟩; have B2 := Lib.hid (B1.out.trans (b2.mono B1.out.size)); replace hs2 := Lib.hid hs2; clear b2)
    | (go_at_call 16; (with_reducible refine (t2.out _ B2.out).mono ?_); rintro e w3 ⟨rfl, b3⟩; have B3 := Lib.hid (B2.out.trans (b3.mono B2.out.size)); have hs3 := Lib.hid (hs2.out.below b3); clear b3)
    | (go_at_call 9; (with_reducible refine (d2.out _ B3.out).mono ?_); rintro e w4 ⟨a4, c4, rfl, hs, b4⟩; have B4 := Lib.hid (B3.out.trans (b4.mono B3.out.size)); have hs4 := Lib.hid (hs3.out.below b4); clear b4 hs)
    | (go_at_call 16; (with_reducible refine (t3.out _ B4.out).mono ?_); rintro e w5 ⟨rfl, b5⟩; have B5 := Lib.hid (B4.out.trans (b5.mono B4.out.size)); have hs5 := Lib.hid (hs4.out.below b5); clear b5)
    | (go_at_call 9; (with_reducible refine (d3.out _ B5.out).mono ?_); rintro e w6 ⟨a6, c6, rfl, hs, b6⟩; have B6 := Lib.hid (B5.out.trans (b6.mono B5.out.size)); have hs6 := hs5.out.below b6; obtain ⟨xb, xo, rfl, g0⟩ := hs6.int (i := 0) (by decide); obtain ⟨yb, yo, ye, g1⟩ := hs6.int (i := 1) (by decide); obtain ⟨zb, zo, ze, g2⟩ := hs6.int (i := 2) (by decide); simp only [Option.some.injEq, Addr.mk.injEq, and_true] at ye ze; obtain ⟨rfl, rfl⟩ := ye; obtain ⟨rfl, rfl⟩ := ze; simp only [Nat.add_zero, List.getD_cons_zero, List.getD_cons_succ] at g0 g1 g2; have hbd := hs6.bd; clear b6 hs hs6))
  go_ret
  exact ⟨rfl, B6.out⟩

/-- what the helper word makes of a list -/
def wordX (k : Int) (ds : List Int) : List Int := if (doR (phO k) ds 1000).2.1 = 0 ∧ (doR (phO k) ds 1000).2.2 = true then (doR (phO k) ds 1000).1 else [-1000000]
def LEnd (w : World) (xs : List Int) (e : Ending) (w' : World) : Prop := ∃ a n c, e = .returned (.slice a n c) ∧ Sl w' a n c (ints xs) ∧ Below w.heap.size w w'
theorem word_any (xs : List Int) (s : ByteArray) (k : Int) (hs : s = strOfNums xs) (hx : bytesOk xs) (hn : xs.length ≤ 1000) (hk : On.fnO (On.fold xs) = k) (hk2 : I64 k)
    (a : Option Addr) (n c : Nat) (ds : List Int) (W : World) (hL : Laid W) (hS : Sl W a n c (ints ds)) (hl : n ≤ 999999) (hI : I64s ds) :
    Calls Tryz.prog 13 #[.string s, .slice a n c] W (LEnd W (wordX k ds)) := by
  have hF := Lib.hid (find_at xs s k W hL hs hx hn hk)
  have hD := Lib.hid (fun (V : World) (h : Below W.heap.size W V) => do_phO k a n c ds 1000 V (laid_on hL h) hk2 (hS.below h) hl hI (by unfold I64; omega))
  unfold wordX
  obtain ⟨r, hr⟩ : ∃ r, doR (phO k) ds 1000 = r := ⟨_, rfl⟩
  obtain ⟨l, t, z⟩ := r
  rw [hr] at hD ⊢
  clear hr hL hS hI hk hs
  by_cases ht : t = 0
  · subst ht
    cases z
    · rw [if_neg (by simp)]
      go_enter Tryz.func13, Tryz.ntmps13
      go_wp2_with (first | (go_at_call 16; (with_reducible refine hF.out.mono ?_); rintro e w1 ⟨rfl, b1⟩; have B1 := Lib.hid b1; clear b1) | (go_at_call 9; (with_reducible refine (hD.out _ B1.out).mono ?_); rintro e w2 ⟨a2, n2, c2, rfl, hs2, b2⟩; have B2 := Lib.hid (B1.out.trans (b2.mono B1.out.size)); clear b2 hs2))
      go_ret
      obtain ⟨f1, f2⟩ := Sk.fresh w2 [-1000000] (by simp)
      exact ⟨_, _, _, rfl, f1, B2.out.trans (f2.mono B2.out.size)⟩
    · rw [if_pos ⟨rfl, rfl⟩]
      go_enter Tryz.func13, Tryz.ntmps13
      go_wp2_with (first | (go_at_call 16; (with_reducible refine hF.out.mono ?_); rintro e w1 ⟨rfl, b1⟩; have B1 := Lib.hid b1; clear b1) | (go_at_call 9; (with_reducible refine (hD.out _ B1.out).mono ?_); rintro e w2 ⟨a2, n2, c2, rfl, hs2, b2⟩; have B2 := Lib.hid (B1.out.trans (b2.mono B1.out.size)); replace hs2 := Lib.hid hs2; clear b2))
      go_ret
      exact ⟨_, _, _, rfl, hs2.out, B2.out⟩
  · rw [if_neg (fun h => ht h.1)]
    have ht1 : (t != 0) = true := by simpa using ht
    clear ht
    go_enter Tryz.func13, Tryz.ntmps13
    go_wp2_with (first | (go_at_call 16; (with_reducible refine hF.out.mono ?_); rintro e w1 ⟨rfl, b1⟩; have B1 := Lib.hid b1; clear b1) | (go_at_call 9; (with_reducible refine (hD.out _ B1.out).mono ?_); rintro e w2 ⟨a2, n2, c2, rfl, hs2, b2⟩; have B2 := Lib.hid (B1.out.trans (b2.mono B1.out.size)); clear b2 hs2))
    go_ret
    obtain ⟨f1, f2⟩ := Sk.fresh w2 [-1000000] (by simp)
    exact ⟨_, _, _, rfl, f1, B2.out.trans (f2.mono B2.out.size)⟩

/-- a name that the document has, and its number -/
structure Nm (s : ByteArray) (k : Int) : Prop where
  h : ∃ xs, s = strOfNums xs ∧ bytesOk xs ∧ xs.length ≤ 1000 ∧ On.fnO (On.fold xs) = k ∧ I64 k
theorem word_nm {s : ByteArray} {k : Int} (h : Nm s k) (a : Option Addr) (n c : Nat) (ds : List Int) (W : World) (hL : Laid W) (hS : Sl W a n c (ints ds)) (hl : n ≤ 999999) (hI : I64s ds) :
    Calls Tryz.prog 13 #[.string s, .slice a n c] W (LEnd W (wordX k ds)) := by
  obtain ⟨xs, h1, h2, h3, h4, h5⟩ := h.h
  exact word_any xs s k h1 h2 h3 h4 h5 a n c ds W hL hS hl hI
theorem twice_any {s1 s2 : ByteArray} {k1 k2 : Int} (h1 : Nm s1 k1) (h2 : Nm s2 k2) (a : Option Addr) (n c : Nat) (ds : List Int) (W : World) (hL : Laid W) (hS : Sl W a n c (ints ds)) (hl : n ≤ 999999) (hI : I64s ds)
    (hm : (wordX k1 ds).length ≤ 999999) (hI2 : I64s (wordX k1 ds)) (hback : wordX k2 (wordX k1 ds) = ds) :
    Calls Tryz.prog 14 #[.string s1, .string s2, .slice a n c] W fun e w' => e = .returned (.bool true) ∧ Below W.heap.size W w' := by
  have hA := Lib.hid (word_nm h1 a n c ds W hL hS hl hI)
  have hB := Lib.hid (fun (V : World) (h : Below W.heap.size W V) a1 n1 c1 (g : Sl V a1 n1 c1 (ints (wordX k1 ds))) => word_nm h2 a1 n1 c1 _ V (laid_on hL h) g (by have := g.nums; omega) hI2)
  rw [hback] at hB
  have hSS := Lib.hid hS
  clear hL hS hI hI2 hback hm
  generalize wordX k1 ds = es at *
  go_enter Tryz.func14, Tryz.ntmps14
  go_wp2_with (first
    | (go_at_call 13; (with_reducible refine hA.out.mono ?_); rintro e w1 ⟨a1, n1, c1, rfl, hs1, b1⟩; have h2 := Lib.hid (hB.out _ b1 _ _ _ hs1); have B1 := Lib.hid b1; clear hs1 b1)
    | (go_at_call 13; (with_reducible refine h2.out.mono ?_); rintro e w2 ⟨a2, n2, c2, rfl, hs2, b2⟩; have B2 := Lib.hid (B1.out.trans (b2.mono B1.out.size)); have h3 := Lib.hid (Sk.same_any a2 a n2 c2 n c ds w2 hs2 (hSS.out.below B2.out)); clear hs2 b2)
    | (go_at_call 11; (with_reducible refine h3.out.mono ?_); rintro e w3 ⟨rfl, b3⟩; have B3 := Lib.hid (B2.out.trans (b3.mono B2.out.size)); clear b3))
  go_ret
  exact ⟨rfl, B3.out⟩
theorem top_any {s : ByteArray} {k : Int} (h : Nm s k) (a : Option Addr) (n c : Nat) (ds : List Int) (v : Int) (W : World) (hL : Laid W) (hS : Sl W a n c (ints ds)) (hl : n ≤ 999999) (hI : I64s ds) (hv : wordX k ds = [v]) :
    Calls Tryz.prog 15 #[.string s, .slice a n c] W fun e w' => e = .returned (.int .i64 v) ∧ Below W.heap.size W w' := by
  have hA := word_nm h a n c ds W hL hS hl hI
  rw [hv] at hA
  have hA := Lib.hid (hA.mono (R' := fun e w' => ∃ b o c, e = .returned (.slice (some ⟨b, o, none⟩) 1 c) ∧ w'.cell? ⟨b, o, none⟩ = some (.int .i64 v) ∧ 1 ≤ c ∧ Below W.heap.size W w') fun e w' h => by
    obtain ⟨a1, n1, c1, rfl, hs, b⟩ := h
    have h1 := hs.nums
    have h2 := hs.bd
    obtain ⟨xb, xo, rfl, g⟩ := hs.int (i := 0) (by simp)
    obtain rfl : n1 = 1 := h1.symm
    exact ⟨xb, xo, c1, rfl, by simpa using g, by omega, b⟩)
  clear hL hS hI hv
  go_enter Tryz.func15, Tryz.ntmps15
  go_wp2_with (go_at_call 13; (with_reducible refine hA.out.mono ?_); rintro e w1 ⟨b1, o1, c1, rfl, g1, hc1, bb⟩)
  go_ret
  exact ⟨rfl, bb⟩
end Go.Proofs.YtobijdfnafnodaaGreatDoor
