/- Contracts of the document's Push, Pop, Pick, Roll, and of Same at two lists that are the same. -/
import Derived.Test.YtobijdfnafnodaaGreatDoorStk
import Derived.WalkSmall
namespace Go.Proofs.YtobijdfnafnodaaGreatDoor.Sk
set_option maxRecDepth 100000
open Go.ChangeShapes Go.WideShapes Go.ChangeAt Go.RowKit
set_option linter.unusedVariables false

theorem Own.alloc {w : World} {B n cap : Nat} {e : TypeId} {a : Option Addr} {vs : List Value} (h : Own w B e a n cap vs) (o : Obj) : Own (w.alloc o) B e a n cap vs := World.ownsRow.alloc h o

theorem new0 (W : World) : (Instr.buildSlice 22 0 #[]).run Tryz.prog W = .ok (.slice (some ⟨W.heap.size, 0, none⟩) 0 0) (W.alloc (.cells #[] 3)) := by
  kernel_rfl
theorem new1 (x : Int) (W : World) : (Instr.buildSlice 22 1 #[(0, .int .i64 x)]).run Tryz.prog W = .ok (.slice (some ⟨W.heap.size, 0, none⟩) 1 1) (W.alloc (.cells #[.int .i64 x] 3)) := by
  kernel_rfl

/-- a list of the call's own, of no value; all of a slice is appended to it -/
theorem app_new {w : World} {m c : Nat} {ty : TypeId} {a2 : Option Addr} {ys : List Int} (hs : Sl w a2 m c (ints ys)) (hby : m ≤ 17592186044416) :
    ∃ a' cap' w2, (Builtin.append_ #[22, 22] ty #[.slice (some ⟨w.heap.size, 0, none⟩) 0 0, .slice a2 m c]).run Tryz.prog (w.alloc (.cells #[] 3)) = .ok (.slice a' m cap') w2 ∧ Own w2 w.heap.size 3 a' m cap' (ints ys) ∧ Below w.heap.size w w2 := by
  have hb0 : Below w.heap.size w (w.alloc (.cells #[] 3)) := (Below.refl _ _).alloc (Nat.le_refl _) _
  obtain ⟨a', cap', w2, h1, h2, h3⟩ := app_ints (ty := ty) (xs := []) (Own.made w w.heap.size 3 (Nat.le_refl _) #[] 0 (Nat.zero_le _) rfl) (hs.below hb0) (by omega) (by simp)
  rw [Nat.zero_add] at h1 h2
  exact ⟨a', cap', w2, h1, h2, hb0.trans h3⟩

set_option maxRecDepth 100000 in
theorem rpush_any (a b : Option Addr) (n c m d : Nat) (xs ys : List Int) (k : Int) (w : World) (h : Sl w a n c (ints xs)) (g : Sl w b m d (ints ys)) (hn : n + m ≤ 17592186044416) (hk : -9223372036854775808 ≤ k ∧ k ≤ 9223372036854775807) :
    Calls Tryz.prog 24 #[.slice a n c, .int .i64 k, .slice b m d] w fun e w' => Told w w' e (pushX xs ys k) (tPush n m k) := by
  have hb := h.bd
  have hb2 := g.bd
  by_cases h1 : tPush n m k = 0
  · have h2 := tPush_ok h1
    have e2 : Hid (pushX xs ys k = xs ++ ys ∧ tPush n m k = 0) := ⟨by unfold pushX; rw [h.nums, g.nums, if_pos h1], h1⟩
    have hn0 := new0
    obtain ⟨a1, c1, w1, r1, O1, B1⟩ := app_new (ty := 22) h (by omega)
    obtain ⟨a2, c2, w2, r2, O2, B2⟩ := app_ints (ty := 22) O1 (g.below B1) hn B1.size
    have r1' := Lib.hid r1
    have r2' := Lib.hid r2
    have hM := Lib.hid O2.sl
    have hB := Lib.hid (B1.trans B2)
    clear h1 r1 r2 O1 O2 B1 B2
    go_enter Tryz.func24, Tryz.ntmps24
    go_wp2_with (first | (at_builtin; refine wpList_append_run rfl (.tmp 16) (.tmp 17) 22 rfl _ _ _ rfl rfl r1'.out ?_) | (at_builtin; refine wpList_append_run rfl (.tmp 19) (.tmp 20) 22 rfl _ _ _ rfl rfl r2'.out ?_))
    go_ret2
    rw [e2.out.1, e2.out.2]
    exact told rfl hM.out hB.out
  · obtain ⟨h2, h3⟩ := tPush_no h1
    have e2 : Hid (pushX xs ys k = [] ∧ tPush n m k = -3) := ⟨by unfold pushX; rw [h.nums, g.nums, if_neg h1], h3⟩
    clear h1 h3
    go_enter Tryz.func24, Tryz.ntmps24
    go_wp2
    go_ret2
    rw [e2.out.1, e2.out.2]
    exact told rfl (Sl.zero _) (Below.refl _ _)

theorem rpop_any (a : Option Addr) (n c : Nat) (xs : List Int) (k : Int) (w : World) (h : Sl w a n c (ints xs)) (hk : -9223372036854775808 ≤ k ∧ k ≤ 9223372036854775807) :
    Calls Tryz.prog 22 #[.slice a n c, .int .i64 k] w fun e w' => Told2 w w' e (leftX xs k) (takenX xs k) (tPop n k) := by
  have hb := h.bd
  by_cases h1 : tPop n k = 0
  · obtain ⟨h2, h3⟩ := tPop_ok h1
    obtain ⟨k, rfl⟩ := Int.eq_ofNat_of_zero_le h2
    obtain ⟨j, hj⟩ : ∃ j, n = j + k := ⟨n - k, by omega⟩
    have e1 : (n : Int) - (k : Int) = (j : Int) := by omega
    have e2 : Hid (leftX xs k = xs.take j ∧ takenX xs k = xs.drop j ∧ tPop n k = 0) := ⟨by unfold leftX; rw [h.nums, if_pos h1, Int.toNat_natCast, show n - k = j by omega], by unfold takenX; rw [h.nums, if_pos h1, Int.toNat_natCast, show n - k = j by omega], h1⟩
    obtain ⟨a1, r1, M1⟩ := h.cutTo (P := Tryz.prog) 22 3 Tryz.underlying22 intsize j (by omega)
    obtain ⟨a2, r2, M2⟩ := h.cutFrom (P := Tryz.prog) 22 3 Tryz.underlying22 intsize j (by omega)
    rw [ints_take] at M1
    rw [ints_drop] at M2
    clear h1 hj
    go_enter Tryz.func22, Tryz.ntmps22
    go_wp2
    go_quiet (fail)
    go_wp2
    go_ret3
    rw [e2.out.1, e2.out.2.1, e2.out.2.2]
    have hB := below_drewN (Below.refl w.heap.size w) nq
    exact told2 rfl (M1.below hB) (M2.below hB) hB
  · obtain ⟨h2, h3⟩ := tPop_no h1
    have e2 : Hid (leftX xs k = [] ∧ takenX xs k = [] ∧ tPop n k = -4) := ⟨by unfold leftX; rw [h.nums, if_neg h1], by unfold takenX; rw [h.nums, if_neg h1], h3⟩
    clear h1 h3
    by_cases h0 : k < 0
    · clear h2
      go_enter Tryz.func22, Tryz.ntmps22
      go_wp2
      go_ret3
      rw [e2.out.1, e2.out.2.1, e2.out.2.2]
      exact told2 rfl (Sl.zero _) (Sl.zero _) (Below.refl _ _)
    · have h3 : (n : Int) < k := by omega
      clear h2
      go_enter Tryz.func22, Tryz.ntmps22
      go_wp2
      go_ret3
      rw [e2.out.1, e2.out.2.1, e2.out.2.2]
      exact told2 rfl (Sl.zero _) (Sl.zero _) (Below.refl _ _)

theorem rpick_any (a : Option Addr) (n c : Nat) (xs : List Int) (k : Int) (w : World) (h : Sl w a n c (ints xs)) (hk : -9223372036854775808 ≤ k ∧ k ≤ 9223372036854775807) :
    Calls Tryz.prog 39 #[.slice a n c, .int .i64 k] w fun e w' => e = .returned (.tuple #[.int .i64 (pickV xs k), .int .i64 (tPick n k)]) ∧ w = w' := by
  have hb := h.bd
  by_cases h1 : tPick n k = 0
  · obtain ⟨h2, h3⟩ := tPick_ok h1
    obtain ⟨k, rfl⟩ := Int.eq_ofNat_of_zero_le h2
    obtain ⟨j, hj⟩ : ∃ j, n = j + 1 + k := ⟨n - 1 - k, by omega⟩
    have e1 : (n : Int) - 1 - (k : Int) = (j : Int) := by omega
    have e2 : Hid (pickV xs k = xs.getD j 0 ∧ tPick n k = 0) := ⟨by unfold pickV; rw [h.nums, if_pos h1, Int.toNat_natCast, show n - 1 - k = j by omega], h1⟩
    have hjn : j < n := by omega
    obtain ⟨b, o, rfl, hc⟩ := h.int (i := j) (by rw [h.nums]; omega)
    generalize xs.getD j 0 = x at *
    clear h1 hj
    go_enter Tryz.func39, Tryz.ntmps39
    go_wp2
    go_ret2
    rw [e2.out.1, e2.out.2]
    exact ⟨rfl, rfl⟩
  · obtain ⟨h2, h3⟩ := tPick_no h1
    have e2 : Hid (pickV xs k = 0 ∧ tPick n k = -4) := ⟨by unfold pickV; rw [h.nums, if_neg h1], h3⟩
    clear h1 h3
    by_cases h0 : k < 0
    · clear h2
      go_enter Tryz.func39, Tryz.ntmps39
      go_wp2
      go_ret2
      rw [e2.out.1, e2.out.2]
      exact ⟨rfl, rfl⟩
    · have h3 : (n : Int) ≤ k := by omega
      clear h2
      go_enter Tryz.func39, Tryz.ntmps39
      go_wp2
      go_ret2
      rw [e2.out.1, e2.out.2]
      exact ⟨rfl, rfl⟩

/-- two lists that are the same -/
theorem same_any (a b : Option Addr) (n c m d : Nat) (xs : List Int) (w : World) (h : Sl w a n c (ints xs)) (g : Sl w b m d (ints xs)) :
    Calls Tryz.prog 11 #[.slice a n c, .slice b m d] w fun e w' => e = .returned (.bool true) ∧ Below w.heap.size w w' := by
  have hb := h.bd
  obtain rfl : n = m := by rw [← h.nums, ← g.nums]
  have hx : Hid (xs.length = n) := h.nums
  have hh := Lib.hid h
  have gg := Lib.hid g
  clear h g
  go_enter Tryz.func11, Tryz.ntmps11
  go_wp2
  go_loopw [5] (fun i wr => ∃ k : Nat, k ≤ n ∧ i = .int .i64 k ∧ Below w.heap.size w wr) (fun i _ => n - (intOf i).toNat)
  case atStart => exact ⟨0, by omega, rfl, Below.refl _ _⟩
  case round =>
    obtain ⟨k, hk, rfl, hB⟩ := hrel
    by_cases hkn : k < n
    · obtain ⟨b1, o1, rfl, hc1⟩ := (hh.out.below hB).int (i := k) (by rw [hx.out]; exact hkn)
      obtain ⟨b2, o2, rfl, hc2⟩ := (gg.out.below hB).int (i := k) (by rw [hx.out]; exact hkn)
      generalize xs.getD k 0 = x at *
      have hB' := Lib.hid hB
      clear hB
      go_wp2
      go_quiet (fail)
      go_wp2
      exact ⟨⟨k + 1, by omega, by go_num, below_drewN hB'.out nq⟩, by simp only [intOf]; omega⟩
    · obtain rfl : k = n := by omega
      go_wp2
      go_ret
      exact ⟨rfl, hB⟩
end Go.Proofs.YtobijdfnafnodaaGreatDoor.Sk
