/- Contracts of package stack's Push, Pop, Pick, Roll, for every input. -/
import Derived.Test.YtobijdfnafnodaaGreatDoorStkLeaf
namespace Go.Proofs.YtobijdfnafnodaaGreatDoor.Sk
open Go.ChangeShapes Go.WideShapes Go.ChangeAt Go.RowKit
set_option linter.unusedVariables false

def Told (w w' : World) (e : Ending) (xs : List Int) (t : Int) : Prop := ∃ a c, e = .returned (.tuple #[.slice a xs.length c, .int .i64 t]) ∧ Sl w' a xs.length c (ints xs) ∧ Below w.heap.size w w'
theorem told {w w' : World} {e : Ending} {xs : List Int} {t : Int} {a : Option Addr} {n c : Nat} (he : e = .returned (.tuple #[.slice a n c, .int .i64 t])) (h : Sl w' a n c (ints xs)) (hb : Below w.heap.size w w') : Told w w' e xs t := by
  have := h.nums
  subst this
  exact ⟨a, c, he, h, hb⟩
def Told2 (w w' : World) (e : Ending) (xs ys : List Int) (t : Int) : Prop := ∃ a c b d, e = .returned (.tuple #[.slice a xs.length c, .slice b ys.length d, .int .i64 t]) ∧ Sl w' a xs.length c (ints xs) ∧ Sl w' b ys.length d (ints ys) ∧ Below w.heap.size w w'
theorem told2 {w w' : World} {e : Ending} {xs ys : List Int} {t : Int} {a b : Option Addr} {n c m d : Nat} (he : e = .returned (.tuple #[.slice a n c, .slice b m d, .int .i64 t])) (h : Sl w' a n c (ints xs)) (g : Sl w' b m d (ints ys)) (hb : Below w.heap.size w w') : Told2 w w' e xs ys t := by
  have := h.nums
  subst this
  have := g.nums
  subst this
  exact ⟨a, c, b, d, he, h, g, hb⟩

def tPush (n m : Nat) (d : Int) : Int := if d < (n : Int) + (m : Int) then -3 else 0
def pushX (xs ys : List Int) (d : Int) : List Int := if tPush xs.length ys.length d = 0 then xs ++ ys else []
/-- what is thrown where so many are popped -/
def tPop (n : Nat) (m : Int) : Int := if m < 0 ∨ (n : Int) < m then -4 else 0
def leftX (xs : List Int) (m : Int) : List Int := if tPop xs.length m = 0 then xs.take (xs.length - m.toNat) else []
def takenX (xs : List Int) (m : Int) : List Int := if tPop xs.length m = 0 then xs.drop (xs.length - m.toNat) else []
/-- what is thrown where the value with so many above it is wanted -/
def tPick (n : Nat) (m : Int) : Int := if m < 0 ∨ (n : Int) ≤ m then -4 else 0
def pickV (xs : List Int) (m : Int) : Int := if tPick xs.length m = 0 then xs.getD (xs.length - 1 - m.toNat) 0 else 0
def rollX (xs : List Int) (m : Int) : List Int := if tPick xs.length m = 0 then xs.take (xs.length - 1 - m.toNat) ++ xs.drop (xs.length - 1 - m.toNat + 1) ++ [xs.getD (xs.length - 1 - m.toNat) 0] else []

theorem tPush_no {n m : Nat} {d : Int} (h : ¬ tPush n m d = 0) : d < (n : Int) + (m : Int) ∧ tPush n m d = -3 := by unfold tPush at h ⊢; split at h <;> simp_all
theorem tPush_ok {n m : Nat} {d : Int} (h : tPush n m d = 0) : (n : Int) + (m : Int) ≤ d := by unfold tPush at h; split at h <;> omega
theorem tPop_no {n : Nat} {m : Int} (h : ¬ tPop n m = 0) : (m < 0 ∨ (n : Int) < m) ∧ tPop n m = -4 := by unfold tPop at h ⊢; split at h <;> simp_all
theorem tPop_ok {n : Nat} {m : Int} (h : tPop n m = 0) : 0 ≤ m ∧ m ≤ n := by unfold tPop at h; split at h <;> omega
theorem tPick_no {n : Nat} {m : Int} (h : ¬ tPick n m = 0) : (m < 0 ∨ (n : Int) ≤ m) ∧ tPick n m = -4 := by unfold tPick at h ⊢; split at h <;> simp_all
theorem tPick_ok {n : Nat} {m : Int} (h : tPick n m = 0) : 0 ≤ m ∧ m < n := by unfold tPick at h; split at h <;> omega

theorem slice1 (a : Option Addr) (n c : Nat) (W : World) : (Instr.buildSlice 87 1 #[(0, .slice a n c)]).run Tryz.prog W = .ok (.slice (some ⟨W.heap.size, 0, none⟩) 1 1) (W.alloc (.cells #[.slice a n c] 22)) := by
  kernel_rfl
theorem slice2 (a b : Option Addr) (n c m d : Nat) (W : World) : (Instr.buildSlice 87 2 #[(0, .slice a n c), (1, .slice b m d)]).run Tryz.prog W = .ok (.slice (some ⟨W.heap.size, 0, none⟩) 2 2) (W.alloc (.cells #[.slice a n c, .slice b m d] 22)) := by
  kernel_rfl
theorem slice3 (a b x : Option Addr) (n c m d k l : Nat) (W : World) : (Instr.buildSlice 87 3 #[(0, .slice a n c), (1, .slice b m d), (2, .slice x k l)]).run Tryz.prog W = .ok (.slice (some ⟨W.heap.size, 0, none⟩) 3 3) (W.alloc (.cells #[.slice a n c, .slice b m d, .slice x k l] 22)) := by
  kernel_rfl

/-- some slices are joined -/
theorem joined_new (ps : List Part) (w : World) (hps : ∀ p ∈ ps, Sl w p.a p.n p.c (ints p.xs)) (hl : ps.length ≤ 1000) (hn : sumK ps ps.length ≤ 17592186044416) :
    Calls Tryz.prog 36 #[.slice (some ⟨w.heap.size, 0, none⟩) ps.length ps.length] (w.alloc (.cells (ps.map Part.val).toArray 22)) fun e w' => ∃ a' c', e = .returned (.slice a' (sumK ps ps.length) c') ∧ Sl w' a' (sumK ps ps.length) c' (ints (joinX ps)) ∧ Below w.heap.size w w' := by
  have hb0 : Below w.heap.size w (w.alloc (.cells (ps.map Part.val).toArray 22)) := (Below.refl _ _).alloc (Nat.le_refl _) _
  have hO := (Own.full w w.heap.size 22 (Nat.le_refl _) (ps.map Part.val).toArray ps.length (by unfold maxLen; omega) (by simp)).sl
  refine (joined_any _ _ _ ps _ hO (fun p hp => (hps p hp).below hb0) hn).mono ?_
  rintro e w' ⟨a', c', rfl, hM, hb⟩
  exact ⟨a', c', rfl, hM, hb0.trans (hb.mono (by simp))⟩
theorem joined1 (a : Option Addr) (n c : Nat) (xs : List Int) (w : World) (h : Sl w a n c (ints xs)) (hn : n ≤ 17592186044416) :
    Calls Tryz.prog 36 #[.slice (some ⟨w.heap.size, 0, none⟩) 1 1] (w.alloc (.cells #[.slice a n c] 22)) fun e w' => ∃ a' c', e = .returned (.slice a' n c') ∧ Sl w' a' n c' (ints xs) ∧ Below w.heap.size w w' := by
  refine (joined_new [⟨a, n, c, xs⟩] w (fun p hp => ?_) (by simp) (by simpa [sumK] using hn)).mono ?_
  · simp only [List.mem_singleton] at hp
    subst hp
    exact h
  · rintro e w' ⟨a', c', rfl, hM, hb⟩
    refine ⟨a', c', by simp [sumK], ?_, hb⟩
    simpa [sumK, joinX] using hM
theorem joined2 (a b : Option Addr) (n c m d : Nat) (xs ys : List Int) (w : World) (h : Sl w a n c (ints xs)) (g : Sl w b m d (ints ys)) (hn : n + m ≤ 17592186044416) :
    Calls Tryz.prog 36 #[.slice (some ⟨w.heap.size, 0, none⟩) 2 2] (w.alloc (.cells #[.slice a n c, .slice b m d] 22)) fun e w' => ∃ a' c', e = .returned (.slice a' (n + m) c') ∧ Sl w' a' (n + m) c' (ints (xs ++ ys)) ∧ Below w.heap.size w w' := by
  refine (joined_new [⟨a, n, c, xs⟩, ⟨b, m, d, ys⟩] w (fun p hp => ?_) (by simp) (by simpa [sumK] using hn)).mono ?_
  · simp only [List.mem_cons, List.not_mem_nil, or_false] at hp
    rcases hp with rfl | rfl <;> assumption
  · rintro e w' ⟨a', c', rfl, hM, hb⟩
    refine ⟨a', c', by simp [sumK], ?_, hb⟩
    simpa [sumK, joinX] using hM
theorem joined3 (a b x : Option Addr) (n c m d k l : Nat) (xs ys zs : List Int) (w : World) (h : Sl w a n c (ints xs)) (g : Sl w b m d (ints ys)) (f : Sl w x k l (ints zs)) (hn : n + m + k ≤ 17592186044416) :
    Calls Tryz.prog 36 #[.slice (some ⟨w.heap.size, 0, none⟩) 3 3] (w.alloc (.cells #[.slice a n c, .slice b m d, .slice x k l] 22)) fun e w' => ∃ a' s c', e = .returned (.slice a' s c') ∧ Sl w' a' s c' (ints (xs ++ ys ++ zs)) ∧ Below w.heap.size w w' := by
  refine (joined_new [⟨a, n, c, xs⟩, ⟨b, m, d, ys⟩, ⟨x, k, l, zs⟩] w (fun p hp => ?_) (by simp) (by simp [sumK]; omega)).mono ?_
  · simp only [List.mem_cons, List.not_mem_nil, or_false] at hp
    rcases hp with rfl | rfl | rfl <;> assumption
  · rintro e w' ⟨a', c', rfl, hM, hb⟩
    refine ⟨a', _, c', rfl, ?_, hb⟩
    simpa [joinX] using hM

theorem push_any (a b : Option Addr) (n c m d : Nat) (xs ys : List Int) (k : Int) (w : World) (h : Sl w a n c (ints xs)) (g : Sl w b m d (ints ys)) (hn : n + m ≤ 17592186044416) (hk : -9223372036854775808 ≤ k ∧ k ≤ 9223372036854775807) :
    Calls Tryz.prog 20 #[.slice a n c, .int .i64 k, .slice b m d] w fun e w' => Told w w' e (pushX xs ys k) (tPush n m k) := by
  have hb := h.bd
  have hb2 := g.bd
  have hmf := mkf
  by_cases h1 : tPush n m k = 0
  · have h2 := tPush_ok h1
    have ho : over k ((n : Int) + (m : Int)) = false := by simp [over]; omega
    have e2 : Hid (pushX xs ys k = xs ++ ys ∧ tPush n m k = 0) := ⟨by unfold pushX; rw [h.nums, g.nums, if_pos h1], h1⟩
    have hs2 := slice2
    clear h1
    go_enter Tryz.func20, Tryz.ntmps20
    go_wp2_with (first | (go_at_call 35; (with_reducible refine (past_any _ _).mono ?_); rintro e w1 ⟨rfl, hc1, hb1⟩; have h3 := h.below hb1; have g3 := g.below hb1) | (go_at_call 99; (with_reducible refine (past1_any _ _ _ _ (by assumption)).mono ?_); rintro e w' ⟨rfl, rfl⟩) | (go_at_call 36; (with_reducible refine (joined2 _ _ _ _ _ _ _ _ _ h3 g3 hn).mono ?_); rintro e w2 ⟨a2, c2, rfl, hM, hb3⟩))
    go_ret2
    rw [e2.out.1, e2.out.2]
    exact told rfl hM (hb1.trans (hb3.mono hb1.size))
  · obtain ⟨h2, h3⟩ := tPush_no h1
    have ho : over k ((n : Int) + (m : Int)) = true := by simp [over]; omega
    have e2 : Hid (pushX xs ys k = [] ∧ tPush n m k = -3) := ⟨by unfold pushX; rw [h.nums, g.nums, if_neg h1], h3⟩
    clear h1 h3
    go_enter Tryz.func20, Tryz.ntmps20
    go_wp2_with (first | (go_at_call 35; (with_reducible refine (past_any _ _).mono ?_); rintro e w1 ⟨rfl, hc1, hb1⟩) | (go_at_call 99; (with_reducible refine (past1_any _ _ _ _ (by assumption)).mono ?_); rintro e w' ⟨rfl, rfl⟩))
    go_ret2
    rw [e2.out.1, e2.out.2]
    exact told rfl (Sl.zero _) hb1

/-- cut, by the place where it begins and the number of values -/
theorem cut_s (a : Option Addr) (n c : Nat) (xs : List Int) (k s : Nat) (p q : Int) (w : World) (h : Sl w a n c (ints xs)) (hp : p = (k : Int)) (hq : q = ((k + s : Nat) : Int)) (hm : k + s ≤ n) :
    Calls Tryz.prog 145 #[.slice a n c, .int .i64 p, .int .i64 q] w fun e w' => ∃ a', e = .returned (.slice a' s s) ∧ Sl w a' s s (ints ((xs.drop k).take s)) ∧ w = w' := by
  subst hp; subst hq
  refine (cut_any a n c xs k (k + s) w h (by omega) hm).mono ?_
  rintro e w' ⟨a', rfl, hM, rfl⟩
  rw [Nat.add_sub_cancel_left] at hM ⊢
  exact ⟨a', rfl, hM, rfl⟩

theorem pop_any (a : Option Addr) (n c : Nat) (xs : List Int) (k : Int) (w : World) (h : Sl w a n c (ints xs)) (hn : n ≤ 17592186044416) (hk : -9223372036854775808 ≤ k ∧ k ≤ 9223372036854775807) :
    Calls Tryz.prog 144 #[.slice a n c, .int .i64 k] w fun e w' => Told2 w w' e (leftX xs k) (takenX xs k) (tPop n k) := by
  have hb := h.bd
  have hmf := mkf
  by_cases h1 : tPop n k = 0
  · obtain ⟨h2, h3⟩ := tPop_ok h1
    obtain ⟨k, rfl⟩ := Int.eq_ofNat_of_zero_le h2
    obtain ⟨j, hj⟩ : ∃ j, n = j + k := ⟨n - k, by omega⟩
    have ho : over (n : Int) (k : Int) = false := by simp [over]; omega
    have e1 : (n : Int) - (k : Int) = (j : Int) := by omega
    have e2 : Hid (leftX xs k = (xs.drop 0).take j ∧ takenX xs k = (xs.drop j).take k ∧ tPop n k = 0) := ⟨by unfold leftX; rw [h.nums, if_pos h1, Int.toNat_natCast, show n - k = j by omega]; rfl, by unfold takenX; rw [h.nums, if_pos h1, Int.toNat_natCast, show n - k = j by omega, List.take_of_length_le (by simp [h.nums]; omega)], h1⟩
    have hs1 := slice1
    have hjn : j ≤ 17592186044416 := by omega
    have hkn : k ≤ 17592186044416 := by omega
    have c1 := fun W (hW : Sl W a n c (ints xs)) => cut_s a n c xs 0 j 0 (j : Int) W hW rfl (by rw [Nat.zero_add]) (by omega)
    have c2 := fun W (hW : Sl W a n c (ints xs)) => cut_s a n c xs j k (j : Int) (n : Int) W hW rfl (by rw [hj]) (by omega)
    have c1' := Lib.hid c1
    have c2' := Lib.hid c2
    clear h1 hj c1 c2
    go_enter Tryz.func144, Tryz.ntmps144
    go_wp2_with (first | (go_at_call 35; (with_reducible refine (past_any _ _).mono ?_); rintro e w1 ⟨rfl, hc1, hb1⟩; have h3 := h.below hb1) | (go_at_call 99; (with_reducible refine (past1_any _ _ _ _ (by assumption)).mono ?_); rintro e w' ⟨rfl, rfl⟩) | (go_at_call 145; (with_reducible refine (c1'.out _ h3).mono ?_); rintro e w' ⟨a2, rfl, hA, rfl⟩) | (go_at_call 36; (with_reducible refine (joined1 _ _ _ _ _ hA hjn).mono ?_); rintro e w2 ⟨a3, c3, rfl, hM, hb3⟩; have h4 := h3.below hb3) | (go_at_call 145; (with_reducible refine (c2'.out _ h4).mono ?_); rintro e w' ⟨a4, rfl, hB, rfl⟩) | (go_at_call 36; (with_reducible refine (joined1 _ _ _ _ _ hB hkn).mono ?_); rintro e w3 ⟨a5, c5, rfl, hN, hb5⟩; have hM2 := hM.below hb5))
    go_ret3
    rw [e2.out.1, e2.out.2.1, e2.out.2.2]
    exact told2 rfl hM2 hN (hb1.trans ((hb3.mono hb1.size).trans (hb5.mono (Nat.le_trans hb1.size hb3.size))))
  · obtain ⟨h2, h3⟩ := tPop_no h1
    have ho : over (n : Int) k = true := by simp [over]; omega
    have e2 : Hid (leftX xs k = [] ∧ takenX xs k = [] ∧ tPop n k = -4) := ⟨by unfold leftX; rw [h.nums, if_neg h1], by unfold takenX; rw [h.nums, if_neg h1], h3⟩
    clear h1 h2 h3
    go_enter Tryz.func144, Tryz.ntmps144
    go_wp2_with (first | (go_at_call 35; (with_reducible refine (past_any _ _).mono ?_); rintro e w1 ⟨rfl, hc1, hb1⟩) | (go_at_call 99; (with_reducible refine (past1_any _ _ _ _ (by assumption)).mono ?_); rintro e w' ⟨rfl, rfl⟩))
    go_ret3
    rw [e2.out.1, e2.out.2.1, e2.out.2.2]
    exact told2 rfl (Sl.zero _) (Sl.zero _) hb1

theorem pick_any (a : Option Addr) (n c : Nat) (xs : List Int) (k : Int) (w : World) (h : Sl w a n c (ints xs)) (hk : -9223372036854775808 ≤ k ∧ k ≤ 9223372036854775807) :
    Calls Tryz.prog 115 #[.slice a n c, .int .i64 k] w fun e w' => e = .returned (.tuple #[.int .i64 (pickV xs k), .int .i64 (tPick n k)]) ∧ Below w.heap.size w w' := by
  have hb := h.bd
  have hmf := mkf
  by_cases h1 : tPick n k = 0
  · obtain ⟨h2, h3⟩ := tPick_ok h1
    obtain ⟨k, rfl⟩ := Int.eq_ofNat_of_zero_le h2
    obtain ⟨j, hj⟩ : ∃ j, n = j + 1 + k := ⟨n - 1 - k, by omega⟩
    have ho : over ((n : Int) - 1) (k : Int) = false := by simp [over]; omega
    have e1 : (n : Int) - 1 - (k : Int) = (j : Int) := by omega
    have e2 : Hid (pickV xs k = xs.getD j 0 ∧ tPick n k = 0) := ⟨by unfold pickV; rw [h.nums, if_pos h1, Int.toNat_natCast, show n - 1 - k = j by omega], h1⟩
    have hjn : j < n := by omega
    obtain ⟨b, o, rfl, hc⟩ := h.int (i := j) (by rw [h.nums]; omega)
    generalize xs.getD j 0 = x at *
    clear h1 hj
    go_enter Tryz.func115, Tryz.ntmps115
    go_wp2_with (first | (go_at_call 35; (with_reducible refine (past_any _ _).mono ?_); rintro e w1 ⟨rfl, hc1, hb1⟩; have hc3 := (hb1.cell (p := ⟨b, o + j, none⟩) (World.block_lt_of_cell? _ _ hc)).trans hc) | (go_at_call 99; (with_reducible refine (past1_any _ _ _ _ (by assumption)).mono ?_); rintro e w' ⟨rfl, rfl⟩))
    go_ret2
    rw [e2.out.1, e2.out.2]
    exact ⟨rfl, hb1⟩
  · obtain ⟨h2, h3⟩ := tPick_no h1
    have ho : over ((n : Int) - 1) k = true := by simp [over]; omega
    have e2 : Hid (pickV xs k = 0 ∧ tPick n k = -4) := ⟨by unfold pickV; rw [h.nums, if_neg h1], h3⟩
    clear h1 h2 h3
    go_enter Tryz.func115, Tryz.ntmps115
    go_wp2_with (first | (go_at_call 35; (with_reducible refine (past_any _ _).mono ?_); rintro e w1 ⟨rfl, hc1, hb1⟩) | (go_at_call 99; (with_reducible refine (past1_any _ _ _ _ (by assumption)).mono ?_); rintro e w' ⟨rfl, rfl⟩))
    go_ret2
    rw [e2.out.1, e2.out.2]
    exact ⟨rfl, hb1⟩

set_option maxHeartbeats 400000 in
theorem roll_any (a : Option Addr) (n c : Nat) (xs : List Int) (k : Int) (w : World) (h : Sl w a n c (ints xs)) (hn : n ≤ 17592186044416) (hk : -9223372036854775808 ≤ k ∧ k ≤ 9223372036854775807) :
    Calls Tryz.prog 117 #[.slice a n c, .int .i64 k] w fun e w' => Told w w' e (rollX xs k) (tPick n k) := by
  have hb := h.bd
  have hmf := mkf
  by_cases h1 : tPick n k = 0
  · obtain ⟨h2, h3⟩ := tPick_ok h1
    obtain ⟨k, rfl⟩ := Int.eq_ofNat_of_zero_le h2
    obtain ⟨j, hj⟩ : ∃ j, n = j + 1 + k := ⟨n - 1 - k, by omega⟩
    have ho : over ((n : Int) - 1) (k : Int) = false := by simp [over]; omega
    have e1 : (n : Int) - 1 - (k : Int) = (j : Int) := by omega
    have e2 : Hid (rollX xs k = (xs.drop 0).take j ++ (xs.drop (j + 1)).take k ++ (xs.drop j).take 1 ∧ tPick n k = 0) := by
      refine ⟨?_, h1⟩
      have hx := h.nums
      unfold rollX
      rw [hx, if_pos h1, Int.toNat_natCast, show n - 1 - k = j by omega, List.take_of_length_le (i := k) (by simp [hx]; omega)]
      congr 1
      rw [List.drop_eq_getElem_cons (i := j) (by omega), List.take_succ_cons, List.take_zero]
      simp [List.getD, show j < xs.length by omega]
    have hs3 := slice3
    have hjn : j < n := by omega
    have hjk : j + k + 1 ≤ 17592186044416 := by omega
    have c1 := fun W (hW : Sl W a n c (ints xs)) => cut_s a n c xs 0 j 0 (j : Int) W hW rfl (by rw [Nat.zero_add]) (by omega)
    have c2 := fun W (hW : Sl W a n c (ints xs)) => cut_s a n c xs (j + 1) k ((j : Int) + 1) (n : Int) W hW rfl (by rw [hj]) (by omega)
    have c3 := fun W (hW : Sl W a n c (ints xs)) => cut_s a n c xs j 1 (j : Int) ((j : Int) + 1) W hW rfl rfl (by omega)
    have c1' := Lib.hid c1
    have c2' := Lib.hid c2
    have c3' := Lib.hid c3
    clear h1 hj c1 c2 c3
    go_enter Tryz.func117, Tryz.ntmps117
    go_wp2_with (first | (go_at_call 35; (with_reducible refine (past_any _ _).mono ?_); rintro e w1 ⟨rfl, hc1, hb1⟩; have h3 := h.below hb1) | (go_at_call 99; (with_reducible refine (past1_any _ _ _ _ (by assumption)).mono ?_); rintro e w' ⟨rfl, rfl⟩) | (go_at_call 145; (with_reducible refine (c1'.out _ h3).mono ?_); rintro e w' ⟨a2, rfl, hA, rfl⟩) | (go_at_call 145; (with_reducible refine (c2'.out _ h3).mono ?_); rintro e w' ⟨a3, rfl, hB, rfl⟩) | (go_at_call 145; (with_reducible refine (c3'.out _ h3).mono ?_); rintro e w' ⟨a4, rfl, hC, rfl⟩) | (go_at_call 36; (with_reducible refine (joined3 _ _ _ _ _ _ _ _ _ _ _ _ _ hA hB hC hjk).mono ?_); rintro e w2 ⟨a5, s5, c5, rfl, hM, hb3⟩))
    go_ret2
    rw [e2.out.1, e2.out.2]
    exact told rfl hM (hb1.trans (hb3.mono hb1.size))
  · obtain ⟨h2, h3⟩ := tPick_no h1
    have ho : over ((n : Int) - 1) k = true := by simp [over]; omega
    have e2 : Hid (rollX xs k = [] ∧ tPick n k = -4) := ⟨by unfold rollX; rw [h.nums, if_neg h1], h3⟩
    clear h1 h2 h3
    go_enter Tryz.func117, Tryz.ntmps117
    go_wp2_with (first | (go_at_call 35; (with_reducible refine (past_any _ _).mono ?_); rintro e w1 ⟨rfl, hc1, hb1⟩) | (go_at_call 99; (with_reducible refine (past1_any _ _ _ _ (by assumption)).mono ?_); rintro e w' ⟨rfl, rfl⟩))
    go_ret2
    rw [e2.out.1, e2.out.2]
    exact told rfl (Sl.zero _) hb1
end Go.Proofs.YtobijdfnafnodaaGreatDoor.Sk
