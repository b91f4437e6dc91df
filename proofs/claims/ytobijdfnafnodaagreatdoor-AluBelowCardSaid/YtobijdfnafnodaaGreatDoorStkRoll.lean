/- Contract of the document's Roll. -/
import Derived.Test.YtobijdfnafnodaaGreatDoorStkRef
namespace Go.Proofs.YtobijdfnafnodaaGreatDoor.Sk
set_option maxRecDepth 100000
open Go.ChangeShapes Go.WideShapes Go.ChangeAt Go.RowKit
set_option linter.unusedVariables false

/-- the first k values without the j-th -/
def butK (xs : List Int) (j k : Nat) : List Int := (xs.take k).eraseIdx j
theorem butK_len (xs : List Int) (j k : Nat) : (butK xs j k).length ≤ k := by
  unfold butK
  have := List.length_eraseIdx_le (xs.take k) j
  simp at this
  omega
theorem butK_same {xs : List Int} {j : Nat} (h : j < xs.length) : butK xs j (j + 1) = butK xs j j := by
  unfold butK
  rw [List.take_add_one, List.eraseIdx_append_of_length_le (by simp; omega), List.eraseIdx_of_length_le (l := xs.take j) (by simp; omega)]
  simp [List.length_take, Nat.min_eq_left (Nat.le_of_lt h), h]
theorem butK_next {xs : List Int} {j k : Nat} (h : k < xs.length) (hjk : k ≠ j) : butK xs j (k + 1) = butK xs j k ++ [xs.getD k 0] := by
  have e : xs.take (k + 1) = xs.take k ++ [xs.getD k 0] := by
    rw [List.take_add_one]
    simp [List.getD, h]
  unfold butK
  rw [e]
  by_cases c : j < k
  · rw [List.eraseIdx_append_of_lt_length (by simp; omega)]
  · rw [List.eraseIdx_of_length_le (by simp; omega), List.eraseIdx_of_length_le (by simp; omega)]
theorem butK_all (xs : List Int) (j : Nat) : butK xs j xs.length = xs.take j ++ xs.drop (j + 1) := by
  unfold butK
  rw [List.take_length, List.eraseIdx_eq_take_drop_succ]

/-- one value is appended: the world where the one-element slice is laid -/
theorem app_one {w : World} {B n cap : Nat} {ty : TypeId} {a : Option Addr} {xs : List Int} (x : Int) (h : Own w B 3 a n cap (ints xs)) (hby : n + 1 ≤ 17592186044416) (hB : B ≤ w.heap.size) :
    ∃ a' cap' w2, (Builtin.append_ #[22, 22] ty #[.slice a n cap, .slice (some ⟨w.heap.size, 0, none⟩) 1 1]).run Tryz.prog (w.alloc (.cells #[.int .i64 x] 3)) = .ok (.slice a' (n + 1) cap') w2 ∧ Own w2 B 3 a' (n + 1) cap' (ints (xs ++ [x])) ∧ Below B w w2 := by
  have hb0 : Below B w (w.alloc (.cells #[.int .i64 x] 3)) := (Below.refl _ _).alloc hB _
  have hs : Sl (w.alloc (.cells #[.int .i64 x] 3)) (some ⟨w.heap.size, 0, none⟩) 1 1 (ints [x]) := (Own.full w B 3 hB #[.int .i64 x] 1 (by decide) rfl).sl
  obtain ⟨a', cap', w2, h1, h2, h3⟩ := app_ints (ty := ty) (h.alloc _) hs hby (by simp; omega)
  exact ⟨a', cap', w2, h1, h2, hb0.trans h3⟩

set_option maxHeartbeats 400000 in
theorem rroll_any (a : Option Addr) (n c : Nat) (xs : List Int) (k : Int) (w : World) (h : Sl w a n c (ints xs)) (hn : n ≤ 1000000000000) (hk : -9223372036854775808 ≤ k ∧ k ≤ 9223372036854775807) :
    Calls Tryz.prog 40 #[.slice a n c, .int .i64 k] w fun e w' => Told w w' e (rollX xs k) (tPick n k) := by
  have hb := h.bd
  by_cases h1 : tPick n k = 0
  · obtain ⟨h2, h3⟩ := tPick_ok h1
    obtain ⟨k, rfl⟩ := Int.eq_ofNat_of_zero_le h2
    obtain ⟨j, hj⟩ : ∃ j, n = j + 1 + k := ⟨n - 1 - k, by omega⟩
    have e1 : (n : Int) - 1 - (k : Int) = (j : Int) := by omega
    have e2 : Hid (rollX xs k = butK xs j n ++ [xs.getD j 0] ∧ tPick n k = 0) := ⟨by have hbk := butK_all xs j; rw [h.nums] at hbk; rw [hbk]; unfold rollX; rw [h.nums, if_pos h1, Int.toNat_natCast, show n - 1 - k = j by omega], h1⟩
    have hn1 := new1
    have hd1 : decide ((k : Int) < 0) = false := by simp
    have hd2 : decide (n ≤ k) = false := by simp; omega
    have hjn : j < n := by omega
    have hx : Hid (xs.length = n) := h.nums
    have hh := Lib.hid h
    clear h1 hj h
    go_enter Tryz.func40, Tryz.ntmps40
    go_wp2
    go_loopw [6, 7] (fun s i wr => ∃ q : Nat, ∃ a' s' c', q ≤ n ∧ i = .int .i64 q ∧ s = .slice a' s' c' ∧ s' ≤ q ∧ Own wr w.heap.size 3 a' s' c' (ints (butK xs j q)) ∧ Below w.heap.size w wr) (fun _ i _ => n - (intOf i).toNat)
    case atStart => exact ⟨0, none, 0, 0, by omega, rfl, rfl, Nat.le_refl _, Own.nil _ _ _, Below.refl _ _⟩
    case round =>
      obtain ⟨q, a', s', c', hq, rfl, rfl, hs, hO, hB⟩ := hrel
      by_cases hqn : q < n
      · by_cases hqj : q = j
        · subst hqj
          have e3 := Lib.hid (butK_same (xs := xs) (j := q) (by rw [hx.out]; exact hqn))
          have hO' := Lib.hid hO
          have hB' := Lib.hid hB
          clear hO hB
          go_wp2
          refine ⟨⟨q + 1, a', s', c', by omega, by go_num, rfl, by omega, ?_, hB'.out⟩, by simp only [intOf]; omega⟩
          rw [e3.out]
          exact hO'.out
        · have t0 : ((q : Int) == (j : Int)) = false := by simp; omega
          have e3 := Lib.hid (butK_next (xs := xs) (j := j) (k := q) (by rw [hx.out]; exact hqn) hqj)
          obtain ⟨b1, o1, rfl, hc1⟩ := (hh.out.below hB).int (i := q) (by rw [hx.out]; exact hqn)
          obtain ⟨x, hxx⟩ : ∃ x, x = xs.getD q 0 := ⟨_, rfl⟩
          rw [← hxx] at hc1 e3
          obtain ⟨a2, c2, w2, happ, hO2, hB2⟩ := app_one (ty := 22) x hO (by omega) hB.size
          have happ' := Lib.hid happ
          have hO' := Lib.hid hO2
          have hB' := Lib.hid (hB.trans hB2)
          clear hO hO2 hB2 happ hqj hxx
          go_wp2_with (at_builtin; refine wpList_append_run rfl (.tmp 29) (.tmp 34) 22 rfl _ _ _ rfl rfl happ'.out ?_)

          refine ⟨⟨q + 1, a2, s' + 1, c2, by omega, by go_num, rfl, by omega, ?_, hB'.out⟩, by simp only [intOf]; omega⟩
          rw [e3.out]
          exact hO'.out
      · obtain rfl : q = n := by omega
        obtain ⟨b1, o1, rfl, hc1⟩ := (hh.out.below hB).int (i := j) (by rw [hx.out]; exact hjn)
        obtain ⟨x, hxx⟩ : ∃ x, x = xs.getD j 0 := ⟨_, rfl⟩
        rw [← hxx] at hc1 e2
        obtain ⟨a2, c2, w2, happ, hO2, hB2⟩ := app_one (ty := 22) x hO (by omega) hB.size
        have happ' := Lib.hid happ
        have hO' := Lib.hid hO2.sl
        have hB' := Lib.hid (hB.trans hB2)
        clear hO hO2 hB2 happ hxx hB
        go_wp2_with (at_builtin; refine wpList_append_run rfl (.tmp 36) (.tmp 45) 22 rfl _ _ _ rfl rfl happ'.out ?_)
        go_ret2
        rw [e2.out.1, e2.out.2]
        exact told rfl hO'.out hB'.out
  · obtain ⟨h2, h3⟩ := tPick_no h1
    have e2 : Hid (rollX xs k = [] ∧ tPick n k = -4) := ⟨by unfold rollX; rw [h.nums, if_neg h1], h3⟩
    clear h1 h3
    by_cases h0 : k < 0
    · clear h2
      go_enter Tryz.func40, Tryz.ntmps40
      go_wp2
      go_ret2
      rw [e2.out.1, e2.out.2]
      exact told rfl (Sl.zero _) (Below.refl _ _)
    · have h3 : (n : Int) ≤ k := by omega
      clear h2
      go_enter Tryz.func40, Tryz.ntmps40
      go_wp2
      go_ret2
      rw [e2.out.1, e2.out.2]
      exact told rfl (Sl.zero _) (Below.refl _ _)
end Go.Proofs.YtobijdfnafnodaaGreatDoor.Sk
