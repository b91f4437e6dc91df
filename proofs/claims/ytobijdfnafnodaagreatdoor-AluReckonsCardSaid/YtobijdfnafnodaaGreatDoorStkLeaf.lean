/- Contracts of package stack's past (the closure that it makes), cut, joined. -/
import Derived.Test.YtobijdfnafnodaaGreatDoorSl
import Derived.WalkLawsBesides
import Derived.WalkSpells
import Derived.Outline
import Derived.Lib.Hide
import Derived.Deep.QuietTactic
import Derived.BigQuiet
namespace Go.Proofs.YtobijdfnafnodaaGreatDoor.Sk
open Go.ChangeShapes Go.WideShapes Go.ChangeAt Go.RowKit
set_option linter.unusedVariables false

theorem intinfo : (Tryz.prog.info? 3).map (fun i => (i.zero, i.size, i.bytes)) = some (some (.int .i64 0), 1, 8) := by kernel_rfl
theorem intsize (w : World) : (Go.sizeOf 3).run Tryz.prog w = .ok 1 w := by kernel_rfl
theorem slsize (w : World) : (Go.sizeOf 22).run Tryz.prog w = .ok 1 w := by kernel_rfl
theorem mkf (fn : Fn) (first cap : Array Value) (w : World) : (Instr.makeFunc fn first cap).run Tryz.prog w = .ok (.func fn first cap) w := rfl

theorem retB {a b : Bool} (h : a = b) : Ending.returned (.bool a) = .returned (.bool b) := by rw [h]

/-- the closure that past makes: is a number none from 0 to the limit? -/
def over (k m : Int) : Bool := decide (m < 0 ∨ k < m)

theorem past1_any (k m : Int) (p : Addr) (w : World) (hc : w.cell? p = some (.int .i64 k)) :
    Calls Tryz.prog 99 #[.int .i64 m, .pointer (some p)] w fun e w' => e = .returned (.bool (over k m)) ∧ w = w' := by
  by_cases h1 : m < 0
  · have e : over k m = true := by simp [over, h1]
    go_enter Tryz.func99, Tryz.ntmps99
    go_wp2
    go_ret
    exact ⟨retB e.symm, rfl⟩
  · by_cases h2 : k < m
    · have e : over k m = true := by simp [over, h2]
      go_enter Tryz.func99, Tryz.ntmps99
      go_wp2
      go_ret
      exact ⟨rfl, rfl⟩
    · have e : over k m = false := by simp [over, h1]; omega
      go_enter Tryz.func99, Tryz.ntmps99
      go_wp2
      go_ret
      exact ⟨rfl, rfl⟩

theorem past_any (k : Int) (w : World) :
    Calls Tryz.prog 35 #[.int .i64 k] w fun e w' => e = .returned (.func (.func 99) #[] #[.pointer (some ⟨w.heap.size, 0, none⟩)]) ∧ w'.cell? ⟨w.heap.size, 0, none⟩ = some (.int .i64 k) ∧ Below w.heap.size w w' := by
  have hmf := mkf
  go_enter Tryz.func35, Tryz.ntmps35
  go_wp2
  go_ret
  exact ⟨rfl, cell_of_one (heap_alloc_new w _), (Below.refl _ _).alloc (Nat.le_refl _) _⟩

theorem cut_any (a : Option Addr) (n c : Nat) (xs : List Int) (k m : Nat) (w : World) (h : Sl w a n c (ints xs)) (hk : k ≤ m) (hm : m ≤ n) :
    Calls Tryz.prog 145 #[.slice a n c, .int .i64 (k : Int), .int .i64 (m : Int)] w fun e w' => ∃ a', e = .returned (.slice a' (m - k) (m - k)) ∧ Sl w a' (m - k) (m - k) (ints ((xs.drop k).take (m - k))) ∧ w = w' := by
  obtain ⟨a', hsl, hM⟩ := h.cut3 (P := Tryz.prog) 22 3 Tryz.underlying22 intsize k m hk hm
  rw [ints_drop, ints_take] at hM
  have hb := h.bd
  clear h
  go_enter Tryz.func145, Tryz.ntmps145
  go_wp2
  go_ret
  exact ⟨_, rfl, hM, rfl⟩

/-- some slices of integers, as they lie and as they read -/
structure Part where
  a : Option Addr
  n : Nat
  c : Nat
  xs : List Int
def Part.val (p : Part) : Value := .slice p.a p.n p.c
def sumK (ps : List Part) (k : Nat) : Nat := ((ps.take k).map Part.n).sum
def joinK (ps : List Part) (k : Nat) : List Int := (ps.take k).flatMap Part.xs
def joinX (ps : List Part) : List Int := ps.flatMap Part.xs
theorem joinK_all (ps : List Part) : joinK ps ps.length = joinX ps := by simp [joinK, joinX]
theorem sumK_next {ps : List Part} {k : Nat} {p : Part} (h : ps[k]? = some p) : sumK ps (k + 1) = sumK ps k + p.n := by
  simp [sumK, List.take_add_one, h]
theorem joinK_next {ps : List Part} {k : Nat} {p : Part} (h : ps[k]? = some p) : joinK ps (k + 1) = joinK ps k ++ p.xs := by
  simp [joinK, List.take_add_one, h]
theorem sumK_mono (ps : List Part) (k : Nat) : sumK ps k ≤ sumK ps ps.length := by
  unfold sumK
  rw [List.take_length, List.map_take]
  conv => rhs; rw [← List.take_append_drop k (ps.map Part.n), List.sum_append]
  exact Nat.le_add_right ..

theorem make_ints (N : Nat) (hN : N ≤ 35184372088832) (W : World) : (Instr.makeSlice 22 (.int .i64 0) (.int .i64 (N : Int))).run Tryz.prog W = .ok (.slice (some ⟨W.heap.size, 0, none⟩) 0 N) (W.alloc (.cells (madeCells #[Value.int .i64 0] N) 3)) := by
  obtain ⟨i, hi, hz0, hz1, hz2⟩ := info_parts intinfo
  have h := run_make (P := Tryz.prog) W 22 3 i _ Tryz.underlying22 hi hz0 .i64 .i64 0 N (by omega) (by omega) (by rw [hz2]; omega) (by omega)
  simp only [Int.toNat_natCast, hz1, Nat.mul_one] at h
  exact h

theorem app_ints {w : World} {B n cap m c : Nat} {ty : TypeId} {a a2 : Option Addr} {xs ys : List Int} (h : Own w B 3 a n cap (ints xs)) (hs : Sl w a2 m c (ints ys)) (hby : n + m ≤ 17592186044416) (hB : B ≤ w.heap.size) :
    ∃ a' cap' w2, (Builtin.append_ #[22, 22] ty #[.slice a n cap, .slice a2 m c]).run Tryz.prog w = .ok (.slice a' (n + m) cap') w2 ∧ Own w2 B 3 a' (n + m) cap' (ints (xs ++ ys)) ∧ Below B w w2 := by
  obtain ⟨i, hi, hz0, hz1, hz2⟩ := info_parts intinfo
  rw [ints_app]
  exact h.app Tryz.underlying22 hi hz0 hz1 hz2 rfl hs (ints_one ys) (by omega) (by omega) hB

set_option maxHeartbeats 400000 in
theorem joined_any (a : Option Addr) (m c : Nat) (ps : List Part) (w : World) (h : Sl w a m c (ps.map Part.val)) (hps : ∀ p ∈ ps, Sl w p.a p.n p.c (ints p.xs)) (hn : sumK ps ps.length ≤ 17592186044416) :
    Calls Tryz.prog 36 #[.slice a m c] w fun e w' => ∃ a' c', e = .returned (.slice a' (sumK ps ps.length) c') ∧ Sl w' a' (sumK ps ps.length) c' (ints (joinX ps)) ∧ Below w.heap.size w w' := by
  have hb := h.bd
  have hl : ps.length = m := by have := h.len; simpa using this
  obtain ⟨N, hN⟩ : ∃ N, N = sumK ps ps.length := ⟨_, rfl⟩
  have hmk := fun W => make_ints N (by omega) W
  have hNb : N ≤ 17592186044416 := by omega
  have hN' := Lib.hid hN
  have hh := Lib.hid h
  have hpp := Lib.hid hps
  clear h hps hN
  go_enter Tryz.func36, Tryz.ntmps36
  go_wp2
  go_loop [3, 11] (fun s i => ∃ k : Nat, k ≤ m ∧ i = .int .i64 k ∧ s = .int .i64 (sumK ps k : Nat)) (fun _ i => m - (intOf i).toNat)
  case atStart => exact ⟨0, by omega, rfl, rfl⟩
  case round =>
    obtain ⟨k, hk, rfl, hs⟩ := hrel
    by_cases hkm : k < m
    · obtain ⟨p, hp⟩ : ∃ p, ps[k]? = some p := ⟨ps[k], List.getElem?_eq_getElem (by omega)⟩
      obtain ⟨b, o, rfl, hc⟩ := hh.out.at (i := k) (v := p.val) (by simp [hp])
      have e1 := Lib.hid (sumK_next hp)
      have e2 : (sumK ps k : Int) + (p.n : Int) ≤ 17592186044416 := by have := sumK_mono ps (k + 1); have := e1.out; omega
      unfold Part.val at hc
      subst hs
      clear hp
      go_wp2
      exact ⟨⟨k + 1, by omega, by go_num, congrArg (Value.int .i64) (by have := e1.out; omega)⟩, by simp only [intOf]; omega⟩
    · obtain rfl : k = m := by omega
      have e2 : sumK ps k = N := by rw [hN'.out, hl]
      rw [e2] at hs
      subst hs
      clear e2
      go_wp2
      go_loopw [6, 24] (fun s i wr => ∃ j : Nat, ∃ a' c', j ≤ k ∧ i = .int .i64 j ∧ s = .slice a' (sumK ps j) c' ∧ Own wr w.heap.size 3 a' (sumK ps j) c' (ints (joinK ps j)) ∧ Below w.heap.size w wr) (fun _ i _ => k - (intOf i).toNat)
      case atStart => exact ⟨0, _, _, by omega, rfl, rfl, Own.made w _ _ (Nat.le_refl _) _ N (by unfold maxLen; omega) (by simp [madeCells]), (Below.refl _ _).alloc (Nat.le_refl _) _⟩
      case round =>
        obtain ⟨j, a', c', hj, rfl, hs, hO, hB⟩ := hrel
        by_cases hjk : j < k
        · obtain ⟨p, hp⟩ : ∃ p, ps[j]? = some p := ⟨ps[j], List.getElem?_eq_getElem (by omega)⟩
          obtain ⟨b, o, rfl, hc⟩ := hh.out.at (i := j) (v := p.val) (by simp [hp])
          have hc2 : wr.cell? ⟨b, o + j, none⟩ = some (.slice p.a p.n p.c) := by
            rw [hB.cell (p := ⟨b, o + j, none⟩) (World.block_lt_of_cell? _ _ hc)]
            exact hc
          have e1 := Lib.hid (sumK_next hp)
          have e3 := Lib.hid (joinK_next hp)
          have e2 : (sumK ps j : Int) + (p.n : Int) ≤ 17592186044416 := by have := sumK_mono ps (j + 1); have := e1.out; omega
          obtain ⟨a2, c2, w2, happ, hO2, hB2⟩ := app_ints (ty := 22) hO ((hpp.out p (List.mem_of_getElem? hp)).below hB) (by omega) hB.size
          have happ' := Lib.hid happ
          have hO' := Lib.hid hO2
          have hB' := Lib.hid (hB.trans hB2)
          subst hs
          clear hp hO hO2 happ hB2 hc
          go_wp2_with (at_builtin; refine wpList_append_run rfl (.tmp 28) (.tmp 29) 22 rfl _ _ _ rfl rfl happ'.out ?_)
          refine ⟨⟨j + 1, a2, c2, by omega, by go_num, by rw [e1.out], ?_, hB'.out⟩, by simp only [intOf]; omega⟩
          rw [e1.out, e3.out]
          exact hO'.out
        · obtain rfl : j = k := by omega
          subst hs
          have hO' := Lib.hid hO.sl
          have hB' := Lib.hid hB
          clear hO hB
          go_wp2
          go_ret
          rw [← hl] at hO' ⊢
          rw [← joinK_all]
          exact ⟨_, _, rfl, hO'.out, hB'.out⟩
end Go.Proofs.YtobijdfnafnodaaGreatDoor.Sk
