/- What makes words: chosen, lays, taking, one, two, asks, asksOne, asksTwo. -/
import Derived.Test.YtobijdfnafnodaaGreatDoorAluFun
namespace Go.Proofs.YtobijdfnafnodaaGreatDoor
set_option maxRecDepth 100000
open Go.ChangeShapes Go.WideShapes Go.ChangeAt Go.RowKit
open Sk (Sl ints Own)
set_option linter.unusedVariables false

def cho (ps : List Nat) (xs : List Int) : List Int := ps.map fun p => xs.getD p 0
def choK (ps : List Nat) (xs : List Int) (k : Nat) : List Int := cho (ps.take k) xs ++ List.replicate (ps.length - k) 0
theorem choK_all (ps : List Nat) (xs : List Int) : choK ps xs ps.length = cho ps xs := by simp [choK]
theorem choK_zero (ps : List Nat) (xs : List Int) : choK ps xs 0 = List.replicate ps.length 0 := by simp [choK, cho]
theorem choK_next (ps : List Nat) (xs : List Int) (k : Nat) (h : k < ps.length) : (ints (choK ps xs k)).set k (.int .i64 (xs.getD (ps.getD k 0) 0)) = ints (choK ps xs (k + 1)) := by
  obtain ⟨j, hj⟩ : ∃ j, ps.length - k = j + 1 := ⟨ps.length - k - 1, by omega⟩
  have e : ps.length - (k + 1) = j := by omega
  have e2 : ps.take (k + 1) = ps.take k ++ [ps.getD k 0] := by rw [List.take_add_one]; simp [List.getD, h]
  have hl : (ints (cho (ps.take k) xs)).length = k := by simp [Sk.ints_len, cho]; omega
  unfold choK
  rw [hj, e, e2, List.replicate_succ, Sk.ints_app, List.set_append_right _ _ (by omega), hl, Nat.sub_self]
  simp [cho, ints]
theorem make_full (N : Nat) (hN : N ≤ 35184372088832) (W : World) : (Instr.makeSlice 22 (.int .i64 (N : Int)) (.int .i64 (N : Int))).run Tryz.prog W = .ok (.slice (some ⟨W.heap.size, 0, none⟩) N N) (W.alloc (.cells (madeCells #[Value.int .i64 0] N) 3)) := by
  obtain ⟨i, hi, hz0, hz1, hz2⟩ := info_parts Sk.intinfo
  have h := run_make (P := Tryz.prog) W 22 3 i _ Tryz.underlying22 hi hz0 .i64 .i64 N N (by omega) (by omega) (by rw [hz2]; omega) (by omega)
  simp only [Int.toNat_natCast, hz1, Nat.mul_one] at h
  exact h
def nat (ps : List Nat) : List Int := ps.map Int.ofNat
theorem nat_get {ps : List Nat} {k : Nat} (h : k < ps.length) : (nat ps).getD k 0 = (ps.getD k 0 : Nat) := by simp [nat, List.getD, h]
theorem nat_len (ps : List Nat) : (nat ps).length = ps.length := by simp [nat]

theorem chosen_any (a a2 : Option Addr) (n c m c2 : Nat) (xs : List Int) (ps : List Nat) (w : World) (h : Sl w a n c (ints xs)) (g : Sl w a2 m c2 (ints (nat ps))) (hp : ∀ p ∈ ps, p < n) (hm : m ≤ 10) :
    Calls Tryz.prog 112 #[.slice a n c, .slice a2 m c2] w (ToldEnd w (.ok (cho ps xs))) := by
  have hl := h.nums
  have hk := g.nums
  rw [nat_len] at hk
  have hb := h.bd
  have hb2 := g.bd
  have hmk := fun W => make_full m (by omega) W
  have hO0 : Own (w.alloc (.cells (madeCells #[Value.int .i64 0] m) 3)) w.heap.size 3 (some ⟨w.heap.size, 0, none⟩) m m (ints (choK ps xs 0)) := by
    have := Own.full w w.heap.size 3 (Nat.le_refl _) (madeCells #[Value.int .i64 0] m) m (by unfold maxLen; omega) (by simp [madeCells])
    rw [choK_zero, hk]
    have e : (madeCells #[Value.int .i64 0] m).toList = ints (List.replicate m 0) := by
      simp only [madeCells, ints, List.map_replicate]
      apply List.ext_getElem (by simp)
      intro i h1 h2
      simp [Nat.mod_one]
    rw [e] at this
    exact this
  have hB0 : Below w.heap.size w (w.alloc (.cells (madeCells #[Value.int .i64 0] m) 3)) := (Below.refl _ _).alloc (Nat.le_refl _) _
  have hh := Lib.hid h
  have gg := Lib.hid g
  have hpp := Lib.hid hp
  have hll := Lib.hid hl
  have hkk := Lib.hid hk
  clear h g hp hl hk
  go_enter Tryz.func112, Tryz.ntmps112
  go_wp2
  go_loopw [13] (fun i wr => ∃ k : Nat, k ≤ m ∧ i = .int .i64 k ∧ Own wr w.heap.size 3 (some ⟨w.heap.size, 0, none⟩) m m (ints (choK ps xs k)) ∧ Below w.heap.size w wr) (fun i _ => m - (intOf i).toNat)
  case atStart => exact ⟨0, by omega, rfl, hO0, hB0⟩
  case round =>
    obtain ⟨k, hk, rfl, hO, hB⟩ := hrel
    by_cases hkm : k < m
    · have hkp : k < ps.length := by have := hkk.out; omega
      have hpn : ps.getD k 0 < n := by
        refine hpp.out _ ?_
        rw [List.getD_eq_getElem?_getD, List.getElem?_eq_getElem hkp]
        exact List.getElem_mem hkp
      obtain ⟨b, o, rfl, f0⟩ := hh.out.int (i := ps.getD k 0) (by have := hll.out; omega)
      obtain ⟨b2, o2, rfl, f1⟩ := gg.out.int (i := k) (by rw [nat_len]; exact hkp)
      rw [nat_get hkp] at f1
      have f0' : wr.cell? ⟨b, o + ps.getD k 0, none⟩ = some (.int .i64 (xs.getD (ps.getD k 0) 0)) := by
        rw [hB.cell (p := ⟨b, o + ps.getD k 0, none⟩) (World.block_lt_of_cell? _ _ f0)]
        exact f0
      have f1' : wr.cell? ⟨b2, o2 + k, none⟩ = some (.int .i64 ((ps.getD k 0 : Nat) : Int)) := by
        rw [hB.cell (p := ⟨b2, o2 + k, none⟩) (World.block_lt_of_cell? _ _ f1)]
        exact f1
      have hO2 := hO.put k (.int .i64 (xs.getD (ps.getD k 0) 0))
      rw [choK_next ps xs k hkp] at hO2
      have hO2' := Lib.hid hO2
      have hfz := hO.frozen k
      obtain ⟨v0, hv0⟩ : ∃ v0, (ints (choK ps xs k))[k]? = some v0 := ⟨_, List.getElem?_eq_getElem (by rw [hO.len]; exact hkm)⟩
      obtain ⟨b3, o3, e3, f3⟩ := hO.sl.at hv0
      simp only [Option.some.injEq, Addr.mk.injEq, and_true] at e3
      obtain ⟨rfl, rfl⟩ := e3
      rw [Nat.zero_add] at f3
      have hB2 := Lib.hid (hB.setCell (p := ⟨w.heap.size, k, none⟩) (Nat.le_refl _) (.int .i64 (xs.getD (ps.getD k 0) 0)))
      clear hO hO2 hB f0 f1 hO0 hB0
      generalize xs.getD (ps.getD k 0) 0 = v at *
      generalize ps.getD k 0 = p at *
      go_wp2
      refine ⟨⟨k + 1, by omega, by go_num, hO2'.out, hB2.out⟩, by simp only [intOf]; omega⟩
    · obtain rfl : k = m := by omega
      have hS := Lib.hid hO.sl
      have hB' := Lib.hid hB
      clear hO hB hO0 hB0
      go_wp2
      go_ret
      have := hS.out
      rw [← hkk.out, choK_all] at this
      rw [hkk.out] at this
      exact ⟨_, _, _, rfl, this, hB'.out⟩

/-- what lays makes: the values of some places -/
theorem lays_is (W : World) (m k c2 : Nat) (a2 : Option Addr) (ps : List Nat) (p : Addr) (hg : Sl W a2 k c2 (ints (nat ps))) (hk : k ≤ 10) (hp : ∀ q ∈ ps, q < m) (hc : W.cell? p = some (.slice a2 k c2)) :
    ToldIs W (.func (.func 111) #[] #[.pointer (some p)]) m (fun vs => .ok (cho ps vs)) := by
  refine ⟨_, _, rfl, fun _ _ => by kernel_rfl, fun w hw a c vs hS hI => ?_⟩
  have c1 := hw.cell hc
  have hch := Lib.hid (chosen_any a a2 m c k c2 vs ps w hS (Sl.keep hg hw) hp hk)
  show Calls Tryz.prog 111 #[.slice a m c, .pointer (some p)] w _
  clear hw hS hg
  go_enter Tryz.func111, Tryz.ntmps111
  go_wp2_with (go_at_call 112; (with_reducible refine hch.out.mono ?_); rintro e w1 ⟨a1, n1, c1, rfl, hs1, hb1⟩)
  go_ret
  exact ⟨_, _, _, rfl, hs1, hb1⟩

/-- a maker's end: a word -/
def Makes (W : World) (φ : List Int → Except Int (List Int × List Int)) (e : Ending) (w' : World) : Prop := ∃ G, e = .returned G ∧ WordIs w' G φ ∧ Below W.heap.size W w'

theorem taking_any (W : World) (F : Value) (m : Nat) (γ : List Int → Except Int (List Int)) (hF : ToldIs W F m γ) (hm : m ≤ 10) :
    Calls Tryz.prog 49 #[.int .i64 (m : Int), F] W (Makes W (tk m γ)) := by
  have hmf := Sk.mkf
  obtain ⟨k, cap, e, hx⟩ := hF
  have hF : ToldIs W F m γ := ⟨k, cap, e, hx⟩
  clear hx
  subst e
  have hF' := Lib.hid hF
  clear hF
  go_enter Tryz.func49, Tryz.ntmps49
  go_wp2
  go_ret
  have b1 := boxed W (.int .i64 (m : Int)) 3
  have b2 := boxed (W.alloc (.cells #[.int .i64 (m : Int)] 3)) (.func (.func k) #[] cap) 76
  refine ⟨_, rfl, taking_is _ _ m γ _ _ (hF'.out.keep ((Keep.of b1.2).trans (Keep.of b2.2))) hm ((Keep.of b2.2).cell b1.1) ?_, ?_⟩
  · simp
  · exact b1.2.trans (b2.2.mono (by simp))
theorem taking1_any (W : World) (F : Value) (γ : List Int → Except Int (List Int)) (hF : ToldIs W F 1 γ) :
    Calls Tryz.prog 49 #[.int .i64 1, F] W (Makes W (tk 1 γ)) := taking_any W F 1 γ hF (by decide)
theorem taking2_any (W : World) (F : Value) (γ : List Int → Except Int (List Int)) (hF : ToldIs W F 2 γ) :
    Calls Tryz.prog 49 #[.int .i64 2, F] W (Makes W (tk 2 γ)) := taking_any W F 2 γ hF (by decide)
theorem taking3_any (W : World) (F : Value) (γ : List Int → Except Int (List Int)) (hF : ToldIs W F 3 γ) :
    Calls Tryz.prog 49 #[.int .i64 3, F] W (Makes W (tk 3 γ)) := taking_any W F 3 γ hF (by decide)

theorem lays_any (W : World) (m k c2 : Nat) (a2 : Option Addr) (ps : List Nat) (hg : Sl W a2 k c2 (ints (nat ps))) (hk : k ≤ 10) (hm : m ≤ 10) (hp : ∀ q ∈ ps, q < m) :
    Calls Tryz.prog 48 #[.int .i64 (m : Int), .slice a2 k c2] W (Makes W (tk m (fun vs => .ok (cho ps vs)))) := by
  have hmf := Sk.mkf
  have b1 := boxed W (.slice a2 k c2) 22
  have hT := Lib.hid (taking_any _ _ m _ (lays_is _ m k c2 a2 ps ⟨W.heap.size, 0, none⟩ (Sl.keep hg (Keep.of b1.2)) hk hp b1.1) hm)
  have hb := Lib.hid b1.2
  clear b1 hg
  go_enter Tryz.func48, Tryz.ntmps48
  go_wp2_with (go_at_call 49; (with_reducible refine hT.out.mono ?_); rintro e w1 ⟨G, rfl, hG, hb1⟩)
  go_ret
  exact ⟨_, rfl, hG, hb.out.trans (hb1.mono hb.out.size)⟩

theorem one_any (W : World) (F : Value) (h : Int → Except Int Int) (hF : OneIs W F h) :
    Calls Tryz.prog 54 #[F] W (Makes W (tk 1 (fun vs => lst (h (vs.getD 0 0))))) := by
  have hmf := Sk.mkf
  obtain ⟨k, cap, e, hx⟩ := hF
  subst e
  have b1 := boxed W (.func (.func k) #[] cap) 46
  have hT := Lib.hid (taking1_any _ _ _ (one_is _ _ h ⟨W.heap.size, 0, none⟩ (OneIs.keep ⟨k, cap, rfl, hx⟩ (Keep.of b1.2)) b1.1))
  have hb := Lib.hid b1.2
  clear b1 hx
  go_enter Tryz.func54, Tryz.ntmps54
  go_wp2_with (go_at_call 49; (with_reducible refine hT.out.mono ?_); rintro e w1 ⟨G, rfl, hG, hb1⟩)
  go_ret
  exact ⟨_, rfl, hG, hb.out.trans (hb1.mono hb.out.size)⟩
theorem two_any (W : World) (F : Value) (h : Int → Int → Int) (hF : TwoIs W F h) :
    Calls Tryz.prog 64 #[F] W (Makes W (tk 2 (fun vs => .ok [h (vs.getD 0 0) (vs.getD 1 0)]))) := by
  have hmf := Sk.mkf
  obtain ⟨k, cap, e, hx⟩ := hF
  subst e
  have b1 := boxed W (.func (.func k) #[] cap) 80
  have hT := Lib.hid (taking2_any _ _ _ (two_is _ _ h ⟨W.heap.size, 0, none⟩ (TwoIs.keep ⟨k, cap, rfl, hx⟩ (Keep.of b1.2)) b1.1))
  have hb := Lib.hid b1.2
  clear b1 hx
  go_enter Tryz.func64, Tryz.ntmps64
  go_wp2_with (go_at_call 49; (with_reducible refine hT.out.mono ?_); rintro e w1 ⟨G, rfl, hG, hb1⟩)
  go_ret
  exact ⟨_, rfl, hG, hb.out.trans (hb1.mono hb.out.size)⟩
theorem asks_any (W : World) (F : Value) (m : Nat) (h : List Int → Bool) (hF : AskIs W F m h) (hm : m ≤ 10) :
    Calls Tryz.prog 88 #[.int .i64 (m : Int), F] W (Makes W (tk m (fun vs => .ok [Ce.flagI (h vs)]))) := by
  have hmf := Sk.mkf
  obtain ⟨k, cap, e, hx⟩ := hF
  subst e
  have b1 := boxed W (.func (.func k) #[] cap) 32
  have hT := Lib.hid (taking_any _ _ m _ (asks_is _ _ m h ⟨W.heap.size, 0, none⟩ (AskIs.keep ⟨k, cap, rfl, hx⟩ (Keep.of b1.2)) b1.1) hm)
  have hb := Lib.hid b1.2
  clear b1 hx
  go_enter Tryz.func88, Tryz.ntmps88
  go_wp2_with (go_at_call 49; (with_reducible refine hT.out.mono ?_); rintro e w1 ⟨G, rfl, hG, hb1⟩)
  go_ret
  exact ⟨_, rfl, hG, hb.out.trans (hb1.mono hb.out.size)⟩
theorem asksone_any (W : World) (F : Value) (h : Int → Bool) (hF : AskOne W F h) :
    Calls Tryz.prog 83 #[F] W (Makes W (tk 1 (fun vs => .ok [Ce.flagI (h (vs.getD 0 0))]))) := by
  have hmf := Sk.mkf
  obtain ⟨k, cap, e, hx⟩ := hF
  subst e
  have b1 := boxed W (.func (.func k) #[] cap) 51
  have hT := asks_any _ _ 1 _ (askone_is _ _ h ⟨W.heap.size, 0, none⟩ (AskOne.keep ⟨k, cap, rfl, hx⟩ (Keep.of b1.2)) b1.1) (by decide)
  have hT := Lib.hid (show Calls Tryz.prog 88 #[.int .i64 1, _] _ _ from hT)
  have hb := Lib.hid b1.2
  clear b1 hx
  go_enter Tryz.func83, Tryz.ntmps83
  go_wp2_with (go_at_call 88; (with_reducible refine hT.out.mono ?_); rintro e w1 ⟨G, rfl, hG, hb1⟩)
  go_ret
  exact ⟨_, rfl, hG, hb.out.trans (hb1.mono hb.out.size)⟩
theorem askstwo_any (W : World) (F : Value) (h : Int → Int → Bool) (hF : AskTwo W F h) :
    Calls Tryz.prog 77 #[F] W (Makes W (tk 2 (fun vs => .ok [Ce.flagI (h (vs.getD 0 0) (vs.getD 1 0))]))) := by
  have hmf := Sk.mkf
  obtain ⟨k, cap, e, hx⟩ := hF
  subst e
  have b1 := boxed W (.func (.func k) #[] cap) 35
  have hT := asks_any _ _ 2 _ (asktwo_is _ _ h ⟨W.heap.size, 0, none⟩ (AskTwo.keep ⟨k, cap, rfl, hx⟩ (Keep.of b1.2)) b1.1) (by decide)
  have hT := Lib.hid (show Calls Tryz.prog 88 #[.int .i64 2, _] _ _ from hT)
  have hb := Lib.hid b1.2
  clear b1 hx
  go_enter Tryz.func77, Tryz.ntmps77
  go_wp2_with (go_at_call 88; (with_reducible refine hT.out.mono ?_); rintro e w1 ⟨G, rfl, hG, hb1⟩)
  go_ret
  exact ⟨_, rfl, hG, hb.out.trans (hb1.mono hb.out.size)⟩
end Go.Proofs.YtobijdfnafnodaaGreatDoor
