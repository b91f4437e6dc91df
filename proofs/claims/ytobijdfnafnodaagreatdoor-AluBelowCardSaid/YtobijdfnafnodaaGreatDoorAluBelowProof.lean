/- AluBelow: for every input the law returns true, and each argument reads behind the call as it read before. Condition: the listed package-level variables (nostos/ops.words) start as the program's own text lays them, and the card ties that to the text. -/
import Derived.Test.YtobijdfnafnodaaGreatDoorRows
import Derived.WalkKit
import Derived.ProofKit
import Derived.OpenShut
import Derived.ShutString
import Derived.ChangeOld
import Derived.Below
import Derived.Test.YtobijdfnafnodaaGreatDoorTie
import Derived.Test.YtobijdfnafnodaaGreatDoorCards
import Derived.Test.YtobijdfnafnodaaGreatDoorBelow
import Derived.Test.YtobijdfnafnodaaGreatDoorAluLast
import Derived.SevenTiedAt
import Derived.LaidMore
import Derived.Stop.Joined
namespace Go.Proofs.YtobijdfnafnodaaGreatDoor.aluBelow
open Go.ChangeShapes Go.WideShapes Go.ChangeAt Go.RowKit
open Go.ChangeMaps (open_string shut_string)
set_option linter.unusedVariables false

theorem own : ownKnob Tryz.prog.godebug = none := by kernel_rfl
theorem laidOut : laidOutB Tryz.prog = true := by kernel_rfl

/-- a slice of integers that came in: nil, or a row of cap cells, the numbers zs, each fitting its kind -/
def IsRow (k : IntKind) (w : World) (a : Option Addr) (len cap : Nat) (zs : List Int) : Prop :=
  (a = none ∧ len = 0 ∧ cap = 0 ∧ zs = []) ∨
  ∃ x, a = some x ∧ len ≤ cap ∧ cap ≤ maxLen ∧ zs.length = cap ∧ (∀ i, i < zs.length → w.cell? (x.add i) = some (.int k (zs.getD i 0))) ∧ ∀ n ∈ zs, (Lit.int k n).wf = true

/-! ### the walk: the Go text returns true -/
open Sk (Sl ints)
/-- what came in, as a list of integers -/
theorem isRow_sl {w : World} {a : Option Addr} {len cap : Nat} {zs : List Int} (h : IsRow .i64 w a len cap zs) : Sl w a len cap (ints (zs.take len)) ∧ I64s (zs.take len) := by
  rcases h with ⟨rfl, rfl, rfl, rfl⟩ | ⟨x, rfl, hl, hm, hz, hcell, hwz⟩
  · exact ⟨Sk.Sl.zero w, fun x hx => (by cases hx)⟩
  · refine ⟨⟨by simp [ints]; omega, hl, hm, fun h => (by cases h), fun hn => ?_⟩, fun x hx => bd_i64 (hwz x (List.mem_of_mem_take hx))⟩
    obtain ⟨b, o, s⟩ := x
    obtain rfl : s = none := by simpa [Addr.add] using World.cell?_spot (hcell 0 (by omega))
    refine ⟨b, o, rfl, fun i v hi => ?_⟩
    have hil : i < (zs.take len).length := by
      have := (List.getElem?_eq_some_iff.1 hi).1
      simpa [ints] using this
    rw [Sk.ints_get hil] at hi
    have hi2 : i < len ∧ i < zs.length := by simp at hil; omega
    have := hcell i hi2.2
    rw [add_plain] at this
    rw [this, ← hi]
    simp [List.getD, hi2.1]

set_option maxRecDepth 100000 in
set_option maxHeartbeats 8000000 in
theorem walk (a0 : Int) (a1 : Option Addr) (len1 cap1 : Nat) (z1 : List Int) (a2 : Option Addr) (len2 cap2 : Nat) (z2 : List Int) (w : World) (hL : Laid w) (w0 : (Lit.int .u8 a0).wf = true) (w1 : IsRow .i64 w a1 len1 cap1 z1) (w2 : IsRow .i64 w a2 len2 cap2 z2) :
    Calls Tryz.prog 4 #[.int .u8 a0, .slice a1 len1 cap1, .slice a2 len2 cap2] w fun e w' => e = .returned (.bool true) ∧ Below w.heap.size w w' := by
  have hk := bd_u8 w0
  obtain ⟨h, hI⟩ := isRow_sl w1
  obtain ⟨g, gI⟩ := isRow_sl w2
  have hA := Lib.hid (awake_any w hL)
  clear w0 w1 w2
  generalize z1.take len1 = xs at h hI
  generalize z2.take len2 = ys at g gI
  by_cases hl : 40 < len1
  · have t1 : decide (40 < len1) = true := decide_eq_true hl
    clear h hI hL g gI
    go_enter Tryz.func4, Tryz.ntmps4
    go_wp2_with (go_at_call 8; (with_reducible refine hA.out.mono ?_); rintro e w1 ⟨rfl, b1⟩; have B1 := Lib.hid b1; clear b1)
    go_ret
    exact ⟨rfl, B1.out⟩
  have t1 : decide (40 < len1) = false := decide_eq_false hl
  by_cases hl2 : 40 < len2
  · have t2 : decide (40 < len2) = true := decide_eq_true hl2
    clear h hI hL g gI
    go_enter Tryz.func4, Tryz.ntmps4
    go_wp2_with (go_at_call 8; (with_reducible refine hA.out.mono ?_); rintro e w1 ⟨rfl, b1⟩; have B1 := Lib.hid b1; clear b1)
    go_ret
    exact ⟨rfl, B1.out⟩
  have t2 : decide (40 < len2) = false := decide_eq_false hl2
  have hb := h.bd
  have gb := g.bd
  have hx := h.nums
  have hy := g.nums
  have ho : I64 a0 := by unfold I64; omega
  have hN := Lib.hid (fun (V : World) (hV : Below w.heap.size w V) => On.name_any a0 V (laid_on hL hV) ho)
  obtain ⟨q, hq⟩ : ∃ q : Nat, a0 = (q : Int) := ⟨a0.toNat, by omega⟩
  have hnm := nm_law q (by omega)
  unfold nmB at hnm
  rw [← hq] at hnm
  obtain ⟨k25, k26, k27, -, -⟩ := hnm
  have hq25 : (q == 25) = (a0 == 25) := by rw [hq, Bool.eq_iff_iff]; simp only [beq_iff_eq]; omega
  have hq26 : (q == 26) = (a0 == 26) := by rw [hq, Bool.eq_iff_iff]; simp only [beq_iff_eq]; omega
  have hq27 : (q == 27) = (a0 == 27) := by rw [hq, Bool.eq_iff_iff]; simp only [beq_iff_eq]; omega
  rw [hq25] at k25
  rw [hq26] at k26
  rw [hq27] at k27
  clear hq25 hq26 hq27 hq
  by_cases h25 : a0 = 25
  · rw [show (a0 == 25) = true by rw [h25]; rfl] at k25
    clear h hI hL g gI h25 ho k26 k27
    generalize strOfNums (On.nm a0) = s at *
    go_enter Tryz.func4, Tryz.ntmps4
    go_wp2_with (first | (go_at_call 8; (with_reducible refine hA.out.mono ?_); rintro e w1 ⟨rfl, b1⟩; have B1 := Lib.hid b1; clear b1) | (go_at_call 12; (with_reducible refine (hN.out _ B1.out).mono ?_); rintro e w' ⟨rfl, rfl⟩))
    go_ret
    exact ⟨rfl, B1.out⟩
  rw [show (a0 == 25) = false by rw [beq_eq_false_iff_ne]; exact h25] at k25
  by_cases h26 : a0 = 26
  · rw [show (a0 == 26) = true by rw [h26]; rfl] at k26
    clear h hI hL g gI h26 ho k27
    generalize strOfNums (On.nm a0) = s at *
    go_enter Tryz.func4, Tryz.ntmps4
    go_wp2_with (first | (go_at_call 8; (with_reducible refine hA.out.mono ?_); rintro e w1 ⟨rfl, b1⟩; have B1 := Lib.hid b1; clear b1) | (go_at_call 12; (with_reducible refine (hN.out _ B1.out).mono ?_); rintro e w' ⟨rfl, rfl⟩))
    go_ret
    exact ⟨rfl, B1.out⟩
  rw [show (a0 == 26) = false by rw [beq_eq_false_iff_ne]; exact h26] at k26
  by_cases h27 : a0 = 27
  · rw [show (a0 == 27) = true by rw [h27]; rfl] at k27
    clear h hI hL g gI h27 ho
    generalize strOfNums (On.nm a0) = s at *
    go_enter Tryz.func4, Tryz.ntmps4
    go_wp2_with (first | (go_at_call 8; (with_reducible refine hA.out.mono ?_); rintro e w1 ⟨rfl, b1⟩; have B1 := Lib.hid b1; clear b1) | (go_at_call 12; (with_reducible refine (hN.out _ B1.out).mono ?_); rintro e w' ⟨rfl, rfl⟩))
    go_ret
    exact ⟨rfl, B1.out⟩
  rw [show (a0 == 27) = false by rw [beq_eq_false_iff_ne]; exact h27] at k27
  have hlaw := below_law a0 xs ys (by omega) (by omega) h25 h26 h27
  have hD1 := fun (V : World) (hV : Below w.heap.size w V) => do_phO a0 a1 len1 cap1 xs 1000 V (laid_on hL hV) ho (h.below hV) (by omega) hI (by unfold I64; omega)
  have hD2 := fun (V : World) (hV : Below w.heap.size w V) qa qc (gM : Sl V qa (len2 + len1) qc (ints (ys ++ xs))) => do_phO a0 qa (len2 + len1) qc (ys ++ xs) 1000 V (laid_on hL hV) ho gM (by omega) (fun x hx => by rcases List.mem_append.1 hx with h | h; exact gI x h; exact hI x h) (by unfold I64; omega)
  have hcp := Lib.hid (fun (V : World) (hV : Below w.heap.size w V) => show ∃ q1 d1 w3 q2 d2 w4, (Builtin.append_ #[22, 22] 22 #[.slice (some ⟨V.heap.size, 0, none⟩) 0 0, .slice a2 len2 cap2]).run Tryz.prog (V.alloc (.cells #[] 3)) = .ok (.slice q1 len2 d1) w3 ∧ (Builtin.append_ #[22, 22] 22 #[.slice q1 len2 d1, .slice a1 len1 cap1]).run Tryz.prog w3 = .ok (.slice q2 (len2 + len1) d2) w4 ∧ Sl w4 q2 (len2 + len1) d2 (ints (ys ++ xs)) ∧ Below V.heap.size V w4 from by
    obtain ⟨q1, d1, w3, r3, O3, b3⟩ := Sk.app_new (ty := 22) (g.below hV) (by omega)
    obtain ⟨q2, d2, w4, r4, O4, b4⟩ := Sk.app_ints (ty := 22) O3 ((h.below hV).below b3) (by omega) b3.size
    exact ⟨q1, d1, w3, q2, d2, w4, r3, r4, O4.sl, b3.trans b4⟩)
  have gg := Lib.hid g
  clear hL hI gI h g h25 h26 h27
  generalize strOfNums (On.nm a0) = s at *
  rcases hlaw with ⟨h1, h2⟩ | ⟨t, l2, t2, ht, h1, h2, h4⟩ | ⟨l, h1, h2⟩
  · have e1 := Lib.hid (fun (V : World) (hV : Below w.heap.size w V) => (hD1 V hV).mono fun e w' hh => hh.at (n := 0) (xs := []) (t := 0) (z := false) h1 rfl)
    have hE := Lib.hid (fun (V : World) (hV : Below w.heap.size w V) qa qc (gM : Sl V qa (len2 + len1) qc (ints (ys ++ xs))) => (hD2 V hV qa qc gM).mono fun e w' hh => hh.at (n := 0) (xs := []) (t := 0) (z := false) h2 rfl)
    clear hD1 hD2 h1 h2
    go_enter Tryz.func4, Tryz.ntmps4
    go_wp2_with (first | (go_at_call 8; (with_reducible refine hA.out.mono ?_); rintro e w1 ⟨rfl, b1⟩; have B1 := Lib.hid b1; clear b1) | (go_at_call 12; (with_reducible refine (hN.out _ B1.out).mono ?_); rintro e w' ⟨rfl, rfl⟩) | (at_builtin; refine Sk.wpList_append_run rfl (.tmp 49) (.tmp 50) 22 rfl _ _ _ rfl rfl r3.out ?_) | (at_builtin; refine Sk.wpList_append_run rfl (.tmp 51) (.tmp 52) 22 rfl _ _ _ rfl rfl r4.out ?_) | (go_at_call 9; (with_reducible refine (e1.out _ B1.out).mono ?_); rintro e w2 ⟨a3, c3, rfl, hs2, b2⟩; have B2 := Lib.hid (B1.out.trans (b2.mono B1.out.size)); obtain ⟨q1, d1, w3, q2, d2, w4, r3, r4, M4, b4⟩ := hcp.out _ B2.out; have e2 := Lib.hid (hE.out _ (B2.out.trans (b4.mono B2.out.size)) _ _ M4); replace r3 := Lib.hid r3; replace r4 := Lib.hid r4; have B4 := Lib.hid (B2.out.trans (b4.mono B2.out.size)); clear b2 M4 b4 hs2) | (go_at_call 9; (with_reducible refine e2.out.mono ?_); rintro e w5 ⟨a5, c5, rfl, hs5, b5⟩; have B5 := Lib.hid (B4.out.trans (b5.mono B4.out.size)); clear b5 hs5))
    go_ret
    exact ⟨rfl, B5.out⟩
  · have e1 := Lib.hid (fun (V : World) (hV : Below w.heap.size w V) => (hD1 V hV).mono fun e w' hh => hh.at (n := 0) (xs := []) (t := t) (z := true) h1 rfl)
    have hE := Lib.hid (fun (V : World) (hV : Below w.heap.size w V) qa qc (gM : Sl V qa (len2 + len1) qc (ints (ys ++ xs))) => (hD2 V hV qa qc gM).mono fun e w' hh => hh.at (n := l2.length) (xs := l2) (t := t2) (z := true) h2 rfl)
    clear hD1 hD2 h1 h2
    generalize l2.length = n2 at *
    have ht1 : (t != 0) = true := by simpa using ht
    clear ht
    by_cases h5 : t = -4
    · subst h5
      clear h4
      go_enter Tryz.func4, Tryz.ntmps4
      go_wp2_with (first | (go_at_call 8; (with_reducible refine hA.out.mono ?_); rintro e w1 ⟨rfl, b1⟩; have B1 := Lib.hid b1; clear b1) | (go_at_call 12; (with_reducible refine (hN.out _ B1.out).mono ?_); rintro e w' ⟨rfl, rfl⟩) | (at_builtin; refine Sk.wpList_append_run rfl (.tmp 49) (.tmp 50) 22 rfl _ _ _ rfl rfl r3.out ?_) | (at_builtin; refine Sk.wpList_append_run rfl (.tmp 51) (.tmp 52) 22 rfl _ _ _ rfl rfl r4.out ?_) | (go_at_call 9; (with_reducible refine (e1.out _ B1.out).mono ?_); rintro e w2 ⟨a3, c3, rfl, hs2, b2⟩; have B2 := Lib.hid (B1.out.trans (b2.mono B1.out.size)); obtain ⟨q1, d1, w3, q2, d2, w4, r3, r4, M4, b4⟩ := hcp.out _ B2.out; have e2 := Lib.hid (hE.out _ (B2.out.trans (b4.mono B2.out.size)) _ _ M4); replace r3 := Lib.hid r3; replace r4 := Lib.hid r4; have B4 := Lib.hid (B2.out.trans (b4.mono B2.out.size)); clear b2 M4 b4 hs2) | (go_at_call 9; (with_reducible refine e2.out.mono ?_); rintro e w5 ⟨a5, c5, rfl, hs5, b5⟩; have B5 := Lib.hid (B4.out.trans (b5.mono B4.out.size)); clear b5 hs5))
      go_ret
      exact ⟨rfl, B5.out⟩
    · obtain rfl : t2 = t := by rcases h4 with h | h; exact absurd h h5; exact h
      have h6 : (t2 == -4) = false := by rw [beq_eq_false_iff_ne]; exact h5
      clear h4 h5
      go_enter Tryz.func4, Tryz.ntmps4
      go_wp2_with (first | (go_at_call 8; (with_reducible refine hA.out.mono ?_); rintro e w1 ⟨rfl, b1⟩; have B1 := Lib.hid b1; clear b1) | (go_at_call 12; (with_reducible refine (hN.out _ B1.out).mono ?_); rintro e w' ⟨rfl, rfl⟩) | (at_builtin; refine Sk.wpList_append_run rfl (.tmp 49) (.tmp 50) 22 rfl _ _ _ rfl rfl r3.out ?_) | (at_builtin; refine Sk.wpList_append_run rfl (.tmp 51) (.tmp 52) 22 rfl _ _ _ rfl rfl r4.out ?_) | (go_at_call 9; (with_reducible refine (e1.out _ B1.out).mono ?_); rintro e w2 ⟨a3, c3, rfl, hs2, b2⟩; have B2 := Lib.hid (B1.out.trans (b2.mono B1.out.size)); obtain ⟨q1, d1, w3, q2, d2, w4, r3, r4, M4, b4⟩ := hcp.out _ B2.out; have e2 := Lib.hid (hE.out _ (B2.out.trans (b4.mono B2.out.size)) _ _ M4); replace r3 := Lib.hid r3; replace r4 := Lib.hid r4; have B4 := Lib.hid (B2.out.trans (b4.mono B2.out.size)); clear b2 M4 b4 hs2) | (go_at_call 9; (with_reducible refine e2.out.mono ?_); rintro e w5 ⟨a5, c5, rfl, hs5, b5⟩; have B5 := Lib.hid (B4.out.trans (b5.mono B4.out.size)); clear b5 hs5))
      go_ret
      exact ⟨rfl, B5.out⟩
  · have e1 := Lib.hid (fun (V : World) (hV : Below w.heap.size w V) => (hD1 V hV).mono fun e w' hh => hh.at (n := l.length) (xs := l) (t := 0) (z := true) h1 rfl)
    have hE := Lib.hid (fun (V : World) (hV : Below w.heap.size w V) qa qc (gM : Sl V qa (len2 + len1) qc (ints (ys ++ xs))) => (hD2 V hV qa qc gM).mono fun e w' hh => hh.at (n := l.length + len2) (xs := ys ++ l) (t := 0) (z := true) h2 (by rw [List.length_append, hy, Nat.add_comm]))
    have hcut := Lib.hid (fun (V : World) xa xc (hs : Sl V xa (l.length + len2) xc (ints (ys ++ l))) => show ∃ x6 x7, (∀ W, (Instr.slice 22 (.slice xa (l.length + len2) xc) none (some (.int .i64 (len2 : Int))) none).run Tryz.prog W = .ok (.slice x6 len2 xc) W) ∧ (∀ W, (Instr.slice 22 (.slice xa (l.length + len2) xc) (some (.int .i64 (len2 : Int))) none none).run Tryz.prog W = .ok (.slice x7 l.length (xc - len2)) W) ∧ Sl V x6 len2 xc (ints ys) ∧ Sl V x7 l.length (xc - len2) (ints l) from by
      obtain ⟨x6, y6, s6⟩ := hs.cutTo (P := Tryz.prog) 22 3 Tryz.underlying22 Sk.intsize len2 (by omega)
      obtain ⟨x7, y7, s7⟩ := hs.cutFrom (P := Tryz.prog) 22 3 Tryz.underlying22 Sk.intsize len2 (by omega)
      rw [Sk.ints_take, List.take_append_of_le_length (by omega), List.take_of_length_le (by omega)] at s6
      rw [Sk.ints_drop, List.drop_append_of_le_length (by omega), List.drop_of_length_le (by omega), List.nil_append, Nat.add_sub_cancel] at s7
      rw [Nat.add_sub_cancel] at y7
      exact ⟨x6, x7, y6, y7, s6, s7⟩)
    have hln : l.length ≤ 1000000 := by
      cases hp : phO a0 with
      | none => rw [hp] at h1; injection h1 with e1 e2; subst e1; decide
      | some φ =>
        rw [hp] at h1
        cases hf : φ xs with
        | error t => rw [doR_err hf] at h1; injection h1 with e1 e2; subst e1; decide
        | ok r =>
          obtain ⟨b, l'⟩ := r
          have := phO_small hp xs b l' hf
          rw [doR_ok hf, (push_in (by omega)).1] at h1
          injection h1 with e1 e2
          subst e1
          rw [List.length_append]
          omega
    clear hD1 hD2 h1 h2
    obtain ⟨n1, hn1⟩ : ∃ n1, n1 = l.length := ⟨_, rfl⟩
    rw [← hn1] at hcut e1 hE hln
    clear hn1
    go_enter Tryz.func4, Tryz.ntmps4
    go_wp2_with (first | (go_at_call 8; (with_reducible refine hA.out.mono ?_); rintro e w1 ⟨rfl, b1⟩; have B1 := Lib.hid b1; clear b1) | (go_at_call 12; (with_reducible refine (hN.out _ B1.out).mono ?_); rintro e w' ⟨rfl, rfl⟩) | (at_builtin; refine Sk.wpList_append_run rfl (.tmp 49) (.tmp 50) 22 rfl _ _ _ rfl rfl r3.out ?_) | (at_builtin; refine Sk.wpList_append_run rfl (.tmp 51) (.tmp 52) 22 rfl _ _ _ rfl rfl r4.out ?_) | (go_at_call 9; (with_reducible refine (e1.out _ B1.out).mono ?_); rintro e w2 ⟨a3, c3, rfl, hs2, b2⟩; have B2 := Lib.hid (B1.out.trans (b2.mono B1.out.size)); obtain ⟨q1, d1, w3, q2, d2, w4, r3, r4, M4, b4⟩ := hcp.out _ B2.out; have e2 := Lib.hid (hE.out _ (B2.out.trans (b4.mono B2.out.size)) _ _ M4); replace r3 := Lib.hid r3; replace r4 := Lib.hid r4; have B4 := Lib.hid (B2.out.trans (b4.mono B2.out.size)); have hs4 := Lib.hid (hs2.below b4); clear b2 M4 b4 hs2) | (go_at_call 9; (with_reducible refine e2.out.mono ?_); rintro e w5 ⟨a5, c5, rfl, hs5, b5⟩; have B5 := Lib.hid (B4.out.trans (b5.mono B4.out.size)); obtain ⟨x6, x7, y6, y7, s6, s7⟩ := hcut.out _ _ _ hs5; have S6 := Lib.hid (Sk.same_any x6 a2 len2 c5 len2 cap2 ys w5 s6 (gg.out.below B5.out)); have S7 := Lib.hid (fun (V : World) (h : Below w5.heap.size w5 V) => Sk.same_any x7 a3 n1 (c5 - len2) n1 c3 l V (s7.below h) ((hs4.out.below b5).below h)); clear s6 s7; clear b5 hs5) | (go_at_call 11; (with_reducible refine S6.out.mono ?_); rintro e w6 ⟨rfl, b6⟩; have B6 := Lib.hid (B5.out.trans (b6.mono B5.out.size)); replace S7 := Lib.hid (S7.out _ b6); clear b6) | (go_at_call 11; (with_reducible refine S7.out.mono ?_); rintro e w7 ⟨rfl, b7⟩; have B7 := Lib.hid (B6.out.trans (b7.mono B6.out.size)); clear b7))
    go_ret
    exact ⟨rfl, B7.out⟩

/-! ### the door's own heap meets the condition -/
theorem door_met (os : Os) (args : Array Value) : laidMetH Tryz.prog [("nostos/ops.words", Rows.laid_nostos_ops_words)] ((World.doorLaid Tryz.prog 14 os).forCall (fun _ _ => 0) ⟨#[], args, []⟩).memory :=
  laidMetH_of_parts3 (fuel := 8) (laidMet_of_run' 8 (by kernel_rfl) (by kernel_rfl)) (by kernel_rfl) (by kernel_rfl)

/-! ### the row's step -/
set_option maxRecDepth 100000 in
theorem lifted (os : Os) (started : os.Started) (H : Type) (enc : TypeId × Value → H) :
    ReturnsInHanded {} Tryz.checked os 4 .any (fun w args => (Rows.aluBelowSpec.pre enc Tryz.prog Tryz.f4 [] false w args ∧ laidMetH Tryz.prog [("nostos/ops.words", Rows.laid_nostos_ops_words)] w) ∧ sizedMet enc Tryz.prog Tryz.f4 (OpenSpec.ofChange Rows.aluBelowSpec) false w args)
      (Rows.aluBelowSpec.post enc Tryz.prog Tryz.f4 false true false false) := by
  refine returnsInHanded_of_change_and (C := Tryz.checked) (X := fun w _ => laidMetH Tryz.prog [("nostos/ops.words", Rows.laid_nostos_ops_words)] w) (fun _ _ _ hh h => h.of_heap hh) own started (by kernel_rfl) Tryz.func4
    (ChangeSpec.witness_shaped (enc := enc) (C := Tryz.checked) (os := os) (X := fun w _ => laidMetH Tryz.prog [("nostos/ops.words", Rows.laid_nostos_ops_words)] w) false (World.doorLaid Tryz.prog 14 os) #[.int .u8 0, .slice none 0 0, .slice none 0 0] 8 rfl (World.shaped_of_RefB (by kernel_rfl) (by kernel_rfl)) (by kernel_rfl) (by kernel_rfl) (by kernel_rfl) (door_met os _)) ?_
  intro W base args ds gs before hval0 hW _ _ hL0 _
  have hval : ∀ (j : Nat) t v, Tryz.f4.params[j]? = some t → args[j]? = some v → Value.okWide Tryz.prog W .any base t v := hval0
  have hW' := hW
  obtain ⟨p, q, hA0, hV, rfl, hfz, hnd⟩ := hW
  have hA : DataW.TrodAll enc Tryz.prog W 0 (fun _ => true) true Tryz.f4.params.toList args.toList ds p := hA0
  rw [Tryz.params4] at hA hval
  obtain ⟨v0, vs0, d0, ds0, p0, q0, hargs, rfl, rfl, h0, r0⟩ := trodAll_cons hA
  obtain ⟨v1, vs1, d1, ds1, p1, q1, rfl, rfl, rfl, h1, r1⟩ := trodAll_cons r0
  obtain ⟨v2, vs2, d2, ds2, p2, q2, rfl, rfl, rfl, h2, r2⟩ := trodAll_cons r1
  obtain ⟨rfl, rfl, rfl⟩ := trodAll_nil r2
  obtain rfl : args = #[v0, v1, v2] := by cases args; simp_all
  obtain ⟨rfl, rfl⟩ := trodVars_none hV
  obtain ⟨a0, rfl, rfl, rfl, w0⟩ := open_int Tryz.underlying5 (hval 0 5 v0 rfl rfl) h0
  obtain ⟨a1, len1, cap1, rfl⟩ := okWide_slice Tryz.underlying22 (hval 1 22 v1 rfl rfl)
  have k1 := h1
  have lt1 : ∀ x ∈ p1, x.block < W.heap.size := by obtain ⟨m, hm⟩ := k1; exact DataW.trod_lt m _ _ _ hm
  obtain ⟨z1, w1⟩ : ∃ zs, IsRow .i64 W a1 len1 cap1 zs := by
    obtain ⟨fuel, hf⟩ := h1
    rcases open_ints Tryz.underlying22 Tryz.underlying3 (by kernel_rfl) hf with ⟨hcs, _⟩ | ⟨x, l, c, zs, hcs, _, hl, hm, hz, _, hcell, hwz⟩
    · simp [Value.cells] at hcs
      obtain ⟨rfl, rfl, rfl⟩ := hcs
      exact ⟨[], .inl ⟨rfl, rfl, rfl, rfl⟩⟩
    · simp [Value.cells] at hcs
      obtain ⟨rfl, rfl, rfl⟩ := hcs
      exact ⟨zs, .inr ⟨_, rfl, hl, hm, by simpa using hz, hcell, hwz⟩⟩
  obtain ⟨a2, len2, cap2, rfl⟩ := okWide_slice Tryz.underlying22 (hval 2 22 v2 rfl rfl)
  have k2 := h2
  have lt2 : ∀ x ∈ p2, x.block < W.heap.size := by obtain ⟨m, hm⟩ := k2; exact DataW.trod_lt m _ _ _ hm
  obtain ⟨z2, w2⟩ : ∃ zs, IsRow .i64 W a2 len2 cap2 zs := by
    obtain ⟨fuel, hf⟩ := h2
    rcases open_ints Tryz.underlying22 Tryz.underlying3 (by kernel_rfl) hf with ⟨hcs, _⟩ | ⟨x, l, c, zs, hcs, _, hl, hm, hz, _, hcell, hwz⟩
    · simp [Value.cells] at hcs
      obtain ⟨rfl, rfl, rfl⟩ := hcs
      exact ⟨[], .inl ⟨rfl, rfl, rfl, rfl⟩⟩
    · simp [Value.cells] at hcs
      obtain ⟨rfl, rfl, rfl⟩ := hcs
      exact ⟨zs, .inr ⟨_, rfl, hl, hm, by simpa using hz, hcell, hwz⟩⟩
  clear hA0 hval0
  refine (walk a0 a1 len1 cap1 z1 a2 len2 cap2 z2 W (laid_of hL0) w0 w1 w2).mono fun e W' ⟨he, bel⟩ => ?_
  subst he
  exact ⟨_, rfl, _, _, _, [], _, [], hW', trodAll_mk1 (shut_bool Tryz.underlying4 _), (trodAll_cons_mk (shut_int Tryz.underlying5 w0) (trodAll_cons_mk (Below.trod laidOut (by kernel_rfl) (of_decide_eq_true (by kernel_rfl)) k1 bel lt1) (trodAll_cons_mk (Below.trod laidOut (by kernel_rfl) (of_decide_eq_true (by kernel_rfl)) k2 bel lt2) trodAll_mk0))), rfl, bel.frame _, fun h => by cases h⟩

theorem over : Rows.aluBelowRow.holds Tryz.pinned (OpenSpec.ofChange Rows.aluBelowSpec) :=
  OpenClaim.holds_of_wide 4 Tryz.f4 rfl rfl rfl rfl rfl rfl rfl ⟨rfl, rfl, rfl, rfl, rfl⟩ rfl rfl rfl rfl rfl (by kernel_rfl) Tryz.func4 (by kernel_rfl)
    (of_decide_eq_true (by kernel_rfl)) (by unfold Func.isWrapper; first | (rw [if_pos (by decide +kernel)]; kernel_rfl) | (rw [if_neg (by decide +kernel)]; exact ⟨rfl, rfl⟩))
    (fun os started H enc _ => lifted os started H enc)

/-- the statement -/
theorem proved : Rows.AluBelowCardSaid := 
  Claim7.holds_tied_plain_at .later [] [.data] true (true, "51d1dfcc53ab65408596c144351444e992a538203f22ca8493db12b8c546ad23") true
    over (fun _ h => by cases h) (by kernel_rfl) (fun _ h => by cases h) aluBelow_row_tie rfl ⟨rfl, rfl⟩ (by kernel_rfl) rfl
    (fun f fn hf hfn => by
      obtain rfl : f = 4 := Option.some.inj ((show Tryz.prog.funcNamed "nostos/nostoslaw09.AluBelow" = some 4 by kernel_rfl).symm.trans hf) |>.symm
      obtain rfl : fn = Tryz.f4 := (Option.some.inj (Tryz.func4.symm.trans hfn)).symm
      exact ⟨by kernel_rfl, fun j t ht => by
        rw [Tryz.params4] at ht
        have hm : t ∈ [5, 22, 22] := by simpa using Array.mem_of_getElem? ht
        have hall : ([5, 22, 22].all fun u => !Tryz.prog.wantsStandIn u) = true := by kernel_rfl
        exact (show Tryz.prog.wantsStandIn t = false by simpa using List.all_eq_true.1 hall t hm)⟩)
    (by kernel_rfl)
#print axioms proved
end Go.Proofs.YtobijdfnafnodaaGreatDoor.aluBelow
