/- AluReckons: for every input the law returns true, and each argument reads behind the call as it read before. Condition: the listed package-level variables (nostos/ops.words) start as the program's own text lays them, and the card ties that to the text. -/
import Derived.Test.YtobijdfnafnodaaGreatDoorRows
import Derived.WalkKit
import Derived.ProofKit
import Derived.OpenShut
import Derived.ShutString
import Derived.ChangeOld
import Derived.Below
import Derived.Test.YtobijdfnafnodaaGreatDoorTie
import Derived.Test.YtobijdfnafnodaaGreatDoorCards
import Derived.Test.YtobijdfnafnodaaGreatDoorBelow
import Derived.Test.YtobijdfnafnodaaGreatDoorAluNum
import Derived.SevenTiedAt
import Derived.LaidMore
import Derived.Stop.Joined
namespace Go.Proofs.YtobijdfnafnodaaGreatDoor.aluReckons
open Go.ChangeShapes Go.WideShapes Go.ChangeAt Go.RowKit
open Go.ChangeMaps (open_string shut_string)
set_option linter.unusedVariables false

theorem own : ownKnob Tryz.prog.godebug = none := by kernel_rfl
theorem laidOut : laidOutB Tryz.prog = true := by kernel_rfl

/-! ### the walk: the Go text returns true -/
open Sk (Sl ints)
set_option maxRecDepth 100000 in
set_option maxHeartbeats 16000000 in
theorem walk (a0 : Int) (a1 : Int) (w : World) (hL : Laid w) (w0 : (Lit.int .i64 a0).wf = true) (w1 : (Lit.int .i64 a1).wf = true) :
    Calls Tryz.prog 6 #[.int .i64 a0, .int .i64 a1] w fun e w' => e = .returned (.bool true) ∧ Below w.heap.size w w' := by
  have ha := bd_i64 w0
  have hb := bd_i64 w1
  have hA := Lib.hid (awake_any w hL)
  clear w0 w1
  have hI : I64s [a0, a1] := fun x hx => by
    simp only [List.mem_cons, List.not_mem_nil, or_false] at hx
    rcases hx with rfl | rfl
    · exact ha
    · exact hb
  have p28 := fun (V : World) (hV : Below w.heap.size w V) xa xc (g : Sl V xa 2 xc (ints [a0, a1])) => top_any nm_28 xa 2 xc [a0, a1] (wrap64 (a0 + a1)) V (laid_on hL hV) g (by decide) hI (wordX_two (h := fun x y => wrap64 (x + y)) rfl a0 a1)
  have p42 := fun (V : World) (hV : Below w.heap.size w V) xa xc (g : Sl V xa 2 xc (ints [a0, a1])) => top_any nm_42 xa 2 xc [a0, a1] (min a0 a1) V (laid_on hL hV) g (by decide) hI (wordX_two (h := fun x y => min x y) rfl a0 a1)
  have p43 := fun (V : World) (hV : Below w.heap.size w V) xa xc (g : Sl V xa 2 xc (ints [a0, a1])) => top_any nm_43 xa 2 xc [a0, a1] (max a0 a1) V (laid_on hL hV) g (by decide) hI (wordX_two (h := fun x y => max x y) rfl a0 a1)
  have p45 := fun (V : World) (hV : Below w.heap.size w V) xa xc (g : Sl V xa 2 xc (ints [a0, a1])) => top_any nm_45 xa 2 xc [a0, a1] (bits .or .i64 a0 a1) V (laid_on hL hV) g (by decide) hI (wordX_two (h := fun x y => bits .or .i64 x y) rfl a0 a1)
  have p44 := fun (V : World) (hV : Below w.heap.size w V) xa xc (g : Sl V xa 2 xc (ints [a0, a1])) => top_any nm_44 xa 2 xc [a0, a1] (bits .and .i64 a0 a1) V (laid_on hL hV) g (by decide) hI (wordX_two (h := fun x y => bits .and .i64 x y) rfl a0 a1)
  have p46 := fun (V : World) (hV : Below w.heap.size w V) xa xc (g : Sl V xa 2 xc (ints [a0, a1])) => top_any nm_46 xa 2 xc [a0, a1] (bits .xor .i64 a0 a1) V (laid_on hL hV) g (by decide) hI (wordX_two (h := fun x y => bits .xor .i64 x y) rfl a0 a1)
  have p52 := fun (V : World) (hV : Below w.heap.size w V) xa xc (g : Sl V xa 2 xc (ints [a0, a1])) => top_any nm_52 xa 2 xc [a0, a1] (Ce.flagI (decide (a0 < a1))) V (laid_on hL hV) g (by decide) hI (wordX_at (h := fun x y => decide (x < y)) rfl a0 a1)
  have p53 := fun (V : World) (hV : Below w.heap.size w V) xa xc (g : Sl V xa 2 xc (ints [a0, a1])) => top_any nm_53 xa 2 xc [a0, a1] (Ce.flagI (decide (a1 < a0))) V (laid_on hL hV) g (by decide) hI (wordX_at (h := fun x y => decide (y < x)) rfl a0 a1)
  have p50 := fun (V : World) (hV : Below w.heap.size w V) xa xc (g : Sl V xa 2 xc (ints [a0, a1])) => top_any nm_50 xa 2 xc [a0, a1] (Ce.flagI (a0 == a1)) V (laid_on hL hV) g (by decide) hI (wordX_at (h := fun x y => x == y) rfl a0 a1)
  have p51 := fun (V : World) (hV : Below w.heap.size w V) xa xc (g : Sl V xa 2 xc (ints [a0, a1])) => top_any nm_51 xa 2 xc [a0, a1] (Ce.flagI (a0 != a1)) V (laid_on hL hV) g (by decide) hI (wordX_at (h := fun x y => x != y) rfl a0 a1)
  have hIs : I64s [wrap64 (a0 + a1), a1] := fun x hx => by
    simp only [List.mem_cons, List.not_mem_nil, or_false] at hx
    rcases hx with rfl | rfl
    · exact wrap_i64 _
    · exact hb
  have hv29 : wordX 29 [wrap64 (a0 + a1), a1] = [a0] := by rw [wordX_two (h := fun x y => wrap64 (x - y)) rfl, sub_back a0 a1 ha]
  have p29 := Lib.hid (fun (V : World) (hV : Below w.heap.size w V) => show Calls Tryz.prog 15 #[.string ⟨#[45]⟩, .slice (some ⟨V.heap.size, 0, none⟩) 2 2] (V.alloc (.cells #[.int .i64 (wrap64 (a0 + a1)), .int .i64 a1] 3)) (fun e w' => e = .returned (.int .i64 a0) ∧ Below V.heap.size V w') from by
    obtain ⟨f1, f2⟩ := Sk.fresh V [wrap64 (a0 + a1), a1] (by simp)
    refine (top_any nm_29 _ 2 2 _ a0 _ (laid_on hL (hV.trans (f2.mono hV.size))) f1 (by decide) hIs hv29).mono ?_
    rintro e w' ⟨rfl, b⟩
    exact ⟨rfl, f2.trans (b.mono f2.size)⟩)
  have hF := Lib.hid (fun (V : World) (hV : Below w.heap.size w V) => find_at [47, 77, 79, 68] ⟨#[47, 77, 79, 68]⟩ 33 V (laid_on hL hV) (by decide +kernel) (by unfold On.bytesOk; decide) (by decide) (by decide +kernel))
  have hD := fun (V : World) (hV : Below w.heap.size w V) xa xc (g : Sl V xa 2 xc (ints [a0, a1])) => do_phO 33 xa 2 xc [a0, a1] 9 V (laid_on hL hV) (by unfold I64; omega) g (by decide) hI (by unfold I64; omega)
  have hml := mod_law a0 a1
  have hbo := bits_or a0 a1
  have hmm : decide (min a0 a1 ≤ max a0 a1) = true := decide_eq_true (by omega)
  have hfr := Lib.hid (fun (V : World) => show Sl (V.alloc (.cells #[.int .i64 a0, .int .i64 a1] 3)) (some ⟨V.heap.size, 0, none⟩) 2 2 (ints [a0, a1]) ∧ Below V.heap.size V (V.alloc (.cells #[.int .i64 a0, .int .i64 a1] 3)) from Sk.fresh V [a0, a1] (by simp))
  have hn2 := Sk.new2
  replace p28 := Lib.hid p28
  replace p42 := Lib.hid p42
  replace p43 := Lib.hid p43
  replace p45 := Lib.hid p45
  replace p44 := Lib.hid p44
  replace p46 := Lib.hid p46
  replace p52 := Lib.hid p52
  replace p53 := Lib.hid p53
  replace p50 := Lib.hid p50
  replace p51 := Lib.hid p51
  have hsum : Hid (wrap64 (a0 + a1) = wrap64 (a0 + a1)) := Lib.hid rfl
  generalize hO : bits .or .i64 a0 a1 = vO at *
  generalize hN : bits .and .i64 a0 a1 = vN at *
  generalize hX : bits .xor .i64 a0 a1 = vX at *
  clear hO hN hX hsum hv29 hIs
  by_cases hz : a1 = 0
  · rw [if_pos hz] at hml
    have hDD := Lib.hid (fun (V : World) (hV : Below w.heap.size w V) xa xc (g : Sl V xa 2 xc (ints [a0, a1])) => (hD V hV xa xc g).mono fun e w' hh => hh.at (n := 0) (xs := []) (t := -10) (z := true) hml rfl)
    have z1 : (a1 == 0) = true := by rw [hz]; rfl
    clear hD hml hL hI ha hb hz
    rcases Int.lt_trichotomy a0 a1 with hc | hc | hc
    · have n1 : ¬ a0 = a1 := by omega
      have y52 := p52.out
      rw [show decide (a0 < a1) = true from decide_eq_true (by omega), show Ce.flagI true = -1 from rfl] at y52
      replace p52 := Lib.hid y52
      clear y52
      have y53 := p53.out
      rw [show decide (a1 < a0) = false from decide_eq_false (by omega), show Ce.flagI false = 0 from rfl] at y53
      replace p53 := Lib.hid y53
      clear y53
      have y50 := p50.out
      rw [show (a0 == a1) = false from by rw [beq_eq_false_iff_ne]; exact n1, show Ce.flagI false = 0 from rfl] at y50
      replace p50 := Lib.hid y50
      clear y50
      have y51 := p51.out
      rw [show (a0 != a1) = true from by rw [bne_iff_ne]; exact n1, show Ce.flagI true = -1 from rfl] at y51
      replace p51 := Lib.hid y51
      clear y51
      clear n1
      go_enter Tryz.func6, Tryz.ntmps6
      go_wp2_with (first | (go_at_call 8; (with_reducible refine hA.out.mono ?_); rintro e w1 ⟨rfl, b1⟩; obtain ⟨f1, f2⟩ := hfr.out w1; have S := Lib.hid f1; have B := Lib.hid (b1.trans (f2.mono b1.size)); clear b1 f1 f2) | (go_at_call 15; (with_reducible refine (p28.out _ B.out _ _ S.out).mono ?_); rintro e wt28 ⟨rfl, bz⟩; replace S := Lib.hid (S.out.below bz); replace B := Lib.hid (B.out.trans (bz.mono B.out.size)); clear bz) | (go_at_call 15; (with_reducible refine (p42.out _ B.out _ _ S.out).mono ?_); rintro e wt42 ⟨rfl, bz⟩; replace S := Lib.hid (S.out.below bz); replace B := Lib.hid (B.out.trans (bz.mono B.out.size)); clear bz) | (go_at_call 15; (with_reducible refine (p43.out _ B.out _ _ S.out).mono ?_); rintro e wt43 ⟨rfl, bz⟩; replace S := Lib.hid (S.out.below bz); replace B := Lib.hid (B.out.trans (bz.mono B.out.size)); clear bz) | (go_at_call 15; (with_reducible refine (p45.out _ B.out _ _ S.out).mono ?_); rintro e wt45 ⟨rfl, bz⟩; replace S := Lib.hid (S.out.below bz); replace B := Lib.hid (B.out.trans (bz.mono B.out.size)); clear bz) | (go_at_call 15; (with_reducible refine (p44.out _ B.out _ _ S.out).mono ?_); rintro e wt44 ⟨rfl, bz⟩; replace S := Lib.hid (S.out.below bz); replace B := Lib.hid (B.out.trans (bz.mono B.out.size)); clear bz) | (go_at_call 15; (with_reducible refine (p46.out _ B.out _ _ S.out).mono ?_); rintro e wt46 ⟨rfl, bz⟩; replace S := Lib.hid (S.out.below bz); replace B := Lib.hid (B.out.trans (bz.mono B.out.size)); clear bz) | (go_at_call 15; (with_reducible refine (p52.out _ B.out _ _ S.out).mono ?_); rintro e wt52 ⟨rfl, bz⟩; replace S := Lib.hid (S.out.below bz); replace B := Lib.hid (B.out.trans (bz.mono B.out.size)); clear bz) | (go_at_call 15; (with_reducible refine (p53.out _ B.out _ _ S.out).mono ?_); rintro e wt53 ⟨rfl, bz⟩; replace S := Lib.hid (S.out.below bz); replace B := Lib.hid (B.out.trans (bz.mono B.out.size)); clear bz) | (go_at_call 15; (with_reducible refine (p50.out _ B.out _ _ S.out).mono ?_); rintro e wt50 ⟨rfl, bz⟩; replace S := Lib.hid (S.out.below bz); replace B := Lib.hid (B.out.trans (bz.mono B.out.size)); clear bz) | (go_at_call 15; (with_reducible refine (p51.out _ B.out _ _ S.out).mono ?_); rintro e wt51 ⟨rfl, bz⟩; replace S := Lib.hid (S.out.below bz); replace B := Lib.hid (B.out.trans (bz.mono B.out.size)); clear bz) | (go_at_call 15; (with_reducible refine (p29.out _ B.out).mono ?_); rintro e wt29 ⟨rfl, bz⟩; replace S := Lib.hid (S.out.below bz); replace B := Lib.hid (B.out.trans (bz.mono B.out.size)); clear bz) | (go_at_call 16; (with_reducible refine (hF.out _ B.out).mono ?_); rintro e wf ⟨rfl, bz⟩; replace S := Lib.hid (S.out.below bz); replace B := Lib.hid (B.out.trans (bz.mono B.out.size)); clear bz) | (go_at_call 9; (with_reducible refine (hDD.out _ B.out _ _ S.out).mono ?_); rintro e wd ⟨ad, cd, rfl, hsd, bz⟩; replace S := Lib.hid (S.out.below bz); replace B := Lib.hid (B.out.trans (bz.mono B.out.size)); clear bz; clear hsd))
      go_quiet (fail)
      go_wp2
      go_ret
      exact ⟨rfl, Fl.below_drewN B.out _⟩
    · subst hc
      have y52 := p52.out
      rw [show decide (a0 < a0) = false from by simp, show Ce.flagI false = 0 from rfl] at y52
      replace p52 := Lib.hid y52
      clear y52
      have y53 := p53.out
      rw [show decide (a0 < a0) = false from by simp, show Ce.flagI false = 0 from rfl] at y53
      replace p53 := Lib.hid y53
      clear y53
      have y50 := p50.out
      rw [show (a0 == a0) = true from by simp, show Ce.flagI true = -1 from rfl] at y50
      replace p50 := Lib.hid y50
      clear y50
      have y51 := p51.out
      rw [show (a0 != a0) = false from by simp, show Ce.flagI false = 0 from rfl] at y51
      replace p51 := Lib.hid y51
      clear y51
      go_enter Tryz.func6, Tryz.ntmps6
      go_wp2_with (first | (go_at_call 8; (with_reducible refine hA.out.mono ?_); rintro e w1 ⟨rfl, b1⟩; obtain ⟨f1, f2⟩ := hfr.out w1; have S := Lib.hid f1; have B := Lib.hid (b1.trans (f2.mono b1.size)); clear b1 f1 f2) | (go_at_call 15; (with_reducible refine (p28.out _ B.out _ _ S.out).mono ?_); rintro e wt28 ⟨rfl, bz⟩; replace S := Lib.hid (S.out.below bz); replace B := Lib.hid (B.out.trans (bz.mono B.out.size)); clear bz) | (go_at_call 15; (with_reducible refine (p42.out _ B.out _ _ S.out).mono ?_); rintro e wt42 ⟨rfl, bz⟩; replace S := Lib.hid (S.out.below bz); replace B := Lib.hid (B.out.trans (bz.mono B.out.size)); clear bz) | (go_at_call 15; (with_reducible refine (p43.out _ B.out _ _ S.out).mono ?_); rintro e wt43 ⟨rfl, bz⟩; replace S := Lib.hid (S.out.below bz); replace B := Lib.hid (B.out.trans (bz.mono B.out.size)); clear bz) | (go_at_call 15; (with_reducible refine (p45.out _ B.out _ _ S.out).mono ?_); rintro e wt45 ⟨rfl, bz⟩; replace S := Lib.hid (S.out.below bz); replace B := Lib.hid (B.out.trans (bz.mono B.out.size)); clear bz) | (go_at_call 15; (with_reducible refine (p44.out _ B.out _ _ S.out).mono ?_); rintro e wt44 ⟨rfl, bz⟩; replace S := Lib.hid (S.out.below bz); replace B := Lib.hid (B.out.trans (bz.mono B.out.size)); clear bz) | (go_at_call 15; (with_reducible refine (p46.out _ B.out _ _ S.out).mono ?_); rintro e wt46 ⟨rfl, bz⟩; replace S := Lib.hid (S.out.below bz); replace B := Lib.hid (B.out.trans (bz.mono B.out.size)); clear bz) | (go_at_call 15; (with_reducible refine (p52.out _ B.out _ _ S.out).mono ?_); rintro e wt52 ⟨rfl, bz⟩; replace S := Lib.hid (S.out.below bz); replace B := Lib.hid (B.out.trans (bz.mono B.out.size)); clear bz) | (go_at_call 15; (with_reducible refine (p53.out _ B.out _ _ S.out).mono ?_); rintro e wt53 ⟨rfl, bz⟩; replace S := Lib.hid (S.out.below bz); replace B := Lib.hid (B.out.trans (bz.mono B.out.size)); clear bz) | (go_at_call 15; (with_reducible refine (p50.out _ B.out _ _ S.out).mono ?_); rintro e wt50 ⟨rfl, bz⟩; replace S := Lib.hid (S.out.below bz); replace B := Lib.hid (B.out.trans (bz.mono B.out.size)); clear bz) | (go_at_call 15; (with_reducible refine (p51.out _ B.out _ _ S.out).mono ?_); rintro e wt51 ⟨rfl, bz⟩; replace S := Lib.hid (S.out.below bz); replace B := Lib.hid (B.out.trans (bz.mono B.out.size)); clear bz) | (go_at_call 15; (with_reducible refine (p29.out _ B.out).mono ?_); rintro e wt29 ⟨rfl, bz⟩; replace S := Lib.hid (S.out.below bz); replace B := Lib.hid (B.out.trans (bz.mono B.out.size)); clear bz) | (go_at_call 16; (with_reducible refine (hF.out _ B.out).mono ?_); rintro e wf ⟨rfl, bz⟩; replace S := Lib.hid (S.out.below bz); replace B := Lib.hid (B.out.trans (bz.mono B.out.size)); clear bz) | (go_at_call 9; (with_reducible refine (hDD.out _ B.out _ _ S.out).mono ?_); rintro e wd ⟨ad, cd, rfl, hsd, bz⟩; replace S := Lib.hid (S.out.below bz); replace B := Lib.hid (B.out.trans (bz.mono B.out.size)); clear bz; clear hsd))
      go_quiet (fail)
      go_wp2
      go_ret
      exact ⟨rfl, Fl.below_drewN B.out _⟩
    · have n1 : ¬ a0 = a1 := by omega
      have y52 := p52.out
      rw [show decide (a0 < a1) = false from decide_eq_false (by omega), show Ce.flagI false = 0 from rfl] at y52
      replace p52 := Lib.hid y52
      clear y52
      have y53 := p53.out
      rw [show decide (a1 < a0) = true from decide_eq_true (by omega), show Ce.flagI true = -1 from rfl] at y53
      replace p53 := Lib.hid y53
      clear y53
      have y50 := p50.out
      rw [show (a0 == a1) = false from by rw [beq_eq_false_iff_ne]; exact n1, show Ce.flagI false = 0 from rfl] at y50
      replace p50 := Lib.hid y50
      clear y50
      have y51 := p51.out
      rw [show (a0 != a1) = true from by rw [bne_iff_ne]; exact n1, show Ce.flagI true = -1 from rfl] at y51
      replace p51 := Lib.hid y51
      clear y51
      clear n1
      go_enter Tryz.func6, Tryz.ntmps6
      go_wp2_with (first | (go_at_call 8; (with_reducible refine hA.out.mono ?_); rintro e w1 ⟨rfl, b1⟩; obtain ⟨f1, f2⟩ := hfr.out w1; have S := Lib.hid f1; have B := Lib.hid (b1.trans (f2.mono b1.size)); clear b1 f1 f2) | (go_at_call 15; (with_reducible refine (p28.out _ B.out _ _ S.out).mono ?_); rintro e wt28 ⟨rfl, bz⟩; replace S := Lib.hid (S.out.below bz); replace B := Lib.hid (B.out.trans (bz.mono B.out.size)); clear bz) | (go_at_call 15; (with_reducible refine (p42.out _ B.out _ _ S.out).mono ?_); rintro e wt42 ⟨rfl, bz⟩; replace S := Lib.hid (S.out.below bz); replace B := Lib.hid (B.out.trans (bz.mono B.out.size)); clear bz) | (go_at_call 15; (with_reducible refine (p43.out _ B.out _ _ S.out).mono ?_); rintro e wt43 ⟨rfl, bz⟩; replace S := Lib.hid (S.out.below bz); replace B := Lib.hid (B.out.trans (bz.mono B.out.size)); clear bz) | (go_at_call 15; (with_reducible refine (p45.out _ B.out _ _ S.out).mono ?_); rintro e wt45 ⟨rfl, bz⟩; replace S := Lib.hid (S.out.below bz); replace B := Lib.hid (B.out.trans (bz.mono B.out.size)); clear bz) | (go_at_call 15; (with_reducible refine (p44.out _ B.out _ _ S.out).mono ?_); rintro e wt44 ⟨rfl, bz⟩; replace S := Lib.hid (S.out.below bz); replace B := Lib.hid (B.out.trans (bz.mono B.out.size)); clear bz) | (go_at_call 15; (with_reducible refine (p46.out _ B.out _ _ S.out).mono ?_); rintro e wt46 ⟨rfl, bz⟩; replace S := Lib.hid (S.out.below bz); replace B := Lib.hid (B.out.trans (bz.mono B.out.size)); clear bz) | (go_at_call 15; (with_reducible refine (p52.out _ B.out _ _ S.out).mono ?_); rintro e wt52 ⟨rfl, bz⟩; replace S := Lib.hid (S.out.below bz); replace B := Lib.hid (B.out.trans (bz.mono B.out.size)); clear bz) | (go_at_call 15; (with_reducible refine (p53.out _ B.out _ _ S.out).mono ?_); rintro e wt53 ⟨rfl, bz⟩; replace S := Lib.hid (S.out.below bz); replace B := Lib.hid (B.out.trans (bz.mono B.out.size)); clear bz) | (go_at_call 15; (with_reducible refine (p50.out _ B.out _ _ S.out).mono ?_); rintro e wt50 ⟨rfl, bz⟩; replace S := Lib.hid (S.out.below bz); replace B := Lib.hid (B.out.trans (bz.mono B.out.size)); clear bz) | (go_at_call 15; (with_reducible refine (p51.out _ B.out _ _ S.out).mono ?_); rintro e wt51 ⟨rfl, bz⟩; replace S := Lib.hid (S.out.below bz); replace B := Lib.hid (B.out.trans (bz.mono B.out.size)); clear bz) | (go_at_call 15; (with_reducible refine (p29.out _ B.out).mono ?_); rintro e wt29 ⟨rfl, bz⟩; replace S := Lib.hid (S.out.below bz); replace B := Lib.hid (B.out.trans (bz.mono B.out.size)); clear bz) | (go_at_call 16; (with_reducible refine (hF.out _ B.out).mono ?_); rintro e wf ⟨rfl, bz⟩; replace S := Lib.hid (S.out.below bz); replace B := Lib.hid (B.out.trans (bz.mono B.out.size)); clear bz) | (go_at_call 9; (with_reducible refine (hDD.out _ B.out _ _ S.out).mono ?_); rintro e wd ⟨ad, cd, rfl, hsd, bz⟩; replace S := Lib.hid (S.out.below bz); replace B := Lib.hid (B.out.trans (bz.mono B.out.size)); clear bz; clear hsd))
      go_quiet (fail)
      go_wp2
      go_ret
      exact ⟨rfl, Fl.below_drewN B.out _⟩
  · rw [if_neg hz] at hml
    have hDD := Lib.hid (fun (V : World) (hV : Below w.heap.size w V) xa xc (g : Sl V xa 2 xc (ints [a0, a1])) => (hD V hV xa xc g).mono fun e w' hh => hh.at (n := 2) (xs := [Ce.dvR a0 a1, Ce.dvQ a0 a1]) (t := 0) (z := true) hml rfl)
    have z1 : (a1 == 0) = false := by rw [beq_eq_false_iff_ne]; exact hz
    have hdb := div_back a0 a1 ha hz
    generalize Ce.dvR a0 a1 = vR at *
    generalize Ce.dvQ a0 a1 = vQ at *
    obtain ⟨vM, hM⟩ : ∃ vM, wrap64 (vQ * a1) = vM := ⟨_, rfl⟩
    rw [hM] at hdb
    have hwr : ∀ x : Int, IntKind.i64.wrap x = wrap64 x := fun x => by unfold wrap64; rw [IntKind.wrap_i64]
    have hM2 : IntKind.i64.wrap (vQ * a1) = vM := (hwr _).trans hM
    have hdb2 : IntKind.i64.wrap (vM + vR) = a0 := (hwr _).trans hdb
    clear hwr
    clear hD hml hL hI ha hb hz
    rcases Int.lt_trichotomy a0 a1 with hc | hc | hc
    · have n1 : ¬ a0 = a1 := by omega
      have y52 := p52.out
      rw [show decide (a0 < a1) = true from decide_eq_true (by omega), show Ce.flagI true = -1 from rfl] at y52
      replace p52 := Lib.hid y52
      clear y52
      have y53 := p53.out
      rw [show decide (a1 < a0) = false from decide_eq_false (by omega), show Ce.flagI false = 0 from rfl] at y53
      replace p53 := Lib.hid y53
      clear y53
      have y50 := p50.out
      rw [show (a0 == a1) = false from by rw [beq_eq_false_iff_ne]; exact n1, show Ce.flagI false = 0 from rfl] at y50
      replace p50 := Lib.hid y50
      clear y50
      have y51 := p51.out
      rw [show (a0 != a1) = true from by rw [bne_iff_ne]; exact n1, show Ce.flagI true = -1 from rfl] at y51
      replace p51 := Lib.hid y51
      clear y51
      clear n1
      go_enter Tryz.func6, Tryz.ntmps6
      go_wp2_with (first | (go_at_call 8; (with_reducible refine hA.out.mono ?_); rintro e w1 ⟨rfl, b1⟩; obtain ⟨f1, f2⟩ := hfr.out w1; have S := Lib.hid f1; have B := Lib.hid (b1.trans (f2.mono b1.size)); clear b1 f1 f2) | (go_at_call 15; (with_reducible refine (p28.out _ B.out _ _ S.out).mono ?_); rintro e wt28 ⟨rfl, bz⟩; replace S := Lib.hid (S.out.below bz); replace B := Lib.hid (B.out.trans (bz.mono B.out.size)); clear bz) | (go_at_call 15; (with_reducible refine (p42.out _ B.out _ _ S.out).mono ?_); rintro e wt42 ⟨rfl, bz⟩; replace S := Lib.hid (S.out.below bz); replace B := Lib.hid (B.out.trans (bz.mono B.out.size)); clear bz) | (go_at_call 15; (with_reducible refine (p43.out _ B.out _ _ S.out).mono ?_); rintro e wt43 ⟨rfl, bz⟩; replace S := Lib.hid (S.out.below bz); replace B := Lib.hid (B.out.trans (bz.mono B.out.size)); clear bz) | (go_at_call 15; (with_reducible refine (p45.out _ B.out _ _ S.out).mono ?_); rintro e wt45 ⟨rfl, bz⟩; replace S := Lib.hid (S.out.below bz); replace B := Lib.hid (B.out.trans (bz.mono B.out.size)); clear bz) | (go_at_call 15; (with_reducible refine (p44.out _ B.out _ _ S.out).mono ?_); rintro e wt44 ⟨rfl, bz⟩; replace S := Lib.hid (S.out.below bz); replace B := Lib.hid (B.out.trans (bz.mono B.out.size)); clear bz) | (go_at_call 15; (with_reducible refine (p46.out _ B.out _ _ S.out).mono ?_); rintro e wt46 ⟨rfl, bz⟩; replace S := Lib.hid (S.out.below bz); replace B := Lib.hid (B.out.trans (bz.mono B.out.size)); clear bz) | (go_at_call 15; (with_reducible refine (p52.out _ B.out _ _ S.out).mono ?_); rintro e wt52 ⟨rfl, bz⟩; replace S := Lib.hid (S.out.below bz); replace B := Lib.hid (B.out.trans (bz.mono B.out.size)); clear bz) | (go_at_call 15; (with_reducible refine (p53.out _ B.out _ _ S.out).mono ?_); rintro e wt53 ⟨rfl, bz⟩; replace S := Lib.hid (S.out.below bz); replace B := Lib.hid (B.out.trans (bz.mono B.out.size)); clear bz) | (go_at_call 15; (with_reducible refine (p50.out _ B.out _ _ S.out).mono ?_); rintro e wt50 ⟨rfl, bz⟩; replace S := Lib.hid (S.out.below bz); replace B := Lib.hid (B.out.trans (bz.mono B.out.size)); clear bz) | (go_at_call 15; (with_reducible refine (p51.out _ B.out _ _ S.out).mono ?_); rintro e wt51 ⟨rfl, bz⟩; replace S := Lib.hid (S.out.below bz); replace B := Lib.hid (B.out.trans (bz.mono B.out.size)); clear bz) | (go_at_call 15; (with_reducible refine (p29.out _ B.out).mono ?_); rintro e wt29 ⟨rfl, bz⟩; replace S := Lib.hid (S.out.below bz); replace B := Lib.hid (B.out.trans (bz.mono B.out.size)); clear bz) | (go_at_call 16; (with_reducible refine (hF.out _ B.out).mono ?_); rintro e wf ⟨rfl, bz⟩; replace S := Lib.hid (S.out.below bz); replace B := Lib.hid (B.out.trans (bz.mono B.out.size)); clear bz) | (go_at_call 9; (with_reducible refine (hDD.out _ B.out _ _ S.out).mono ?_); rintro e wd ⟨ad, cd, rfl, hsd, bz⟩; replace S := Lib.hid (S.out.below bz); replace B := Lib.hid (B.out.trans (bz.mono B.out.size)); clear bz; obtain ⟨xb, xo, rfl, g0⟩ := hsd.int (i := 0) (by simp); obtain ⟨yb, yo, ye, g1⟩ := hsd.int (i := 1) (by simp); simp only [Option.some.injEq, Addr.mk.injEq, and_true] at ye; obtain ⟨rfl, rfl⟩ := ye; simp only [Nat.add_zero, List.getD_cons_zero, List.getD_cons_succ] at g0 g1; have hbd := hsd.bd; clear hsd))
      go_quiet (fail)
      go_wp2
      go_ret
      exact ⟨rfl, Fl.below_drewN B.out _⟩
    · subst hc
      have y52 := p52.out
      rw [show decide (a0 < a0) = false from by simp, show Ce.flagI false = 0 from rfl] at y52
      replace p52 := Lib.hid y52
      clear y52
      have y53 := p53.out
      rw [show decide (a0 < a0) = false from by simp, show Ce.flagI false = 0 from rfl] at y53
      replace p53 := Lib.hid y53
      clear y53
      have y50 := p50.out
      rw [show (a0 == a0) = true from by simp, show Ce.flagI true = -1 from rfl] at y50
      replace p50 := Lib.hid y50
      clear y50
      have y51 := p51.out
      rw [show (a0 != a0) = false from by simp, show Ce.flagI false = 0 from rfl] at y51
      replace p51 := Lib.hid y51
      clear y51
      go_enter Tryz.func6, Tryz.ntmps6
      go_wp2_with (first | (go_at_call 8; (with_reducible refine hA.out.mono ?_); rintro e w1 ⟨rfl, b1⟩; obtain ⟨f1, f2⟩ := hfr.out w1; have S := Lib.hid f1; have B := Lib.hid (b1.trans (f2.mono b1.size)); clear b1 f1 f2) | (go_at_call 15; (with_reducible refine (p28.out _ B.out _ _ S.out).mono ?_); rintro e wt28 ⟨rfl, bz⟩; replace S := Lib.hid (S.out.below bz); replace B := Lib.hid (B.out.trans (bz.mono B.out.size)); clear bz) | (go_at_call 15; (with_reducible refine (p42.out _ B.out _ _ S.out).mono ?_); rintro e wt42 ⟨rfl, bz⟩; replace S := Lib.hid (S.out.below bz); replace B := Lib.hid (B.out.trans (bz.mono B.out.size)); clear bz) | (go_at_call 15; (with_reducible refine (p43.out _ B.out _ _ S.out).mono ?_); rintro e wt43 ⟨rfl, bz⟩; replace S := Lib.hid (S.out.below bz); replace B := Lib.hid (B.out.trans (bz.mono B.out.size)); clear bz) | (go_at_call 15; (with_reducible refine (p45.out _ B.out _ _ S.out).mono ?_); rintro e wt45 ⟨rfl, bz⟩; replace S := Lib.hid (S.out.below bz); replace B := Lib.hid (B.out.trans (bz.mono B.out.size)); clear bz) | (go_at_call 15; (with_reducible refine (p44.out _ B.out _ _ S.out).mono ?_); rintro e wt44 ⟨rfl, bz⟩; replace S := Lib.hid (S.out.below bz); replace B := Lib.hid (B.out.trans (bz.mono B.out.size)); clear bz) | (go_at_call 15; (with_reducible refine (p46.out _ B.out _ _ S.out).mono ?_); rintro e wt46 ⟨rfl, bz⟩; replace S := Lib.hid (S.out.below bz); replace B := Lib.hid (B.out.trans (bz.mono B.out.size)); clear bz) | (go_at_call 15; (with_reducible refine (p52.out _ B.out _ _ S.out).mono ?_); rintro e wt52 ⟨rfl, bz⟩; replace S := Lib.hid (S.out.below bz); replace B := Lib.hid (B.out.trans (bz.mono B.out.size)); clear bz) | (go_at_call 15; (with_reducible refine (p53.out _ B.out _ _ S.out).mono ?_); rintro e wt53 ⟨rfl, bz⟩; replace S := Lib.hid (S.out.below bz); replace B := Lib.hid (B.out.trans (bz.mono B.out.size)); clear bz) | (go_at_call 15; (with_reducible refine (p50.out _ B.out _ _ S.out).mono ?_); rintro e wt50 ⟨rfl, bz⟩; replace S := Lib.hid (S.out.below bz); replace B := Lib.hid (B.out.trans (bz.mono B.out.size)); clear bz) | (go_at_call 15; (with_reducible refine (p51.out _ B.out _ _ S.out).mono ?_); rintro e wt51 ⟨rfl, bz⟩; replace S := Lib.hid (S.out.below bz); replace B := Lib.hid (B.out.trans (bz.mono B.out.size)); clear bz) | (go_at_call 15; (with_reducible refine (p29.out _ B.out).mono ?_); rintro e wt29 ⟨rfl, bz⟩; replace S := Lib.hid (S.out.below bz); replace B := Lib.hid (B.out.trans (bz.mono B.out.size)); clear bz) | (go_at_call 16; (with_reducible refine (hF.out _ B.out).mono ?_); rintro e wf ⟨rfl, bz⟩; replace S := Lib.hid (S.out.below bz); replace B := Lib.hid (B.out.trans (bz.mono B.out.size)); clear bz) | (go_at_call 9; (with_reducible refine (hDD.out _ B.out _ _ S.out).mono ?_); rintro e wd ⟨ad, cd, rfl, hsd, bz⟩; replace S := Lib.hid (S.out.below bz); replace B := Lib.hid (B.out.trans (bz.mono B.out.size)); clear bz; obtain ⟨xb, xo, rfl, g0⟩ := hsd.int (i := 0) (by simp); obtain ⟨yb, yo, ye, g1⟩ := hsd.int (i := 1) (by simp); simp only [Option.some.injEq, Addr.mk.injEq, and_true] at ye; obtain ⟨rfl, rfl⟩ := ye; simp only [Nat.add_zero, List.getD_cons_zero, List.getD_cons_succ] at g0 g1; have hbd := hsd.bd; clear hsd))
      go_quiet (fail)
      go_wp2
      go_ret
      exact ⟨rfl, Fl.below_drewN B.out _⟩
    · have n1 : ¬ a0 = a1 := by omega
      have y52 := p52.out
      rw [show decide (a0 < a1) = false from decide_eq_false (by omega), show Ce.flagI false = 0 from rfl] at y52
      replace p52 := Lib.hid y52
      clear y52
      have y53 := p53.out
      rw [show decide (a1 < a0) = true from decide_eq_true (by omega), show Ce.flagI true = -1 from rfl] at y53
      replace p53 := Lib.hid y53
      clear y53
      have y50 := p50.out
      rw [show (a0 == a1) = false from by rw [beq_eq_false_iff_ne]; exact n1, show Ce.flagI false = 0 from rfl] at y50
      replace p50 := Lib.hid y50
      clear y50
      have y51 := p51.out
      rw [show (a0 != a1) = true from by rw [bne_iff_ne]; exact n1, show Ce.flagI true = -1 from rfl] at y51
      replace p51 := Lib.hid y51
      clear y51
      clear n1
      go_enter Tryz.func6, Tryz.ntmps6
      go_wp2_with (first | (go_at_call 8; (with_reducible refine hA.out.mono ?_); rintro e w1 ⟨rfl, b1⟩; obtain ⟨f1, f2⟩ := hfr.out w1; have S := Lib.hid f1; have B := Lib.hid (b1.trans (f2.mono b1.size)); clear b1 f1 f2) | (go_at_call 15; (with_reducible refine (p28.out _ B.out _ _ S.out).mono ?_); rintro e wt28 ⟨rfl, bz⟩; replace S := Lib.hid (S.out.below bz); replace B := Lib.hid (B.out.trans (bz.mono B.out.size)); clear bz) | (go_at_call 15; (with_reducible refine (p42.out _ B.out _ _ S.out).mono ?_); rintro e wt42 ⟨rfl, bz⟩; replace S := Lib.hid (S.out.below bz); replace B := Lib.hid (B.out.trans (bz.mono B.out.size)); clear bz) | (go_at_call 15; (with_reducible refine (p43.out _ B.out _ _ S.out).mono ?_); rintro e wt43 ⟨rfl, bz⟩; replace S := Lib.hid (S.out.below bz); replace B := Lib.hid (B.out.trans (bz.mono B.out.size)); clear bz) | (go_at_call 15; (with_reducible refine (p45.out _ B.out _ _ S.out).mono ?_); rintro e wt45 ⟨rfl, bz⟩; replace S := Lib.hid (S.out.below bz); replace B := Lib.hid (B.out.trans (bz.mono B.out.size)); clear bz) | (go_at_call 15; (with_reducible refine (p44.out _ B.out _ _ S.out).mono ?_); rintro e wt44 ⟨rfl, bz⟩; replace S := Lib.hid (S.out.below bz); replace B := Lib.hid (B.out.trans (bz.mono B.out.size)); clear bz) | (go_at_call 15; (with_reducible refine (p46.out _ B.out _ _ S.out).mono ?_); rintro e wt46 ⟨rfl, bz⟩; replace S := Lib.hid (S.out.below bz); replace B := Lib.hid (B.out.trans (bz.mono B.out.size)); clear bz) | (go_at_call 15; (with_reducible refine (p52.out _ B.out _ _ S.out).mono ?_); rintro e wt52 ⟨rfl, bz⟩; replace S := Lib.hid (S.out.below bz); replace B := Lib.hid (B.out.trans (bz.mono B.out.size)); clear bz) | (go_at_call 15; (with_reducible refine (p53.out _ B.out _ _ S.out).mono ?_); rintro e wt53 ⟨rfl, bz⟩; replace S := Lib.hid (S.out.below bz); replace B := Lib.hid (B.out.trans (bz.mono B.out.size)); clear bz) | (go_at_call 15; (with_reducible refine (p50.out _ B.out _ _ S.out).mono ?_); rintro e wt50 ⟨rfl, bz⟩; replace S := Lib.hid (S.out.below bz); replace B := Lib.hid (B.out.trans (bz.mono B.out.size)); clear bz) | (go_at_call 15; (with_reducible refine (p51.out _ B.out _ _ S.out).mono ?_); rintro e wt51 ⟨rfl, bz⟩; replace S := Lib.hid (S.out.below bz); replace B := Lib.hid (B.out.trans (bz.mono B.out.size)); clear bz) | (go_at_call 15; (with_reducible refine (p29.out _ B.out).mono ?_); rintro e wt29 ⟨rfl, bz⟩; replace S := Lib.hid (S.out.below bz); replace B := Lib.hid (B.out.trans (bz.mono B.out.size)); clear bz) | (go_at_call 16; (with_reducible refine (hF.out _ B.out).mono ?_); rintro e wf ⟨rfl, bz⟩; replace S := Lib.hid (S.out.below bz); replace B := Lib.hid (B.out.trans (bz.mono B.out.size)); clear bz) | (go_at_call 9; (with_reducible refine (hDD.out _ B.out _ _ S.out).mono ?_); rintro e wd ⟨ad, cd, rfl, hsd, bz⟩; replace S := Lib.hid (S.out.below bz); replace B := Lib.hid (B.out.trans (bz.mono B.out.size)); clear bz; obtain ⟨xb, xo, rfl, g0⟩ := hsd.int (i := 0) (by simp); obtain ⟨yb, yo, ye, g1⟩ := hsd.int (i := 1) (by simp); simp only [Option.some.injEq, Addr.mk.injEq, and_true] at ye; obtain ⟨rfl, rfl⟩ := ye; simp only [Nat.add_zero, List.getD_cons_zero, List.getD_cons_succ] at g0 g1; have hbd := hsd.bd; clear hsd))
      go_quiet (fail)
      go_wp2
      go_ret
      exact ⟨rfl, Fl.below_drewN B.out _⟩

/-! ### the door's own heap meets the condition -/
theorem door_met (os : Os) (args : Array Value) : laidMetH Tryz.prog [("nostos/ops.words", Rows.laid_nostos_ops_words)] ((World.doorLaid Tryz.prog 14 os).forCall (fun _ _ => 0) ⟨#[], args, []⟩).memory :=
  laidMetH_of_parts3 (fuel := 8) (laidMet_of_run' 8 (by kernel_rfl) (by kernel_rfl)) (by kernel_rfl) (by kernel_rfl)

/-! ### the row's step -/
set_option maxRecDepth 100000 in
theorem lifted (os : Os) (started : os.Started) (H : Type) (enc : TypeId × Value → H) :
    ReturnsInHanded {} Tryz.checked os 6 .any (fun w args => (Rows.aluReckonsSpec.pre enc Tryz.prog Tryz.f6 [] false w args ∧ laidMetH Tryz.prog [("nostos/ops.words", Rows.laid_nostos_ops_words)] w) ∧ sizedMet enc Tryz.prog Tryz.f6 (OpenSpec.ofChange Rows.aluReckonsSpec) false w args)
      (Rows.aluReckonsSpec.post enc Tryz.prog Tryz.f6 false true false false) := by
  refine returnsInHanded_of_change_and (C := Tryz.checked) (X := fun w _ => laidMetH Tryz.prog [("nostos/ops.words", Rows.laid_nostos_ops_words)] w) (fun _ _ _ hh h => h.of_heap hh) own started (by kernel_rfl) Tryz.func6
    (ChangeSpec.witness_shaped (enc := enc) (C := Tryz.checked) (os := os) (X := fun w _ => laidMetH Tryz.prog [("nostos/ops.words", Rows.laid_nostos_ops_words)] w) false (World.doorLaid Tryz.prog 14 os) #[.int .i64 0, .int .i64 0] 8 rfl (World.shaped_of_RefB (by kernel_rfl) (by kernel_rfl)) (by kernel_rfl) (by kernel_rfl) (by kernel_rfl) (door_met os _)) ?_
  intro W base args ds gs before hval0 hW _ _ hL0 _
  have hval : ∀ (j : Nat) t v, Tryz.f6.params[j]? = some t → args[j]? = some v → Value.okWide Tryz.prog W .any base t v := hval0
  have hW' := hW
  obtain ⟨p, q, hA0, hV, rfl, hfz, hnd⟩ := hW
  have hA : DataW.TrodAll enc Tryz.prog W 0 (fun _ => true) true Tryz.f6.params.toList args.toList ds p := hA0
  rw [Tryz.params6] at hA hval
  obtain ⟨v0, vs0, d0, ds0, p0, q0, hargs, rfl, rfl, h0, r0⟩ := trodAll_cons hA
  obtain ⟨v1, vs1, d1, ds1, p1, q1, rfl, rfl, rfl, h1, r1⟩ := trodAll_cons r0
  obtain ⟨rfl, rfl, rfl⟩ := trodAll_nil r1
  obtain rfl : args = #[v0, v1] := by cases args; simp_all
  obtain ⟨rfl, rfl⟩ := trodVars_none hV
  obtain ⟨a0, rfl, rfl, rfl, w0⟩ := open_int Tryz.underlying3 (hval 0 3 v0 rfl rfl) h0
  obtain ⟨a1, rfl, rfl, rfl, w1⟩ := open_int Tryz.underlying3 (hval 1 3 v1 rfl rfl) h1
  clear hA0 hval0
  refine (walk a0 a1 W (laid_of hL0) w0 w1).mono fun e W' ⟨he, bel⟩ => ?_
  subst he
  exact ⟨_, rfl, _, _, _, [], _, [], hW', trodAll_mk1 (shut_bool Tryz.underlying4 _), (trodAll_cons_mk (shut_int Tryz.underlying3 w0) (trodAll_cons_mk (shut_int Tryz.underlying3 w1) trodAll_mk0)), rfl, bel.frame _, fun h => by cases h⟩

theorem over : Rows.aluReckonsRow.holds Tryz.pinned (OpenSpec.ofChange Rows.aluReckonsSpec) :=
  OpenClaim.holds_of_wide 6 Tryz.f6 rfl rfl rfl rfl rfl rfl rfl ⟨rfl, rfl, rfl, rfl, rfl⟩ rfl rfl rfl rfl rfl (by kernel_rfl) Tryz.func6 (by kernel_rfl)
    (of_decide_eq_true (by kernel_rfl)) (by unfold Func.isWrapper; first | (rw [if_pos (by decide +kernel)]; kernel_rfl) | (rw [if_neg (by decide +kernel)]; exact ⟨rfl, rfl⟩))
    (fun os started H enc _ => lifted os started H enc)

/-- the statement -/
theorem proved : Rows.AluReckonsCardSaid := 
  Claim7.holds_tied_plain_at .later [] [.data] true (true, "51d1dfcc53ab65408596c144351444e992a538203f22ca8493db12b8c546ad23") true
    over (fun _ h => by cases h) (by kernel_rfl) (fun _ h => by cases h) aluReckons_row_tie rfl ⟨rfl, rfl⟩ (by kernel_rfl) rfl
    (fun f fn hf hfn => by
      obtain rfl : f = 6 := Option.some.inj ((show Tryz.prog.funcNamed "nostos/nostoslaw09.AluReckons" = some 6 by kernel_rfl).symm.trans hf) |>.symm
      obtain rfl : fn = Tryz.f6 := (Option.some.inj (Tryz.func6.symm.trans hfn)).symm
      exact ⟨by kernel_rfl, fun j t ht => by
        rw [Tryz.params6] at ht
        have hm : t ∈ [3, 3] := by simpa using Array.mem_of_getElem? ht
        have hall : ([3, 3].all fun u => !Tryz.prog.wantsStandIn u) = true := by kernel_rfl
        exact (show Tryz.prog.wantsStandIn t = false by simpa using List.all_eq_true.1 hall t hm)⟩)
    (by kernel_rfl)
#print axioms proved
end Go.Proofs.YtobijdfnafnodaaGreatDoor.aluReckons
