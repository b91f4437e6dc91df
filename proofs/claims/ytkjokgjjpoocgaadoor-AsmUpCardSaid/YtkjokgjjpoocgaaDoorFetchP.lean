/- The program's Fetch, with its closure. -/
import Derived.Test.YtkjokgjjpoocgaaDoorFetchR
import Derived.Test.YtkjokgjjpoocgaaDoorUpP
import Derived.Test.YtkjokgjjpoocgaaDoorOpsOne
import Derived.BigQuiet
namespace Go.Proofs.YtkjokgjjpoocgaaDoor
set_option maxRecDepth 100000
open Go.ChangeShapes Go.WideShapes Go.ChangeAt Go.RowKit
open On (C64 C8)
set_option linter.unusedVariables false
set_option maxRecDepth 100000

theorem mkfn (fn : Fn) (first cap : Array Value) (w : World) : (Instr.makeFunc fn first cap).run Tryd.prog w = .ok (.func fn first cap) w := rfl
/-- the two variables that the closure holds: the memory, and an address -/
structure Vars (w0 w : World) (a : Option Addr) (n c : Nat) (p : Int) : Prop where
  mem : Bx w w0.heap.size 22 #[.slice a n c]
  at_ : Bx w (w0.heap.size + 1) 3 #[.int .i64 p]
  bel : Below w0.heap.size w0 w
theorem Vars.new (w0 : World) (a : Option Addr) (n c : Nat) (p : Int) : Vars w0 ((w0.alloc (.cells #[.slice a n c] 22)).alloc (.cells #[.int .i64 p] 3)) a n c p := by
  refine ⟨(Bx.new w0 _ _).alloc _, ?_, ((Below.refl _ _).alloc (Nat.le_refl _) _).alloc (by simp) _⟩
  have := Bx.new (w0.alloc (.cells #[.slice a n c] 22)) 3 #[.int .i64 p]
  simpa using this
theorem Vars.below {w0 w w' : World} {a : Option Addr} {n c : Nat} {p : Int} (h : Vars w0 w a n c p) (hb : Below w.heap.size w w') : Vars w0 w' a n c p :=
  ⟨h.mem.below hb h.mem.lt, h.at_.below hb h.at_.lt, h.bel.trans (hb.mono h.bel.size)⟩
theorem Vars.set {w0 w : World} {a : Option Addr} {n c : Nat} {p : Int} (h : Vars w0 w a n c p) (q : Int) : Vars w0 (w.setCell ⟨w0.heap.size + 1, 0, none⟩ (.int .i64 q)) a n c q :=
  ⟨h.mem.setOther _ _ (by simp), h.at_.set 0 _, h.bel.setCell (p := ⟨w0.heap.size + 1, 0, none⟩) (Nat.le_succ _) _⟩
theorem Vars.cell {w0 w : World} {a : Option Addr} {n c : Nat} {p : Int} (h : Vars w0 w a n c p) : w.cell? ⟨w0.heap.size + 1, 0, none⟩ = some (.int .i64 p) := h.at_.cell 0 rfl
theorem Vars.cellm {w0 w : World} {a : Option Addr} {n c : Nat} {p : Int} (h : Vars w0 w a n c p) : w.cell? ⟨w0.heap.size, 0, none⟩ = some (.slice a n c) := h.mem.cell 0 rfl
theorem next_at {w0 w : World} {a : Option Addr} {n c : Nat} {p : Int} {xs : List Int} (q : Int) (h : Vars w0 w a n c p) (hM : Me.Mem w0 a n c xs) (hp : C64 p) (hq : wrap64 (p + 8) = q) :
    Calls Tryd.prog 29 #[.pointer (some ⟨w0.heap.size, 0, none⟩), .pointer (some ⟨w0.heap.size + 1, 0, none⟩)] w fun e w' => e = .returned (.tuple #[.int .i64 (Me.celI xs p), .int .i64 (Me.tC n p)]) ∧ Vars w0 w' a n c q := by
  have hC := Lib.hid (Me.cell_any a n c xs p w (hM.below h.bel) hp)
  have c0 := h.cell
  have c1 := h.cellm
  have c2 := h.at_.free 0
  have hs := Lib.hid (h.set q)
  have hx := Me.celI_bd xs p
  clear h hM hp
  go_enter Tryd.func29, Tryd.ntmps29
  go_wp2_with (go_at_call 21; (with_reducible refine hC.out.mono ?_); rintro e w' ⟨rfl, rfl⟩)
  go_ret2
  exact ⟨rfl, hs.out⟩
theorem results_tmp4 {fn : Func} {t u v z : Tmp} (h : fn.results = #[.tmp t, .tmp u, .tmp v, .tmp z]) (tmps : Array Value) (P : Program) (w : World) :
    (results fn tmps).run P w = .ok (.tuple #[tmps.getD t undef, tmps.getD u undef, tmps.getD v undef, tmps.getD z undef]) w := by
  simp [results, h]
/-- four integers -/
def FetEnd (w : World) (x : Int × Int × Int × Int) (e : Ending) (w' : World) : Prop := e = .returned (.tuple #[.int .i64 x.1, .int .i64 x.2.1, .int .i64 x.2.2.1, .int .i64 x.2.2.2]) ∧ Below w.heap.size w w'
set_option maxHeartbeats 2000000 in
theorem fetch_any (a : Option Addr) (n c : Nat) (xs : List Int) (p : Int) (w : World) (h : Me.Mem w a n c xs) (hn : n ≤ 1000000) (hp : C64 p) (hL : On.Laid w) :
    Calls Tryd.prog 17 #[.slice a n c, .int .i64 p] w (FetEnd w (fetC xs p)) := by
  have hV := Vars.new w a n c p
  have hl : xs.length = n := h.len
  have h1 : C64 (Me.celI xs p) := Me.celI_bd xs p
  have h2 : C64 (Me.celI xs (p + 8)) := Me.celI_bd xs (p + 8)
  have hs : Me.tC n p = 0 → 0 ≤ p ∧ p + 8 ≤ n ∧ p % 8 = 0 := Me.tC_in
  have hW := Lib.hid (fun V (hb : Below w.heap.size w V) => On.wid_any (Me.celI xs p) V (hL.below hb (Nat.le_refl _)) h1)
  have hU := Lib.hid (fun V => (up_any (Me.celI xs (p + 8)) V h2).mono (R' := fun e w' => e = .returned (.int .i64 (up (Me.celI xs (p + 8)))) ∧ w' = V) fun e w' hh => ⟨hh.1, hh.2.symm⟩)
  have hN1 := Lib.hid (next_at (wrap64 (p + 8)) hV h hp rfl)
  have hN2 : Hid (Me.tC n p = 0 → ∀ V, Vars w V a n c (p + 8) → _) := Lib.hid fun hz V hv => next_at (p + 16) hv h (by have := hs hz; unfold C64; omega) (by have := hs hz; unfold wrap64; omega)
  have hE := fetC.eq_1 xs p
  rw [hl] at hE
  have hmf := mkfn
  clear h hV hL
  generalize Me.celI xs p = x at *
  generalize Me.celI xs (p + 8) = y at *
  generalize On.wid x = wd at *
  generalize hu : up y = u at *
  generalize Me.tC n (p + 8) = t2 at *
  generalize Me.tC n p = t1 at *
  generalize fetC xs p = F at *
  by_cases c1 : t1 = 0
  · obtain ⟨g1, g2, g3⟩ := hs c1
    replace hN2 := Lib.hid (hN2.out c1)
    have hq1 : wrap64 (p + 8) = p + 8 := by unfold wrap64; omega
    rw [hq1] at hN1
    subst c1
    clear hq1 hs
    cases wd with
    | false =>
      rw [if_neg (by decide), if_pos rfl] at hE
      subst hE
      clear hu
      go_enter Tryd.func17, Tryd.ntmps17
      go_wp2_with (first | (go_at_call 29; (with_reducible refine hN1.out.mono ?_); rintro e w3 ⟨rfl, hA3⟩; have hW3 := Lib.hid (hW.out w3 hA3.bel); replace hA3 := Lib.hid hA3) | (go_at_call 30; (with_reducible refine hW3.out.mono ?_); rintro e w4 ⟨rfl, hb4⟩; have hA4 := hA3.out.below hb4; clear hb4; have c4 := hA4.cell; have hN := Lib.hid (hN2.out w4 hA4); replace hA4 := Lib.hid hA4.bel))
      go_quiet (fail)
      go_wp2
      try simp only [Exit.inBlock, Exit.then]
      refine bodyPost_ret (results_tmp4 rfl _ _ _) rfl ?_
      exact ⟨rfl, below_drewN hA4.out _⟩
    | true =>
      rw [if_neg (by decide), if_neg (by decide)] at hE
      by_cases c2 : t2 = 0
      · rw [if_neg (by simpa using c2)] at hE
        subst c2
        by_cases c3 : x = 10
        · rw [if_neg (by simpa using c3)] at hE
          subst c3
          by_cases c4 : y < 0
          · rw [if_pos (.inl c4)] at hE
            subst hE
            clear hu
            go_enter Tryd.func17, Tryd.ntmps17
            go_wp2_with (first | (go_at_call 29; (with_reducible refine hN1.out.mono ?_); rintro e w3 ⟨rfl, hA3⟩; have hW3 := Lib.hid (hW.out w3 hA3.bel); replace hA3 := Lib.hid hA3) | (go_at_call 30; (with_reducible refine hW3.out.mono ?_); rintro e w4 ⟨rfl, hb4⟩; have hA4 := hA3.out.below hb4; clear hb4; have c4 := hA4.cell; have hN := Lib.hid (hN2.out w4 hA4); replace hA4 := Lib.hid hA4.bel) | (go_at_call 29; (with_reducible refine hN.out.mono ?_); rintro e w5 ⟨rfl, hA5⟩; have d0 := hA5.cell; have d1 := hA5.cellm; replace hA5 := Lib.hid hA5.bel))
            try simp only [Exit.inBlock, Exit.then]
            refine bodyPost_ret (results_tmp4 rfl _ _ _) rfl ?_
            exact ⟨rfl, hA5.out⟩
          · by_cases c5 : (n : Int) - (p + 16) < y
            · have hyp : (y < 0 ∨ (n : Int) < y ∨ (n : Int) - p - 16 < u) := by
                by_cases hny : (n : Int) < y
                · exact .inr (.inl hny)
                · right; right
                  have : y ≤ u := by rw [← hu]; unfold up wrap64; omega
                  omega
              rw [if_pos hyp] at hE
              subst hE
              clear hu hyp
              go_enter Tryd.func17, Tryd.ntmps17
              go_wp2_with (first | (go_at_call 29; (with_reducible refine hN1.out.mono ?_); rintro e w3 ⟨rfl, hA3⟩; have hW3 := Lib.hid (hW.out w3 hA3.bel); replace hA3 := Lib.hid hA3) | (go_at_call 30; (with_reducible refine hW3.out.mono ?_); rintro e w4 ⟨rfl, hb4⟩; have hA4 := hA3.out.below hb4; clear hb4; have c4 := hA4.cell; have hN := Lib.hid (hN2.out w4 hA4); replace hA4 := Lib.hid hA4.bel) | (go_at_call 29; (with_reducible refine hN.out.mono ?_); rintro e w5 ⟨rfl, hA5⟩; have d0 := hA5.cell; have d1 := hA5.cellm; replace hA5 := Lib.hid hA5.bel))
              try simp only [Exit.inBlock, Exit.then]
              refine bodyPost_ret (results_tmp4 rfl _ _ _) rfl ?_
              exact ⟨rfl, hA5.out⟩
            · have hub : y ≤ u ∧ u ≤ y + 7 := by rw [← hu]; unfold up wrap64; omega
              clear hu
              by_cases c6 : (n : Int) - (p + 16) < u
              · rw [if_pos (.inr (.inr (by omega)))] at hE
                subst hE
                go_enter Tryd.func17, Tryd.ntmps17
                go_wp2_with (first | (go_at_call 29; (with_reducible refine hN1.out.mono ?_); rintro e w3 ⟨rfl, hA3⟩; have hW3 := Lib.hid (hW.out w3 hA3.bel); replace hA3 := Lib.hid hA3) | (go_at_call 30; (with_reducible refine hW3.out.mono ?_); rintro e w4 ⟨rfl, hb4⟩; have hA4 := hA3.out.below hb4; clear hb4; have c4 := hA4.cell; have hN := Lib.hid (hN2.out w4 hA4); replace hA4 := Lib.hid hA4.bel) | (go_at_call 29; (with_reducible refine hN.out.mono ?_); rintro e w5 ⟨rfl, hA5⟩; have d0 := hA5.cell; have d1 := hA5.cellm; replace hA5 := Lib.hid hA5.bel) | (go_at_call 19; (with_reducible refine (hU.out _).mono ?_); rintro e w6 ⟨rfl, rfl⟩))
                try simp only [Exit.inBlock, Exit.then]
                refine bodyPost_ret (results_tmp4 rfl _ _ _) rfl ?_
                exact ⟨rfl, hA5.out⟩
              · rw [if_neg (by omega)] at hE
                subst hE
                go_enter Tryd.func17, Tryd.ntmps17
                go_wp2_with (first | (go_at_call 29; (with_reducible refine hN1.out.mono ?_); rintro e w3 ⟨rfl, hA3⟩; have hW3 := Lib.hid (hW.out w3 hA3.bel); replace hA3 := Lib.hid hA3) | (go_at_call 30; (with_reducible refine hW3.out.mono ?_); rintro e w4 ⟨rfl, hb4⟩; have hA4 := hA3.out.below hb4; clear hb4; have c4 := hA4.cell; have hN := Lib.hid (hN2.out w4 hA4); replace hA4 := Lib.hid hA4.bel) | (go_at_call 29; (with_reducible refine hN.out.mono ?_); rintro e w5 ⟨rfl, hA5⟩; have d0 := hA5.cell; have d1 := hA5.cellm; replace hA5 := Lib.hid hA5.bel) | (go_at_call 19; (with_reducible refine (hU.out _).mono ?_); rintro e w6 ⟨rfl, rfl⟩))
                go_quiet (first | (go_at_call 19; with_reducible exact Calls.quiet_of_same (hU.out _)))
                go_wp2
                try simp only [Exit.inBlock, Exit.then]
                refine bodyPost_ret (results_tmp4 rfl _ _ _) rfl ?_
                exact ⟨rfl, below_drewN hA5.out _⟩
        · rw [if_pos c3] at hE
          subst hE
          have e3 : (x != 10) = true := by simpa using c3
          clear hu
          go_enter Tryd.func17, Tryd.ntmps17
          go_wp2_with (first | (go_at_call 29; (with_reducible refine hN1.out.mono ?_); rintro e w3 ⟨rfl, hA3⟩; have hW3 := Lib.hid (hW.out w3 hA3.bel); replace hA3 := Lib.hid hA3) | (go_at_call 30; (with_reducible refine hW3.out.mono ?_); rintro e w4 ⟨rfl, hb4⟩; have hA4 := hA3.out.below hb4; clear hb4; have c4 := hA4.cell; have hN := Lib.hid (hN2.out w4 hA4); replace hA4 := Lib.hid hA4.bel) | (go_at_call 29; (with_reducible refine hN.out.mono ?_); rintro e w5 ⟨rfl, hA5⟩; have d0 := hA5.cell; have d1 := hA5.cellm; replace hA5 := Lib.hid hA5.bel))
          go_quiet (fail)
          go_wp2
          try simp only [Exit.inBlock, Exit.then]
          refine bodyPost_ret (results_tmp4 rfl _ _ _) rfl ?_
          exact ⟨rfl, below_drewN hA5.out _⟩
      · rw [if_pos c2] at hE
        subst hE
        have e2 : (t2 != 0) = true := by simpa using c2
        clear hu
        go_enter Tryd.func17, Tryd.ntmps17
        go_wp2_with (first | (go_at_call 29; (with_reducible refine hN1.out.mono ?_); rintro e w3 ⟨rfl, hA3⟩; have hW3 := Lib.hid (hW.out w3 hA3.bel); replace hA3 := Lib.hid hA3) | (go_at_call 30; (with_reducible refine hW3.out.mono ?_); rintro e w4 ⟨rfl, hb4⟩; have hA4 := hA3.out.below hb4; clear hb4; have c4 := hA4.cell; have hN := Lib.hid (hN2.out w4 hA4); replace hA4 := Lib.hid hA4.bel) | (go_at_call 29; (with_reducible refine hN.out.mono ?_); rintro e w5 ⟨rfl, hA5⟩; have d0 := hA5.cell; have d1 := hA5.cellm; replace hA5 := Lib.hid hA5.bel))
        try simp only [Exit.inBlock, Exit.then]
        refine bodyPost_ret (results_tmp4 rfl _ _ _) rfl ?_
        exact ⟨rfl, hA5.out⟩
  · rw [if_pos c1] at hE
    subst hE
    have e1 : (t1 != 0) = true := by simpa using c1
    clear hN2 hs hu
    go_enter Tryd.func17, Tryd.ntmps17
    go_wp2_with (first | (go_at_call 29; (with_reducible refine hN1.out.mono ?_); rintro e w3 ⟨rfl, hA3⟩; replace hA3 := Lib.hid hA3.bel))
    try simp only [Exit.inBlock, Exit.then]
    refine bodyPost_ret (results_tmp4 rfl _ _ _) rfl ?_
    exact ⟨rfl, hA3.out⟩
end Go.Proofs.YtkjokgjjpoocgaaDoor
