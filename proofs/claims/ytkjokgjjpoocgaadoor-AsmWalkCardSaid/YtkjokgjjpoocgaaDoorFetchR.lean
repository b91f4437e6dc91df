/- The document's Fetch. -/
import Derived.Test.YtkjokgjjpoocgaaDoorUpS
import Derived.Test.YtkjokgjjpoocgaaDoorOpsRkind
namespace Go.Proofs.YtkjokgjjpoocgaaDoor
set_option maxRecDepth 100000
open Go.ChangeShapes Go.WideShapes Go.ChangeAt Go.RowKit
open On (C64 C8)
set_option linter.unusedVariables false
set_option maxRecDepth 100000

/-- one result: a variable that holds a struct -/
theorem results_row1 {P : Program} {fn : Func} {p : Tmp} {ty : TypeId} (h : fn.results = #[.cell p ty]) (tmps : Array Value) (w : World) (g : Nat) (t : TypeId) (cs : Array Value) (d : TypeDesc)
    (hp : tmps.getD p undef = .pointer (some ⟨g, 0, none⟩)) (hg : Bx w g t cs)
    (hu : P.underlying ty = some d) (hd : (match d with | .struct _ | .array _ _ => true | _ => false) = true) (hi : (P.info? ty).map (·.size) = some cs.size) :
    (results fn tmps).run P w = .ok (.agg cs) w := by
  have hp' : tmps[p]?.getD undef = .pointer (some ⟨g, 0, none⟩) := by simpa using hp
  simp [results, h, hp', asAddr, run_loadVar_row w g t ty cs (0, 0) d hg hu hd hi]

/-- the code at an address: op, with, next, and what is thrown -/
def fetC (xs : List Int) (p : Int) : Int × Int × Int × Int :=
  if Me.tC xs.length p ≠ 0 then (0, 0, 0, Me.tC xs.length p)
  else if On.wid (Me.celI xs p) = false then (Me.celI xs p, 0, p + 8, 0)
  else if Me.tC xs.length (p + 8) ≠ 0 then (0, 0, 0, Me.tC xs.length (p + 8))
  else if Me.celI xs p ≠ 10 then (Me.celI xs p, Me.celI xs (p + 8), p + 16, 0)
  else if Me.celI xs (p + 8) < 0 ∨ xs.length < Me.celI xs (p + 8) ∨ xs.length - p - 16 < up (Me.celI xs (p + 8)) then (0, 0, 0, -9)
  else (10, Me.celI xs (p + 8), p + 16 + up (Me.celI xs (p + 8)), 0)
def codeV (x : Int × Int × Int × Int) : Value := .agg #[.int .i64 x.1, .int .i64 x.2.1, .int .i64 x.2.2.1, .int .i64 x.2.2.2]
theorem cdinfo : (Tryd.prog.info? 41).map (·.size) = some 4 := by kernel_rfl
set_option maxHeartbeats 2000000 in
theorem rfetch_any (a : Option Addr) (n c : Nat) (xs : List Int) (p : Int) (w : World) (h : Me.Mem w a n c xs) (hn : n ≤ 1000000) (hp : C64 p) :
    Calls Tryd.prog 18 #[.slice a n c, .int .i64 p] w fun e w' => e = .returned (codeV (fetC xs p)) ∧ Below w.heap.size w w' := by
  have hb1 : Below w.heap.size w (w.alloc (.cells #[.int .i64 0, .int .i64 0, .int .i64 0, .int .i64 0] 41)) := (Below.refl _ _).alloc (Nat.le_refl _) _
  have q := Lib.hid (Bx.new w 41 #[.int .i64 0, .int .i64 0, .int .i64 0, .int .i64 0])
  have hC := Lib.hid (fun (p : Int) (hp : C64 p) => Me.rcell_any a n c xs p _ (h.below hb1) hp)
  have hl : xs.length = n := h.len
  have hk := Lib.hid (fun p => Me.celI_bd xs p)
  have hend := Lib.hid (fun (cs : Array Value) => below_setRow hb1 (g := w.heap.size) (Nat.le_refl _) cs)
  have hf : Hid (fetC xs p = fetC xs p) := Lib.hid rfl
  have h1 : C64 (Me.celI xs p) := hk.out p
  have h2 : C64 (Me.celI xs (p + 8)) := hk.out (p + 8)
  have hW := Lib.hid (fun V => On.rwid_any (Me.celI xs p) V h1)
  have hU := Lib.hid (fun V => rup_any (Me.celI xs (p + 8)) V h2)
  have hs : Me.tC n p = 0 → 0 ≤ p ∧ p + 8 ≤ n ∧ p % 8 = 0 := Me.tC_in
  have hC1 := Lib.hid (hC.out p hp)
  have hC2 : Hid (Me.tC n p = 0 → _) := Lib.hid fun hz => hC.out (p + 8) (by have := hs hz; unfold C64; omega)
  have hE := fetC.eq_1 xs p
  rw [hl] at hE
  clear hC hk hf hb1 h
  generalize Me.celI xs p = x at *
  generalize Me.celI xs (p + 8) = y at *
  generalize On.wid x = wd at *
  generalize hu : up y = u at *
  generalize Me.tC n (p + 8) = t2 at *
  generalize Me.tC n p = t1 at *
  generalize fetC xs p = F at *
  by_cases c1 : t1 = 0
  · obtain ⟨g1, g2, g3⟩ := hs c1
    replace hC2 := Lib.hid (hC2.out c1)
    cases wd with
    | false =>
      rw [if_neg (by simpa using c1), if_pos rfl] at hE
      subst hE
      subst c1
      clear hC2 hs hu
      go_enter Tryd.func18, Tryd.ntmps18
      go_wp2_with (first | (go_at_call 31; (with_reducible refine hC1.out.mono ?_); rintro e w3 ⟨rfl, rfl⟩) | (go_at_call 32; (with_reducible refine (hW.out _).mono ?_); rintro e w3 ⟨rfl, rfl⟩) | (refine wpList_store_row rfl 41 (.tmp 4) (.tmp 25) rfl w.heap.size #[.int .i64 (x), .int .i64 (0), .int .i64 (p + 8), .int .i64 (0)] rfl rfl _ _ q.out cdinfo rfl rfl ?_))
      refine bodyPost_ret (results_row1 rfl _ _ w.heap.size 41 _ _ rfl (Bx.new _ _ _) Tryd.underlying41 rfl cdinfo) rfl ⟨rfl, (Below.refl _ _).alloc (Nat.le_refl _) _⟩
    | true =>
      rw [if_neg (by simpa using c1), if_neg (by decide)] at hE
      by_cases c2 : t2 = 0
      · rw [if_neg (by simpa using c2)] at hE
        by_cases c3 : x = 10
        · rw [if_neg (by simpa using c3)] at hE
          subst c1; subst c2; subst c3
          clear hs
          by_cases c4 : y < 0
          · rw [if_pos (.inl c4)] at hE
            subst hE
            go_enter Tryd.func18, Tryd.ntmps18
            go_wp2_with (first | (go_at_call 31; (with_reducible refine hC1.out.mono ?_); rintro e w3 ⟨rfl, rfl⟩) | (go_at_call 32; (with_reducible refine (hW.out _).mono ?_); rintro e w3 ⟨rfl, rfl⟩) | (go_at_call 31; (with_reducible refine hC2.out.mono ?_); rintro e w3 ⟨rfl, rfl⟩) | (refine wpList_store_row rfl 41 (.tmp 4) (.tmp 62) rfl w.heap.size #[.int .i64 (0), .int .i64 (0), .int .i64 (0), .int .i64 (-9)] rfl rfl _ _ q.out cdinfo rfl rfl ?_))
            refine bodyPost_ret (results_row1 rfl _ _ w.heap.size 41 _ _ rfl (Bx.new _ _ _) Tryd.underlying41 rfl cdinfo) rfl ⟨rfl, (Below.refl _ _).alloc (Nat.le_refl _) _⟩
          · by_cases c5 : n < y
            · rw [if_pos (.inr (.inl c5))] at hE
              subst hE
              go_enter Tryd.func18, Tryd.ntmps18
              go_wp2_with (first | (go_at_call 31; (with_reducible refine hC1.out.mono ?_); rintro e w3 ⟨rfl, rfl⟩) | (go_at_call 32; (with_reducible refine (hW.out _).mono ?_); rintro e w3 ⟨rfl, rfl⟩) | (go_at_call 31; (with_reducible refine hC2.out.mono ?_); rintro e w3 ⟨rfl, rfl⟩) | (refine wpList_store_row rfl 41 (.tmp 4) (.tmp 62) rfl w.heap.size #[.int .i64 (0), .int .i64 (0), .int .i64 (0), .int .i64 (-9)] rfl rfl _ _ q.out cdinfo rfl rfl ?_))
              refine bodyPost_ret (results_row1 rfl _ _ w.heap.size 41 _ _ rfl (Bx.new _ _ _) Tryd.underlying41 rfl cdinfo) rfl ⟨rfl, (Below.refl _ _).alloc (Nat.le_refl _) _⟩
            · have hub : y ≤ u ∧ u ≤ y + 7 := by rw [← hu]; unfold up wrap64; omega
              clear hu
              by_cases c6 : (n : Int) - p - 16 < u
              · rw [if_pos (.inr (.inr c6))] at hE
                subst hE
                go_enter Tryd.func18, Tryd.ntmps18
                go_wp2_with (first | (go_at_call 31; (with_reducible refine hC1.out.mono ?_); rintro e w3 ⟨rfl, rfl⟩) | (go_at_call 32; (with_reducible refine (hW.out _).mono ?_); rintro e w3 ⟨rfl, rfl⟩) | (go_at_call 31; (with_reducible refine hC2.out.mono ?_); rintro e w3 ⟨rfl, rfl⟩) | (go_at_call 20; (with_reducible refine (hU.out _).mono ?_); rintro e w3 ⟨rfl, rfl⟩) | (refine wpList_store_row rfl 41 (.tmp 4) (.tmp 62) rfl w.heap.size #[.int .i64 (0), .int .i64 (0), .int .i64 (0), .int .i64 (-9)] rfl rfl _ _ q.out cdinfo rfl rfl ?_))
                refine bodyPost_ret (results_row1 rfl _ _ w.heap.size 41 _ _ rfl (Bx.new _ _ _) Tryd.underlying41 rfl cdinfo) rfl ⟨rfl, (Below.refl _ _).alloc (Nat.le_refl _) _⟩
              · rw [if_neg (by omega)] at hE
                subst hE
                go_enter Tryd.func18, Tryd.ntmps18
                go_wp2_with (first | (go_at_call 31; (with_reducible refine hC1.out.mono ?_); rintro e w3 ⟨rfl, rfl⟩) | (go_at_call 32; (with_reducible refine (hW.out _).mono ?_); rintro e w3 ⟨rfl, rfl⟩) | (go_at_call 31; (with_reducible refine hC2.out.mono ?_); rintro e w3 ⟨rfl, rfl⟩) | (go_at_call 20; (with_reducible refine (hU.out _).mono ?_); rintro e w3 ⟨rfl, rfl⟩) | (refine wpList_store_row rfl 41 (.tmp 4) (.tmp 70) rfl w.heap.size #[.int .i64 (10), .int .i64 (y), .int .i64 (p + 16 + u), .int .i64 (0)] rfl rfl _ _ q.out cdinfo rfl rfl ?_))
                refine bodyPost_ret (results_row1 rfl _ _ w.heap.size 41 _ _ rfl (Bx.new _ _ _) Tryd.underlying41 rfl cdinfo) rfl ⟨rfl, (Below.refl _ _).alloc (Nat.le_refl _) _⟩
        · rw [if_pos c3] at hE
          subst hE
          subst c1; subst c2
          have e3 : (x != 10) = true := by simpa using c3
          clear hs hu
          go_enter Tryd.func18, Tryd.ntmps18
          go_wp2_with (first | (go_at_call 31; (with_reducible refine hC1.out.mono ?_); rintro e w3 ⟨rfl, rfl⟩) | (go_at_call 32; (with_reducible refine (hW.out _).mono ?_); rintro e w3 ⟨rfl, rfl⟩) | (go_at_call 31; (with_reducible refine hC2.out.mono ?_); rintro e w3 ⟨rfl, rfl⟩) | (refine wpList_store_row rfl 41 (.tmp 4) (.tmp 43) rfl w.heap.size #[.int .i64 (x), .int .i64 (y), .int .i64 (p + 16), .int .i64 (0)] rfl rfl _ _ q.out cdinfo rfl rfl ?_))
          refine bodyPost_ret (results_row1 rfl _ _ w.heap.size 41 _ _ rfl (Bx.new _ _ _) Tryd.underlying41 rfl cdinfo) rfl ⟨rfl, (Below.refl _ _).alloc (Nat.le_refl _) _⟩
      · rw [if_pos c2] at hE
        subst hE
        subst c1
        have e2 : (t2 != 0) = true := by simpa using c2
        clear hs hu
        go_enter Tryd.func18, Tryd.ntmps18
        go_wp2_with (first | (go_at_call 31; (with_reducible refine hC1.out.mono ?_); rintro e w3 ⟨rfl, rfl⟩) | (go_at_call 32; (with_reducible refine (hW.out _).mono ?_); rintro e w3 ⟨rfl, rfl⟩) | (go_at_call 31; (with_reducible refine hC2.out.mono ?_); rintro e w3 ⟨rfl, rfl⟩) | (refine wpList_store_row rfl 41 (.tmp 4) (.tmp 36) rfl w.heap.size #[.int .i64 (0), .int .i64 (0), .int .i64 (0), .int .i64 (t2)] rfl rfl _ _ q.out cdinfo rfl rfl ?_))
        refine bodyPost_ret (results_row1 rfl _ _ w.heap.size 41 _ _ rfl (Bx.new _ _ _) Tryd.underlying41 rfl cdinfo) rfl ⟨rfl, (Below.refl _ _).alloc (Nat.le_refl _) _⟩
  · rw [if_pos c1] at hE
    subst hE
    have e1 : (t1 != 0) = true := by simpa using c1
    clear hC2 hs hu
    go_enter Tryd.func18, Tryd.ntmps18
    go_wp2_with (first | (go_at_call 31; (with_reducible refine hC1.out.mono ?_); rintro e w3 ⟨rfl, rfl⟩) | (refine wpList_store_row rfl 41 (.tmp 4) (.tmp 18) rfl w.heap.size #[.int .i64 0, .int .i64 0, .int .i64 0, .int .i64 t1] rfl rfl _ _ q.out cdinfo rfl rfl ?_))
    refine bodyPost_ret (results_row1 rfl _ _ w.heap.size 41 _ _ rfl (Bx.new _ _ _) Tryd.underlying41 rfl cdinfo) rfl ⟨rfl, (Below.refl _ _).alloc (Nat.le_refl _) _⟩
end Go.Proofs.YtkjokgjjpoocgaaDoor
