/- What the law on what is told wants of its two runs. -/
import Derived.Test.YtcjbfokindoicaaDoorFloList
namespace Go.Proofs.YtcjbfokindoicaaDoor
set_option maxRecDepth 100000
open Go.ChangeShapes Go.WideShapes Go.ChangeAt Go.RowKit
open On (St Hs StIs cst Fl one C64 C8 Sc slc spc Sz bytesOk wpList_append_run)
set_option linter.unusedVariables false
set_option maxRecDepth 100000

theorem row400 {V : World} {Z : Array Value} (hZ : Hid (Z = (Me.u8s (List.replicate 400 0)).toArray)) : Fl (one .u8) 1 (V.alloc (.cells Z 5)) ⟨some ⟨V.heap.size, 0, none⟩, 400, 400⟩ (List.replicate 400 0) := aw_row V 400 (by decide) Z hZ.out
theorem set_run {w W0 W : World} {b n c f : Nat} {a : Option Addr} {ops : List Int} {s : St} {Zb : Array Value} (hZ : Hid (Zb = (Me.u8s (List.replicate 400 0)).toArray)) (hL : On.Laid w) (hb0 : Below w.heap.size w W0) (hx : Sz W0 1 a n c (strs ops)) (hn : n ≤ 1000) (hw : ∀ k ∈ ops, okW k) (hf : f ≤ 72) (he : runP ops (setI f) = (s, 0)) (hW : Below W0.heap.size W0 W) (hb : W.heap.size = b) :
    Calls Tryd.prog 13 #[.agg #[.slice (some ⟨b, 0, none⟩) 400 400, .slice none 0 0, .slice none 0 0, .slice none 0 0, .slice none 0 0, .slice none 0 0, .slice none 0 0, .int .i64 0, .int .i64 (f : Int), .int .i64 0, .int .i64 0, .int .i64 0, .int .i64 0, .bool false, .bool false], .slice a n c] (W.alloc (.cells Zb 5)) fun e w' => ∃ Z, e = .returned (.tuple #[.agg Z, .int .i64 0]) ∧ Hid (Zis w' Z s) ∧ Hid (StZ Z) ∧ Below W.heap.size W w' := by
  subst hb
  have hA : Below W.heap.size W (W.alloc (.cells Zb 5)) := (Below.refl _ _).alloc (Nat.le_refl _) _
  have hV := since2 hW hA
  have h := run_any { Hs.zero with mem := ⟨some ⟨W.heap.size, 0, none⟩, 400, 400⟩ } (setI f) a n c ops _ 0 0 0 (hL.below (since2 hb0 hV) (Nat.le_refl _)) (aw_st _ 400 ⟨some ⟨W.heap.size, 0, none⟩, 400, 400⟩ (row400 hZ) (f : Int) 0) (setS_bz (by omega)) (by decide) (by decide) (by decide) (hx.below hV) hn hw
  rw [he] at h
  exact h.mono fun e w' hh => by
    obtain ⟨Z, g1, g2, g3⟩ := hh
    exact ⟨Z, g1, Lib.hid g2, Lib.hid g2.stz, since2 hA g3⟩
theorem sz_new (w : World) (Z : Array Value) : ((w.alloc (.cells zst 28)).setRow w.heap.size Z).heap.size = w.heap.size + 1 := by simp [World.setRow]
theorem zis_held {w : World} {Z : Array Value} {s : St} (h : Zis w Z s) : Held ((w.alloc (.cells zst 28)).setRow w.heap.size Z) w.heap.size s := by
  obtain ⟨h', rfl, hS⟩ := h
  have hb : Below w.heap.size w (w.alloc (.cells zst 28)) := (Below.refl _ _).alloc (Nat.le_refl _) _
  exact ⟨h', (Bx.new w _ _).row _, hS.below (below_setRow hb (Nat.le_refl _) _)⟩
/-- a cell of the state's bytes -/
theorem held_cell {W : World} {g : Nat} {s : St} (h : Held W g s) (hm : ∀ z ∈ s.mem, C8 z) :
    ∃ a n c, W.cell? ⟨g, 0, none⟩ = some (.slice a n c) ∧ W.cell? ⟨g, 8, none⟩ = some (.int .i64 s.here) ∧ Hid (∀ p v, C64 p → Me.celI s.mem p = v → ∃ q, Calls Tryd.prog 14 #[.slice a n c, .int .i64 p] W fun e w' => e = .returned (.tuple #[.int .i64 v, .int .i64 q]) ∧ W = w') := by
  obtain ⟨h', hB, hS⟩ := h
  refine ⟨h'.mem.a, h'.mem.n, h'.mem.c, hB.cell 0 rfl, hB.cell 8 rfl, Lib.hid fun p v hp hv => ⟨Me.tC h'.mem.n p, ?_⟩⟩
  have := Me.cell_any h'.mem.a h'.mem.n h'.mem.c s.mem p W (mem_of hS.mem hm) hp
  rw [hv] at this
  exact this
end Go.Proofs.YtcjbfokindoicaaDoor
