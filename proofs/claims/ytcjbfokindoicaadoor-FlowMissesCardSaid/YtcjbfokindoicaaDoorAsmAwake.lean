/- awake: the two cells of code; told from the contracts of the program's functions, whatever they are proved by. -/
import Derived.Test.YtcjbfokindoicaaDoorAsmAll
namespace Go.Proofs.YtcjbfokindoicaaDoor
set_option maxRecDepth 100000
open Go.ChangeShapes Go.WideShapes Go.ChangeAt Go.RowKit
open On (St Hs StIs cst Fl one C64 C8 Sc slc spc Oz Sz)
set_option linter.unusedVariables false
set_option maxRecDepth 100000

def aw0 : St := { On.St.zero with mem := List.replicate 32 0, here := 8, tok := 5 }
def aw1 : St := { On.St.zero with mem := List.replicate 8 0, here := 8 }
theorem aw_emit : (emitC aw0 [2, 77]).1 = 0 ∧ (emitC aw0 [2, 77]).2.here = 24 ∧ (emitC aw0 [2, 77]).2.spots = [(8, 5), (16, 5)] ∧ (emitC aw0 [2, 77]).2.mem.length = 32 := by
  refine ⟨by kernel_rfl, by kernel_rfl, by kernel_rfl, by kernel_rfl⟩
theorem aw_fetch : fetC (emitC aw0 [2, 77]).2.mem 8 = (2, 77, 24, 0) := by kernel_rfl
theorem aw_comma : comC aw1 1 = (-8, On.St.zero) := by kernel_rfl
theorem aw_up : up 9 = 16 := by kernel_rfl

theorem aw_row (w : World) (n : Nat) (hn : n ≤ 1000) (Z : Array Value) (hZ : Z = (Me.u8s (List.replicate n 0)).toArray) : Fl (one .u8) 1 (w.alloc (.cells Z 5)) ⟨some ⟨w.heap.size, 0, none⟩, n, n⟩ (List.replicate n 0) := by
  subst hZ
  have h := (Oz.full w w.heap.size 5 1 (Nat.le_refl _) (Me.u8s (List.replicate n 0)).toArray n (by unfold maxLen; omega) (by simp [Me.u8s])).sz
  unfold Fl
  rw [one_flat]
  simpa [Me.u8s] using h
theorem aw_ints (w : World) : Fl (one .i64) 1 (w.alloc (.cells #[.int .i64 2, .int .i64 77] 3)) ⟨some ⟨w.heap.size, 0, none⟩, 2, 2⟩ [2, 77] :=
  (Oz.full w w.heap.size 3 1 (Nat.le_refl _) #[.int .i64 2, .int .i64 77] 2 (by decide) rfl).sz
theorem aw_make (n : Nat) (z : Int) (hz : z = n) (hn : n ≤ 1000) : ∃ Z, Z = (Me.u8s (List.replicate n 0)).toArray ∧ ∀ W, (Instr.makeSlice 22 (.int .i64 z) (.int .i64 z)).run Tryd.prog W = .ok (.slice (some ⟨W.heap.size, 0, none⟩) n n) (W.alloc (.cells Z 5)) :=
  ⟨_, rfl, fun W => by subst hz; exact Me.make_u8 n (by omega) W⟩
theorem aw_st (w : World) (n : Nat) (x : Sc) (h : Fl (one .u8) 1 w x (List.replicate n 0)) (he tk : Int) : StIs w { Hs.zero with mem := x } { On.St.zero with mem := List.replicate n 0, here := he, tok := tk } := by
  have := (StIs.zero w).with_mem h
  exact ⟨this.mem, this.data, this.ret, this.ctl, this.words, this.spots, this.out⟩
theorem aw_ok (n : Nat) (he tk : Int) (h1 : C64 he) (h2 : C64 tk) : ({ On.St.zero with mem := List.replicate n 0, here := he, tok := tk } : St).ok :=
  { zero_ok with mem := fun z hz => by obtain ⟨_, rfl⟩ := List.mem_replicate.1 hz; unfold C8; omega, here := h1, tok := h2 }
theorem aw_facts (V : World) (h' : Hs) (g : Nat) (S1 : St) (e2 : S1.here = 24) (e3 : S1.spots = [(8, 5), (16, 5)]) (hS : StIs V h' S1) (hB : Bx V g 28 (cst h' S1)) :
    ∃ b o c, V.cell? ⟨g, 8, none⟩ = some (.int .i64 24) ∧ V.cell? ⟨g, 5, none⟩ = some (.slice (some ⟨b, o, none⟩) 2 c) ∧ V.cell? ⟨b, o + 1 * 2, none⟩ = some (.int .i64 16) ∧ V.cell? ⟨b, o + 1 * 2 + 1, none⟩ = some (.int .i64 5) := by
  have hn : S1.spots.length = h'.spots.n := Fl.len hS.spots On.spc_len (by decide)
  obtain ⟨b, o, ha, h0, h1⟩ := spots_cell hS.spots (i := 1) (by rw [← hn, e3]; decide)
  have h5 := hB.cell 5 (v := h'.spots.val) rfl
  rw [e3] at h0 h1 hn
  have h8 := hB.cell 8 (v := .int .i64 S1.here) rfl
  rw [e2] at h8
  refine ⟨b, o, h'.spots.c, h8, ?_, h0, h1⟩
  rw [h5, On.Sc.val, ha, ← hn]
  rfl
end Go.Proofs.YtcjbfokindoicaaDoor
