/- A variable of the call's own that holds a state told, and stays so. -/
import Derived.Test.YtkjokgjjpoocgaaDoorAsmLast
namespace Go.Proofs.YtkjokgjjpoocgaaDoor
set_option maxRecDepth 100000
open Go.ChangeShapes Go.WideShapes Go.ChangeAt Go.RowKit
open On (St Hs StIs cst Fl one C64 C8 Sc slc spc Oz Sz)
set_option linter.unusedVariables false
set_option maxRecDepth 100000

/-- the cells Z are the state s -/
def Zis (V : World) (Z : Array Value) (s : St) : Prop := ∃ h', Z = cst h' s ∧ StIs V h' s
theorem Zis.stz {V : World} {Z : Array Value} {s : St} (h : Zis V Z s) : StZ Z := by
  obtain ⟨h', rfl, _⟩ := h
  exact StZ.cst _ _
theorem Zis.below {V W : World} {Z : Array Value} {s : St} (h : Zis V Z s) (hb : Below V.heap.size V W) : Zis W Z s := by
  obtain ⟨h', rfl, g⟩ := h
  exact ⟨h', rfl, g.below hb⟩
theorem zis_of {w w' : World} {e : Ending} {x : Int × St} (h : EmEnd w x e w') : ∃ Z, e = .returned (.tuple #[.agg Z, .int .i64 x.1]) ∧ Hid (Zis w' Z x.2) ∧ Below w.heap.size w w' := by
  obtain ⟨h', g1, g2, g3⟩ := h
  exact ⟨_, g1, Lib.hid ⟨h', rfl, g2⟩, g3⟩
theorem same_z {V : World} {Z1 Z2 : Array Value} {s : St} (h1 : Zis V Z1 s) (h2 : Zis V Z2 s) (hk : s.ok) :
    Calls Tryd.prog 16 #[.agg Z1, .agg Z2] V fun e w' => e = .returned (.bool true) ∧ Below V.heap.size V w' := by
  obtain ⟨x1, rfl, g1⟩ := h1
  obtain ⟨x2, rfl, g2⟩ := h2
  exact rsame_yes x1 x2 s V g1 g2 hk
theorem since {A B C : World} (h1 : Below A.heap.size A B) (h2 : Below B.heap.size B C) : Below A.heap.size A C := h1.trans (h2.mono h1.size)
def Var (A : World) (g : Nat) (Z : Array Value) (s : St) : Prop := ∀ V, Below A.heap.size A V → Bx V g 28 Z ∧ Zis V Z s
theorem Var.new {w3 : World} {Z : Array Value} {s : St} (h : Zis w3 Z s) : Var ((w3.alloc (.cells zst 28)).setRow w3.heap.size Z) w3.heap.size Z s := fun V hV => by
  have hB := (Bx.new w3 28 zst).row Z
  exact ⟨hB.below hV hB.lt, h.below ((aw_up1 h.stz (Below.refl _ _)).trans (hV.mono (aw_up1 h.stz (Below.refl _ _)).size))⟩
theorem Var.since {A B : World} {g : Nat} {Z : Array Value} {s : St} (h : Var A g Z s) (hb : Below A.heap.size A B) : Var B g Z s := fun V hV => h V (Go.Proofs.YtkjokgjjpoocgaaDoor.since hb hV)
theorem Var.is {A : World} {g : Nat} {Z : Array Value} {s : St} (h : Var A g Z s) : Bx A g 28 Z ∧ Zis A Z s := h A (Below.refl _ _)
theorem info_z {A : World} {g : Nat} {Z : Array Value} {s : St} (h : Var A g Z s) : (Tryd.prog.info? 28).map (·.size) = some Z.size := stz_info h.is.2.stz
/-- what the law knows of its first parameter's variable, and of what came in -/
structure Came (w0 V : World) (g : Nat) (h : Hs) (s : St) (x : Sc) (vs : List Int) : Prop where
  b : Bx V g 28 (cst h s)
  st : StIs V h s
  vs : Fl (one .i64) 1 V x vs
theorem came_first {w : World} {h : Hs} {s : St} {x : Sc} {vs : List Int} (hS : StIs w h s) (hx : Fl (one .i64) 1 w x vs) (V : World) (hV : Below (w.alloc (.cells (cst h s) 28)).heap.size (w.alloc (.cells (cst h s) 28)) V) : Came (w.alloc (.cells (cst h s) 28)) V w.heap.size h s x vs := by
  have hb : Below w.heap.size w V := ((Below.refl _ _).alloc (Nat.le_refl _) _).trans (hV.mono ((Below.refl w.heap.size w).alloc (Nat.le_refl _) (.cells (cst h s) 28)).size)
  exact ⟨(Bx.new w _ _).below hV (Bx.lt (Bx.new w _ _)), hS.below hb, hx.below hb⟩
/-- a whole struct loaded behind a guard that lets it through -/
theorem wpList_load_row_g {P : Program} {ops : Array Oper} {rest : List Oper} {o : Oper} {a : Act} {w : World} {Q : Exit → Act → World → Prop} (hgd : Region.wanted o (yielded ops a.tmps) = true) (ty : TypeId) (x : Operand) (ho : o.op = .load ty x)
    (g : Nat) (hx : a.eval x = .pointer (some ⟨g, 0, none⟩)) (t : TypeId) (cs : Array Value) (d : TypeDesc) (hg : Bx w g t cs)
    (hu : P.underlying ty = some d) (hd : (match d with | .struct _ | .array _ _ => true | _ => false) = true) (hi : (P.info? ty).map (·.size) = some cs.size)
    (h : wpList P ops Q rest (a.put o.dst (.agg cs)) w) : wpList P ops Q (o :: rest) a w := by
  refine wpList_step fun K hK => ?_
  rw [if_pos hgd]
  exact wp_load_row ty x ho g hx t cs (0, 0) d hg hu hd hi (hK _ _ h)
/-- the least thing of Few that the contracts ask -/
theorem few_in {s : St} (h : Few s) : s.mem.length ≤ 600 ∧ s.spots.length ≤ 100 := ⟨h.2.1, h.2.2.2.2.2.2.1⟩
end Go.Proofs.YtkjokgjjpoocgaaDoor
