/- A state in a variable of a call's own: Do makes the next one. -/
import Derived.Test.YtcjbfokindoicaaDoorFloBz
import Derived.Test.YtcjbfokindoicaaDoorFlowFind
import Derived.Deep.DeepCutAuto
import Derived.Deep.CutBlock
namespace Go.Proofs.YtcjbfokindoicaaDoor
set_option maxRecDepth 100000
open Go.ChangeShapes Go.WideShapes Go.ChangeAt Go.RowKit
open On (St Hs StIs cst Fl one C64 C8 Sc slc spc Sz bytesOk)
set_option linter.unusedVariables false
set_option maxRecDepth 100000

/-- the variable g holds the state s -/
def Held (V : World) (g : Nat) (s : St) : Prop := ∃ h', Bx V g 28 (cst h' s) ∧ StIs V h' s
theorem Held.below {V W : World} {g : Nat} {s : St} (H : Held V g s) (hb : Below V.heap.size V W) : Held W g s := let ⟨h', a, b⟩ := H; ⟨h', a.below hb a.lt, b.below hb⟩
/-- no slice of it lies in block g -/
structure OffA (h : Hs) (g : Nat) : Prop where
  mem : OffX h.mem g none
  data : OffX h.data g none
  ret : OffX h.ret g none
  ctl : OffX h.ctl g none
  words : OffX h.words g none
  spots : OffX h.spots g none
  out : OffX h.out g none
theorem OffA.place {w : World} {h : Hs} {s : St} (hS : StIs w h s) {g : Nat} (hg : w.heap.size ≤ g) : OffA h g := by
  have key : ∀ {α : Type} {f : α → List Value} {z : Nat} {x : Sc} {l : List α}, 0 < z → Fl f z w x l → OffX x g none := fun hz hf c o ha hn => ⟨by have := fl_place hf hz c o ha hn; omega, by simp⟩
  exact ⟨key (by decide) hS.mem, key (by decide) hS.data, key (by decide) hS.ret, key (by decide) hS.ctl, key (by decide) hS.words, key (by decide) hS.spots, key (by decide) hS.out⟩
theorem OffA.next {V : World} {h h' : Hs} {g : Nat} (H : OffA h g) (hF : FrA V h h') (hg : g < V.heap.size) : OffA h' g := by
  have key : ∀ {x x' : Sc}, FrX V x x' → OffX x g none → OffX x' g none := fun hf ho c o ha hn => by
    rcases hf with rfl | hf
    · exact ho c o ha hn
    · have := hf _ ha
      dsimp only at this
      exact ⟨by omega, by simp⟩
  exact ⟨key hF.mem H.mem, key hF.data H.data, key hF.ret H.ret, key hF.ctl H.ctl, key hF.words H.words, key hF.spots H.spots, key hF.out H.out⟩
theorem OffA.row {W : World} {h : Hs} {s : St} {g : Nat} (H : OffA h g) (hS : StIs W h s) (Z : Array Value) : StIs (W.setRow g Z) h s := by
  have key : ∀ {α : Type} {f : α → List Value} {z : Nat} {x : Sc} {l : List α}, Fl f z W x l → OffX x g none → Fl f z (W.setRow g Z) x l := fun hf ho =>
    fl_other hf fun c o ha hn => setRow_other W g c Z (ho c o ha hn).1
  exact ⟨key hS.mem H.mem, key hS.data H.data, key hS.ret H.ret, key hS.ctl H.ctl, key hS.words H.words, key hS.spots H.spots, key hS.out H.out⟩
/-- what Do told, ahead of its being stored -/
def Told (V : World) (h : Hs) (w3 : World) (Z : Array Value) (s' : St) : Prop := ∃ h2, Z = cst h2 s' ∧ StIs w3 h2 s' ∧ FrA V h h2
theorem Told.held {V : World} {h : Hs} {w3 : World} {Z : Array Value} {s' : St} (H : Told V h w3 Z s') {g : Nat} {cs : Array Value} (hB : Bx w3 g 28 cs) (ho : OffA h g) (hg : g < V.heap.size) : Held (w3.setRow g Z) g s' := by
  obtain ⟨h2, rfl, h3, h4⟩ := H
  exact ⟨h2, hB.row _, (ho.next h4 hg).row h3 _⟩
theorem Told.new {V : World} {h : Hs} {w3 : World} {Z : Array Value} {s' : St} (H : Told V h w3 Z s') : Held ((w3.alloc (.cells zst 28)).setRow w3.heap.size Z) w3.heap.size s' := by
  obtain ⟨h2, rfl, h3, h4⟩ := H
  have hb : Below w3.heap.size w3 (w3.alloc (.cells zst 28)) := (Below.refl _ _).alloc (Nat.le_refl _) _
  exact ⟨h2, (Bx.new w3 _ _).row _, h3.below (below_setRow hb (Nat.le_refl _) _)⟩
theorem do_t {V : World} {h' : Hs} {s : St} (hS : StIs V h' s) (op : Int) (hL : On.Laid V) (hop : C64 op) (hg : Goes s) {t : Int} {b : Bool} {s' : St} (he : floP s op = (t, b, s')) :
    Calls Tryd.prog 10 #[.agg (cst h' s), .int .i64 op] V fun e w => ∃ Z, e = .returned (.tuple #[.agg Z, .int .i64 t, .bool b]) ∧ Hid (StZ Z) ∧ Hid (Told V h' w Z s') ∧ Below V.heap.size V w := by
  have h := do_any h' s op V hL hop hS (hg.bz.bd 0 (by decide) (by decide)) hg.bz.words (fun φ hφ => (word_bz hg.bz hφ).thr)
  rw [he] at h
  refine h.mono fun e w hh => ?_
  obtain ⟨h2, g1, g2, g3, g4⟩ := hh
  exact ⟨_, g1, Lib.hid (StZ.cst _ _), Lib.hid ⟨h2, rfl, g2, g4⟩, g3⟩
theorem since2 {A B C : World} (h1 : Below A.heap.size A B) (h2 : Below B.heap.size B C) : Below A.heap.size A C := h1.trans (h2.mono h1.size)
theorem new_row {A B : World} {Z : Array Value} (hb : Below A.heap.size A B) : Below A.heap.size A ((B.alloc (.cells zst 28)).setRow B.heap.size Z) := below_setRow (hb.alloc hb.size _) hb.size _
theorem num98 : C64 98 := lit _ rfl
end Go.Proofs.YtcjbfokindoicaaDoor
