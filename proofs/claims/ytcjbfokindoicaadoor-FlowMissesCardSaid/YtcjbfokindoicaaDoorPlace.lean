/- A state reads on as it did where its slices' blocks are as they were: what came in lies below, what was made since above. -/
import Derived.Test.YtcjbfokindoicaaDoorAsmRef
namespace Go.Proofs.YtcjbfokindoicaaDoor
set_option maxRecDepth 100000
open Go.ChangeShapes Go.WideShapes Go.ChangeAt Go.RowKit
open On (St Hs StIs cst Fl one C64 C8 Sc slc spc Sz)
set_option linter.unusedVariables false
set_option maxRecDepth 100000

theorem fl_other {α : Type} {f : α → List Value} {z : Nat} {V W : World} {x : Sc} {l : List α} (h : Fl f z V x l) (hne : ∀ b o, x.a = some ⟨b, o, none⟩ → 0 < x.n → W.heap[b]? = V.heap[b]?) : Fl f z W x l := by
  refine ⟨Sz.len h, Sz.cap h, Sz.big h, Sz.isnil h, fun hn => ?_⟩
  obtain ⟨b, o, ha, hr⟩ := Sz.cells h hn
  refine ⟨b, o, ha, fun i v hv => ?_⟩
  have := hr i v hv
  unfold World.cell? at this ⊢
  simp only [hne b o ha hn]
  exact this
theorem fl_place {α : Type} {f : α → List Value} {z : Nat} {w : World} {x : Sc} {l : List α} (h : Fl f z w x l) (hz : 0 < z) : ∀ b o, x.a = some ⟨b, o, none⟩ → 0 < x.n → b < w.heap.size := fun b o ha hn => by
  obtain ⟨b', o', ha', hr⟩ := Sz.cells h hn
  rw [ha] at ha'
  obtain ⟨rfl, rfl⟩ : b = b' ∧ o = o' := by simpa using ha'
  exact On.range_lt hr (fun hc => by
    have hl := Sz.len h
    rw [hc] at hl
    have := Nat.mul_pos hn hz
    simp at hl
    omega)
theorem fl_stays {α : Type} {f : α → List Value} {z : Nat} {w V W W' : World} {x x' : Sc} {l l' : List α} (hz : 0 < z) (h : Fl f z w x l) (h' : Fl f z W x' l') (hF : FrX V x x') (hb : ∀ b, b < w.heap.size ∨ V.heap.size ≤ b → W'.heap[b]? = W.heap[b]?) : Fl f z W' x' l' :=
  fl_other h' fun b o ha hn => by
    rcases hF with rfl | hF
    · exact hb b (.inl (fl_place h hz b o ha hn))
    · exact hb b (.inr (hF _ ha))
theorem stis_stays {w V W W' : World} {h h' : Hs} {s s' : St} (hS : StIs w h s) (hW : StIs W h' s') (hF : FrA V h h') (hb : ∀ b, b < w.heap.size ∨ V.heap.size ≤ b → W'.heap[b]? = W.heap[b]?) : StIs W' h' s' :=
  ⟨fl_stays (by decide) hS.mem hW.mem hF.mem hb, fl_stays (by decide) hS.data hW.data hF.data hb, fl_stays (by decide) hS.ret hW.ret hF.ret hb, fl_stays (by decide) hS.ctl hW.ctl hF.ctl hb, fl_stays (by decide) hS.words hW.words hF.words hb, fl_stays (by decide) hS.spots hW.spots hF.spots hb, fl_stays (by decide) hS.out hW.out hF.out hb⟩
end Go.Proofs.YtcjbfokindoicaaDoor
