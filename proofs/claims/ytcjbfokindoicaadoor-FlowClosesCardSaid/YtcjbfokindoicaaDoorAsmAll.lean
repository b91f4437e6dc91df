/- Patch, Comma, Emit of the document, each in one sentence: what is thrown, and the state that comes of it. -/
import Derived.Test.YtcjbfokindoicaaDoorEmitR
namespace Go.Proofs.YtcjbfokindoicaaDoor
set_option maxRecDepth 100000
open Go.ChangeShapes Go.WideShapes Go.ChangeAt Go.RowKit
open On (St Hs StIs cst Fl one C64 C8 Sc slc spc Oz Sz)
set_option linter.unusedVariables false
set_option maxRecDepth 100000

def comC (s : St) (v : Int) : Int × St := if comT s ≠ 0 then (comT s, On.St.zero) else (0, comS s v)
def patC (s : St) (p v : Int) : Int × St := if Me.tC s.mem.length p ≠ 0 then (Me.tC s.mem.length p, On.St.zero) else (0, { s with mem := Me.setC s.mem p v })
theorem zero_ok : On.St.zero.ok := by
  constructor <;> first | (intro z hz; cases hz) | (show C64 0; unfold C64; omega)
theorem patC_ok {s : St} (hk : s.ok) (p v : Int) : (patC s p v).2.ok := by
  unfold patC
  split
  · exact zero_ok
  · exact { hk with mem := setC_ok _ _ hk.mem }
theorem comC_ok {s : St} (hk : s.ok) (hm : s.mem.length ≤ 1000000) (v : Int) : (comC s v).2.ok := by
  unfold comC
  split
  · exact zero_ok
  · exact (comS_ok hk hm v (by omega)).1
theorem emitC_ok (vs : List Int) : ∀ s : St, s.ok → s.mem.length ≤ 1000000 → (emitC s vs).2.ok := by
  induction vs with
  | nil => intro s hk _; exact hk
  | cons v vs ih =>
    intro s hk hm
    rw [emitC]
    split
    · exact zero_ok
    · have h := emiS_ok hk hm v (by omega)
      exact ih _ h.1 (by omega)
theorem noEnd_em {w w' : World} {t : Int} {e : Ending} (h : NoEnd w t e w') : EmEnd w (t, On.St.zero) e w' := ⟨Hs.zero, h.1, StIs.zero _, h.2⟩
theorem patEnd_em {w w' : World} {h : Hs} {s0 s : St} {e : Ending} (hS : StIs w h s0) (H : PatEnd w h s e w') (he : s = { s0 with mem := s.mem, here := s.here }) : EmEnd w (0, s) e w' := by
  obtain ⟨x, h1, h2, h3⟩ := H
  have h4 := (hS.below h3).with_mem h2
  refine ⟨_, h1, ?_, h3⟩
  show StIs w' _ s
  rw [he]
  exact ⟨h4.mem, h4.data, h4.ret, h4.ctl, h4.words, h4.spots, h4.out⟩
theorem rpatch_any (h : Hs) (s : St) (p v : Int) (w : World) (hS : StIs w h s) (hk : s.ok) (hm : s.mem.length ≤ 1000000) (hp : C64 p) (hv : C64 v) :
    Calls Tryd.prog 26 #[.agg (cst h s), .int .i64 p, .int .i64 v] w (EmEnd w (patC s p v)) := by
  unfold patC
  split
  · exact (rpatch_no h s p v w hS hk hm hp hv (by assumption)).mono fun e w' H => noEnd_em H
  · exact (rpatch_ok h s p v w hS hk hm hp hv (by omega)).mono fun e w' H => patEnd_em hS H rfl
theorem rcomma_any (h : Hs) (s : St) (v : Int) (w : World) (hS : StIs w h s) (hk : s.ok) (hm : s.mem.length ≤ 1000000) (hv : C64 v) :
    Calls Tryd.prog 49 #[.agg (cst h s), .int .i64 v] w (EmEnd w (comC s v)) := by
  unfold comC
  split
  · exact (rcomma_not h s v w hS hk hm hv (by assumption)).mono fun e w' H => noEnd_em H
  · exact (rcomma_yes h s v w hS hk hm hv (by omega)).mono fun e w' H => patEnd_em hS H rfl
end Go.Proofs.YtcjbfokindoicaaDoor
