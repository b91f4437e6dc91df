/- The document's Few (a state of few things), Up. -/
import Derived.Test.YtcjbfokindoicaaDoorSame
namespace Go.Proofs.YtcjbfokindoicaaDoor
set_option maxRecDepth 100000
open Go.ChangeShapes Go.WideShapes Go.ChangeAt Go.RowKit
open On (St Hs StIs cst Fl one C64 C8 Sc slc spc)
set_option linter.unusedVariables false
set_option maxRecDepth 100000

/-- a state of 600 bytes, and few other things, at most -/
def Few (s : St) : Prop := (∀ i, i < s.words.length → i < 41 → (s.words.getD i default).nm.length ≤ 60) ∧ s.mem.length ≤ 600 ∧ s.data.length ≤ 40 ∧ s.ret.length ≤ 40 ∧ s.ctl.length ≤ 200 ∧ s.words.length ≤ 40 ∧ s.spots.length ≤ 100 ∧ s.out.length ≤ 200
instance (s : St) : Decidable (Few s) := by unfold Few; infer_instance
theorem few_chain (a b c d e f g : Nat) : 600 < a ∨ (a ≤ 600 ∧ 40 < b) ∨ (a ≤ 600 ∧ b ≤ 40 ∧ 40 < c) ∨ (a ≤ 600 ∧ b ≤ 40 ∧ c ≤ 40 ∧ 200 < d) ∨ (a ≤ 600 ∧ b ≤ 40 ∧ c ≤ 40 ∧ d ≤ 200 ∧ 40 < e) ∨ (a ≤ 600 ∧ b ≤ 40 ∧ c ≤ 40 ∧ d ≤ 200 ∧ e ≤ 40 ∧ 100 < f) ∨ (a ≤ 600 ∧ b ≤ 40 ∧ c ≤ 40 ∧ d ≤ 200 ∧ e ≤ 40 ∧ f ≤ 100 ∧ 200 < g) ∨ (a ≤ 600 ∧ b ≤ 40 ∧ c ≤ 40 ∧ d ≤ 200 ∧ e ≤ 40 ∧ f ≤ 100 ∧ g ≤ 200) := by omega
set_option maxHeartbeats 4000000 in
theorem few_any (h : Hs) (s : St) (w : World) (hS : StIs w h s) :
    Calls Tryd.prog 9 #[.agg (cst h s)] w fun e w' => e = .returned (.bool (decide (Few s))) ∧ Below w.heap.size w w' := by
  obtain ⟨hm, hd, hr, hc, ⟨wa, wn, wc⟩, hsp, ho⟩ := h
  have hb : Below w.heap.size w (w.alloc (.cells (cst ⟨hm, hd, hr, hc, ⟨wa, wn, wc⟩, hsp, ho⟩ s) 28)) := (Below.refl _ _).alloc (Nat.le_refl _) _
  have hend := Lib.hid hb
  have hW := Lib.hid (hS.below hb).words
  have l0 : s.mem.length = hm.n := Fl.len hS.mem (fun _ => rfl) (by decide)
  have l1 : s.data.length = hd.n := Fl.len hS.data (fun _ => rfl) (by decide)
  have l2 : s.ret.length = hr.n := Fl.len hS.ret On.slc_len (by decide)
  have l3 : s.ctl.length = hc.n := Fl.len hS.ctl (fun _ => rfl) (by decide)
  have l4 : s.words.length = wn := Fl.len hS.words On.wdc_len (by decide)
  have l5 : s.spots.length = hsp.n := Fl.len hS.spots On.spc_len (by decide)
  have l6 : s.out.length = ho.n := Fl.len hS.out (fun _ => rfl) (by decide)
  have hF : Hid (Few s ↔ (∀ i, i < wn → i < 41 → (s.words.getD i default).nm.length ≤ 60) ∧ hm.n ≤ 600 ∧ hd.n ≤ 40 ∧ hr.n ≤ 40 ∧ hc.n ≤ 200 ∧ wn ≤ 40 ∧ hsp.n ≤ 100 ∧ ho.n ≤ 200) := Lib.hid (by
    unfold Few
    rw [l0, l1, l2, l3, l4, l5, l6])
  have b0 := hS.mem.bd
  have b1 := hS.data.bd
  have b2 := hS.ret.bd
  have b3 := hS.ctl.bd
  have b4 := hS.words.bd
  have b5 := hS.spots.bd
  have b6 := hS.out.bd
  dsimp only at b0 b1 b2 b3 b4 b5 b6 l0 l1 l2 l3 l4 l5 l6
  clear hb hS l0 l1 l2 l3 l4 l5 l6
  dsimp only [On.cst, On.Sc.val]
  go_enter Tryd.func9, Tryd.ntmps9
  go_wp2
  go_loop [3] (fun i => ∃ k : Nat, k ≤ wn ∧ k ≤ 41 ∧ i = .int .i64 k ∧ Hid (∀ i, i < k → (s.words.getD i default).nm.length ≤ 60)) (fun i => 41 - (intOf i).toNat)
  case atStart => exact ⟨0, Nat.zero_le _, Nat.zero_le _, rfl, Lib.hid fun i hi => absurd hi (Nat.not_lt_zero i)⟩
  case round =>
    obtain ⟨k, hk, hk2, rfl, he⟩ := hrel
    by_cases h1 : k < wn
    · by_cases h2 : k < 41
      · obtain ⟨b, o, ha, q0, _⟩ := words_cell hW.out (i := k) h1
        dsimp only at ha
        subst ha
        have hs := On.str_size (s.words.getD k default).nm
        by_cases h3 : 60 < (s.words.getD k default).nm.length
        · have e2 : Hid (decide (Few s) = false) := Lib.hid <| decide_eq_false fun hf => by
            have := (hF.out.1 hf).1 k h1 h2
            omega
          generalize strOfNums (s.words.getD k default).nm = t at *
          generalize (s.words.getD k default).nm.length = m at *
          go_wp2
          go_ret
          rw [e2.out]
          exact ⟨rfl, hend.out⟩
        · have e2 : Hid (∀ i, i < k + 1 → (s.words.getD i default).nm.length ≤ 60) := Lib.hid fun i hi => by
            by_cases hik : i = k
            · subst hik
              omega
            · exact he.out i (by omega)
          generalize strOfNums (s.words.getD k default).nm = t at *
          generalize (s.words.getD k default).nm.length = m at *
          go_wp2
          exact ⟨⟨k + 1, by omega, by omega, by go_num, e2⟩, by simp only [intOf]; omega⟩
      · obtain rfl : k = 41 := by omega
        clear he
        rcases few_chain hm.n hd.n hr.n hc.n wn hsp.n ho.n with g | ⟨g0, g⟩ | ⟨g0, g1, g⟩ | ⟨g0, g1, g2, g⟩ | ⟨g0, g1, g2, g3, g⟩ | ⟨g0, g1, g2, g3, g4, g⟩ | ⟨g0, g1, g2, g3, g4, g5, g⟩ | ⟨g0, g1, g2, g3, g4, g5, g⟩
        all_goals first | omega | skip
        all_goals (have e3 : Hid (decide (Few s) = false) := Lib.hid (decide_eq_false (fun hf => by have := (hF.out.1 hf).2; omega)); go_wp2; go_ret; rw [e3.out]; exact ⟨by first | rfl | (simp; omega), hend.out⟩)
    · obtain rfl : wn = k := by omega
      rcases few_chain hm.n hd.n hr.n hc.n wn hsp.n ho.n with g | ⟨g0, g⟩ | ⟨g0, g1, g⟩ | ⟨g0, g1, g2, g⟩ | ⟨g0, g1, g2, g3, g⟩ | ⟨g0, g1, g2, g3, g4, g⟩ | ⟨g0, g1, g2, g3, g4, g5, g⟩ | ⟨g0, g1, g2, g3, g4, g5, g⟩
      case inr.inr.inr.inr.inr.inr.inr =>
        have e2 : Hid (Few s) := Lib.hid (hF.out.2 ⟨fun i hi _ => he.out i hi, g0, g1, g2, g3, g4, g5, g⟩)
        clear he
        go_wp2
        go_ret
        rw [decide_eq_true e2.out]
        exact ⟨by simp; omega, hend.out⟩
      all_goals clear he
      all_goals (have e3 : Hid (decide (Few s) = false) := Lib.hid (decide_eq_false (fun hf => by have := (hF.out.1 hf).2; omega)); go_wp2; go_ret; rw [e3.out]; exact ⟨by first | rfl | (simp; omega), hend.out⟩)
end Go.Proofs.YtcjbfokindoicaaDoor
