/- What the law on what is opened and closed wants: its two lists, its run. -/
import Derived.Test.YtcjbfokindoicaaDoorFloSet
namespace Go.Proofs.YtcjbfokindoicaaDoor
set_option maxRecDepth 100000
open Go.ChangeShapes Go.WideShapes Go.ChangeAt Go.RowKit
open On (St Hs StIs cst Fl one C64 C8 Sc slc spc Sz bytesOk)
set_option linter.unusedVariables false
set_option maxRecDepth 100000

theorem cl_step {w1 wr : World} {ba ea : Option Addr} {bn bc en ec m Nb Ne : Nat} {lb le lo lc : List Int} {Cb Ce : Array Value} (hB : Below w1.heap.size w1 wr)
    (Ob : On.Oz wr w1.heap.size 9 1 ba bn bc (strs lb)) (Oe : On.Oz wr w1.heap.size 9 1 ea en ec (strs le))
    (hne : (Value.slice ea en ec).ownBlock = none ∨ (Value.slice ea en ec).ownBlock ≠ (Value.slice ba bn bc).ownBlock)
    (hCb : Cb.toList = strs lo) (hm : Cb.size = m) (hCe : Ce.toList = strs lc) (he : Ce.size = 1) (hNb : Nb = bn + m) (hNe : Ne = 1 + en) (h1 : Nb ≤ 1000) (h2 : Ne ≤ 1000) :
    ∃ b' bc' v2 e' ec' v4, (Builtin.append_ #[36, 36] 36 #[.slice ba bn bc, .slice (some ⟨wr.heap.size, 0, none⟩) m m]).run Tryd.prog (wr.alloc (.cells Cb 9)) = .ok (.slice b' Nb bc') v2 ∧
      (Builtin.append_ #[36, 36] 36 #[.slice (some ⟨v2.heap.size, 0, none⟩) 1 1, .slice ea en ec]).run Tryd.prog (v2.alloc (.cells Ce 9)) = .ok (.slice e' Ne ec') v4 ∧
      On.Oz v4 w1.heap.size 9 1 b' Nb bc' (strs (lb ++ lo)) ∧ On.Oz v4 w1.heap.size 9 1 e' Ne ec' (strs (lc ++ le)) ∧
      ((Value.slice e' Ne ec').ownBlock = none ∨ (Value.slice e' Ne ec').ownBlock ≠ (Value.slice b' Nb bc').ownBlock) ∧ Below w1.heap.size w1 v4 := by
  have hBA := bl_alloc hB (.cells Cb 9)
  have ob := strs_new wr wr.heap.size (Nat.le_refl _) lo Cb m hCb hm (by omega)
  obtain ⟨b', bc', v2, r1, O1, bl1, gr1, bk1⟩ := strs_app (Ob.alloc (.cells Cb 9)) ob.sz hNb h1 hBA.size
  have Oe2 : On.Oz v2 w1.heap.size 9 1 ea en ec (strs le) := World.ownsRow.kept (Oe.alloc (.cells Cb 9)) gr1 hne
  have hB2 : Below w1.heap.size w1 v2 := hBA.trans bl1
  have oc := strs_new v2 v2.heap.size (Nat.le_refl _) lc Ce 1 hCe he (by decide)
  have hA2 : Below v2.heap.size v2 (v2.alloc (.cells Ce 9)) := (Below.refl _ _).alloc (Nat.le_refl _) _
  obtain ⟨e', ec', v4, r2, O2, bl2, _, _⟩ := strs_app oc (Oe2.alloc (.cells Ce 9)).sz hNe h2 hA2.size
  have hB4 := hA2.trans bl2
  refine ⟨b', bc', v2, e', ec', v4, r1, r2, Oz.below O1 hB4, Oz.le O2 hB2.size, ?_, since2 hB2 hB4⟩
  cases e' with
  | none => exact .inl rfl
  | some x =>
    right
    intro hc
    have hx := (World.ownsRow.lt O2 x.block rfl).1
    have hy := (World.ownsRow.lt O1 x.block (hc.symm.trans rfl)).2
    omega
theorem last_app {w1 wr : World} {ba ea : Option Addr} {bn bc en ec N : Nat} {lb le : List Int} (hB : Below w1.heap.size w1 wr) (Ob : On.Oz wr w1.heap.size 9 1 ba bn bc (strs lb)) (Oe : On.Oz wr w1.heap.size 9 1 ea en ec (strs le)) (hN : N = bn + en) (h1 : N ≤ 1000) :
    ∃ b' bc' v2, (Builtin.append_ #[36, 36] 36 #[.slice ba bn bc, .slice ea en ec]).run Tryd.prog wr = .ok (.slice b' N bc') v2 ∧ Sz v2 1 b' N bc' (strs (lb ++ le)) ∧ Below w1.heap.size w1 v2 := by
  obtain ⟨b', bc', v2, r1, O1, bl1, _, _⟩ := strs_app Ob Oe.sz hN h1 hB.size
  exact ⟨b', bc', v2, r1, O1.sz, hB.trans bl1⟩
/-- the law's own state -/
def cloS (l : List Int) : St := { On.St.zero with mem := List.replicate 400 0, here := 0, tok := 0, ctl := l }
theorem cloS_bz {l : List Int} (hc : ∀ z ∈ l, C64 z) (hl : l.length ≤ 60) : Bz 0 60 0 (cloS l, 0) := ⟨{ aw_ok 400 0 0 c64_0 c64_0 with ctl := hc }, (show (List.replicate 400 (0 : Int)).length ≤ 1000000 by decide), Nat.zero_le _, hl, Nat.zero_le _, c64_0⟩
theorem ends_ok {ks : List Int} : (∀ k ∈ begL ks ++ endL ks, okW k) := by
  have ho : ∀ k, ∀ x ∈ opnL k, okW x := fun k x hx => by
    unfold opnL at hx
    (repeat' split at hx) <;> (simp at hx; unfold okW; omega)
  have hc : ∀ k, ∀ x ∈ clsL k, okW x := fun k x hx => by
    unfold clsL at hx
    (repeat' split at hx) <;> (simp at hx; unfold okW; omega)
  intro x hx
  rcases List.mem_append.1 hx with hx | hx
  · obtain ⟨k, _, hk⟩ := List.mem_flatMap.1 hx
    exact ho k x hk
  · induction ks with
    | nil => cases hx
    | cons k ks ih =>
      rcases List.mem_append.1 hx with hx | hx
      · exact ih (List.mem_append.2 (.inr hx)) hx
      · exact hc k x hx
/-- what the run comes to -/
theorem clo_end {l ks : List Int} (hl : l.length ≤ 60) (hk : ∀ k ∈ ks, 0 ≤ k ∧ k ≤ 4) (hn : ks.length ≤ 8) : ∃ s, runP (begL ks ++ endL ks) (cloS l) = (s, 0) ∧ s.ctl = l ∧ s.here = 8 * (tot ks : Int) ∧ s.spots.length = tot ks := by
  have R0 : Rm 400 (cloS l) 0 0 50 := ⟨by show (List.replicate 400 (0 : Int)).length = 400; simp, rfl, rfl, by omega, rfl, fun x hx => by cases hx⟩
  have ht := tot_le ks
  obtain ⟨s, g, e, R⟩ := closes (by decide) ks hk R0 (by omega) (show l.length + 4 * ks.length ≤ 120 by omega)
  exact ⟨s, g.run, e, by rw [R.here]; omega, by rw [R.spots]; omega⟩
theorem clo_run {w W0 : World} {n c : Nat} {a x : Option Addr} {xn xc : Nat} {ops l : List Int} {s : St} {Zb : Array Value} (hZ : Hid (Zb = (Me.u8s (List.replicate 400 0)).toArray)) (hL : On.Laid w) (hb0 : Below w.heap.size w W0) (hx : Sz W0 1 a n c (strs ops)) (hn : n ≤ 1000) (hw : ∀ k ∈ ops, okW k) (hv : Fl (one .i64) 1 w ⟨x, xn, xc⟩ l) (hc : ∀ z ∈ l, C64 z) (hl : l.length ≤ 60) (he : runP ops (cloS l) = (s, 0)) :
    Calls Tryd.prog 13 #[.agg #[.slice (some ⟨W0.heap.size, 0, none⟩) 400 400, .slice none 0 0, .slice none 0 0, .slice x xn xc, .slice none 0 0, .slice none 0 0, .slice none 0 0, .int .i64 0, .int .i64 0, .int .i64 0, .int .i64 0, .int .i64 0, .int .i64 0, .bool false, .bool false], .slice a n c] (W0.alloc (.cells Zb 5)) fun e w' => ∃ Z, e = .returned (.tuple #[.agg Z, .int .i64 0]) ∧ Hid (Zis w' Z s) ∧ Hid (StZ Z) ∧ Below W0.heap.size W0 w' := by
  have hA : Below W0.heap.size W0 (W0.alloc (.cells Zb 5)) := (Below.refl _ _).alloc (Nat.le_refl _) _
  have hV := since2 hb0 hA
  have hS0 := aw_st _ 400 ⟨some ⟨W0.heap.size, 0, none⟩, 400, 400⟩ (row400 (V := W0) hZ) 0 0
  have hS : StIs (W0.alloc (.cells Zb 5)) { Hs.zero with mem := ⟨some ⟨W0.heap.size, 0, none⟩, 400, 400⟩, ctl := ⟨x, xn, xc⟩ } (cloS l) := ⟨hS0.mem, hS0.data, hS0.ret, hv.below hV, hS0.words, hS0.spots, hS0.out⟩
  have h := run_any { Hs.zero with mem := ⟨some ⟨W0.heap.size, 0, none⟩, 400, 400⟩, ctl := ⟨x, xn, xc⟩ } (cloS l) a n c ops _ 0 60 0 (hL.below hV (Nat.le_refl _)) hS (cloS_bz hc hl) (by decide) (by decide) (by decide) (hx.below hA) hn hw
  rw [he] at h
  exact h.mono fun e w' hh => by
    obtain ⟨Z, g1, g2, g3⟩ := hh
    exact ⟨Z, g1, Lib.hid g2, Lib.hid g2.stz, since2 hA g3⟩
/-- what the law asks of what was told -/
theorem clo_held {W : World} {g n : Nat} {s : St} {l : List Int} (h : Held W g s) (hc : s.ctl = l) (hn : s.spots.length = n) (hok : ∀ z ∈ l, C64 z) {x : Option Addr} {xn xc : Nat} (hv : Fl (one .i64) 1 W ⟨x, xn, xc⟩ l) :
    ∃ sa sc ca cn cc, W.cell? ⟨g, 8, none⟩ = some (.int .i64 s.here) ∧ W.cell? ⟨g, 5, none⟩ = some (.slice sa n sc) ∧ W.cell? ⟨g, 3, none⟩ = some (.slice ca cn cc) ∧
      Hid (Calls Tryd.prog 12 #[.agg #[.slice none 0 0, .slice none 0 0, .slice none 0 0, .slice ca cn cc, .slice none 0 0, .slice none 0 0, .slice none 0 0, .int .i64 0, .int .i64 0, .int .i64 0, .int .i64 0, .int .i64 0, .int .i64 0, .bool false, .bool false], .agg #[.slice none 0 0, .slice none 0 0, .slice none 0 0, .slice x xn xc, .slice none 0 0, .slice none 0 0, .slice none 0 0, .int .i64 0, .int .i64 0, .int .i64 0, .int .i64 0, .int .i64 0, .int .i64 0, .bool false, .bool false]] W fun e w' => e = .returned (.bool true) ∧ Below W.heap.size W w') := by
  obtain ⟨h', hB, hS⟩ := h
  have hsn : s.spots.length = h'.spots.n := Fl.len hS.spots On.spc_len (by decide)
  rw [hn] at hsn
  have hct := hS.ctl
  rw [hc] at hct
  refine ⟨h'.spots.a, h'.spots.c, h'.ctl.a, h'.ctl.n, h'.ctl.c, hB.cell 8 rfl, ?_, hB.cell 3 rfl, Lib.hid ?_⟩
  · rw [hsn]; exact hB.cell 5 rfl
  · have z := StIs.zero W
    have s1 : StIs W { Hs.zero with ctl := h'.ctl } { On.St.zero with ctl := l } := ⟨z.mem, z.data, z.ret, hct, z.words, z.spots, z.out⟩
    have s2 : StIs W { Hs.zero with ctl := ⟨x, xn, xc⟩ } { On.St.zero with ctl := l } := ⟨z.mem, z.data, z.ret, hv, z.words, z.spots, z.out⟩
    exact rsame_yes { Hs.zero with ctl := h'.ctl } { Hs.zero with ctl := ⟨x, xn, xc⟩ } { On.St.zero with ctl := l } W s1 s2 { zero_ok with ctl := hok }
theorem kind_at {l : List Int} {k : Nat} (h : k < l.length) : (l.map fun z => Int.tmod z 5).take (k + 1) = (l.map fun z => Int.tmod z 5).take k ++ [Int.tmod (l.getD k 0) 5] := by
  rw [List.take_add_one]
  congr 1
  simp [List.getD, h]
end Go.Proofs.YtcjbfokindoicaaDoor
