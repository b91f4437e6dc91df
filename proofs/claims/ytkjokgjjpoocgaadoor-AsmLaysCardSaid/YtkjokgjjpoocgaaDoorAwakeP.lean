/- The program's Patch, Comma in one sentence; awake. -/
import Derived.Test.YtkjokgjjpoocgaaDoorAsmAwake
import Derived.Test.YtkjokgjjpoocgaaDoorEmitP
import Derived.Test.YtkjokgjjpoocgaaDoorFetchP
namespace Go.Proofs.YtkjokgjjpoocgaaDoor
set_option maxRecDepth 100000
open Go.ChangeShapes Go.WideShapes Go.ChangeAt Go.RowKit
open On (St Hs StIs cst Fl one C64 C8 Sc slc spc Oz Sz)
set_option linter.unusedVariables false
set_option maxRecDepth 100000

theorem patch_any (h : Hs) (s : St) (p v : Int) (w : World) (hS : StIs w h s) (hk : s.ok) (hm : s.mem.length ≤ 1000000) (hp : C64 p) (hv : C64 v) :
    Calls Tryd.prog 14 #[.agg (cst h s), .int .i64 p, .int .i64 v] w (EmEnd w (patC s p v)) := by
  unfold patC
  split
  · exact (patch_no h s p v w hS hk hm hp hv (by assumption)).mono fun e w' H => noEnd_em H
  · exact (patch_ok h s p v w hS hk hm hp hv (by omega)).mono fun e w' H => patEnd_em hS H rfl
theorem comma_any (h : Hs) (s : St) (v : Int) (w : World) (hS : StIs w h s) (hk : s.ok) (hm : s.mem.length ≤ 1000000) (hv : C64 v) :
    Calls Tryd.prog 10 #[.agg (cst h s), .int .i64 v] w (EmEnd w (comC s v)) := by
  unfold comC
  split
  · exact (comma_not h s v w hS hk hm hv (by assumption)).mono fun e w' H => noEnd_em H
  · exact (comma_yes h s v w hS hk hm hv (by omega)).mono fun e w' H => patEnd_em hS H rfl

/-- what awake's Emit makes -/
def AwIs (V : World) (Z : Array Value) : Prop := ∃ h' S1, Z = cst h' S1 ∧ StIs V h' S1 ∧ S1.ok ∧ S1.here = 24 ∧ S1.spots = [(8, 5), (16, 5)] ∧ S1.mem.length = 32 ∧ fetC S1.mem 8 = (2, 77, 24, 0)
theorem AwIs.stz {V : World} {Z : Array Value} (h : AwIs V Z) : StZ Z := by
  obtain ⟨h', S1, rfl, _⟩ := h
  exact StZ.cst _ _
theorem aw_E (V : World) (x y : Sc) (hx : Fl (one .u8) 1 V x (List.replicate 32 0)) (hy : Fl (one .i64) 1 V y [2, 77]) :
    Calls Tryd.prog 12 #[.agg #[.slice x.a x.n x.c, .slice none 0 0, .slice none 0 0, .slice none 0 0, .slice none 0 0, .slice none 0 0, .slice none 0 0, .int .i64 0, .int .i64 8, .int .i64 0, .int .i64 5, .int .i64 0, .int .i64 0, .bool false, .bool false], .slice y.a y.n y.c] V fun e V' => ∃ Z, e = .returned (.tuple #[.agg Z, .int .i64 0]) ∧ Hid (AwIs V' Z) ∧ Below V.heap.size V V' := by
  have hok : aw0.ok := aw_ok 32 8 5 (by unfold C64; omega) (by unfold C64; omega)
  have h := emit_any _ aw0 y [2, 77] V (aw_st V 32 x hx 8 5) hok (by decide) (by decide) hy (fun z hz => by
    rcases List.mem_cons.1 hz with rfl | hz
    · unfold C64; omega
    · obtain rfl := List.mem_singleton.1 hz
      unfold C64; omega) (by decide)
  obtain ⟨e1, e2, e3, e4⟩ := aw_emit
  have e5 := aw_fetch
  have hk := emitC_ok [2, 77] aw0 hok (by decide)
  generalize emitC aw0 [2, 77] = r at *
  rcases r with ⟨t, S1⟩
  dsimp only at e1 e2 e3 e4 e5 hk
  subst e1
  refine h.mono fun e V' hh => ?_
  obtain ⟨h', g1, g2, g3⟩ := hh
  exact ⟨_, g1, Lib.hid ⟨h', S1, rfl, g2, hk, e2, e3, e4, e5⟩, g3⟩
theorem aw_C (V : World) (x : Sc) (hx : Fl (one .u8) 1 V x (List.replicate 8 0)) :
    Calls Tryd.prog 10 #[.agg #[.slice x.a x.n x.c, .slice none 0 0, .slice none 0 0, .slice none 0 0, .slice none 0 0, .slice none 0 0, .slice none 0 0, .int .i64 0, .int .i64 8, .int .i64 0, .int .i64 0, .int .i64 0, .int .i64 0, .bool false, .bool false], .int .i64 1] V fun e V' => ∃ Z, e = .returned (.tuple #[.agg Z, .int .i64 (-8)]) ∧ Hid (StZ Z) ∧ Below V.heap.size V V' := by
  have h := comma_any _ aw1 1 V (aw_st V 8 x hx 8 0) (aw_ok 8 8 0 (by unfold C64; omega) (by unfold C64; omega)) (by decide) (by unfold C64; omega)
  rw [aw_comma] at h
  refine h.mono fun e V' hh => ?_
  obtain ⟨h', g1, g2, g3⟩ := hh
  exact ⟨_, g1, Lib.hid (StZ.cst _ _), g3⟩
/-- of the variable that holds it -/
theorem aw_at {V W : World} {Z : Array Value} {g : Nat} (h : AwIs V Z) (hb : Below V.heap.size V W) (hB : Bx W g 28 Z) (hL : On.Laid W) :
    ∃ ma mn mc b o c, W.cell? ⟨g, 0, none⟩ = some (.slice ma mn mc) ∧ Hid (Calls Tryd.prog 17 #[.slice ma mn mc, .int .i64 8] W fun e W' => e = .returned (.tuple #[.int .i64 2, .int .i64 77, .int .i64 24, .int .i64 0]) ∧ Below W.heap.size W W') ∧
      ∀ W', Below W.heap.size W W' → W'.cell? ⟨g, 8, none⟩ = some (.int .i64 24) ∧ W'.cell? ⟨g, 5, none⟩ = some (.slice (some ⟨b, o, none⟩) 2 c) ∧ W'.cell? ⟨b, o + 1 * 2, none⟩ = some (.int .i64 16) ∧ W'.cell? ⟨b, o + 1 * 2 + 1, none⟩ = some (.int .i64 5) := by
  obtain ⟨h', S1, rfl, g1, hk, e2, e3, e4, e5⟩ := h
  have hS := g1.below hb
  have hn : S1.mem.length = h'.mem.n := Fl.len hS.mem (fun _ => rfl) (by decide)
  have hF := fetch_any h'.mem.a h'.mem.n h'.mem.c S1.mem 8 W (mem_of hS.mem hk.mem) (by omega) (by unfold C64; omega) hL
  rw [e5] at hF
  have hsn : S1.spots.length = h'.spots.n := Fl.len hS.spots On.spc_len (by decide)
  obtain ⟨b, o, ha, h0, h1⟩ := spots_cell hS.spots (i := 1) (by rw [← hsn, e3]; decide)
  rw [e3] at h0 h1 hsn
  refine ⟨h'.mem.a, h'.mem.n, h'.mem.c, b, o, h'.spots.c, hB.cell 0 rfl, Lib.hid (hF.mono fun e W' hh => hh), fun W' hb' => ?_⟩
  have hB' := hB.below hb' hB.lt
  have h8 := hB'.cell 8 (v := .int .i64 S1.here) rfl
  rw [e2] at h8
  have h5 := hB'.cell 5 (v := h'.spots.val) rfl
  refine ⟨h8, ?_, (hb'.cell (p := ⟨b, o + 1 * 2, none⟩) (World.block_lt_of_cell? _ _ h0)).trans h0, (hb'.cell (p := ⟨b, o + 1 * 2 + 1, none⟩) (World.block_lt_of_cell? _ _ h1)).trans h1⟩
  rw [h5, On.Sc.val, ha, ← hsn]
  rfl
theorem aw_U (W : World) : Calls Tryd.prog 19 #[.int .i64 9] W fun e W' => e = .returned (.int .i64 16) ∧ W = W' := by
  have h := up_any 9 W (by unfold C64; omega)
  rw [aw_up] at h
  exact h
theorem aw_up1 {V W : World} {Z : Array Value} (h : StZ Z) (hb : Below V.heap.size V W) : Below V.heap.size V ((W.alloc (.cells zst 28)).setRow W.heap.size Z) := below_setRow (hb.alloc hb.size _) hb.size _
theorem stz_info {Z : Array Value} (h : StZ Z) : (Tryd.prog.info? 28).map (·.size) = some Z.size := by rw [h.1]; exact stinfo
set_option maxHeartbeats 2000000 in
theorem awake_any (w : World) (hL : On.Laid w) :
    Calls Tryd.prog 8 #[] w fun e w' => e = .returned (.bool true) ∧ Below w.heap.size w w' := by
  obtain ⟨Z, hZ, m1⟩ := aw_make 32 32 rfl (by decide)
  obtain ⟨Y, hY, m2⟩ := aw_make 8 8 rfl (by decide)
  have hb1 : Below w.heap.size w (w.alloc (.cells Z 5)) := (Below.refl _ _).alloc (Nat.le_refl _) _
  have hb2 := hb1.alloc hb1.size (.cells #[.int .i64 2, .int .i64 77] 3)
  have f1 := (aw_row w 32 (by decide) Z hZ).below ((Below.refl _ _).alloc (Nat.le_refl _) (.cells #[.int .i64 2, .int .i64 77] 3))
  have hE := aw_E _ ⟨some ⟨w.heap.size, 0, none⟩, 32, 32⟩ ⟨some ⟨(w.alloc (.cells Z 5)).heap.size, 0, none⟩, 2, 2⟩ f1 (aw_ints _)
  rw [show (w.alloc (.cells Z 5)).heap.size = w.heap.size + 1 by simp] at hE
  dsimp only at hE
  replace hE := Lib.hid hE
  replace hb2 := Lib.hid hb2
  have hC := Lib.hid (fun (V : World) => aw_C _ ⟨some ⟨V.heap.size, 0, none⟩, 8, 8⟩ (aw_row V 8 (by decide) Y hY))
  dsimp only at hC
  clear hb1 f1 hZ hY
  go_enter Tryd.func8, Tryd.ntmps8
  go_wp2_with (first
    | (go_at_call 12
       (with_reducible refine hE.out.mono ?_)
       rintro e w3 ⟨S1, rfl, hS1, hb3⟩
       have hb4 := Lib.hid (aw_up1 hS1.out.stz (hb2.out.trans (hb3.mono hb2.out.size)))
       obtain ⟨ma, mn, mc, b, o, c, hc0, hF, hrest⟩ := aw_at hS1.out (aw_up1 hS1.out.stz (Below.refl w3.heap.size w3)) ((Bx.new w3 28 zst).row S1) (hL.below hb4.out (Nat.le_refl _))
       replace hrest := Lib.hid hrest
       have hz1 := hS1.out.stz.1
       have hst := cells_at (ds := S1) (Bx.new w3 28 zst) hS1.out.stz.1.symm hS1.out.stz.2)
    | (go_at_call 17
       (with_reducible refine hF.out.mono ?_)
       rintro e w5 ⟨rfl, hb5⟩
       have hb6 := Lib.hid (hb4.out.trans (hb5.mono hb4.out.size))
       replace hb5 := Lib.hid hb5)
    | (go_at_call 10
       (with_reducible refine (hC.out _).mono ?_)
       rintro e w7 ⟨S2, rfl, hS2, hb7⟩
       have ha5 : Below w5.heap.size w5 (w5.alloc (.cells Y 5)) := (Below.refl _ _).alloc (Nat.le_refl _) _
       have hb8 := aw_up1 hS2.out (ha5.trans (hb7.mono ha5.size))
       have hb9 := Lib.hid (hb6.out.trans (hb8.mono hb6.out.size))
       have hz2 := hS2.out.1
       have hst2 := cells_at (ds := S2) (Bx.new w7 28 zst) hS2.out.1.symm hS2.out.2
       obtain ⟨p0, p1, p2, p3⟩ := hrest.out _ (hb5.out.trans (hb8.mono hb5.out.size)))
    | (go_at_call 19; (with_reducible refine (aw_U _).mono ?_); rintro e w10 ⟨rfl, rfl⟩))
  go_ret
  exact ⟨rfl, hb9.out⟩
end Go.Proofs.YtkjokgjjpoocgaaDoor
