/- awake: IF, and THEN. -/
import Derived.Test.YtcjbfokindoicaaDoorFloHeld
import Derived.Deep.RegionHeld3
import Derived.Deep.RegionLaw
namespace Go.Proofs.YtcjbfokindoicaaDoor
set_option maxRecDepth 100000
open Go.ChangeShapes Go.WideShapes Go.ChangeAt Go.RowKit
open On (St Hs StIs cst Fl one C64 C8 Sc slc spc Sz bytesOk)
set_option linter.unusedVariables false
set_option maxRecDepth 100000

def faw0 : St := { On.St.zero with mem := List.replicate 64 0 }
theorem faw0_goes : Goes faw0 := ⟨⟨aw_ok 64 0 0 c64_0 c64_0, by decide, by decide, by decide, by decide, c64_0⟩⟩
theorem goes_do {s : St} {p c q : Nat} (h : Bz p c q (s, 0)) (op : Int) (hp : p + 2 ≤ 30000) (hc : c + 4 ≤ 30000) (hq : q ≤ 100000) : Goes (floP s op).2.2 := by
  have := (floP_bz h op).1
  exact ⟨⟨this.ok, this.mem, Nat.le_trans this.spots hp, Nat.le_trans this.ctl hc, Nat.le_trans this.words hq, this.thr⟩⟩
theorem faw_facts : ∃ s1 s2, floP faw0 98 = (0, true, s1) ∧ floP s1 100 = (0, true, s2) ∧ floP s2 100 = (-22, true, On.St.zero) ∧ floP s2 13 = (0, false, On.St.zero) ∧ s1.ctl = [1, 8] ∧ s2.ctl = [] ∧ s2.mem.length = 64 ∧ Me.celI s2.mem 8 = 16 ∧ Goes s1 ∧ Goes s2 := by
  have b0 : Bz 0 0 0 (faw0, 0) := ⟨aw_ok 64 0 0 c64_0 c64_0, by decide, by decide, by decide, by decide, c64_0⟩
  have b1 := (floP_bz b0 98).1
  refine ⟨(floP faw0 98).2.2, (floP (floP faw0 98).2.2 100).2.2, by kernel_rfl, by kernel_rfl, by kernel_rfl, by kernel_rfl, by kernel_rfl, by kernel_rfl, by kernel_rfl, by kernel_rfl, goes_do b0 98 (by decide) (by decide) (by decide), goes_do b1 100 (by decide) (by decide) (by decide)⟩
theorem bl_alloc {A B : World} (h : Below A.heap.size A B) (o : Obj) : Below A.heap.size A (B.alloc o) := h.alloc h.size o
theorem bl_drew {A B : World} (h : Below A.heap.size A B) : Below A.heap.size A B.drew := h.drew
theorem bl_row {A B : World} {g : Nat} (h : Below A.heap.size A B) (Z : Array Value) (hg : A.heap.size ≤ g) : Below A.heap.size A (B.setRow g Z) := below_setRow h hg Z
theorem held1 {V w3 : World} {b g : Nat} {Z cs : Array Value} {s1 : St} (hT : Told V { Hs.zero with mem := ⟨some ⟨b, 0, none⟩, 64, 64⟩ } w3 Z s1) (hB : Bx w3 g 28 cs) (hbg : b ≠ g) (hg : g < V.heap.size) : Held (w3.setRow g Z) g s1 := by
  have ho : ∀ (g : Nat), OffX On.Sc.none g none := fun g c o ha _ => by cases ha
  exact hT.held hB ⟨fun c o ha _ => by
    have : b = c := by injection ha with ha; injection ha
    exact ⟨by omega, by simp⟩, ho g, ho g, ho g, ho g, ho g, ho g⟩ hg
theorem fl_up {α : Type} {f : α → List Value} {z : Nat} {V : World} {x : Sc} {l : List α} (h : Fl f z V x l) (o : Obj) : Fl f z (V.alloc o) x l := h.below (bl_alloc (Below.refl _ _) o)
theorem fl_dr {α : Type} {f : α → List Value} {z : Nat} {V : World} {x : Sc} {l : List α} (h : Fl f z V x l) : Fl f z V.drew x l := h.below (bl_drew (Below.refl _ _))
theorem bx_up {V : World} {g : Nat} {T : TypeId} {cs : Array Value} (h : Bx V g T cs) (o : Obj) : Bx (V.alloc o) g T cs := h.alloc o
theorem bx_dr {V : World} {g : Nat} {T : TypeId} {cs : Array Value} (h : Bx V g T cs) : Bx V.drew g T cs := h
theorem bx_st {V W : World} {g : Nat} {T : TypeId} {cs : Array Value} (h : Bx V g T cs) (hb : Below V.heap.size V W) : Bx W g T cs := h.below hb h.lt
theorem bx_at {V : World} {g : Nat} {T : TypeId} {cs : Array Value} (hg : V.heap.size = g) : Bx (V.alloc (.cells cs T)) g T cs := by subst hg; exact Bx.new _ _ _
theorem row_at {V : World} {b : Nat} {Z : Array Value} (hZ : Hid (Z = (Me.u8s (List.replicate 64 0)).toArray)) (hb : V.heap.size = b) : Fl (one .u8) 1 (V.alloc (.cells Z 5)) ⟨some ⟨b, 0, none⟩, 64, 64⟩ (List.replicate 64 0) := by subst hb; exact aw_row V 64 (by decide) Z hZ.out
theorem faw_do1 {w : World} {s1 : St} (he : floP faw0 98 = (0, true, s1)) (hL : On.Laid w) (V : World) (b : Nat) (hb : Below w.heap.size w V) (hf : Fl (one .u8) 1 V ⟨some ⟨b, 0, none⟩, 64, 64⟩ (List.replicate 64 0)) :
    Calls Tryd.prog 10 #[.agg #[.slice (some ⟨b, 0, none⟩) 64 64, .slice none 0 0, .slice none 0 0, .slice none 0 0, .slice none 0 0, .slice none 0 0, .slice none 0 0, .int .i64 0, .int .i64 0, .int .i64 0, .int .i64 0, .int .i64 0, .int .i64 0, .bool false, .bool false], .int .i64 98] V fun e w3 => ∃ Z, e = .returned (.tuple #[.agg Z, .int .i64 0, .bool true]) ∧ Hid (StZ Z) ∧ Hid (Told V { Hs.zero with mem := ⟨some ⟨b, 0, none⟩, 64, 64⟩ } w3 Z s1) ∧ Below V.heap.size V w3 :=
  do_t (aw_st V 64 ⟨some ⟨b, 0, none⟩, 64, 64⟩ hf 0 0) 98 (hL.below hb (Nat.le_refl _)) num98 faw0_goes he
set_option maxHeartbeats 4000000 in
theorem faw_any (w : World) (hL : On.Laid w) :
    Calls Tryd.prog 8 #[] w fun e w' => e = .returned (.bool true) ∧ Below w.heap.size w w' := by
  obtain ⟨Zb, hZ, mk⟩ := aw_make 64 64 rfl (by decide)
  obtain ⟨s1, s2, e1, e2, e3, e4, f1, f2, f3, f4, g1, g2⟩ := faw_facts
  have hD1 := Lib.hid (faw_do1 e1 hL)
  replace hZ := Lib.hid hZ
  go_enter Tryd.func8, Tryd.ntmps8
  go_wp2
  go_cut [1, 2, 3] (fun p q r V => (∃ g, p = .pointer (some ⟨g, 0, none⟩) ∧ Hid (Held V g s1)) ∧ q = .int .i64 0 ∧ r = .bool true ∧ Hid (Below w.heap.size w V))
  case first =>
    go_region_law
      (first
        | (go_simp
           go_at_call 16
           (with_reducible refine (find_nm nm_if _ ?_).mono ?_)
           · refine hL.below (B := w.heap.size) ?_ (Nat.le_refl _)
             repeat (first | with_reducible exact Below.refl _ _ | with_reducible refine bl_alloc ?_ _ | with_reducible refine bl_drew ?_)
           rintro e w1 ⟨rfl, hb1⟩
           have hle1 : w.heap.size ≤ w1.heap.size := by have hs1 := hb1.size; simp at hs1 ⊢; omega
           dsimp only)
        | (go_simp
           go_at_call 10
           (with_reducible refine (hD1.out _ _ ?_ ?_).mono ?_)
           · repeat (first | with_reducible exact Below.refl _ _ | with_reducible refine bl_alloc ?_ _ | with_reducible refine bl_drew ?_ | with_reducible refine since2 ?_ hb1)
           · repeat (first | (with_reducible refine row_at hZ ?_; simp; done) | with_reducible refine fl_up ?_ _ | with_reducible refine fl_dr ?_ | with_reducible refine Fl.below ?_ hb1)
           rintro e w3 ⟨Z, rfl, hz, hT, hb3⟩
           have hW3 : Below w.heap.size w w3 := by
             refine since2 ?_ hb3
             repeat (first | with_reducible exact Below.refl _ _ | with_reducible refine bl_alloc ?_ _ | with_reducible refine bl_drew ?_ | with_reducible refine bl_row ?_ _ ?_ | with_reducible exact Nat.le_refl _ | with_reducible refine since2 ?_ hb1 | with_reducible exact hle1)
           have hz1 := hz.out.1
           have kst0 := cells_at (ds := Z) (Bx.new w3 28 zst) hz.out.1.symm hz.out.2
           try (have k1 : Bx w3 w.heap.size 28 zst := by
                  repeat (first | (with_reducible refine bx_at ?_; simp; done) | (with_reducible refine bx_at ?_; rfl) | with_reducible refine bx_st ?_ hb3 | with_reducible refine bx_st ?_ hb1 | with_reducible refine bx_up ?_ _ | with_reducible refine bx_dr ?_)
                  done
                have kst1 := cells_at (ds := Z) k1 hz.out.1.symm hz.out.2)
           try (have k2 : Bx w3 (w.heap.size + 1) 28 zst := by
                  repeat (first | (with_reducible refine bx_at ?_; simp; done) | (with_reducible refine bx_at ?_; rfl) | with_reducible refine bx_st ?_ hb3 | with_reducible refine bx_st ?_ hb1 | with_reducible refine bx_up ?_ _ | with_reducible refine bx_dr ?_)
                  done
                have kst2 := cells_at (ds := Z) k2 hz.out.1.symm hz.out.2)
           try (have k3 : Bx w3 w1.heap.size 28 zst := by
                  repeat (first | (with_reducible refine bx_at ?_; simp; done) | (with_reducible refine bx_at ?_; rfl) | with_reducible refine bx_st ?_ hb3 | with_reducible refine bx_st ?_ hb1 | with_reducible refine bx_up ?_ _ | with_reducible refine bx_dr ?_)
                  done
                have kst3 := cells_at (ds := Z) k3 hz.out.1.symm hz.out.2)
           try (have k4 : Bx w3 (w1.heap.size + 1) 28 zst := by
                  repeat (first | (with_reducible refine bx_at ?_; simp; done) | (with_reducible refine bx_at ?_; rfl) | with_reducible refine bx_st ?_ hb3 | with_reducible refine bx_st ?_ hb1 | with_reducible refine bx_up ?_ _ | with_reducible refine bx_dr ?_)
                  done
                have kst4 := cells_at (ds := Z) k4 hz.out.1.symm hz.out.2)
           dsimp only))
    all_goals -- region 1
      go_wp2_with fail
      go_meet
      first
        | exact ⟨⟨_, rfl, Lib.hid hT.out.new⟩, rfl, rfl, Lib.hid (new_row hW3)⟩
        | (refine ⟨⟨_, rfl, Lib.hid (held1 hT.out (by first | exact k1 | exact k2 | exact k3 | exact k4) ?_ ?_)⟩, rfl, rfl, Lib.hid (below_setRow hW3 ?_ _)⟩
           all_goals (have hs1 := hb1.size; simp at hs1 ⊢; try omega))
  case rest =>
    obtain ⟨⟨ga, rfl, hG1⟩, rfl, rfl, hW1⟩ := hcut
    obtain ⟨wc1, rfl⟩ : ∃ V, V = wc := ⟨_, rfl⟩
    obtain ⟨h1, hB1, hS1⟩ := hG1.out
    clear hD1 mk
    have hcl : Hid (∀ V, Below wc1.heap.size wc1 V → StC V ga h1 s1) := Lib.hid fun V hV => StC.of (hB1.below hV hB1.lt)
    have hD : Hid (∀ V, Below wc1.heap.size wc1 V → Calls Tryd.prog 10 #[.agg (cst h1 s1), .int .i64 100] V fun e w3 => ∃ Z, e = .returned (.tuple #[.agg Z, .int .i64 0, .bool true]) ∧ Hid (StZ Z) ∧ Hid (Told V h1 w3 Z s2) ∧ Below V.heap.size V w3) := Lib.hid fun V hV => do_t (hS1.below hV) 100 (hL.below (since2 hW1.out hV) (Nat.le_refl _)) (lit 100 rfl) g1 e2
    have hOff : Hid (∀ g', wc1.heap.size ≤ g' → OffA h1 g') := Lib.hid fun g' hg => OffA.place hS1 hg
    have hLW : Hid (∀ V, Below wc1.heap.size wc1 V → On.Laid V) := Lib.hid fun V hV => hL.below (since2 hW1.out hV) (Nat.le_refl _)
    go_wp2
    go_cut [4, 5, 6] (fun p q r V => (∃ g, p = .pointer (some ⟨g, 0, none⟩) ∧ Hid (Held V g s2)) ∧ q = .int .i64 0 ∧ r = .bool true ∧ Hid (Below wc1.heap.size wc1 V))
    case first =>
      go_region_held3 (fun V => V.cell? ⟨ga, 0, none⟩ = some (h1.mem.val) ∧ V.cell? ⟨ga, 1, none⟩ = some (h1.data.val) ∧ V.cell? ⟨ga, 2, none⟩ = some (h1.ret.val) ∧ V.cell? ⟨ga, 3, none⟩ = some (h1.ctl.val) ∧ V.cell? ⟨ga, 4, none⟩ = some (h1.words.val) ∧ V.cell? ⟨ga, 5, none⟩ = some (h1.spots.val) ∧ V.cell? ⟨ga, 6, none⟩ = some (h1.out.val) ∧ V.cell? ⟨ga, 7, none⟩ = some (.int .i64 s1.ip) ∧ V.cell? ⟨ga, 8, none⟩ = some (.int .i64 s1.here) ∧ V.cell? ⟨ga, 9, none⟩ = some (.int .i64 s1.pos) ∧ V.cell? ⟨ga, 10, none⟩ = some (.int .i64 s1.tok) ∧ V.cell? ⟨ga, 11, none⟩ = some (.int .i64 s1.inn) ∧ V.cell? ⟨ga, 12, none⟩ = some (.int .i64 s1.err) ∧ V.cell? ⟨ga, 13, none⟩ = some (.bool s1.comp) ∧ V.cell? ⟨ga, 14, none⟩ = some (.bool s1.halt))
        (first
          | with_reducible exact hcl.out _ hW3
          | with_reducible exact hcl.out _ (bl_alloc hW3 _)
          | with_reducible exact hcl.out _ hWa
          | with_reducible exact hcl.out _ (bl_alloc hWa _)
          | with_reducible exact hcl.out _ (bl_drew (Below.refl _ _))
          | with_reducible exact hcl.out _ (bl_alloc (bl_drew (Below.refl _ _)) _)
          | with_reducible exact hcl.out _ (bl_drew (bl_alloc (Below.refl _ _) _))
          | with_reducible exact hcl.out _ (bl_row hW3 _ (Nat.le_refl _))
          | with_reducible exact hcl.out _ (bl_row hW3 _ hle1)
          | with_reducible exact hcl.out _ (bl_row (bl_alloc hW3 _) _ hle3))
        (first
          | (go_at_call 16
             (with_reducible refine (find_nm nm_then _ ?_).mono ?_)
             · refine hLW.out _ ?_
               repeat (first | with_reducible exact Below.refl _ _ | with_reducible refine bl_alloc ?_ _ | with_reducible refine bl_drew ?_ | with_reducible refine bl_row ?_ _ ?_ | with_reducible exact Nat.le_refl _)
             rintro e w1 ⟨rfl, hb1⟩
             have hWa : Below wc1.heap.size wc1 w1 := by
               refine since2 ?_ hb1
               repeat (first | with_reducible exact Below.refl _ _ | with_reducible refine bl_alloc ?_ _ | with_reducible refine bl_drew ?_ | with_reducible refine bl_row ?_ _ ?_ | with_reducible exact Nat.le_refl _)
             have hle1 := hWa.size)
          | (go_at_call 10
             (with_reducible refine (hD.out _ ?_).mono ?_)
             · first
                 | with_reducible exact hWa
                 | with_reducible exact bl_alloc hWa _
             rintro e w3 ⟨Z, rfl, hz, hT, hb3⟩
             have hW3 : Below wc1.heap.size wc1 w3 := by
               refine since2 ?_ hb3
               first
                 | with_reducible exact hWa
                 | with_reducible exact bl_alloc hWa _
             have hle3 := hW3.size
             have hz1 := hz.out.1
             have kst0 := cells_at (ds := Z) (Bx.new w3 28 zst) hz.out.1.symm hz.out.2
             try (have k1 : Bx w3 wc1.heap.size 28 zst := by
                    repeat (first | (with_reducible refine bx_at ?_; simp; done) | (with_reducible refine bx_at ?_; rfl) | with_reducible refine bx_st ?_ hb3 | with_reducible refine bx_st ?_ hb1 | with_reducible refine bx_up ?_ _ | with_reducible refine bx_dr ?_)
                    done
                  have kst1 := cells_at (ds := Z) k1 hz.out.1.symm hz.out.2)
             try (have k2 : Bx w3 w1.heap.size 28 zst := by
                    repeat (first | (with_reducible refine bx_at ?_; simp; done) | (with_reducible refine bx_at ?_; rfl) | with_reducible refine bx_st ?_ hb3 | with_reducible refine bx_st ?_ hb1 | with_reducible refine bx_up ?_ _ | with_reducible refine bx_dr ?_)
                    done
                  have kst2 := cells_at (ds := Z) k2 hz.out.1.symm hz.out.2)))
      all_goals
        go_wp2_with fail
        go_meet
        first
          | exact ⟨⟨_, rfl, Lib.hid hT.out.new⟩, rfl, rfl, Lib.hid (new_row hW3)⟩
          | (refine ⟨⟨_, rfl, Lib.hid (hT.out.held (by first | exact k1 | exact k2) (hOff.out _ ?_) ?_)⟩, rfl, rfl, Lib.hid (below_setRow hW3 ?_ _)⟩
             all_goals (have hs1 := hb1.size; simp at hs1 ⊢; try omega))
    case rest =>
      obtain ⟨⟨gb, rfl, hG2⟩, rfl, rfl, hV2⟩ := hcut
      obtain ⟨wc2, rfl⟩ : ∃ V, V = wc := ⟨_, rfl⟩
      have hW2 := Lib.hid (since2 hW1.out hV2.out)
      have hA2 := Lib.hid ((show Held wc1 ga s1 from ⟨h1, hB1, hS1⟩).below hV2.out)
      clear hcl hD hOff hLW
      obtain ⟨h2, hB2, hS2⟩ := hG2.out
      have hcl : Hid (∀ V, Below wc2.heap.size wc2 V → StC V gb h2 s2) := Lib.hid fun V hV => StC.of (hB2.below hV hB2.lt)
      have hD : Hid (∀ V, Below wc2.heap.size wc2 V → Calls Tryd.prog 10 #[.agg (cst h2 s2), .int .i64 100] V fun e w3 => ∃ Z, e = .returned (.tuple #[.agg Z, .int .i64 (-22), .bool true]) ∧ Hid (StZ Z) ∧ Hid (Told V h2 w3 Z On.St.zero) ∧ Below V.heap.size V w3) := Lib.hid fun V hV => do_t (hS2.below hV) 100 (hL.below (since2 hW2.out hV) (Nat.le_refl _)) (lit 100 rfl) g2 e3
      have hOff : Hid (∀ g', wc2.heap.size ≤ g' → OffA h2 g') := Lib.hid fun g' hg => OffA.place hS2 hg
      have hLW : Hid (∀ V, Below wc2.heap.size wc2 V → On.Laid V) := Lib.hid fun V hV => hL.below (since2 hW2.out hV) (Nat.le_refl _)
      go_wp2
      go_cut [7, 8, 9] (fun p q r V => (∃ g, p = .pointer (some ⟨g, 0, none⟩) ∧ Hid (Held V g On.St.zero)) ∧ q = .int .i64 (-22) ∧ r = .bool true ∧ Hid (Below wc2.heap.size wc2 V))
      case first =>
        go_region_held3 (fun V => V.cell? ⟨gb, 0, none⟩ = some (h2.mem.val) ∧ V.cell? ⟨gb, 1, none⟩ = some (h2.data.val) ∧ V.cell? ⟨gb, 2, none⟩ = some (h2.ret.val) ∧ V.cell? ⟨gb, 3, none⟩ = some (h2.ctl.val) ∧ V.cell? ⟨gb, 4, none⟩ = some (h2.words.val) ∧ V.cell? ⟨gb, 5, none⟩ = some (h2.spots.val) ∧ V.cell? ⟨gb, 6, none⟩ = some (h2.out.val) ∧ V.cell? ⟨gb, 7, none⟩ = some (.int .i64 s2.ip) ∧ V.cell? ⟨gb, 8, none⟩ = some (.int .i64 s2.here) ∧ V.cell? ⟨gb, 9, none⟩ = some (.int .i64 s2.pos) ∧ V.cell? ⟨gb, 10, none⟩ = some (.int .i64 s2.tok) ∧ V.cell? ⟨gb, 11, none⟩ = some (.int .i64 s2.inn) ∧ V.cell? ⟨gb, 12, none⟩ = some (.int .i64 s2.err) ∧ V.cell? ⟨gb, 13, none⟩ = some (.bool s2.comp) ∧ V.cell? ⟨gb, 14, none⟩ = some (.bool s2.halt))
          (first
            | with_reducible exact hcl.out _ hW3
            | with_reducible exact hcl.out _ (bl_alloc hW3 _)
            | with_reducible exact hcl.out _ hWa
            | with_reducible exact hcl.out _ (bl_alloc hWa _)
            | with_reducible exact hcl.out _ (bl_drew (Below.refl _ _))
            | with_reducible exact hcl.out _ (bl_alloc (bl_drew (Below.refl _ _)) _)
            | with_reducible exact hcl.out _ (bl_drew (bl_alloc (Below.refl _ _) _))
            | with_reducible exact hcl.out _ (bl_row hW3 _ (Nat.le_refl _))
            | with_reducible exact hcl.out _ (bl_row hW3 _ hle1)
            | with_reducible exact hcl.out _ (bl_row (bl_alloc hW3 _) _ hle3))
          (first
            | (go_at_call 16
               (with_reducible refine (find_nm nm_then _ ?_).mono ?_)
               · refine hLW.out _ ?_
                 repeat (first | with_reducible exact Below.refl _ _ | with_reducible refine bl_alloc ?_ _ | with_reducible refine bl_drew ?_ | with_reducible refine bl_row ?_ _ ?_ | with_reducible exact Nat.le_refl _)
               rintro e w1 ⟨rfl, hb1⟩
               have hWa : Below wc2.heap.size wc2 w1 := by
                 refine since2 ?_ hb1
                 repeat (first | with_reducible exact Below.refl _ _ | with_reducible refine bl_alloc ?_ _ | with_reducible refine bl_drew ?_ | with_reducible refine bl_row ?_ _ ?_ | with_reducible exact Nat.le_refl _)
               have hle1 := hWa.size)
            | (go_at_call 10
               (with_reducible refine (hD.out _ ?_).mono ?_)
               · first
                   | with_reducible exact hWa
                   | with_reducible exact bl_alloc hWa _
               rintro e w3 ⟨Z, rfl, hz, hT, hb3⟩
               have hW3 : Below wc2.heap.size wc2 w3 := by
                 refine since2 ?_ hb3
                 first
                   | with_reducible exact hWa
                   | with_reducible exact bl_alloc hWa _
               have hle3 := hW3.size
               have hz1 := hz.out.1
               have kst0 := cells_at (ds := Z) (Bx.new w3 28 zst) hz.out.1.symm hz.out.2
               try (have k1 : Bx w3 wc2.heap.size 28 zst := by
                      repeat (first | (with_reducible refine bx_at ?_; simp; done) | (with_reducible refine bx_at ?_; rfl) | with_reducible refine bx_st ?_ hb3 | with_reducible refine bx_st ?_ hb1 | with_reducible refine bx_up ?_ _ | with_reducible refine bx_dr ?_)
                      done
                    have kst1 := cells_at (ds := Z) k1 hz.out.1.symm hz.out.2)
               try (have k2 : Bx w3 w1.heap.size 28 zst := by
                      repeat (first | (with_reducible refine bx_at ?_; simp; done) | (with_reducible refine bx_at ?_; rfl) | with_reducible refine bx_st ?_ hb3 | with_reducible refine bx_st ?_ hb1 | with_reducible refine bx_up ?_ _ | with_reducible refine bx_dr ?_)
                      done
                    have kst2 := cells_at (ds := Z) k2 hz.out.1.symm hz.out.2)))
        all_goals
          go_wp2_with fail
          go_meet
          first
            | exact ⟨⟨_, rfl, Lib.hid hT.out.new⟩, rfl, rfl, Lib.hid (new_row hW3)⟩
            | (refine ⟨⟨_, rfl, Lib.hid (hT.out.held (by first | exact k1 | exact k2) (hOff.out _ ?_) ?_)⟩, rfl, rfl, Lib.hid (below_setRow hW3 ?_ _)⟩
               all_goals (have hs1 := hb1.size; simp at hs1 ⊢; try omega))
      case rest =>
        obtain ⟨⟨gc, rfl, hG3⟩, rfl, rfl, hV3⟩ := hcut
        obtain ⟨wc3, rfl⟩ : ∃ V, V = wc := ⟨_, rfl⟩
        have hW3 := Lib.hid (since2 hW2.out hV3.out)
        clear hcl hD hOff hLW
        have hB3 := hB2.below hV3.out hB2.lt
        have hS3 := hS2.below hV3.out
        have hcl : Hid (∀ V, Below wc3.heap.size wc3 V → StC V gb h2 s2) := Lib.hid fun V hV => StC.of (hB3.below hV hB3.lt)
        have hD : Hid (∀ V, Below wc3.heap.size wc3 V → Calls Tryd.prog 10 #[.agg (cst h2 s2), .int .i64 13] V fun e w3 => ∃ Z, e = .returned (.tuple #[.agg Z, .int .i64 0, .bool false]) ∧ Hid (StZ Z) ∧ Hid (Told V h2 w3 Z On.St.zero) ∧ Below V.heap.size V w3) := Lib.hid fun V hV => do_t (hS3.below hV) 13 (hL.below (since2 hW3.out hV) (Nat.le_refl _)) (lit 13 rfl) g2 e4
        have hOff : Hid (∀ g', wc3.heap.size ≤ g' → OffA h2 g') := Lib.hid fun g' hg => OffA.place hS3 hg
        have hLW : Hid (∀ V, Below wc3.heap.size wc3 V → On.Laid V) := Lib.hid fun V hV => hL.below (since2 hW3.out hV) (Nat.le_refl _)
        go_wp2
        go_cut [10, 11, 12] (fun p q r V => (∃ g, p = .pointer (some ⟨g, 0, none⟩) ∧ Hid (Held V g On.St.zero)) ∧ q = .int .i64 0 ∧ r = .bool false ∧ Hid (Below wc3.heap.size wc3 V))
        case first =>
          go_region_held3 (fun V => V.cell? ⟨gb, 0, none⟩ = some (h2.mem.val) ∧ V.cell? ⟨gb, 1, none⟩ = some (h2.data.val) ∧ V.cell? ⟨gb, 2, none⟩ = some (h2.ret.val) ∧ V.cell? ⟨gb, 3, none⟩ = some (h2.ctl.val) ∧ V.cell? ⟨gb, 4, none⟩ = some (h2.words.val) ∧ V.cell? ⟨gb, 5, none⟩ = some (h2.spots.val) ∧ V.cell? ⟨gb, 6, none⟩ = some (h2.out.val) ∧ V.cell? ⟨gb, 7, none⟩ = some (.int .i64 s2.ip) ∧ V.cell? ⟨gb, 8, none⟩ = some (.int .i64 s2.here) ∧ V.cell? ⟨gb, 9, none⟩ = some (.int .i64 s2.pos) ∧ V.cell? ⟨gb, 10, none⟩ = some (.int .i64 s2.tok) ∧ V.cell? ⟨gb, 11, none⟩ = some (.int .i64 s2.inn) ∧ V.cell? ⟨gb, 12, none⟩ = some (.int .i64 s2.err) ∧ V.cell? ⟨gb, 13, none⟩ = some (.bool s2.comp) ∧ V.cell? ⟨gb, 14, none⟩ = some (.bool s2.halt))
            (first
              | with_reducible exact hcl.out _ hW3
              | with_reducible exact hcl.out _ (bl_alloc hW3 _)
              | with_reducible exact hcl.out _ hWa
              | with_reducible exact hcl.out _ (bl_alloc hWa _)
              | with_reducible exact hcl.out _ (bl_drew (Below.refl _ _))
              | with_reducible exact hcl.out _ (bl_alloc (bl_drew (Below.refl _ _)) _)
              | with_reducible exact hcl.out _ (bl_drew (bl_alloc (Below.refl _ _) _))
              | with_reducible exact hcl.out _ (bl_row hW3 _ (Nat.le_refl _))
              | with_reducible exact hcl.out _ (bl_row hW3 _ hle1)
              | with_reducible exact hcl.out _ (bl_row (bl_alloc hW3 _) _ hle3))
            (first
              | (go_at_call 16
                 (with_reducible refine (find_nm nm_dup _ ?_).mono ?_)
                 · refine hLW.out _ ?_
                   repeat (first | with_reducible exact Below.refl _ _ | with_reducible refine bl_alloc ?_ _ | with_reducible refine bl_drew ?_ | with_reducible refine bl_row ?_ _ ?_ | with_reducible exact Nat.le_refl _)
                 rintro e w1 ⟨rfl, hb1⟩
                 have hWa : Below wc3.heap.size wc3 w1 := by
                   refine since2 ?_ hb1
                   repeat (first | with_reducible exact Below.refl _ _ | with_reducible refine bl_alloc ?_ _ | with_reducible refine bl_drew ?_ | with_reducible refine bl_row ?_ _ ?_ | with_reducible exact Nat.le_refl _)
                 have hle1 := hWa.size)
              | (go_at_call 10
                 (with_reducible refine (hD.out _ ?_).mono ?_)
                 · first
                     | with_reducible exact hWa
                     | with_reducible exact bl_alloc hWa _
                 rintro e w3 ⟨Z, rfl, hz, hT, hb3⟩
                 have hW3 : Below wc3.heap.size wc3 w3 := by
                   refine since2 ?_ hb3
                   first
                     | with_reducible exact hWa
                     | with_reducible exact bl_alloc hWa _
                 have hle3 := hW3.size
                 have hz1 := hz.out.1
                 have kst0 := cells_at (ds := Z) (Bx.new w3 28 zst) hz.out.1.symm hz.out.2
                 try (have k1 : Bx w3 wc3.heap.size 28 zst := by
                        repeat (first | (with_reducible refine bx_at ?_; simp; done) | (with_reducible refine bx_at ?_; rfl) | with_reducible refine bx_st ?_ hb3 | with_reducible refine bx_st ?_ hb1 | with_reducible refine bx_up ?_ _ | with_reducible refine bx_dr ?_)
                        done
                      have kst1 := cells_at (ds := Z) k1 hz.out.1.symm hz.out.2)
                 try (have k2 : Bx w3 w1.heap.size 28 zst := by
                        repeat (first | (with_reducible refine bx_at ?_; simp; done) | (with_reducible refine bx_at ?_; rfl) | with_reducible refine bx_st ?_ hb3 | with_reducible refine bx_st ?_ hb1 | with_reducible refine bx_up ?_ _ | with_reducible refine bx_dr ?_)
                        done
                      have kst2 := cells_at (ds := Z) k2 hz.out.1.symm hz.out.2)))
          all_goals
            go_wp2_with fail
            go_meet
            first
              | exact ⟨⟨_, rfl, Lib.hid hT.out.new⟩, rfl, rfl, Lib.hid (new_row hW3)⟩
              | (refine ⟨⟨_, rfl, Lib.hid (hT.out.held (by first | exact k1 | exact k2) (hOff.out _ ?_) ?_)⟩, rfl, rfl, Lib.hid (below_setRow hW3 ?_ _)⟩
                 all_goals (have hs1 := hb1.size; simp at hs1 ⊢; try omega))
        case rest =>
          obtain ⟨⟨gd, rfl, hG4⟩, rfl, rfl, hV4⟩ := hcut
          obtain ⟨wc4, rfl⟩ : ∃ V, V = wc := ⟨_, rfl⟩
          have hW4 := Lib.hid (since2 hW3.out hV4.out)
          have hW34 := Lib.hid (since2 hV3.out hV4.out)
          clear hcl hD hOff hLW
          have hB4 := hB3.below hV4.out hB3.lt
          have hS4 := hS3.below hV4.out
          obtain ⟨h9, hA, hAS⟩ := (hA2.out.below hV3.out).below hV4.out
          have hmn : s2.mem.length = h2.mem.n := Fl.len hS4.mem (fun _ => rfl) (by decide)
          have hC := Me.cell_any h2.mem.a h2.mem.n h2.mem.c s2.mem 8 wc4 (mem_of hS4.mem g2.bz.ok.mem) (lit 8 rfl)
          rw [f4] at hC
          replace hC := Lib.hid hC
          have c0 := hB4.cell 0 (v := h2.mem.val) rfl
          have n1 : s1.ctl.length = h9.ctl.n := Fl.len hAS.ctl (fun _ => rfl) (by decide)
          have n2 : s2.ctl.length = h2.ctl.n := Fl.len hS4.ctl (fun _ => rfl) (by decide)
          obtain ⟨b, o, ha, p1⟩ := ints_cell hAS.ctl (i := 1) (by rw [← n1, f1]; decide)
          rw [f1] at n1 p1
          rw [f2] at n2
          replace n1 : h9.ctl.n = 2 := n1.symm
          replace n2 : h2.ctl.n = 0 := n2.symm
          replace p1 : wc4.cell? ⟨b, o + 1, none⟩ = some (.int .i64 8) := p1
          have c3 := hA.cell 3 (v := h9.ctl.val) rfl
          have c3b := hB4.cell 3 (v := h2.ctl.val) rfl
          rw [On.Sc.val, ha, n1] at c3
          rw [On.Sc.val, n2] at c3b
          have hfin := Lib.hid hW4.out
          clear n1 n2 ha hmn f1 f2 f3 f4
          clear hB1 hS1 hB2 hS2 hB3 hS3 hG1 hG2 hG3 hG4 hB4 hS4 hA hAS hA2
          go_wp2_with (go_at_call 14; (with_reducible refine hC.out.mono ?_); rintro e w9 ⟨rfl, rfl⟩)
          go_ret
          exact ⟨rfl, hfin.out⟩
end Go.Proofs.YtcjbfokindoicaaDoor
