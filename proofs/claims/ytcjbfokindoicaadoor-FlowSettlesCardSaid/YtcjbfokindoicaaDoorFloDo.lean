/- Do. -/
import Derived.Test.YtcjbfokindoicaaDoorFloMap
import Derived.RegionTactic
import Derived.StillTailTactics
namespace Go.Proofs.YtcjbfokindoicaaDoor
set_option maxRecDepth 100000
open Go.ChangeShapes Go.WideShapes Go.ChangeAt Go.RowKit
open On (St Hs StIs cst Fl one C64 C8 Sc slc spc Sz bytesOk)
set_option linter.unusedVariables false
set_option maxRecDepth 100000

theorem MapIs.no {W : World} {B : Nat} {l : Tbl} (h : MapIs W B l) {f : List Int} (hf : bytesOk f) (hn : lkp l f = none) : (Instr.lookup 51 (.map (some B)) (.string (strOfNums f)) true).run Tryd.prog W = .ok (.tuple #[.nilFunc, .bool false]) W := by
  rcases h.lookup hf with ⟨h1, _⟩ | ⟨F, φ, _, h2, _⟩
  · exact h1
  · rw [hn] at h2; cases h2
theorem MapIs.yes {W : World} {B : Nat} {l : Tbl} (h : MapIs W B l) {f : List Int} (hf : bytesOk f) {φ : Phi} (hn : lkp l f = some φ) : ∃ F, (Instr.lookup 51 (.map (some B)) (.string (strOfNums f)) true).run Tryd.prog W = .ok (.tuple #[F, .bool true]) W ∧ FloIs W F φ := by
  rcases h.lookup hf with ⟨_, h2⟩ | ⟨F, ψ, h1, h2, h3⟩
  · rw [hn] at h2; cases h2
  · rw [hn] at h2
    injection h2 with h2
    subst h2
    exact ⟨F, h1, h3⟩
/-- three results: a variable that holds a struct, and two slots -/
theorem results_row3 {P : Program} {fn : Func} {p q r : Tmp} {ty : TypeId} (h : fn.results = #[.cell p ty, .tmp q, .tmp r]) (tmps : Array Value) (w : World) (g : Nat) (t : TypeId) (cs : Array Value) (d : TypeDesc) (v u : Value)
    (hp : tmps.getD p undef = .pointer (some ⟨g, 0, none⟩)) (hq : tmps.getD q undef = v) (hr : tmps.getD r undef = u) (hg : Bx w g t cs)
    (hu : P.underlying ty = some d) (hd : (match d with | .struct _ | .array _ _ => true | _ => false) = true) (hi : (P.info? ty).map (·.size) = some cs.size) :
    (results fn tmps).run P w = .ok (.tuple #[.agg cs, v, u]) w := by
  have hp' : tmps[p]?.getD undef = .pointer (some ⟨g, 0, none⟩) := by simpa using hp
  have hq' : tmps[q]?.getD undef = v := by simpa using hq
  have hr' : tmps[r]?.getD undef = u := by simpa using hr
  simp [results, h, hp', hq', hr', asAddr, run_loadVar_row w g t ty cs (0, 0) d hg hu hd hi]
/-- what Do tells -/
def FloEnd (w : World) (h : Hs) (x : Int × Bool × St) (e : Ending) (w' : World) : Prop := ∃ h', e = .returned (.tuple #[.agg (cst h' x.2.2), .int .i64 x.1, .bool x.2.1]) ∧ StIs w' h' x.2.2 ∧ Below w.heap.size w w' ∧ FrA w h h'
/-- what Do comes to -/
def floP (s : St) (op : Int) : Int × Bool × St := match lkp tbF (On.nm op) with
  | none => (0, false, On.St.zero)
  | some φ => if (φ (s, 0)).2 = 0 then (0, true, (φ (s, 0)).1) else ((φ (s, 0)).2, true, On.St.zero)
theorem floP_none {s : St} {op : Int} (h : lkp tbF (On.nm op) = none) : floP s op = (0, false, On.St.zero) := by unfold floP; rw [h]
theorem floP_some {s : St} {op : Int} {φ : Phi} (h : lkp tbF (On.nm op) = some φ) : floP s op = if (φ (s, 0)).2 = 0 then (0, true, (φ (s, 0)).1) else ((φ (s, 0)).2, true, On.St.zero) := by unfold floP; rw [h]
set_option maxHeartbeats 1000000 in
theorem do_none (h : Hs) (s : St) (op : Int) (w : World) (hL : On.Laid w) (hop : C64 op) (hn : lkp tbF (On.nm op) = none) :
    Calls Tryd.prog 10 #[.agg (cst h s), .int .i64 op] w (FloEnd w h (floP s op)) := by
  rw [floP_none hn]
  obtain ⟨b1, b2, hb0⟩ := boxes w (cst h s) zst 28
  have hW := Lib.hid ((words_any ((w.alloc (.cells (cst h s) 28)).alloc (.cells zst 28))).mono (R' := fun e w1 => ∃ B, e = .returned (.map (some B)) ∧ (Instr.lookup 51 (.map (some B)) (.string (strOfNums (On.nm op))) true).run Tryd.prog w1 = .ok (.tuple #[.nilFunc, .bool false]) w1 ∧ Hid (On.Laid w1) ∧ Hid (Bx w1 (w.heap.size + 1) 28 zst) ∧ Hid (Below w.heap.size w w1)) fun e w1 hh => by
    obtain ⟨B, g1, g2, g3⟩ := hh
    have hb := hb0.trans (g3.mono hb0.size)
    exact ⟨B, g1, g2.no (On.nm_ok op) hn, Lib.hid (hL.below hb (Nat.le_refl _)), Lib.hid (b2.below g3 b2.lt), Lib.hid hb⟩)
  have hN := Lib.hid (fun (W : World) (q : On.Laid W) => On.name_any op W q hop)
  have hC := Lib.hid (fun (W : World) (q : Below w.heap.size w W) => below_setRow q (g := w.heap.size + 1) (Nat.le_succ _) zst)
  generalize On.nm op = nmo at *
  clear b1 b2 hb0 hn hop hL
  go_enter Tryd.func10, Tryd.ntmps10
  go_wp2_with (first
    | (go_at_call 17; (with_reducible refine hW.out.mono ?_); rintro e w1 ⟨B, rfl, hlk, q1, q2, q3⟩)
    | (go_at_call 15; (with_reducible refine (hN.out _ q1.out).mono ?_); rintro e w2 ⟨rfl, rfl⟩)
    | (refine wpList_store_row rfl 28 (.tmp 4) (.tmp 19) rfl (w.heap.size + 1) zst rfl rfl _ _ q2.out stinfo rfl (cst_one Hs.zero St.zero) ?_))
  refine bodyPost_ret (results_row3 rfl _ _ (w.heap.size + 1) 28 _ _ _ _ rfl rfl rfl (q2.out.row _) Tryd.underlying28 rfl stinfo) rfl ?_
  exact ⟨Hs.zero, rfl, StIs.zero _, hC.out _ q3.out, FrA.zero _ _⟩
/-- the work, made: its variable, the control stack in memory of its own -/
theorem work_new {w W2 w2 : World} {h : Hs} {s : St} {g n : Nat} {a : Option Addr} {c : Nat} (hS : StIs w h s) (hg : w.heap.size ≤ g) (hb2 : Below w.heap.size w W2) (hbx : Bx W2 g 54 (wcs h s 0)) (hbw : Below W2.heap.size W2 w2) (ho : On.Oz w2 W2.heap.size 3 1 a n c (s.ctl.flatMap (one .i64))) :
    w2.cell? ⟨g, 3, none⟩ = some h.ctl.val ∧ w2.frozen? ⟨g, 3, none⟩ = false ∧ Wk W2.heap.size g (w2.setCell ⟨g, 3, none⟩ (.slice a n c)) { h with ctl := ⟨a, n, c⟩ } (s, 0) ∧ Keep W2 W2 ∧ (∀ b o v, b < g → w2.cell? ⟨b, o, none⟩ = some v → (w2.setCell ⟨g, 3, none⟩ (.slice a n c)).cell? ⟨b, o, none⟩ = some v) ∧ Oth g w2 (w2.setCell ⟨g, 3, none⟩ (.slice a n c)) := by
  have bx2 := hbx.below hbw hbx.lt
  have S2 := hS.below (hb2.trans (hbw.mono hb2.size))
  have o := Oth.setCell w2 g 3 (.slice a n c)
  have key : ∀ {α : Type} {f : α → List Value} {z : Nat} {x : Sc} {l : List α}, 0 < z → Fl f z w x l → Fl f z w2 x l → Fl f z (w2.setCell ⟨g, 3, none⟩ (.slice a n c)) x l := fun hz hf hf2 => fl_other hf2 fun b o' ha hn => o.block b (by have := fl_place hf hz b o' ha hn; omega)
  have hrow : ∀ k, (Value.slice a n c).ownBlock = some k → W2.heap.size ≤ k := fun k hk => (World.ownsRow.lt ho k hk).1
  have koff : ∀ {α : Type} {f : α → List Value} {z : Nat} {x : Sc} {l : List α}, 0 < z → Fl f z w x l → OffX x g (Value.slice a n c).ownBlock := fun hz hf b o' ha hn => by
    have h1 := fl_place hf hz b o' ha hn
    refine ⟨by omega, fun hc => ?_⟩
    have := hrow b hc.symm
    have := hb2.size
    omega
  have hlt := hbx.lt
  have own : On.Oz (w2.setCell ⟨g, 3, none⟩ (.slice a n c)) W2.heap.size 3 1 a n c (s.ctl.flatMap (one .i64)) := Oz.setCell ho (p := ⟨g, 3, none⟩) hlt _
  refine ⟨bx2.cell 3 rfl, bx2.free 3, ⟨bx2.set 3 _, ⟨key (by decide) hS.mem S2.mem, key (by decide) hS.data S2.data, key (by decide) hS.ret S2.ret, own.sz, key (by decide) hS.words S2.words, key (by decide) hS.spots S2.spots, key (by decide) hS.out S2.out⟩,
    ⟨koff (by decide) hS.mem, koff (by decide) hS.data, koff (by decide) hS.ret, koff (by decide) hS.words, koff (by decide) hS.spots, koff (by decide) hS.out⟩, own, hlt, by rw [o.size]; exact hbw.size⟩, Keep.refl _, fun b o' v hb hv => ?_, o⟩
  unfold World.cell? at hv ⊢
  simp only [o.block b (by omega)]
  exact hv
/-- the end: what the work's variable holds is told -/
theorem work_end {w w2 V w3 : World} {h h3 : Hs} {s s' : St} {t' : Int} {g B n c : Nat} {a : Option Addr} (hS : StIs w h s) (hg : w.heap.size ≤ g) (hB : w.heap.size ≤ B) (hb : Below w.heap.size w w2) (o : Oth g w2 V) (hq : Wk B g w3 h3 (s', t')) (hs : Stp g V { h with ctl := ⟨a, n, c⟩ } w3 h3) (hrow : ∀ k, (Value.slice a n c).ownBlock = some k → w.heap.size ≤ k) :
    Below w.heap.size w w3 ∧ FrA w h h3 := by
  have hV : Below w.heap.size w V := ⟨o.os.trans hb.os, o.tape.trans hb.tape, o.output.trans hb.output, by rw [o.size]; exact hb.size, fun k hk => (o.block k (by omega)).trans (hb.block k hk)⟩
  have h1 := hV.trans (hs.q.to hV.size hg (fun k hk => hrow k hk))
  have fx : ∀ {x x' : Sc}, FrX V x x' → FrX w x x' := fun hf => by
    rcases hf with rfl | hf
    · exact .inl rfl
    · exact .inr fun y hy => Nat.le_trans hV.size (hf y hy)
  exact ⟨h1, fx hs.fr.mem, fx hs.fr.data, fx hs.fr.ret, .inr fun y hy => Nat.le_trans hB (World.ownsRow.lt hq.own y.block (by rw [hy]; rfl)).1, fx hs.fr.words, fx hs.fr.spots, fx hs.fr.out⟩
/-- what the word leaves: told in the result's variable -/
structure Fin (w : World) (h : Hs) (s' : St) (g : Nat) (h3 : Hs) (w3 : World) : Prop where
  bx : Bx w3 (w.heap.size + 1) 28 zst
  rng : w3.rangeAt g 0 (cst h3 s').toList
  bel : Below w.heap.size w w3
  fin : FloEnd w h (0, true, s') (.returned (.tuple #[.agg (cst h3 s'), .int .i64 0, .bool true])) (w3.setRow (w.heap.size + 1) (cst h3 s'))
theorem do_call {w w1 : World} {h : Hs} {s s' : St} {t' : Int} {φ : Phi} {k : Nat} {cap : Array Value} (hS : StIs w h s) (hb : Bd 0 (s, 0)) (hwl : s.words.length ≤ 100000) (hst : φ (s, 0) = (s', t')) (hb1 : Below w.heap.size w w1) (hsz : w.heap.size + 2 ≤ w1.heap.size) (hbx : Bx w1 (w.heap.size + 1) 28 zst)
    (hC : ∀ w', Keep w1 w' → ∀ B g h x, w1.heap.size ≤ g → Wk B g w' h x → Bd 10 x → x.1.words.length ≤ 100000 → Calls Tryd.prog k (#[.pointer (some ⟨g, 0, none⟩)] ++ cap) w' (WordEnd B g w' h (φ x))) :
    Calls Tryd.prog 18 #[.slice h.ctl.a h.ctl.n h.ctl.c] (w1.alloc (.cells (wcs h s 0) 54)) fun e w2 => ∃ a c, e = .returned (.slice a h.ctl.n c) ∧ w2.cell? ⟨w1.heap.size, 3, none⟩ = some (.slice h.ctl.a h.ctl.n h.ctl.c) ∧ w2.frozen? ⟨w1.heap.size, 3, none⟩ = false ∧
      Hid (Calls Tryd.prog k (#[.pointer (some ⟨w1.heap.size, 0, none⟩)] ++ cap) (w2.setCell ⟨w1.heap.size, 3, none⟩ (.slice a h.ctl.n c)) fun e w3 => e = .returned (.tuple #[]) ∧ ∃ h3, w3.cell? ⟨w1.heap.size, 15, none⟩ = some (.int .i64 t') ∧ Hid (Fin w h s' w1.heap.size h3 w3)) := by
  have hcn : h.ctl.n ≤ 100000 := by
    have := hb.ctl
    rw [show (s, (0 : Int)).1.ctl.length = h.ctl.n from Fl.len hS.ctl (fun _ => rfl) (by decide)] at this
    omega
  have hA : Below w1.heap.size w1 (w1.alloc (.cells (wcs h s 0) 54)) := (Below.refl _ _).alloc (Nat.le_refl _) _
  have hbW := hb1.trans (hA.mono hb1.size)
  have hB := Bx.new w1 54 (wcs h s 0)
  refine (clone_any h.ctl s.ctl (hS.ctl.below hbW) hcn).mono fun e w2 hh => ?_
  obtain ⟨a, c, g1, ho, hb2⟩ := hh
  obtain ⟨c3, f3, hw, _, _, o⟩ := work_new hS hb1.size hbW hB hb2 ho
  refine ⟨a, c, g1, c3, f3, Lib.hid ?_⟩
  have hK : Keep w1 (w2.setCell ⟨w1.heap.size, 3, none⟩ (.slice a h.ctl.n c)) := by
    have h12 := hA.trans (hb2.mono hA.size)
    exact ⟨o.os.trans h12.os, o.tape.trans h12.tape, o.output.trans h12.output, by rw [o.size]; exact h12.size, fun q cs e z hq => by
      have hlt : q < w1.heap.size := (Array.getElem?_eq_some_iff.1 hq).1
      exact ((o.block q (by omega)).trans (h12.block q hlt)).trans hq⟩
  have hrow : ∀ q, (Value.slice a h.ctl.n c).ownBlock = some q → w.heap.size + 2 ≤ q := fun q hq => by
    have := (World.ownsRow.lt ho q hq).1
    have := hA.size
    omega
  have hb02 : Below w.heap.size w w2 := hbW.trans (hb2.mono hbW.size)
  have L : Loc w1.heap.size (w2.setCell ⟨w1.heap.size, 3, none⟩ (.slice a h.ctl.n c)) { h with ctl := ⟨a, h.ctl.n, c⟩ } (w.heap.size + 1) := by
    have key : ∀ {α : Type} {f : α → List Value} {z : Nat} {x : Sc} {l : List α}, 0 < z → Fl f z w x l → OffX x (w.heap.size + 1) none := fun hz hf b o' ha hn => ⟨by have := fl_place hf hz b o' ha hn; omega, by simp⟩
    refine ⟨?_, by omega, fun hc => ?_, ⟨key (by decide) hS.mem, key (by decide) hS.data, key (by decide) hS.ret, key (by decide) hS.words, key (by decide) hS.spots, key (by decide) hS.out⟩⟩
    · rw [o.size]
      have := hb2.size
      have := hA.size
      omega
    · have := hrow _ hc.symm
      omega
  refine (hC _ hK _ _ _ (s, 0) (Nat.le_refl _) hw (hb.le (by decide)) hwl).mono fun e w3 hh => ?_
  rw [hst] at hh
  obtain ⟨k1, h3, k2, k3⟩ := hh
  obtain ⟨m1, m2⟩ := work_end hS hb1.size hbW.size hb02 o k2 k3 (fun q hq => by have := hrow q hq; omega)
  have L3 := L.stp k3
  have bx3 : Bx w3 (w.heap.size + 1) 28 zst := L.bx k3 ((o.block _ (by omega)).trans ((hbx.below (hA.trans (hb2.mono hA.size)) hbx.lt)))
  refine ⟨k1, h3, k2.blk.cell 15 rfl, Lib.hid ⟨bx3, k2.blk.range, m1, h3, rfl, (k2.oth L3 (Oth.setRow w3 (w.heap.size + 1) (cst h3 s'))).is, below_setRow m1 (Nat.le_succ _) _, m2⟩⟩
set_option maxHeartbeats 4000000 in
theorem do_some (h : Hs) (s : St) (op : Int) (w : World) (hL : On.Laid w) (hop : C64 op) (hS : StIs w h s) (hb : Bd 0 (s, 0)) (hwl : s.words.length ≤ 100000) {φ : Phi} (hn : lkp tbF (On.nm op) = some φ) (htc : C64 (φ (s, 0)).2) :
    Calls Tryd.prog 10 #[.agg (cst h s), .int .i64 op] w (FloEnd w h (floP s op)) := by
  rw [floP_some hn]
  obtain ⟨s', t', hst⟩ : ∃ s' t', φ (s, 0) = (s', t') := ⟨_, _, rfl⟩
  rw [hst] at htc ⊢
  dsimp only at htc ⊢
  obtain ⟨b1, b2, hb0⟩ := boxes w (cst h s) zst 28
  have hsz : ((w.alloc (.cells (cst h s) 28)).alloc (.cells zst 28)).heap.size = w.heap.size + 2 := by simp
  have hW := Lib.hid ((words_any ((w.alloc (.cells (cst h s) 28)).alloc (.cells zst 28))).mono (R' := fun e w1 => ∃ B k cap, e = .returned (.map (some B)) ∧ (Instr.lookup 51 (.map (some B)) (.string (strOfNums (On.nm op))) true).run Tryd.prog w1 = .ok (.tuple #[.func (.func k) #[] cap, .bool true]) w1 ∧ (∀ (args : Array Value) (w : World), (callFunc k args).run Tryd.prog w = .ok (.enter k args) w) ∧
      (w1.alloc (.cells (wcs h s 0) 54)).cell? ⟨w.heap.size, 3, none⟩ = some (.slice h.ctl.a h.ctl.n h.ctl.c) ∧ Hid (w.heap.size + 2 ≤ w1.heap.size) ∧ Hid (On.Laid w1) ∧ Hid (Bx w1 w.heap.size 28 (cst h s)) ∧
      Hid (Calls Tryd.prog 18 #[.slice h.ctl.a h.ctl.n h.ctl.c] (w1.alloc (.cells (wcs h s 0) 54)) fun e w2 => ∃ a c, e = .returned (.slice a h.ctl.n c) ∧ w2.cell? ⟨w1.heap.size, 3, none⟩ = some (.slice h.ctl.a h.ctl.n h.ctl.c) ∧ w2.frozen? ⟨w1.heap.size, 3, none⟩ = false ∧
        Hid (Calls Tryd.prog k (#[.pointer (some ⟨w1.heap.size, 0, none⟩)] ++ cap) (w2.setCell ⟨w1.heap.size, 3, none⟩ (.slice a h.ctl.n c)) fun e w3 => e = .returned (.tuple #[]) ∧ ∃ h3, w3.cell? ⟨w1.heap.size, 15, none⟩ = some (.int .i64 t') ∧ Hid (Fin w h s' w1.heap.size h3 w3)))) fun e w1 hh => by
    obtain ⟨B, g1, g2, g3⟩ := hh
    have hb1 := hb0.trans (g3.mono hb0.size)
    obtain ⟨F, hl, k, cap, rfl, hE, hC⟩ := g2.yes (On.nm_ok op) hn
    have q3 := b1.below g3 b1.lt
    exact ⟨B, k, cap, g1, hl, hE, (q3.alloc _).cell 3 rfl, Lib.hid (by rw [← hsz]; exact g3.size), Lib.hid (hL.below hb1 (Nat.le_refl _)), Lib.hid q3, Lib.hid (do_call hS hb hwl hst hb1 (by rw [← hsz]; exact g3.size) (b2.below g3 b2.lt) hC)⟩)
  have hN := Lib.hid (fun (W : World) (q : On.Laid W) => On.name_any op W q hop)
  have hE0 := Lib.hid (fun (W : World) (t : Int) (q : Below w.heap.size w W) => (show FloEnd w h (t, true, On.St.zero) (.returned (.tuple #[.agg zst, .int .i64 t, .bool true])) (W.setRow (w.heap.size + 1) zst) from ⟨Hs.zero, rfl, StIs.zero _, below_setRow q (Nat.le_succ _) _, FrA.zero _ _⟩))
  generalize On.nm op = nmo at *
  unfold C64 at htc
  clear b1 b2 hb0 hn hop hL hsz hS hb hwl hst
  by_cases ht0 : t' = 0
  · subst ht0
    rw [if_pos rfl]
    go_enter Tryd.func10, Tryd.ntmps10
    go_wp2_with (first
      | (go_at_call 17; (with_reducible refine hW.out.mono ?_); rintro e w1 ⟨B, k, cap, rfl, hlk, hE, cA, q6, q1, q3, q5⟩)
      | (go_at_call 15; (with_reducible refine (hN.out _ q1.out).mono ?_); rintro e w2 ⟨rfl, rfl⟩)
      | (refine wpList_load_row rfl 28 (.tmp 2) rfl w.heap.size rfl _ _ _ _ q3.out Tryd.underlying28 rfl stinfo ?_)
      | (go_at_call 18; (with_reducible refine q5.out.mono ?_); rintro e w2 ⟨a, c, rfl, c3, f3, hcall⟩)
      | (refine wpList_load_mid rfl 28 (.tmp 35) rfl w1.heap.size 0 rfl (cst h3 s').toList _ hF.out.rng Tryd.underlying28 rfl stinfo ?_)
      | (refine wpList_store_row rfl 28 (.tmp 4) (.tmp 36) rfl (w.heap.size + 1) (cst h3 s') rfl rfl _ _ hF.out.bx stinfo rfl (cst_one h3 s') ?_)
      | ((with_reducible refine hcall.out.mono ?_); rintro e w3 ⟨rfl, h3, c15, hF⟩))
    refine bodyPost_ret (results_row3 rfl _ _ (w.heap.size + 1) 28 _ _ _ _ rfl rfl rfl (hF.out.bx.row _) Tryd.underlying28 rfl stinfo) rfl ?_
    exact hF.out.fin
  · rw [if_neg ht0]
    have ht1 : (t' != 0) = true := by simpa using ht0
    clear ht0
    go_enter Tryd.func10, Tryd.ntmps10
    go_wp2_with (first
      | (go_at_call 17; (with_reducible refine hW.out.mono ?_); rintro e w1 ⟨B, k, cap, rfl, hlk, hE, cA, q6, q1, q3, q5⟩)
      | (go_at_call 15; (with_reducible refine (hN.out _ q1.out).mono ?_); rintro e w2 ⟨rfl, rfl⟩)
      | (refine wpList_load_row rfl 28 (.tmp 2) rfl w.heap.size rfl _ _ _ _ q3.out Tryd.underlying28 rfl stinfo ?_)
      | (go_at_call 18; (with_reducible refine q5.out.mono ?_); rintro e w2 ⟨a, c, rfl, c3, f3, hcall⟩)
      | ((with_reducible refine hcall.out.mono ?_); rintro e w3 ⟨rfl, h3, c15, hF⟩))
    have hd : Below w3.heap.size w3 w3.drew := (Below.refl _ _).drew
    have hbx := Lib.hid (hF.out.bx.below hd hF.out.bx.lt)
    have hfin := Lib.hid (hE0.out w3.drew t' (hF.out.bel.trans (hd.mono hF.out.bel.size)))
    have hst := cells_at (ds := zst) hbx.out rfl (cst_one Hs.zero St.zero)
    have hc15 : w3.drew.cell? ⟨w1.heap.size, 15, none⟩ = some (.int .i64 t') := c15
    have hlt : w1.heap.size ≠ w.heap.size + 1 := by have := q6.out; omega
    have hs15 : (w3.drew.setRow (w.heap.size + 1) zst).cell? ⟨w1.heap.size, 15, none⟩ = some (.int .i64 t') := by
      unfold World.cell? at hc15 ⊢
      simp only [setRow_other w3.drew (w.heap.size + 1) w1.heap.size zst hlt]
      exact hc15
    have hzv : ∀ w, (zeroValue 28).run Tryd.prog w = .ok (.agg zst) w := fun w => by kernel_rfl
    generalize hZ : zst = Z at hst hs15 hzv hbx hfin
    have hZs : Z.size = 15 := by rw [← hZ]; rfl
    replace hZ := Lib.hid hZ
    clear hlt
    go_region_held3 (fun V => V.cell? ⟨w1.heap.size, 15, none⟩ = some (.int .i64 t'))
      (first
        | with_reducible exact hc15
        | with_reducible exact hs15
        | with_reducible exact c15)
      (first | fail)
    all_goals
      go_wp2
      refine bodyPost_ret (results_row3 rfl _ _ (w.heap.size + 1) 28 _ _ _ _ rfl rfl rfl (hbx.out.row _) Tryd.underlying28 rfl (by rw [hZs]; exact stinfo)) rfl ?_
      exact hfin.out
theorem do_any (h : Hs) (s : St) (op : Int) (w : World) (hL : On.Laid w) (hop : C64 op) (hS : StIs w h s) (hb : Bd 0 (s, 0)) (hwl : s.words.length ≤ 100000) (htc : ∀ φ, lkp tbF (On.nm op) = some φ → C64 (φ (s, 0)).2) :
    Calls Tryd.prog 10 #[.agg (cst h s), .int .i64 op] w (FloEnd w h (floP s op)) := by
  cases hn : lkp tbF (On.nm op) with
  | none => exact do_none h s op w hL hop hn
  | some φ => exact do_some h s op w hL hop hS hb hwl hn (htc φ hn)
end Go.Proofs.YtcjbfokindoicaaDoor
