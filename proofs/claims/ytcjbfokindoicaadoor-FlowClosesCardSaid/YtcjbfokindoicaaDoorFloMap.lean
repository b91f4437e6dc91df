import Derived.Test.YtcjbfokindoicaaDoorFlowMath
import Derived.Test.YtcjbfokindoicaaDoorEmitP
import Derived.Test.YtcjbfokindoicaaDoorPlace
import Derived.Deep.MidRow
import Derived.Test.YtcjbfokindoicaaDoorSame
import Derived.BigQuiet
import Derived.StillTailTactics
import Derived.Deep.RegionHeld3
import Derived.Deep.RegionLaw
import Derived.Test.YtcjbfokindoicaaDoorOpsMap
/- What a word of control flow does, step by step, by plain functions: on a state, and what was thrown. -/
namespace Go.Proofs.YtcjbfokindoicaaDoor
set_option maxRecDepth 100000
open Go.ChangeShapes Go.WideShapes Go.ChangeAt Go.RowKit
open On (St Hs StIs cst Fl one C64 C8 Sc slc spc Sz)
set_option linter.unusedVariables false
set_option maxRecDepth 100000

abbrev WkS := St × Int
def offP (k : Int) (s : St) : Int × Bool × St :=
  if s.ctl.length < 2 then (0, false, s) else if s.ctl.getD (s.ctl.length - 2) 0 ≠ k then (0, false, s) else (s.ctl.getD (s.ctl.length - 1) 0, true, { s with ctl := s.ctl.take (s.ctl.length - 2) })
def takP : List Int → St → List Int × Bool × St
  | [], s => ([], true, s)
  | k :: ks, s => if (offP k s).2.1 = true then ((offP k s).1 :: (takP ks (offP k s).2.2).1, (takP ks (offP k s).2.2).2) else ([], false, (offP k s).2.2)
def holP (b : Bool) (c t : Int) : Int := if b = false ∧ t = 0 then c else t
def wanP (ks : List Int) (x : WkS) : List Int × WkS := (if (takP ks x.1).2.1 = true then (takP ks x.1).1 else [], (takP ks x.1).2.2, holP (takP ks x.1).2.1 (-22) x.2)
def rooP (m : Nat) (x : WkS) : WkS := (x.1, holP (decide ((x.1.ctl.length : Int) + (m : Int) * 2 ≤ 128)) (-3) x.2)
def putP (k a : Int) (x : WkS) : WkS := ({ x.1 with ctl := x.1.ctl ++ [k, a] }, x.2)
def emiP (vs : List Int) (x : WkS) : WkS := if x.2 = 0 then ((emitC x.1 vs).2, (emitC x.1 vs).1) else x
def layP (op c : Int) (x : WkS) : Int × WkS := (wrap64 ((emiP [op, c] x).1.here - 8), emiP [op, c] x)
def setP (a : Int) (x : WkS) : WkS := if x.2 = 0 then ((patC x.1 a x.1.here).2, (patC x.1 a x.1.here).1) else x
def hidB (s : St) : Bool := decide (0 < s.words.length) && (s.words.getD (s.words.length - 1) default).hid
def ownP (x : WkS) : Int × WkS := if hidB x.1 = true then ((x.1.words.getD (x.1.words.length - 1) default).code, x) else (0, x.1, holP false (-22) x.2)

/-! ### the words -/
def opeW (op k : Int) (x : WkS) : WkS := putP k (layP op 0 (rooP 1 x)).1 (layP op 0 (rooP 1 x)).2
def gobW (op : Int) (x : WkS) : WkS := (layP op ((wanP [2] x).1.getD 0 0) (wanP [2] x).2).2
def cloW (op : Int) (x : WkS) : WkS := setP ((wanP [3] x).1.getD 0 0) (layP op (wrap64 ((wanP [3] x).1.getD 0 0 + 8)) (wanP [3] x).2).2
def elsW (x : WkS) : WkS := putP 1 (layP 3 0 (wanP [1] x).2).1 (setP ((wanP [1] x).1.getD 0 0) (layP 3 0 (wanP [1] x).2).2)
def theW (x : WkS) : WkS := setP ((wanP [1] x).1.getD 0 0) (wanP [1] x).2
def begW (x : WkS) : WkS := putP 2 (rooP 1 x).1.here (rooP 1 x)
def whiW (x : WkS) : WkS := putP 2 ((wanP [2] x).1.getD 0 0) (putP 1 (layP 4 0 (rooP 2 (wanP [2] x).2)).1 (layP 4 0 (rooP 2 (wanP [2] x).2)).2)
def repW (x : WkS) : WkS := setP ((wanP [2, 1] x).1.getD 1 0) (layP 3 ((wanP [2, 1] x).1.getD 0 0) (wanP [2, 1] x).2).2
def recW (x : WkS) : WkS := emiP [(ownP x).1] (ownP x).2

/-! ### sizes; numbers are cells -/
structure Bd (n : Nat) (x : WkS) : Prop where
  ok : x.1.ok
  mem : x.1.mem.length ≤ 1000000
  spots : x.1.spots.length ≤ 40000 + n
  ctl : x.1.ctl.length ≤ 40000 + n
  thr : C64 x.2
theorem Bd.le {n m : Nat} {x : WkS} (h : Bd n x) (hm : n ≤ m) : Bd m x := ⟨h.ok, h.mem, by have := h.spots; omega, by have := h.ctl; omega, h.thr⟩
theorem getD_c64 {l : List Int} (h : ∀ z ∈ l, C64 z) (i : Nat) : C64 (l.getD i 0) := by
  by_cases hi : i < l.length
  · simp only [List.getD, List.getElem?_eq_getElem hi, Option.getD_some]
    exact h _ (List.getElem_mem hi)
  · simp only [List.getD, List.getElem?_eq_none (by omega : l.length ≤ i), Option.getD_none]
    unfold C64; omega
theorem wrap_c64 (x : Int) : C64 (wrap64 x) := by unfold C64 wrap64; omega
theorem offP_bd {n : Nat} {s : St} {t : Int} (k : Int) (h : Bd n (s, t)) : Bd n ((offP k s).2.2, t) ∧ C64 (offP k s).1 := by
  have h0 : C64 0 := by unfold C64; omega
  unfold offP
  split
  · exact ⟨h, h0⟩
  · split
    · exact ⟨h, h0⟩
    · refine ⟨⟨{ h.ok with ctl := fun z hz => h.ok.ctl z (List.mem_of_mem_take hz) }, h.mem, h.spots, ?_, h.thr⟩, getD_c64 h.ok.ctl _⟩
      have := h.ctl
      show (s.ctl.take _).length ≤ _
      rw [List.length_take]
      exact Nat.le_trans (Nat.min_le_right _ _) this
theorem takP_bd {n : Nat} {t : Int} (ks : List Int) : ∀ s : St, Bd n (s, t) → Bd n ((takP ks s).2.2, t) ∧ ∀ z ∈ (takP ks s).1, C64 z := by
  induction ks with
  | nil => intro s h; exact ⟨h, fun z hz => by cases hz⟩
  | cons k ks ih =>
    intro s h
    have h1 := offP_bd k h
    unfold takP
    split
    · obtain ⟨h2, h3⟩ := ih _ h1.1
      refine ⟨h2, fun z hz => ?_⟩
      rcases List.mem_cons.1 hz with rfl | hz
      · exact h1.2
      · exact h3 z hz
    · exact ⟨h1.1, fun z hz => by cases hz⟩
theorem holP_c64 {b : Bool} {c t : Int} (hc : C64 c) (ht : C64 t) : C64 (holP b c t) := by unfold holP; split <;> assumption
theorem Bd.wan {n : Nat} {x : WkS} (h : Bd n x) (ks : List Int) : Bd n (wanP ks x).2 ∧ ∀ z ∈ (wanP ks x).1, C64 z := by
  obtain ⟨h1, h2⟩ := takP_bd ks x.1 h
  refine ⟨⟨h1.ok, h1.mem, h1.spots, h1.ctl, holP_c64 (by unfold C64; omega) h.thr⟩, ?_⟩
  unfold wanP
  dsimp only
  split
  · exact h2
  · intro z hz; cases hz
theorem Bd.roo {n : Nat} {x : WkS} (h : Bd n x) (m : Nat) : Bd n (rooP m x) := ⟨h.ok, h.mem, h.spots, h.ctl, holP_c64 (by unfold C64; omega) h.thr⟩
theorem Bd.put {n : Nat} {x : WkS} (h : Bd n x) {k a : Int} (hk : C64 k) (ha : C64 a) : Bd (n + 2) (putP k a x) := by
  refine ⟨{ h.ok with ctl := fun z hz => ?_ }, h.mem, by have := h.spots; show x.1.spots.length ≤ _; omega, ?_, h.thr⟩
  · rcases List.mem_append.1 hz with hz | hz
    · exact h.ok.ctl z hz
    · simp at hz
      rcases hz with rfl | rfl <;> assumption
  · have := h.ctl
    show (x.1.ctl ++ [k, a]).length ≤ _
    simp
    omega
theorem emitC_more (vs : List Int) : ∀ s : St, s.ok → s.mem.length ≤ 1000000 → (emitC s vs).2.mem.length ≤ s.mem.length ∧ (emitC s vs).2.spots.length ≤ s.spots.length + vs.length ∧ ((emitC s vs).2.ctl = s.ctl ∨ (emitC s vs).2.ctl = []) ∧ C64 (emitC s vs).1 := by
  induction vs with
  | nil => intro s _ _; exact ⟨Nat.le_refl _, Nat.le_refl _, .inl rfl, by show C64 0; unfold C64; omega⟩
  | cons v vs ih =>
    intro s hk hm
    rw [emitC]
    split
    · refine ⟨Nat.zero_le _, Nat.zero_le _, .inr rfl, ?_⟩
      show C64 (comT s)
      unfold comT
      split
      · unfold C64; omega
      · unfold Me.tC C64; (repeat' split) <;> omega
    · have h := emiS_ok hk hm v (by omega)
      obtain ⟨h1, h2, h3, h4⟩ := ih _ h.1 (by omega)
      refine ⟨by omega, by simp; omega, h3, h4⟩
theorem zero_bd {n : Nat} {t : Int} (ht : C64 t) : Bd n (On.St.zero, t) := ⟨zero_ok, Nat.zero_le _, Nat.zero_le _, Nat.zero_le _, ht⟩
theorem Bd.emi {n : Nat} {x : WkS} (h : Bd n x) {vs : List Int} (hl : vs.length ≤ 2) : Bd (n + 2) (emiP vs x) := by
  unfold emiP
  split
  · obtain ⟨h1, h2, h3, h4⟩ := emitC_more vs x.1 h.ok h.mem
    have := h.mem; have := h.spots; have := h.ctl
    refine ⟨emitC_ok vs _ h.ok h.mem, by show (emitC x.1 vs).2.mem.length ≤ _; omega, by show (emitC x.1 vs).2.spots.length ≤ _; omega, ?_, h4⟩
    show (emitC x.1 vs).2.ctl.length ≤ _
    rcases h3 with h3 | h3
    · rw [h3]; omega
    · rw [h3]; exact Nat.zero_le _
  · exact h.le (by omega)
theorem Bd.lay {n : Nat} {x : WkS} (h : Bd n x) (op c : Int) : Bd (n + 2) (layP op c x).2 ∧ C64 (layP op c x).1 := ⟨h.emi (Nat.le_refl 2), wrap_c64 _⟩
theorem tC_c64 (n : Nat) (p : Int) : C64 (Me.tC n p) := by unfold Me.tC C64; (repeat' split) <;> omega
theorem patC_set {s : St} (hk : s.ok) {a v : Int} : ({ s with mem := Me.setC s.mem a v } : St).ok := { hk with mem := setC_ok _ _ hk.mem }
theorem Bd.set {n : Nat} {x : WkS} (h : Bd n x) (a : Int) : Bd n (setP a x) := by
  unfold setP
  split
  · unfold patC
    split
    · exact zero_bd (tC_c64 _ _)
    · rename_i ht
      refine ⟨patC_set h.ok, ?_, h.spots, h.ctl, by unfold C64; omega⟩
      show (Me.setC x.1.mem a x.1.here).length ≤ _
      rw [setC_len _ (by simpa using ht)]
      exact h.mem
  · exact h
theorem Bd.own {n : Nat} {x : WkS} (h : Bd n x) : Bd n (ownP x).2 ∧ C64 (ownP x).1 := by
  unfold ownP
  split
  · rename_i hh
    refine ⟨h, ?_⟩
    unfold hidB at hh
    have hl : 0 < x.1.words.length := by
      simp at hh
      exact hh.1
    have : x.1.words.getD (x.1.words.length - 1) default ∈ x.1.words := by
      simp only [List.getD, List.getElem?_eq_getElem (show x.1.words.length - 1 < x.1.words.length by omega), Option.getD_some]
      exact List.getElem_mem _
    exact (h.ok.words _ this).2.2
  · exact ⟨⟨h.ok, h.mem, h.spots, h.ctl, holP_c64 (by unfold C64; omega) h.thr⟩, by show C64 0; unfold C64; omega⟩
end Go.Proofs.YtcjbfokindoicaaDoor

/- The work of a word of control flow: the variable that holds it, the state in it; what a step leaves as it was. -/
namespace Go.Proofs.YtcjbfokindoicaaDoor
set_option maxRecDepth 100000
open Go.ChangeShapes Go.WideShapes Go.ChangeAt Go.RowKit
open On (St Hs StIs cst Fl one C64 C8 Sc slc spc Sz wpList_append_run)
set_option linter.unusedVariables false
set_option maxRecDepth 100000

/-- the block of the control stack's row -/
def rowO (h : Hs) : Option Nat := h.ctl.val.ownBlock
/-- the slice lies in no block of these two -/
def OffX (x : Sc) (g : Nat) (r : Option Nat) : Prop := ∀ b o, x.a = some ⟨b, o, none⟩ → 0 < x.n → b ≠ g ∧ some b ≠ r
abbrev wcs (h : Hs) (s : St) (t : Int) : Array Value := #[h.mem.val, h.data.val, h.ret.val, h.ctl.val, h.words.val, h.spots.val, h.out.val, .int .i64 s.ip, .int .i64 s.here, .int .i64 s.pos, .int .i64 s.tok, .int .i64 s.inn, .int .i64 s.err, .bool s.comp, .bool s.halt, .int .i64 t]
/-- the six slices but the control stack -/
structure Offs (h : Hs) (g : Nat) (r : Option Nat) : Prop where
  mem : OffX h.mem g r
  data : OffX h.data g r
  ret : OffX h.ret g r
  words : OffX h.words g r
  spots : OffX h.spots g r
  out : OffX h.out g r
structure Wk (B g : Nat) (W : World) (h : Hs) (x : WkS) : Prop where
  blk : Bx W g 54 (wcs h x.1 x.2)
  is : StIs W h x.1
  off : Offs h g (rowO h)
  own : On.Oz W B 3 1 h.ctl.a h.ctl.n h.ctl.c (x.1.ctl.flatMap (one .i64))
  gB : g < B
  big : B ≤ W.heap.size
/-- all is as it was, but the block g, and the row r -/
structure Stq (g : Nat) (W : World) (r : Option Nat) (W' : World) (r' : Option Nat) : Prop where
  os : W'.os = W.os
  tape : W'.tape = W.tape
  output : W'.output = W.output
  size : W.heap.size ≤ W'.heap.size
  block : ∀ k, k < W.heap.size → k ≠ g → some k ≠ r → W'.heap[k]? = W.heap[k]?
  row : r' = r ∨ ∀ k, r' = some k → W.heap.size ≤ k
theorem Stq.trans {g : Nat} {W W1 W2 : World} {r r1 r2 : Option Nat} (h1 : Stq g W r W1 r1) (h2 : Stq g W1 r1 W2 r2) : Stq g W r W2 r2 := by
  refine ⟨h2.os.trans h1.os, h2.tape.trans h1.tape, h2.output.trans h1.output, Nat.le_trans h1.size h2.size, fun k hk hg hr => ?_, ?_⟩
  · refine (h2.block k (Nat.lt_of_lt_of_le hk h1.size) hg fun hc => ?_).trans (h1.block k hk hg hr)
    rcases h1.row with e | e
    · exact hr (hc.trans e)
    · have := e k hc.symm
      omega
  · rcases h2.row with e | e
    · rw [e]; exact h1.row
    · exact .inr fun k hk => Nat.le_trans h1.size (e k hk)
theorem Stq.of {W W' : World} (hb : Below W.heap.size W W') (g : Nat) (r : Option Nat) : Stq g W r W' r := ⟨hb.os, hb.tape, hb.output, hb.size, fun k hk _ _ => hb.block k hk, .inl rfl⟩
theorem Stq.refl (W : World) (g : Nat) (r : Option Nat) : Stq g W r W r := Stq.of (Below.refl _ _) g r
theorem Stq.to {g : Nat} {W W' : World} {r r' : Option Nat} (h : Stq g W r W' r') {B : Nat} (h1 : B ≤ W.heap.size) (h2 : B ≤ g) (h3 : ∀ k, r = some k → B ≤ k) : Below B W W' :=
  ⟨h.os, h.tape, h.output, h.size, fun k hk => h.block k (by omega) (by omega) (fun hc => by have := h3 k hc.symm; omega)⟩
/-- the six slices but the control stack: as they were, or made since -/
structure FrS (W : World) (h h' : Hs) : Prop where
  mem : FrX W h.mem h'.mem
  data : FrX W h.data h'.data
  ret : FrX W h.ret h'.ret
  words : FrX W h.words h'.words
  spots : FrX W h.spots h'.spots
  out : FrX W h.out h'.out
theorem FrS.refl (W : World) (h : Hs) : FrS W h h := ⟨.inl rfl, .inl rfl, .inl rfl, .inl rfl, .inl rfl, .inl rfl⟩
theorem FrS.ctl (W : World) (h : Hs) (c : Sc) : FrS W h { h with ctl := c } := ⟨.inl rfl, .inl rfl, .inl rfl, .inl rfl, .inl rfl, .inl rfl⟩
theorem FrS.trans {W V : World} {x y z : Hs} (hw : W.heap.size ≤ V.heap.size) (h1 : FrS W x y) (h2 : FrS V y z) : FrS W x z := ⟨h1.mem.trans hw h2.mem, h1.data.trans hw h2.data, h1.ret.trans hw h2.ret, h1.words.trans hw h2.words, h1.spots.trans hw h2.spots, h1.out.trans hw h2.out⟩
theorem FrS.of {W : World} {h h' : Hs} (H : FrA W h h') : FrS W h h' := ⟨H.mem, H.data, H.ret, H.words, H.spots, H.out⟩
/-- a step of the work: its variable, and the control stack's row, may turn -/
structure Stp (g : Nat) (W : World) (h : Hs) (W' : World) (h' : Hs) : Prop where
  q : Stq g W (rowO h) W' (rowO h')
  fr : FrS W h h'
theorem Stp.trans {g : Nat} {W W1 W2 : World} {h h1 h2 : Hs} (a : Stp g W h W1 h1) (b : Stp g W1 h1 W2 h2) : Stp g W h W2 h2 := ⟨a.q.trans b.q, a.fr.trans a.q.size b.fr⟩
theorem Stp.of {W W' : World} (hb : Below W.heap.size W W') (g : Nat) (h : Hs) : Stp g W h W' h := ⟨Stq.of hb g _, FrS.refl _ _⟩
theorem Stp.refl (W : World) (g : Nat) (h : Hs) : Stp g W h W h := Stp.of (Below.refl _ _) g h
/-- a block of another call's own -/
structure Loc (g : Nat) (W : World) (h : Hs) (b : Nat) : Prop where
  lt : b < W.heap.size
  ng : b ≠ g
  nr : some b ≠ rowO h
  off : Offs h b none
theorem Loc.stp {g b : Nat} {W W' : World} {h h' : Hs} (H : Loc g W h b) (s : Stp g W h W' h') : Loc g W' h' b := by
  have key : ∀ {x x' : Sc}, FrX W x x' → OffX x b none → OffX x' b none := fun hf ho c o ha hn => by
    rcases hf with rfl | hf
    · exact ho c o ha hn
    · have h1 := hf _ ha
      have h2 := H.lt
      dsimp only at h1
      exact ⟨by omega, by simp⟩
  refine ⟨Nat.lt_of_lt_of_le H.lt s.q.size, H.ng, fun hc => ?_, key s.fr.mem H.off.mem, key s.fr.data H.off.data, key s.fr.ret H.off.ret, key s.fr.words H.off.words, key s.fr.spots H.off.spots, key s.fr.out H.off.out⟩
  rcases s.q.row with e | e
  · exact H.nr (hc.trans e)
  · have := e b hc.symm
    have := H.lt
    omega
theorem Loc.bx {g b : Nat} {W W' : World} {h h' : Hs} {T : TypeId} {cs : Array Value} (H : Loc g W h b) (s : Stp g W h W' h') (hb : Bx W b T cs) : Bx W' b T cs := (s.q.block b H.lt H.ng H.nr).trans hb
theorem Loc.cell {g b o : Nat} {W W' : World} {h h' : Hs} {v : Value} (H : Loc g W h b) (s : Stp g W h W' h') (hb : W.cell? ⟨b, o, none⟩ = some v) : W'.cell? ⟨b, o, none⟩ = some v := by
  unfold World.cell? at hb ⊢
  simp only [s.q.block b H.lt H.ng H.nr]
  exact hb
theorem Wk.below {B g : Nat} {W W' : World} {h : Hs} {x : WkS} (H : Wk B g W h x) (hb : Below W.heap.size W W') : Wk B g W' h x :=
  ⟨H.blk.below hb H.blk.lt, H.is.below hb, H.off, Oz.below H.own hb, H.gB, Nat.le_trans H.big hb.size⟩
theorem Wk.row_lt {B g : Nat} {W : World} {h : Hs} {x : WkS} (H : Wk B g W h x) {k : Nat} (hk : rowO h = some k) : B ≤ k ∧ k < W.heap.size := by
  unfold rowO at hk
  exact World.ownsRow.lt H.own k hk
theorem Wk.row_ne {B g : Nat} {W : World} {h : Hs} {x : WkS} (H : Wk B g W h x) : some g ≠ rowO h := fun hc => by
  have := (H.row_lt hc.symm).1
  have := H.gB
  omega
/-- a new block is one of another's own -/
theorem Wk.new {B g : Nat} {W W' : World} {h : Hs} {x : WkS} (H : Wk B g W h x) (hb : Below W.heap.size W W') (b : Nat) (h1 : W.heap.size ≤ b) (hs : b < W'.heap.size) : Loc g W' h b := by
  have key : ∀ {α : Type} {f : α → List Value} {z : Nat} {x : Sc} {l : List α}, 0 < z → Fl f z W x l → OffX x b none := fun hz hf c o ha hn => ⟨by have := fl_place hf hz c o ha hn; omega, by simp⟩
  exact ⟨hs, fun hc => by have := H.blk.lt; omega, fun hc => by have := (H.row_lt hc.symm).2; omega, key (by decide) H.is.mem, key (by decide) H.is.data, key (by decide) H.is.ret, key (by decide) H.is.words, key (by decide) H.is.spots, key (by decide) H.is.out⟩
def WEnd (B g : Nat) (W : World) (h : Hs) (x : WkS) (W' : World) : Prop := ∃ h', Wk B g W' h' x ∧ Stp g W h W' h'
theorem WEnd.trans {B g : Nat} {W W1 W2 : World} {h h1 : Hs} {x : WkS} (s : Stp g W h W1 h1) (H : WEnd B g W1 h1 x W2) : WEnd B g W h x W2 := let ⟨h2, a, b⟩ := H; ⟨h2, a, s.trans b⟩
/-- only the block b has turned -/
structure Oth (b : Nat) (W W' : World) : Prop where
  os : W'.os = W.os
  tape : W'.tape = W.tape
  output : W'.output = W.output
  size : W'.heap.size = W.heap.size
  block : ∀ k, k ≠ b → W'.heap[k]? = W.heap[k]?
theorem Oth.setCell (W : World) (b o : Nat) (v : Value) : Oth b W (W.setCell ⟨b, o, none⟩ v) := ⟨rfl, rfl, rfl, by simp [World.setCell], fun k hk => heap_set_other W ⟨b, o, none⟩ v hk⟩
theorem Oth.setRow (W : World) (b : Nat) (cs : Array Value) : Oth b W (W.setRow b cs) := ⟨rfl, rfl, rfl, by simp [World.setRow], fun k hk => setRow_other W b k cs hk⟩
theorem Stp.oth {g b : Nat} {W W1 W2 : World} {h h1 : Hs} (s : Stp g W h W1 h1) (hb : W.heap.size ≤ b) (o : Oth b W1 W2) : Stp g W h W2 h1 :=
  ⟨⟨o.os.trans s.q.os, o.tape.trans s.q.tape, o.output.trans s.q.output, by rw [o.size]; exact s.q.size, fun k hk hg hr => (o.block k (by omega)).trans (s.q.block k hk hg hr), s.q.row⟩, s.fr⟩
theorem Offs.mono {h : Hs} {g : Nat} {r r' : Option Nat} {W : World} {s : St} (H : Offs h g r) (hS : StIs W h s) (hr : r' = r ∨ ∀ k, r' = some k → W.heap.size ≤ k) : Offs h g r' := by
  have key : ∀ {α : Type} {f : α → List Value} {z : Nat} {x : Sc} {l : List α}, 0 < z → Fl f z W x l → OffX x g r → OffX x g r' := fun hz hf ho b o ha hn => by
    refine ⟨(ho b o ha hn).1, fun hc => ?_⟩
    rcases hr with rfl | hr
    · exact (ho b o ha hn).2 hc
    · have := fl_place hf hz b o ha hn
      have := hr b hc.symm
      omega
  exact ⟨key (by decide) hS.mem H.mem, key (by decide) hS.data H.data, key (by decide) hS.ret H.ret, key (by decide) hS.words H.words, key (by decide) hS.spots H.spots, key (by decide) hS.out H.out⟩
/-- the six slices read on, where the blocks g and r alone turned -/
theorem Offs.is {h : Hs} {g : Nat} {r r' : Option Nat} {W W' : World} {s : St} (H : Offs h g r) (hS : StIs W h s) (hs : Stq g W r W' r') {c : Sc} {l : List Int} (hc : Fl (one .i64) 1 W' c l) : StIs W' { h with ctl := c } { s with ctl := l } := by
  have key : ∀ {α : Type} {f : α → List Value} {z : Nat} {x : Sc} {l : List α}, 0 < z → Fl f z W x l → OffX x g r → Fl f z W' x l := fun hz hf ho =>
    fl_other hf fun b o ha hn => hs.block b (fl_place hf hz b o ha hn) (ho b o ha hn).1 (ho b o ha hn).2
  exact ⟨key (by decide) hS.mem H.mem, key (by decide) hS.data H.data, key (by decide) hS.ret H.ret, hc, key (by decide) hS.words H.words, key (by decide) hS.spots H.spots, key (by decide) hS.out H.out⟩
theorem Oz.setCell {w : World} {B n cap z : Nat} {e : TypeId} {a : Option Addr} {vs : List Value} (h : On.Oz w B e z a n cap vs) {p : Addr} (hg : p.block < B) (v : Value) : On.Oz (w.setCell p v) B e z a n cap vs := by
  refine ⟨h.1, ?_⟩
  rcases h.2 with h0 | ⟨g', cap', cur, hv, hB, hg', hr⟩
  · exact .inl h0
  · exact .inr ⟨g', cap', cur, hv, hB, (heap_set_other w p v (k := g') (by omega)).trans hg', hr⟩
theorem stq_set (W : World) (g o : Nat) (v : Value) (r : Option Nat) : Stq g W r (W.setCell ⟨g, o, none⟩ v) r :=
  ⟨rfl, rfl, rfl, by simp [World.setCell], fun k _ hk _ => heap_set_other W ⟨g, o, none⟩ v hk, .inl rfl⟩
theorem Wk.oth {B g b : Nat} {W W' : World} {h : Hs} {x : WkS} (H : Wk B g W h x) (L : Loc g W h b) (o : Oth b W W') : Wk B g W' h x := by
  have key : ∀ {α : Type} {f : α → List Value} {z : Nat} {x : Sc} {l : List α}, Fl f z W x l → OffX x b none → Fl f z W' x l := fun hf ho =>
    fl_other hf fun c o' ha hn => o.block c (ho c o' ha hn).1
  have hown : On.Oz W' B 3 1 h.ctl.a h.ctl.n h.ctl.c (x.1.ctl.flatMap (one .i64)) := by
    have hO := H.own
    have hnr := L.nr
    unfold rowO at hnr
    refine ⟨hO.1, ?_⟩
    rcases hO.2 with h0 | ⟨g', cap', cur, hv, hB, hg', hr⟩
    · exact .inl h0
    · refine .inr ⟨g', cap', cur, hv, hB, (o.block g' fun hc => hnr ?_).trans hg', hr⟩
      rw [show h.ctl.val = _ from hv, hc]
      rfl
  exact ⟨(o.block g (fun hc => L.ng hc.symm)).trans H.blk, ⟨key H.is.mem L.off.mem, key H.is.data L.off.data, key H.is.ret L.off.ret, hown.sz, key H.is.words L.off.words, key H.is.spots L.off.spots, key H.is.out L.off.out⟩, H.off, hown, H.gB, by rw [o.size]; exact H.big⟩
theorem WEnd.oth {B g b : Nat} {W W1 W2 : World} {h : Hs} {x : WkS} (H : WEnd B g W h x W1) (hb : W.heap.size ≤ b) (L : ∀ h1, Stp g W h W1 h1 → Loc g W1 h1 b) (o : Oth b W1 W2) : WEnd B g W h x W2 := let ⟨h1, a, s⟩ := H; ⟨h1, a.oth (L h1 s) o, s.oth hb o⟩
/-- what was thrown is set -/
theorem Wk.thr {B g : Nat} {W : World} {h : Hs} {x : WkS} (H : Wk B g W h x) (t : Int) : WEnd B g W h (x.1, t) (W.setCell ⟨g, 15, none⟩ (.int .i64 t)) := by
  have S := stq_set W g 15 (.int .i64 t) (rowO h)
  have own := Oz.setCell H.own (p := ⟨g, 15, none⟩) H.gB (.int .i64 t)
  exact ⟨h, ⟨H.blk.set 15 _, H.off.is H.is S own.sz, H.off, own, H.gB, Nat.le_trans H.big S.size⟩, ⟨S, FrS.refl _ _⟩⟩
/-- the control stack's header is set -/
theorem Wk.ctl {B g : Nat} {W : World} {h : Hs} {x : WkS} (H : Wk B g W h x) {a : Option Addr} {n c : Nat} {l : List Int} (hr : (Value.slice a n c).ownBlock = rowO h) (ho : On.Oz W B 3 1 a n c (l.flatMap (one .i64))) : WEnd B g W h ({ x.1 with ctl := l }, x.2) (W.setCell ⟨g, 3, none⟩ (.slice a n c)) := by
  have S := stq_set W g 3 (.slice a n c) (rowO h)
  have own := Oz.setCell ho (p := ⟨g, 3, none⟩) H.gB (.slice a n c)
  have he : rowO { h with ctl := ⟨a, n, c⟩ } = rowO h := hr
  refine ⟨{ h with ctl := ⟨a, n, c⟩ }, ⟨H.blk.set 3 _, H.off.is H.is S own.sz, ?_, own, H.gB, Nat.le_trans H.big S.size⟩, ?_⟩
  · rw [he]; exact ⟨H.off.mem, H.off.data, H.off.ret, H.off.words, H.off.spots, H.off.out⟩
  · exact ⟨by rw [he]; exact S, FrS.ctl _ _ _⟩
end Go.Proofs.YtcjbfokindoicaaDoor

/- hold, room, put: what is thrown first stays; a pair is laid on top. -/
namespace Go.Proofs.YtcjbfokindoicaaDoor
set_option maxRecDepth 100000
open Go.ChangeShapes Go.WideShapes Go.ChangeAt Go.RowKit
open On (St Hs StIs cst Fl one C64 C8 Sc slc spc Sz wpList_append_run)
set_option linter.unusedVariables false
set_option maxRecDepth 100000

theorem hold_any {B g : Nat} {W : World} {h : Hs} {x : WkS} (H : Wk B g W h x) (hb : Bd 90 x) (b : Bool) (c : Int) :
    Calls Tryd.prog 61 #[.pointer (some ⟨g, 0, none⟩), .bool b, .int .i64 c] W fun e W' => e = .returned (.tuple #[]) ∧ WEnd B g W h (x.1, holP b c x.2) W' := by
  obtain ⟨s, t⟩ := x
  have c15 := H.blk.cell 15 (v := .int .i64 t) rfl
  have f15 := H.blk.free 15
  have ht := hb.thr
  dsimp only at ht
  have hE := Lib.hid (H.thr c)
  have hN := Lib.hid H
  clear H hb
  cases b
  · by_cases h0 : t = 0
    · subst h0
      have e0 : holP false c 0 = c := rfl
      rw [e0]
      clear e0
      go_enter Tryd.func61, Tryd.ntmps61
      go_wp2
      go_end0
      exact ⟨rfl, hE.out⟩
    · have e0 : holP false c t = t := if_neg (fun hh => h0 hh.2)
      rw [e0]
      have h1 : (t == 0) = false := by simpa using h0
      clear e0 hE h0
      go_enter Tryd.func61, Tryd.ntmps61
      go_wp2
      go_end0
      exact ⟨rfl, ⟨h, hN.out, Stp.refl _ _ _⟩⟩
  · have e0 : holP true c t = t := if_neg (fun hh => by cases hh.1)
    rw [e0]
    clear e0 hE
    go_enter Tryd.func61, Tryd.ntmps61
    go_wp2
    go_end0
    exact ⟨rfl, ⟨h, hN.out, Stp.refl _ _ _⟩⟩
theorem room_any {B g : Nat} {W : World} {h : Hs} {x : WkS} (H : Wk B g W h x) (hb : Bd 90 x) (m : Nat) (hm : m ≤ 10) :
    Calls Tryd.prog 55 #[.pointer (some ⟨g, 0, none⟩), .int .i64 (m : Int)] W fun e W' => e = .returned (.tuple #[]) ∧ WEnd B g W h (rooP m x) W' := by
  have c3 := H.blk.cell 3 (v := h.ctl.val) rfl
  have hl : x.1.ctl.length = h.ctl.n := Fl.len H.is.ctl (fun _ => rfl) (by decide)
  have hbd := H.is.ctl.bd
  have hn := hb.ctl
  rw [hl] at hn
  have e0 : rooP m x = (x.1, holP (decide ((h.ctl.n : Int) + (m : Int) * 2 ≤ 128)) (-3) x.2) := by unfold rooP; rw [hl]
  rw [e0]
  have hC := hold_any H hb (decide ((h.ctl.n : Int) + (m : Int) * 2 ≤ 128)) (-3)
  dsimp only [On.Sc.val] at c3
  by_cases hle : (h.ctl.n : Int) + (m : Int) * 2 ≤ 128
  · rw [decide_eq_true hle] at hC ⊢
    replace hC := Lib.hid hC
    clear e0 hl H hb
    generalize h.ctl.a = ca at *
    generalize h.ctl.c = cc at *
    generalize h.ctl.n = cn at *
    go_enter Tryd.func55, Tryd.ntmps55
    go_wp2_with (go_at_call 61; (with_reducible refine hC.out.mono ?_); rintro e w1 ⟨rfl, hw⟩)
    go_end0
    exact ⟨rfl, hw⟩
  · rw [decide_eq_false hle] at hC ⊢
    replace hC := Lib.hid hC
    clear e0 hl H hb
    generalize h.ctl.a = ca at *
    generalize h.ctl.c = cc at *
    generalize h.ctl.n = cn at *
    go_enter Tryd.func55, Tryd.ntmps55
    go_wp2_with (go_at_call 61; (with_reducible refine hC.out.mono ?_); rintro e w1 ⟨rfl, hw⟩)
    go_end0
    exact ⟨rfl, hw⟩
/-- two integers are appended to a row: where it lies then, what else stays -/
theorem intinf2 : (Tryd.prog.info? 3).map (fun i => (i.zero, i.size, i.bytes)) = some (some (.int .i64 0), 1, 8) := by kernel_rfl
theorem row_block2 (W : World) {i : TypeInfo} {z : Value} (hi : Tryd.prog.info? 3 = some i) (hz0 : i.zero = some z) (hz1 : i.size = 1) (hz2 : i.bytes = 8) (ty : TypeId) {B n cap : Nat} {a : Option Addr} {vs : List Value} {x y : Int} {p : Addr} {v' : Value} {w2 : World}
    (ho : On.Oz W B 3 1 a n cap vs) (hnews : ∀ j u, [Value.int .i64 x, Value.int .i64 y][j]? = some u → W.cell? (p.add j) = some u) (hn : n ≤ 100000)
    (hrun : (Builtin.append_ #[23, 23] ty #[.slice a n cap, .slice (some p) 2 2]).run Tryd.prog W = .ok v' w2) :
    v'.ownBlock = (Value.slice a n cap).ownBlock ∨ ∃ k, v'.ownBlock = some k ∧ W.heap.size ≤ k := by
  have hl : [Value.int .i64 x, Value.int .i64 y].length = 2 * i.size := by rw [hz1]; rfl
  have hlen := ho.1
  rcases ho.2 with ⟨hv, h0⟩ | ⟨g, cap', cur, hv, hbg, hgg, hnc, hcm, hcs, htake⟩
  · simp only [Value.slice.injEq] at hv
    obtain ⟨rfl, rfl, rfl⟩ := hv
    have hr := run_append_nil (P := Tryd.prog) W 23 ty 3 i z Tryd.underlying23 hi hz0 p 2 2 [.int .i64 x, .int .i64 y] hl hnews (by omega) (by omega) (by rw [hz2]; omega)
    rw [hr] at hrun
    simp only [Result.ok.injEq] at hrun
    obtain ⟨rfl, _⟩ := hrun
    exact .inr ⟨_, rfl, Nat.le_refl _⟩
  · simp only [Value.slice.injEq, true_and] at hv
    obtain ⟨rfl, rfl⟩ := hv
    by_cases hroom : n + 2 ≤ cap
    · have hr := run_append_room (P := Tryd.prog) W 23 ty 3 i Tryd.underlying23 hi g n cap cur hgg p 2 2 [.int .i64 x, .int .i64 y] hl hnews (fun u hu => by simp at hu; rcases hu with rfl | rfl <;> rfl) hroom (by rw [hz1, hcs]; simp; omega)
      rw [hr] at hrun
      simp only [Result.ok.injEq] at hrun
      obtain ⟨rfl, _⟩ := hrun
      exact .inl rfl
    · have hr := run_append_grow (P := Tryd.prog) W 23 ty 3 i z Tryd.underlying23 hi hz0 ⟨g, 0, none⟩ n cap vs (by rw [hz1]; exact hlen) (World.ownsRow.cells ho (g := g) rfl) p 2 2 [.int .i64 x, .int .i64 y] hl hnews (by omega) (by omega) (growslice_fits (by omega) (by rw [hz2]; omega))
      rw [hr] at hrun
      simp only [Result.ok.injEq] at hrun
      obtain ⟨rfl, _⟩ := hrun
      exact .inr ⟨_, rfl, Nat.le_refl _⟩
theorem pair_app {w : World} {B n cap : Nat} {a : Option Addr} {vs : List Value} (x y : Int) (h : On.Oz w B 3 1 a n cap vs) (hn : n ≤ 100000) (hB : B ≤ w.heap.size) (ty : TypeId) :
    ∃ a' cap' w2, (Builtin.append_ #[23, 23] ty #[.slice a n cap, .slice (some ⟨w.heap.size, 0, none⟩) 2 2]).run Tryd.prog (w.alloc (.cells #[.int .i64 x, .int .i64 y] 3)) = .ok (.slice a' (n + 2) cap') w2 ∧ On.Oz w2 B 3 1 a' (n + 2) cap' (vs ++ [.int .i64 x, .int .i64 y]) ∧
      (w.alloc (.cells #[.int .i64 x, .int .i64 y] 3)).grownBy w2 (Value.slice a n cap).ownBlock ∧ ((Value.slice a' (n + 2) cap').ownBlock = (Value.slice a n cap).ownBlock ∨ ∃ k, (Value.slice a' (n + 2) cap').ownBlock = some k ∧ (w.alloc (.cells #[.int .i64 x, .int .i64 y] 3)).heap.size ≤ k) := by
  obtain ⟨i, hi, hz0, hz1, hz2⟩ := info_parts intinf2
  have ho := h.alloc (.cells #[.int .i64 x, .int .i64 y] 3)
  have hs : Sz (w.alloc (.cells #[.int .i64 x, .int .i64 y] 3)) 1 (some ⟨w.heap.size, 0, none⟩) 2 2 [.int .i64 x, .int .i64 y] := (On.Oz.full w w.heap.size 3 1 (Nat.le_refl _) #[.int .i64 x, .int .i64 y] 2 (by decide) rfl).sz
  obtain ⟨v', w2, hrun, h2, hg, hne⟩ := run_append_own (P := Tryd.prog) (w.alloc (.cells #[.int .i64 x, .int .i64 y] 3)) B 23 ty 3 i _ 1 8 Tryd.underlying23 hi hz0 hz1 hz2 rfl (by decide) _ n _ ho ⟨w.heap.size, 0, none⟩ 2 2 [.int .i64 x, .int .i64 y] rfl (fun j v hj => by
    obtain ⟨b, o, hab, hc⟩ := hs.cells (by decide)
    have e := Option.some.inj hab
    rw [e, add_plain]
    exact hc j v hj) (fun u hu => by simp at hu; rcases hu with rfl | rfl <;> rfl) (by unfold maxLen; omega) (by omega) (by simp; omega)
  have hblk := row_block2 (w.alloc (.cells #[.int .i64 x, .int .i64 y] 3)) hi hz0 hz1 hz2 ty ho (fun j u hj => by
    obtain ⟨b, o, hab, hc⟩ := hs.cells (by decide)
    have e := Option.some.inj hab
    rw [e, add_plain]
    exact hc j u hj) (by omega) hrun
  obtain ⟨a', cap', rfl⟩ : ∃ a' cap', v' = .slice a' (n + 2) cap' := by
    rcases h2.2 with ⟨hv, h0⟩ | ⟨g, cap, cur, hv, _⟩
    · exact ⟨none, 0, by rw [hv, h0]⟩
    · exact ⟨_, cap, hv⟩
  exact ⟨a', cap', w2, hrun, h2, hg, hblk⟩
/-- what put makes: ahead of its store, and behind it -/
theorem Wk.app {B g : Nat} {W : World} {h : Hs} {x : WkS} (H : Wk B g W h x) (hn : h.ctl.n ≤ 100000) (k a : Int) (ty : TypeId) :
    ∃ a' cap' w2, (Builtin.append_ #[23, 23] ty #[.slice h.ctl.a h.ctl.n h.ctl.c, .slice (some ⟨W.heap.size, 0, none⟩) 2 2]).run Tryd.prog (W.alloc (.cells #[.int .i64 k, .int .i64 a] 3)) = .ok (.slice a' (h.ctl.n + 2) cap') w2 ∧
      (∃ v, w2.cell? ⟨g, 3, none⟩ = some v) ∧ w2.frozen? ⟨g, 3, none⟩ = false ∧ WEnd B g W h (putP k a x) (w2.setCell ⟨g, 3, none⟩ (.slice a' (h.ctl.n + 2) cap')) := by
  obtain ⟨a', cap', w2, hrun, ho, hg, hblk⟩ := pair_app k a H.own hn H.big ty
  have hA : Below W.heap.size W (W.alloc (.cells #[.int .i64 k, .int .i64 a] 3)) := (Below.refl _ _).alloc (Nat.le_refl _) _
  have HA := H.below hA
  have S1 : Stq g W (rowO h) w2 (Value.slice a' (h.ctl.n + 2) cap').ownBlock := (Stq.of hA g (rowO h)).trans ⟨hg.os, hg.tape, hg.output, hg.size, fun q hq _ hr => hg.block q hq hr, by
    rcases hblk with e | ⟨q, e, hq⟩
    · exact .inl e
    · exact .inr fun q' hq' => by rw [e] at hq'; injection hq' with hq'; omega⟩
  have hb2 : Bx w2 g 54 (wcs h x.1 x.2) := (hg.block g HA.blk.lt H.row_ne).trans HA.blk
  have S2 := stq_set w2 g 3 (.slice a' (h.ctl.n + 2) cap') (Value.slice a' (h.ctl.n + 2) cap').ownBlock
  have hfm : (x.1.ctl ++ [k, a]).flatMap (one .i64) = x.1.ctl.flatMap (one .i64) ++ [.int .i64 k, .int .i64 a] := by rw [List.flatMap_append]; rfl
  have ho' : On.Oz w2 B 3 1 a' (h.ctl.n + 2) cap' ((x.1.ctl ++ [k, a]).flatMap (one .i64)) := by rw [hfm]; exact ho
  have own := Oz.setCell ho' (p := ⟨g, 3, none⟩) H.gB (.slice a' (h.ctl.n + 2) cap')
  have S := S1.trans S2
  have he : rowO { h with ctl := ⟨a', h.ctl.n + 2, cap'⟩ } = (Value.slice a' (h.ctl.n + 2) cap').ownBlock := rfl
  have hof := H.off.mono H.is S.row
  have hB3 : Bx (w2.setCell ⟨g, 3, none⟩ (.slice a' (h.ctl.n + 2) cap')) g 54 (wcs { h with ctl := ⟨a', h.ctl.n + 2, cap'⟩ } { x.1 with ctl := x.1.ctl ++ [k, a] } x.2) := hb2.set 3 _
  have hI3 : StIs (w2.setCell ⟨g, 3, none⟩ (.slice a' (h.ctl.n + 2) cap')) { h with ctl := ⟨a', h.ctl.n + 2, cap'⟩ } { x.1 with ctl := x.1.ctl ++ [k, a] } := H.off.is H.is S (c := ⟨a', h.ctl.n + 2, cap'⟩) own.sz
  have hEnd : WEnd B g W h ({ x.1 with ctl := x.1.ctl ++ [k, a] }, x.2) (w2.setCell ⟨g, 3, none⟩ (.slice a' (h.ctl.n + 2) cap')) := ⟨{ h with ctl := ⟨a', h.ctl.n + 2, cap'⟩ }, ⟨hB3, hI3, by rw [he]; exact ⟨hof.mem, hof.data, hof.ret, hof.words, hof.spots, hof.out⟩, own, H.gB, Nat.le_trans H.big S.size⟩, ⟨by rw [he]; exact S, FrS.ctl _ _ _⟩⟩
  exact ⟨a', cap', w2, hrun, ⟨_, hb2.cell 3 rfl⟩, hb2.free 3, hEnd⟩
set_option maxHeartbeats 2000000 in
theorem put_any {B g : Nat} {W : World} {h : Hs} {x : WkS} (H : Wk B g W h x) (hb : Bd 90 x) (k a : Int) :
    Calls Tryd.prog 56 #[.pointer (some ⟨g, 0, none⟩), .int .i64 k, .int .i64 a] W fun e W' => e = .returned (.tuple #[]) ∧ WEnd B g W h (putP k a x) W' := by
  have c3 := H.blk.cell 3 (v := h.ctl.val) rfl
  have hl : x.1.ctl.length = h.ctl.n := Fl.len H.is.ctl (fun _ => rfl) (by decide)
  have hn := hb.ctl
  rw [hl] at hn
  have hA := fun ty => H.app (by omega) k a ty
  clear hl H hb
  dsimp only [On.Sc.val] at c3
  generalize putP k a x = y at *
  generalize hhc : h.ctl = hc at *
  obtain ⟨ca, cn, cc⟩ := hc
  dsimp only at c3 hA hn
  obtain ⟨a', cap', w2, hrun, ⟨v0, g3⟩, f3, hE⟩ := hA 23
  replace hE := Lib.hid hE
  clear hA hhc
  go_enter Tryd.func56, Tryd.ntmps56
  go_wp2_with (refine wpList_append_run rfl (.tmp 11) (.tmp 14) 23 rfl _ _ _ rfl rfl hrun ?_)
  go_end0
  exact ⟨rfl, hE.out⟩
end Go.Proofs.YtcjbfokindoicaaDoor

/- off, taken, want: pairs come off the control stack. -/
namespace Go.Proofs.YtcjbfokindoicaaDoor
set_option maxRecDepth 100000
open Go.ChangeShapes Go.WideShapes Go.ChangeAt Go.RowKit
open On (St Hs StIs cst Fl one C64 C8 Sc slc spc Sz wpList_append_run)
set_option linter.unusedVariables false
set_option maxRecDepth 100000

theorem isz (w : World) : (Go.sizeOf 3).run Tryd.prog w = .ok 1 w := by kernel_rfl
theorem cut_ints (b o n c m : Nat) (hm : m ≤ n) (hc : n ≤ c) (W : World) : (Instr.slice 23 (.slice (some ⟨b, o, none⟩) n c) none (some (.int .i64 (m : Int))) none).run Tryd.prog W = .ok (.slice (some ⟨b, o, none⟩) m c) W := by
  have ht' : Tryd.prog.underlying 23 = some (.slice (Tryd.prog.elem 23)) := by simp [Program.elem, Tryd.underlying23]
  have he : Tryd.prog.elem 23 = 3 := by simp [Program.elem, Tryd.underlying23]
  rw [run_slice_h W 23 _ _ _ ht' .i64 _ (by omega) (by omega), he, isz]
  simp [Result.andThen, sliced, add_plain]
theorem own_cut {w : World} {B n cap : Nat} {e : TypeId} {a : Option Addr} {vs : List Value} (h : On.Oz w B e 1 a n cap vs) (m : Nat) (hm : m ≤ n) (ha : a ≠ none) : On.Oz w B e 1 a m cap (vs.take m) := by
  have hl := h.1
  rcases h.2 with ⟨hv, h0⟩ | ⟨g, cap', cur, hv, hB, hg, hnc, hcm, hs, ht⟩
  · simp only [Value.slice.injEq] at hv
    exact absurd hv.1 ha
  · simp only [Value.slice.injEq, true_and] at hv
    obtain ⟨rfl, rfl⟩ := hv
    refine ⟨by rw [List.length_take]; omega, .inr ⟨g, cap, cur, rfl, hB, hg, by omega, hcm, hs, ?_⟩⟩
    rw [← ht, List.take_take]
    congr 1
    omega
theorem take_flat (l : List Int) (m : Nat) : (l.take m).flatMap (one .i64) = (l.flatMap (one .i64)).take m := by
  induction l generalizing m with
  | nil => simp
  | cons x l ih =>
    cases m with
    | zero => rfl
    | succ m => simp only [List.take_succ_cons, List.flatMap_cons, ih]; rfl

theorem off_any {B g : Nat} {W : World} {h : Hs} {x : WkS} (H : Wk B g W h x) (hb : Bd 90 x) (k : Int) :
    Calls Tryd.prog 60 #[.pointer (some ⟨g, 0, none⟩), .int .i64 k] W fun e W' => e = .returned (.tuple #[.int .i64 (offP k x.1).1, .bool (offP k x.1).2.1]) ∧ WEnd B g W h ((offP k x.1).2.2, x.2) W' := by
  have c3 := H.blk.cell 3 (v := h.ctl.val) rfl
  have f3 := H.blk.free 3
  have hl : x.1.ctl.length = h.ctl.n := Fl.len H.is.ctl (fun _ => rfl) (by decide)
  have hbd := H.is.ctl.bd
  have hn := hb.ctl
  rw [hl] at hn
  dsimp only [On.Sc.val] at c3
  by_cases h2 : h.ctl.n < 2
  · have e0 : offP k x.1 = (0, false, x.1) := by unfold offP; rw [if_pos (by omega)]
    rw [e0]
    have hN : Hid (WEnd B g W h x W) := Lib.hid ⟨h, H, Stp.refl _ _ _⟩
    clear e0 hl H hb f3
    generalize h.ctl.a = ca at *
    generalize h.ctl.c = cc at *
    generalize h.ctl.n = cn at *
    go_enter Tryd.func60, Tryd.ntmps60
    go_wp2
    go_ret2
    exact ⟨rfl, hN.out⟩
  · obtain ⟨q, hq⟩ : ∃ q : Nat, q + 2 = h.ctl.n := ⟨h.ctl.n - 2, by omega⟩
    have hqi : (h.ctl.n : Int) - 2 = (q : Int) := by omega
    obtain ⟨b, o, ha, p0⟩ := ints_cell H.is.ctl (i := q) (by omega)
    obtain ⟨b', o', ha', p1⟩ := ints_cell H.is.ctl (i := q + 1) (by omega)
    obtain ⟨rfl, rfl⟩ : b = b' ∧ o = o' := by rw [ha] at ha'; simpa using ha'
    have hqlt : q < h.ctl.n := by omega
    by_cases hv : x.1.ctl.getD q 0 = k
    · have e0 : offP k x.1 = (x.1.ctl.getD (q + 1) 0, true, { x.1 with ctl := x.1.ctl.take q }) := by
        unfold offP
        rw [if_neg (by omega), hl, show h.ctl.n - 2 = q by omega, if_neg (by simpa using hv), show h.ctl.n - 1 = q + 1 by omega]
      rw [e0]
      have hcut := cut_ints b o h.ctl.n h.ctl.c q (by omega) hbd.2.2
      have hE : Hid (WEnd B g W h ({ x.1 with ctl := x.1.ctl.take q }, x.2) (W.setCell ⟨g, 3, none⟩ (.slice (some ⟨b, o, none⟩) q h.ctl.c))) := Lib.hid (H.ctl (by unfold rowO On.Sc.val; rw [ha]; rfl) (by rw [take_flat, ← ha]; exact own_cut H.own q (by omega) (by rw [ha]; simp)))
      have hvk : (x.1.ctl.getD q 0 != k) = false := by simpa using hv
      have hqb : (q : Int) + 1 < (h.ctl.n : Int) := by omega
      have hqq : ((q + 1 : Nat) : Int) = (q : Int) + 1 := by omega
      rw [ha] at c3
      clear e0 hl H hb ha ha' hv
      generalize h.ctl.c = cc at *
      generalize h.ctl.n = cn at *
      generalize x.1.ctl.getD q 0 = v0 at *
      generalize x.1.ctl.getD (q + 1) 0 = v1 at *
      go_enter Tryd.func60, Tryd.ntmps60
      go_wp2
      go_ret2
      exact ⟨rfl, hE.out⟩
    · have e0 : offP k x.1 = (0, false, x.1) := by
        unfold offP
        rw [if_neg (by omega), hl, show h.ctl.n - 2 = q by omega, if_pos hv]
      rw [e0]
      have hN : Hid (WEnd B g W h x W) := Lib.hid ⟨h, H, Stp.refl _ _ _⟩
      have hvk : (x.1.ctl.getD q 0 != k) = true := by simpa using hv
      rw [ha] at c3
      clear e0 hl H hb f3 ha ha' hv p1
      generalize h.ctl.c = cc at *
      generalize h.ctl.n = cn at *
      generalize x.1.ctl.getD q 0 = v0 at *
      go_enter Tryd.func60, Tryd.ntmps60
      go_wp2
      go_ret2
      exact ⟨rfl, hN.out⟩
end Go.Proofs.YtcjbfokindoicaaDoor

/- taken, want: pairs come off one by one, by a method value, into an array. -/
namespace Go.Proofs.YtcjbfokindoicaaDoor
set_option maxRecDepth 100000
open Go.ChangeShapes Go.WideShapes Go.ChangeAt Go.RowKit
open On (St Hs StIs cst Fl one C64 C8 Sc slc spc Sz wpList_append_run)
set_option linter.unusedVariables false
set_option maxRecDepth 100000

/-- an array of two addresses -/
abbrev padA (l : List Int) : Array Value := #[.int .i64 (l.getD 0 0), .int .i64 (l.getD 1 0)]
theorem a2info : (Tryd.prog.info? 78).map (·.size) = some 2 := by kernel_rfl
theorem mkfo (fn : Fn) (first cap : Array Value) (w : World) : (Instr.makeFunc fn first cap).run Tryd.prog w = .ok (.func fn first cap) w := rfl
/-- what taken tells of it -/
def takA (r : List Int × Bool × St) : List Int := if r.2.1 = true then r.1 else []
theorem takP_cons (k : Int) (ks : List Int) (s : St) : takP (k :: ks) s = if (offP k s).2.1 = true then ((offP k s).1 :: (takP ks (offP k s).2.2).1, (takP ks (offP k s).2.2).2) else ([], false, (offP k s).2.2) := rfl
theorem takP_len (ks : List Int) : ∀ s, (takP ks s).1.length ≤ ks.length := by
  induction ks with
  | nil => intro s; exact Nat.le_refl _
  | cons k ks ih =>
    intro s
    unfold takP
    split
    · have := ih (offP k s).2.2
      simp; omega
    · exact Nat.zero_le _
theorem Bx.two {W : World} {b : Nat} {T : TypeId} {x y : Value} (h : Bx W b T #[x, y]) (u v : Value) : W.cell? ⟨b, 0, none⟩ = some x ∧ W.cell? ⟨b, 1, none⟩ = some y ∧ W.frozen? ⟨b, 0, none⟩ = false ∧ W.frozen? ⟨b, 1, none⟩ = false ∧ (W.setCell ⟨b, 0, none⟩ u).cell? ⟨b, 1, none⟩ = some y ∧ (W.setCell ⟨b, 0, none⟩ u).frozen? ⟨b, 1, none⟩ = false ∧ Bx ((W.setCell ⟨b, 0, none⟩ u).setCell ⟨b, 1, none⟩ v) b T #[u, v] :=
  ⟨h.cell 0 rfl, h.cell 1 rfl, h.free 0, h.free 1, (h.set 0 u).cell 1 rfl, (h.set 0 u).free 1, (h.set 0 u).set 1 v⟩
theorem Oth.two (W : World) (b : Nat) (u v : Value) : Oth b W ((W.setCell ⟨b, 0, none⟩ u).setCell ⟨b, 1, none⟩ v) := by
  have a := Oth.setCell W b 0 u
  have c := Oth.setCell (W.setCell ⟨b, 0, none⟩ u) b 1 v
  exact ⟨c.os.trans a.os, c.tape.trans a.tape, c.output.trans a.output, c.size.trans a.size, fun k hk => (c.block k hk).trans (a.block k hk)⟩
/-- a row of constants, of another call's own -/
structure Kin (g : Nat) (W : World) (h : Hs) (kb : Nat) (ks : List Int) : Prop where
  loc : Loc g W h kb
  at' : ∀ i, i < ks.length → W.cell? ⟨kb, i, none⟩ = some (.int .i64 (ks.getD i 0))
theorem Kin.stp {g kb : Nat} {W W' : World} {h h' : Hs} {ks : List Int} (H : Kin g W h kb ks) (s : Stp g W h W' h') : Kin g W' h' kb ks := ⟨H.loc.stp s, fun i hi => H.loc.cell s (H.at' i hi)⟩
set_option maxHeartbeats 1000000 in
theorem taken_any {B g : Nat} {W : World} {h : Hs} {x : WkS} (H : Wk B g W h x) (hb : Bd 90 x) (kb : Nat) (ks : List Int) (hK : Kin g W h kb ks) (hk2 : ks.length ≤ 2) :
    Calls Tryd.prog 59 #[.func (.func 60) #[.pointer (some ⟨g, 0, none⟩)] #[], .slice (some ⟨kb, 0, none⟩) ks.length ks.length] W fun e W' => e = .returned (.tuple #[.agg (padA (takA (takP ks x.1))), .bool (takP ks x.1).2.1]) ∧ WEnd B g W h ((takP ks x.1).2.2, x.2) W' := by
  obtain ⟨s, t⟩ := x
  dsimp only at *
  have hA : Below W.heap.size W (W.alloc (.cells #[.int .i64 0, .int .i64 0] 78)) := (Below.refl _ _).alloc (Nat.le_refl _) _
  have r1 := Lib.hid (H.below hA)
  have r2 := Lib.hid (Stp.of hA g h)
  have r3 := Lib.hid (H.new hA W.heap.size (Nat.le_refl _) (by simp))
  have r4 := Lib.hid (Bx.new W 78 #[.int .i64 0, .int .i64 0])
  have r5 := Lib.hid hK
  have r6 := Lib.hid hb
  obtain ⟨m, hm⟩ : ∃ m : Nat, m = ks.length := ⟨_, rfl⟩
  rw [← hm] at hk2 ⊢
  have hmm := Lib.hid hm
  clear H hA hK hb hm
  go_enter Tryd.func59, Tryd.ntmps59
  go_wp2
  go_loopw [5, 10] (fun are i wr => ∃ (k : Nat) (h' : Hs) (s' : St) (dn : List Int) (bb : Bool), k ≤ m ∧ are = .bool bb ∧ i = .int .i64 (k : Int) ∧ Hid (dn.length = k) ∧ Hid (takP ks s = (dn ++ (takP (ks.drop k) s').1, (takP (ks.drop k) s').2)) ∧ Hid (Wk B g wr h' (s', t)) ∧ Hid (Stp g W h wr h') ∧ Hid (Loc g wr h' W.heap.size) ∧ Hid (Bx wr W.heap.size 78 (padA dn)) ∧ Hid (Bd 90 (s', t))) (fun _ i _ => m - (intOf i).toNat)
  case atStart => exact ⟨0, h, s, [], false, Nat.zero_le _, rfl, rfl, Lib.hid rfl, Lib.hid rfl, r1, r2, r3, r4, r6⟩
  case round =>
    obtain ⟨k, h', s', dn, bb, hk, rfl, rfl, e0, e1, q1, q2, q3, q4, q5⟩ := hrel
    clear r1 r2 r3 r4 r6
    by_cases h1 : k < m
    · have p0 := (r5.out.stp q2.out).at' k (by have := hmm.out; omega)
      have hdrop : ks.drop k = ks.getD k 0 :: ks.drop (k + 1) := by
        have := hmm.out
        rw [List.drop_eq_getElem_cons (by omega)]
        simp [List.getD, show k < ks.length by omega]
      have hO := off_any q1.out q5.out (ks.getD k 0)
      have e2 := e1.out
      rw [hdrop] at e2
      have hbo := (offP_bd (t := t) (ks.getD k 0) q5.out)
      generalize ks.getD k 0 = kk at *
      clear hdrop e1
      rw [takP_cons] at e2
      cases hc : (offP kk s').2.1 with
      | true =>
        rw [if_pos hc] at e2
        rw [hc] at hO
        obtain ⟨a, ha⟩ : ∃ a, a = (offP kk s').1 := ⟨_, rfl⟩
        obtain ⟨s2, hs2⟩ : ∃ s2, s2 = (offP kk s').2.2 := ⟨_, rfl⟩
        rw [← ha, ← hs2] at hO e2 hbo
        clear ha hs2 hc
        have hO' := Lib.hid (hO.mono (R' := fun e w1 => e = .returned (.tuple #[.int .i64 a, .bool true]) ∧ (∃ v, w1.cell? ⟨W.heap.size, k, none⟩ = some v) ∧ w1.frozen? ⟨W.heap.size, k, none⟩ = false ∧ ∃ h2, Hid (Wk B g (w1.setCell ⟨W.heap.size, k, none⟩ (.int .i64 a)) h2 (s2, t)) ∧ Hid (Stp g W h (w1.setCell ⟨W.heap.size, k, none⟩ (.int .i64 a)) h2) ∧ Hid (Loc g (w1.setCell ⟨W.heap.size, k, none⟩ (.int .i64 a)) h2 W.heap.size) ∧ Hid (Bx (w1.setCell ⟨W.heap.size, k, none⟩ (.int .i64 a)) W.heap.size 78 (padA (dn ++ [a])))) fun e w1 hh => by
          obtain ⟨g1, h2, g2, g3⟩ := hh
          have L := q3.out.stp g3
          have bx := q3.out.bx g3 q4.out
          have o := Oth.setCell w1 W.heap.size k (.int .i64 a)
          have hlen := e0.out
          have hk2' : k = 0 ∨ k = 1 := by omega
          refine ⟨g1, ?_, bx.free k, h2, Lib.hid (g2.oth L o), Lib.hid ((q2.out.trans g3).oth (Nat.le_refl _) o), Lib.hid ⟨by rw [o.size]; exact L.lt, L.ng, L.nr, L.off⟩, Lib.hid ?_⟩
          · rcases hk2' with rfl | rfl
            · exact ⟨_, bx.cell 0 rfl⟩
            · exact ⟨_, bx.cell 1 rfl⟩
          · have hb2 := bx.set k (.int .i64 a)
            rcases hk2' with rfl | rfl
            · obtain rfl := List.eq_nil_of_length_eq_zero hlen
              exact hb2
            · obtain ⟨d, rfl⟩ := List.length_eq_one_iff.1 hlen
              exact hb2)
        have e3 : Hid (takP ks s = ((dn ++ [a]) ++ (takP (ks.drop (k + 1)) s2).1, (takP (ks.drop (k + 1)) s2).2)) := Lib.hid (by rw [e2]; simp)
        have e4 : Hid ((dn ++ [a]).length = k + 1) := Lib.hid (by simp; exact e0.out)
        have e5 := Lib.hid hbo.1
        clear hO e2 hbo q1 q2 q3 q4 q5 e0
        go_wp2_with (go_at_call 60; (with_reducible refine hO'.out.mono ?_); rintro e w1 ⟨rfl, ⟨v1, g1⟩, g2, h2, g3, g4, g5, g6⟩)
        exact ⟨⟨k + 1, h2, s2, dn ++ [a], true, by omega, rfl, by go_num, e4, e3, g3, g4, g5, g6, e5⟩, by simp only [intOf]; omega⟩
      | false =>
        rw [if_neg (by rw [hc]; simp)] at e2
        rw [hc] at hO
        obtain ⟨a, ha⟩ : ∃ a, a = (offP kk s').1 := ⟨_, rfl⟩
        obtain ⟨s2, hs2⟩ : ∃ s2, s2 = (offP kk s').2.2 := ⟨_, rfl⟩
        rw [← ha, ← hs2] at hO
        rw [← hs2] at e2
        clear ha hs2 hc hbo
        have hO' := Lib.hid (hO.mono (R' := fun e w1 => e = .returned (.tuple #[.int .i64 a, .bool false]) ∧ (∃ v, w1.cell? ⟨W.heap.size, k, none⟩ = some v) ∧ w1.frozen? ⟨W.heap.size, k, none⟩ = false ∧ (∃ v, (w1.setCell ⟨W.heap.size, k, none⟩ (.int .i64 a)).cell? ⟨W.heap.size, 0, none⟩ = some v) ∧ w1.frozen? ⟨W.heap.size, 0, none⟩ = false ∧ (∃ v, ((w1.setCell ⟨W.heap.size, k, none⟩ (.int .i64 a)).setCell ⟨W.heap.size, 0, none⟩ (.int .i64 0)).cell? ⟨W.heap.size, 1, none⟩ = some v) ∧ w1.frozen? ⟨W.heap.size, 1, none⟩ = false ∧ Hid (Bx (((w1.setCell ⟨W.heap.size, k, none⟩ (.int .i64 a)).setCell ⟨W.heap.size, 0, none⟩ (.int .i64 0)).setCell ⟨W.heap.size, 1, none⟩ (.int .i64 0)) W.heap.size 78 (padA [])) ∧ Hid (WEnd B g W h (s2, t) (((w1.setCell ⟨W.heap.size, k, none⟩ (.int .i64 a)).setCell ⟨W.heap.size, 0, none⟩ (.int .i64 0)).setCell ⟨W.heap.size, 1, none⟩ (.int .i64 0)))) fun e w1 hh => by
          obtain ⟨g1, h2, g2, g3⟩ := hh
          have L := q3.out.stp g3
          have bx := q3.out.bx g3 q4.out
          have o := Oth.setCell w1 W.heap.size k (.int .i64 a)
          have o2 := Oth.two (w1.setCell ⟨W.heap.size, k, none⟩ (.int .i64 a)) W.heap.size (.int .i64 0) (.int .i64 0)
          have hk2' : k = 0 ∨ k = 1 := by omega
          have L2 : Loc g (w1.setCell ⟨W.heap.size, k, none⟩ (.int .i64 a)) h2 W.heap.size := ⟨by rw [o.size]; exact L.lt, L.ng, L.nr, L.off⟩
          have hE : Hid (WEnd B g W h (s2, t) (((w1.setCell ⟨W.heap.size, k, none⟩ (.int .i64 a)).setCell ⟨W.heap.size, 0, none⟩ (.int .i64 0)).setCell ⟨W.heap.size, 1, none⟩ (.int .i64 0))) := Lib.hid ⟨h2, (g2.oth L o).oth L2 o2, ((q2.out.trans g3).oth (Nat.le_refl _) o).oth (Nat.le_refl _) o2⟩
          have bx2 : ∃ x y, Bx (w1.setCell ⟨W.heap.size, k, none⟩ (.int .i64 a)) W.heap.size 78 #[x, y] ∧ ∃ v, w1.cell? ⟨W.heap.size, k, none⟩ = some v := by
            rcases hk2' with rfl | rfl
            · exact ⟨_, _, bx.set 0 _, _, bx.cell 0 rfl⟩
            · exact ⟨_, _, bx.set 1 _, _, bx.cell 1 rfl⟩
          obtain ⟨x, y, b1, v, b2⟩ := bx2
          obtain ⟨c1, c2, c3, c4, c5, c6, c7⟩ := b1.two (.int .i64 0) (.int .i64 0)
          exact ⟨g1, ⟨v, b2⟩, bx.free k, ⟨_, c1⟩, bx.free 0, ⟨_, c5⟩, bx.free 1, Lib.hid c7, hE⟩)
        have e3 : Hid ((takP ks s).2 = (false, s2)) := Lib.hid (by rw [e2])
        clear hO e2 q1 q2 q3 q4 q5 e0
        go_wp2_with (go_at_call 60; (with_reducible refine hO'.out.mono ?_); rintro e w1 ⟨rfl, ⟨v1, g1⟩, g2, ⟨v2, c1⟩, c2, ⟨v3, c3⟩, c4, g4, g5⟩)
        try rw [Exit.noGoto_ret]
        try simp only [Exit.inBlock, Exit.then]
        refine bodyPost_ret (results_row2 rfl _ _ W.heap.size 78 _ _ _ rfl rfl g4.out Tryd.underlying78 rfl a2info) rfl ⟨?_, ?_⟩
        · rw [e3.out, show takA (takP ks s) = [] by unfold takA; rw [e3.out]; rfl]
          rfl
        · rw [e3.out]; exact g5.out
    · obtain rfl : m = k := by omega
      have e3 : Hid (takP ks s = (dn, true, s')) := Lib.hid (by rw [e1.out, List.drop_eq_nil_of_le (by have := hmm.out; omega)]; simp [takP])
      obtain ⟨a0, ha0⟩ : ∃ a0, a0 = dn.getD 0 0 := ⟨_, rfl⟩
      obtain ⟨a1, ha1⟩ : ∃ a1, a1 = dn.getD 1 0 := ⟨_, rfl⟩
      have hpad : padA dn = #[.int .i64 a0, .int .i64 a1] := by rw [ha0, ha1]
      rw [hpad] at q4
      have o2 := Oth.two wr W.heap.size (.int .i64 a0) (.int .i64 a1)
      obtain ⟨c1, c2, c3, c4, c5, c6, c7⟩ := q4.out.two (.int .i64 a0) (.int .i64 a1)
      have g4 := Lib.hid c7
      have g5 : Hid (WEnd B g W h (s', t) ((wr.setCell ⟨W.heap.size, 0, none⟩ (.int .i64 a0)).setCell ⟨W.heap.size, 1, none⟩ (.int .i64 a1))) := Lib.hid ⟨h', q1.out.oth q3.out o2, q2.out.oth (Nat.le_refl _) o2⟩
      have hpad2 := Lib.hid hpad
      clear e1 q1 q2 q3 q4 q5 o2 c7 hpad ha0 ha1
      go_wp2
      try rw [Exit.noGoto_ret]
      try simp only [Exit.inBlock, Exit.then]
      refine bodyPost_ret (results_row2 rfl _ _ W.heap.size 78 _ _ _ rfl rfl g4.out Tryd.underlying78 rfl a2info) rfl ⟨?_, ?_⟩
      · rw [e3.out, show takA (dn, true, s') = dn from rfl, hpad2.out]
        rfl
      · rw [e3.out]; exact g5.out
theorem want_any {B g : Nat} {W : World} {h : Hs} {x : WkS} (H : Wk B g W h x) (hb : Bd 90 x) (kb : Nat) (ks : List Int) (hK : Kin g W h kb ks) (hk2 : ks.length ≤ 2) :
    Calls Tryd.prog 40 #[.pointer (some ⟨g, 0, none⟩), .slice (some ⟨kb, 0, none⟩) ks.length ks.length] W fun e W' => e = .returned (.agg (padA (wanP ks x).1)) ∧ WEnd B g W h (wanP ks x).2 W' := by
  have hA : Below W.heap.size W (W.alloc (.cells #[.int .i64 0, .int .i64 0] 78)) := (Below.refl _ _).alloc (Nat.le_refl _) _
  have S0 := Stp.of hA g h
  have hsz : (W.alloc (.cells #[.int .i64 0, .int .i64 0] 78)).heap.size = W.heap.size + 1 := by simp
  have L0 := H.new hA W.heap.size (Nat.le_refl _) (by rw [hsz]; omega)
  have B0 := Bx.new W 78 #[.int .i64 0, .int .i64 0]
  have hT := taken_any (H.below hA) hb kb ks (hK.stp S0) hk2
  obtain ⟨adr, hadr⟩ : ∃ adr, adr = takA (takP ks x.1) := ⟨_, rfl⟩
  obtain ⟨ok, hok⟩ : ∃ ok, ok = (takP ks x.1).2.1 := ⟨_, rfl⟩
  obtain ⟨s2, hs2⟩ : ∃ s2, s2 = (takP ks x.1).2.2 := ⟨_, rfl⟩
  have hbs := (takP_bd ks x.1 hb).1
  have ew : wanP ks x = (adr, s2, holP ok (-22) x.2) := by rw [hadr, hok, hs2]; rfl
  rw [← hadr, ← hok, ← hs2] at hT
  rw [ew]
  rw [← hs2] at hbs
  clear hadr hok hs2 ew
  obtain ⟨a0, ha0⟩ : ∃ a0, a0 = adr.getD 0 0 := ⟨_, rfl⟩
  obtain ⟨a1, ha1⟩ : ∃ a1, a1 = adr.getD 1 0 := ⟨_, rfl⟩
  have hpad : padA adr = #[.int .i64 a0, .int .i64 a1] := by rw [ha0, ha1]
  rw [hpad] at hT
  show Calls _ _ _ _ fun e W' => e = .returned (.agg (padA adr)) ∧ WEnd B g W h (s2, holP ok (-22) x.2) W'
  rw [hpad]
  clear hpad ha0 ha1
  have hT' := Lib.hid (hT.mono (R' := fun e w1 => e = .returned (.tuple #[.agg #[.int .i64 a0, .int .i64 a1], .bool ok]) ∧ ∃ h1, Hid (Wk B g (w1.alloc (.cells #[.int .i64 a0, .int .i64 a1] 78)) h1 (s2, x.2)) ∧ Hid (Stp g W h (w1.alloc (.cells #[.int .i64 a0, .int .i64 a1] 78)) h1) ∧ Hid (Loc g (w1.alloc (.cells #[.int .i64 a0, .int .i64 a1] 78)) h1 W.heap.size) ∧ Hid (Bx (w1.alloc (.cells #[.int .i64 a0, .int .i64 a1] 78)) W.heap.size 78 #[.int .i64 0, .int .i64 0]) ∧ Hid (Loc g (w1.alloc (.cells #[.int .i64 a0, .int .i64 a1] 78)) h1 w1.heap.size)) fun e w1 hh => by
    obtain ⟨g1, h1, g2, g3⟩ := hh
    have hA1 : Below w1.heap.size w1 (w1.alloc (.cells #[.int .i64 a0, .int .i64 a1] 78)) := (Below.refl _ _).alloc (Nat.le_refl _) _
    have S1 := g3.trans (Stp.of hA1 g h1)
    exact ⟨g1, h1, Lib.hid (g2.below hA1), Lib.hid (S0.trans S1), Lib.hid (L0.stp S1), Lib.hid (L0.bx S1 B0), Lib.hid (g2.new hA1 _ (Nat.le_refl _) (by simp))⟩)
  have hC := Lib.hid (fun (w1 : World) (h1 : Hs) (q : Wk B g w1 h1 (s2, x.2)) => hold_any q hbs ok (-22))
  clear hT hA S0 L0 B0 H hK hb hbs hk2
  have hmk := mkfo
  generalize ks.length = m at *
  go_enter Tryd.func40, Tryd.ntmps40
  go_wp2_with (first
    | (go_at_call 59; (with_reducible refine hT'.out.mono ?_); rintro e w1 ⟨rfl, h1, g2, g3, g4, g5, g6⟩)
    | (go_at_call 61; (with_reducible refine (hC.out _ _ g2.out).mono ?_); rintro e w2 ⟨rfl, h2, k1, k2⟩
       obtain ⟨c1, c2, c3, c4, c5, c6, c7⟩ := (g4.out.bx k2 g5.out).two (.int .i64 a0) (.int .i64 a1)
       obtain ⟨d1, d2, _⟩ := (g6.out.bx k2 (Bx.new w1 78 #[.int .i64 a0, .int .i64 a1])).two (.int .i64 a0) (.int .i64 a1)
       have hE : Hid (WEnd B g W h (s2, holP ok (-22) x.2) ((w2.setCell ⟨W.heap.size, 0, none⟩ (.int .i64 a0)).setCell ⟨W.heap.size, 1, none⟩ (.int .i64 a1))) := Lib.hid ⟨h2, k1.oth (g4.out.stp k2) (Oth.two w2 W.heap.size (.int .i64 a0) (.int .i64 a1)), (g3.out.trans k2).oth (Nat.le_refl _) (Oth.two w2 W.heap.size (.int .i64 a0) (.int .i64 a1))⟩
       replace c7 := Lib.hid c7
       clear k1 k2))
  refine bodyPost_ret (results_row1 rfl _ _ W.heap.size 78 _ _ rfl c7.out Tryd.underlying78 rfl a2info) rfl ⟨rfl, hE.out⟩
end Go.Proofs.YtcjbfokindoicaaDoor

/- emit, settle, lay, own: code is laid, a cell is told, by the work's state. -/
namespace Go.Proofs.YtcjbfokindoicaaDoor
set_option maxRecDepth 100000
open Go.ChangeShapes Go.WideShapes Go.ChangeAt Go.RowKit
open On (St Hs StIs cst Fl one C64 C8 Sc slc spc Sz wpList_append_run)
set_option linter.unusedVariables false
set_option maxRecDepth 100000

theorem row_new (W : World) (vs : List Int) (cur : Array Value) (n : Nat) (hc : cur.toList = vs.flatMap (one .i64)) (hs : cur.size = n * 1) (hn : n ≤ 1000) : Fl (one .i64) 1 (W.alloc (.cells cur 3)) ⟨some ⟨W.heap.size, 0, none⟩, n, n⟩ vs := by
  have h := (On.Oz.full W W.heap.size 3 1 (Nat.le_refl _) cur n (by unfold maxLen; omega) hs).sz
  rw [hc] at h
  exact h
theorem Oth.trans {b : Nat} {W W1 W2 : World} (a : Oth b W W1) (c : Oth b W1 W2) : Oth b W W2 := ⟨c.os.trans a.os, c.tape.trans a.tape, c.output.trans a.output, c.size.trans a.size, fun k hk => (c.block k hk).trans (a.block k hk)⟩
theorem Oth.refl (b : Nat) (W : World) : Oth b W W := ⟨rfl, rfl, rfl, rfl, fun _ _ => rfl⟩
theorem Oth.setCells (b : Nat) : ∀ (l : List Value) (o : Nat) (W : World), Oth b W (W.setCells b o l)
  | [], _, W => Oth.refl b W
  | v :: l, o, W => (Oth.setCell W b o v).trans (Oth.setCells b l (o + 1) _)
def setMany (cs : Array Value) : Nat → List Value → Array Value
  | _, [] => cs
  | o, v :: l => setMany (cs.setIfInBounds o v) (o + 1) l
theorem Bx.many {g : Nat} {T : TypeId} : ∀ (l : List Value) (o : Nat) {W : World} {cs : Array Value}, Bx W g T cs → Bx (W.setCells g o l) g T (setMany cs o l)
  | [], _, _, _, H => H
  | v :: l, o, _, _, H => Bx.many l (o + 1) (H.set o v)
theorem set16 (a0 a1 a2 a3 a4 a5 a6 a7 a8 a9 a10 a11 a12 a13 a14 a15 b0 b1 b2 b3 b4 b5 b6 b7 b8 b9 b10 b11 b12 b13 b14 : Value) : setMany #[a0, a1, a2, a3, a4, a5, a6, a7, a8, a9, a10, a11, a12, a13, a14, a15] 0 [b0, b1, b2, b3, b4, b5, b6, b7, b8, b9, b10, b11, b12, b13, b14] = #[b0, b1, b2, b3, b4, b5, b6, b7, b8, b9, b10, b11, b12, b13, b14, a15] := by simp [setMany]
theorem Bx.state {W : World} {g : Nat} {T : TypeId} {h h' : Hs} {s s' : St} {t : Int} (H : Bx W g T (wcs h s t)) : Bx (W.setCells g 0 (cst h' s').toList) g T (wcs h' s' t) := by
  have h1 := Bx.many (cst h' s').toList 0 H
  rw [show setMany (wcs h s t) 0 (cst h' s').toList = wcs h' s' t from set16 _ _ _ _ _ _ _ _ _ _ _ _ _ _ _ _ _ _ _ _ _ _ _ _ _ _ _ _ _ _ _] at h1
  exact h1
theorem Bx.there {W : World} {g : Nat} {T : TypeId} {h : Hs} {s : St} {t : Int} (H : Bx W g T (wcs h s t)) : W.there g 0 15 := fun j hj => by
  rw [Nat.zero_add]
  refine ⟨?_, H.free j⟩
  have : j < (wcs h s t).size := by show j < 16; omega
  rw [H.cell j (Array.getElem?_eq_getElem this)]
  rfl
theorem Bx.range {W : World} {g : Nat} {T : TypeId} {h : Hs} {s : St} {t : Int} (H : Bx W g T (wcs h s t)) : W.rangeAt g 0 (cst h s).toList := fun j v hv => by
  rw [Nat.zero_add]
  refine H.cell j ?_
  have hj : j < 15 := (List.getElem?_eq_some_iff.1 hv).1
  rw [← hv]
  match j, hj with
  | 0, _ => rfl
  | 1, _ => rfl
  | 2, _ => rfl
  | 3, _ => rfl
  | 4, _ => rfl
  | 5, _ => rfl
  | 6, _ => rfl
  | 7, _ => rfl
  | 8, _ => rfl
  | 9, _ => rfl
  | 10, _ => rfl
  | 11, _ => rfl
  | 12, _ => rfl
  | 13, _ => rfl
  | 14, _ => rfl
/-- a call told a state and what is thrown: both are stored in the work -/
structure Stored (B g : Nat) (W : World) (h : Hs) (w1 : World) (Z : Array Value) (t0 : Int) (y : WkS) : Prop where
  size : Z.size = 15
  one : Z.all (·.oneCell') = true
  there : w1.there g 0 Z.size
  c15 : (w1.setCells g 0 Z.toList).cell? ⟨g, 15, none⟩ = some (.int .i64 t0)
  f15 : (w1.setCells g 0 Z.toList).frozen? ⟨g, 15, none⟩ = false
  fin : WEnd B g W h y ((w1.setCells g 0 Z.toList).setCell ⟨g, 15, none⟩ (.int .i64 y.2))
  d15 : w1.cell? ⟨g, 15, none⟩ = some (.int .i64 t0)
  e15 : w1.frozen? ⟨g, 15, none⟩ = false
  run1 : (storeCells ⟨g, 0, none⟩ Z.toList).run Tryd.prog w1 = .ok () (w1.setCells g 0 Z.toList)
  run2 : (storeCells ⟨g, 0, none⟩ Z.toList).run Tryd.prog (w1.setCell ⟨g, 15, none⟩ (.int .i64 y.2)) = .ok () ((w1.setCell ⟨g, 15, none⟩ (.int .i64 y.2)).setCells g 0 Z.toList)
  fin2 : WEnd B g W h y ((w1.setCell ⟨g, 15, none⟩ (.int .i64 y.2)).setCells g 0 Z.toList)
theorem run_cells {W : World} {g : Nat} {Z : Array Value} (ht : W.there g 0 Z.size) (h1 : Z.all (·.oneCell') = true) : (storeCells ⟨g, 0, none⟩ Z.toList).run Tryd.prog W = .ok () (W.setCells g 0 Z.toList) := by
  have := run_storeCells_cells (P := Tryd.prog) g 0 Z.toList 0 W (fun j hj => by simpa using (ht j (by simpa using hj)).1) (fun j hj => by simpa using (ht j (by simpa using hj)).2)
    (fun v hv => (Array.all_eq_true_iff_forall_mem.1 h1) v (by simpa using hv))
  simpa using this
theorem Wk.store {B g : Nat} {W w1 : World} {h h' : Hs} {s s' : St} {t : Int} (H : Wk B g W h (s, t)) (hb : Below W.heap.size W w1) (hS : StIs w1 h' s') (hF : FrA W h h') (hc : h'.ctl = h.ctl ∨ h'.ctl = On.Sc.none) (hs : s'.ctl = s.ctl ∨ s'.ctl = []) (t' : Int) :
    Stored B g W h w1 (cst h' s') t (s', t') := by
  have H1 := H.below hb
  have b1 := H1.blk
  have b2 : Bx (w1.setCells g 0 (cst h' s').toList) g 54 (wcs h' s' t) := b1.state
  have hrow : rowO h' = rowO h ∨ rowO h' = none := by
    rcases hc with e | e
    · exact .inl (by unfold rowO; rw [e])
    · exact .inr (by unfold rowO; rw [e]; rfl)
  have key : ∀ {x x' : Sc}, FrX W x x' → OffX x g (rowO h) → OffX x' g (rowO h') := fun hf ho b o' ha hn => by
    have hg := H.blk.lt
    rcases hf with rfl | hf
    · obtain ⟨h1, h2⟩ := ho b o' ha hn
      refine ⟨h1, fun hc => ?_⟩
      rcases hrow with e | e
      · exact h2 (hc.trans e)
      · rw [e] at hc; cases hc
    · have h1 := hf _ ha
      dsimp only at h1
      refine ⟨by omega, fun hc => ?_⟩
      rcases hrow with e | e
      · have := (H.row_lt (e ▸ hc.symm)).2
        omega
      · rw [e] at hc; cases hc
  have hoff : Offs h' g (rowO h') := ⟨key hF.mem H.off.mem, key hF.data H.off.data, key hF.ret H.off.ret, key hF.words H.off.words, key hF.spots H.off.spots, key hF.out H.off.out⟩
  have hown1 : On.Oz w1 B 3 1 h'.ctl.a h'.ctl.n h'.ctl.c (s'.ctl.flatMap (one .i64)) := by
    have hl' : s'.ctl.length = h'.ctl.n := Fl.len hS.ctl (fun _ => rfl) (by decide)
    rcases hc with e | e
    · rw [e]
      have hl : s.ctl.length = h.ctl.n := Fl.len H.is.ctl (fun _ => rfl) (by decide)
      have he : s'.ctl = s.ctl := by
        rcases hs with e1 | e1
        · exact e1
        · rw [e1, e] at hl'
          rw [e1]
          exact (List.eq_nil_of_length_eq_zero (by rw [hl, ← hl']; rfl)).symm
      rw [he]
      exact H1.own
    · rw [e] at hl' ⊢
      have he : s'.ctl = [] := List.eq_nil_of_length_eq_zero hl'
      rw [he]
      exact On.Oz.nil _ _ _ _
  have fin_of : ∀ V, Oth g w1 V → Bx V g 54 (wcs h' s' t') → WEnd B g W h (s', t') V := fun V o bV => by
   have hown : On.Oz V B 3 1 h'.ctl.a h'.ctl.n h'.ctl.c (s'.ctl.flatMap (one .i64)) := by
    refine ⟨hown1.1, ?_⟩
    rcases hown1.2 with h0 | ⟨g', cap', cur, hv, hB, hg', hr⟩
    · exact .inl h0
    · exact .inr ⟨g', cap', cur, hv, hB, (o.block g' (by have := H.gB; omega)).trans hg', hr⟩
   have kfl : ∀ {α : Type} {f : α → List Value} {z : Nat} {x : Sc} {l : List α} {r : Option Nat}, Fl f z w1 x l → OffX x g r → Fl f z V x l := fun hf ho => fl_other hf fun b o' ha hn => o.block b (ho b o' ha hn).1
   refine ⟨h', ⟨bV, ⟨kfl hS.mem hoff.mem, kfl hS.data hoff.data, kfl hS.ret hoff.ret, hown.sz, kfl hS.words hoff.words, kfl hS.spots hoff.spots, kfl hS.out hoff.out⟩, hoff, hown, H.gB, by rw [o.size]; exact Nat.le_trans H.big hb.size⟩, ?_⟩
   refine ⟨⟨o.os.trans hb.os, o.tape.trans hb.tape, o.output.trans hb.output, by rw [o.size]; exact hb.size, fun k hk hg _ => (o.block k hg).trans (hb.block k hk), ?_⟩, FrS.of hF⟩
   rcases hrow with e | e
   · exact .inl e
   · exact .inr fun k hk => by rw [e] at hk; cases hk
  have b3 : Bx (w1.setCell ⟨g, 15, none⟩ (.int .i64 t')) g 54 (wcs h s t') := b1.set 15 _
  refine ⟨rfl, cst_one _ _, b1.there, b2.cell 15 rfl, b2.free 15, fin_of _ ((Oth.setCells g (cst h' s').toList 0 w1).trans (Oth.setCell _ g 15 (.int .i64 t'))) (b2.set 15 _), b1.cell 15 rfl, b1.free 15, run_cells b1.there (cst_one _ _), run_cells b3.there (cst_one _ _), fin_of _ ((Oth.setCell w1 g 15 (.int .i64 t')).trans (Oth.setCells g (cst h' s').toList 0 _)) b3.state⟩
theorem Bx.stC {W : World} {g : Nat} {T : TypeId} {h : Hs} {s : St} {t : Int} (H : Bx W g T (wcs h s t)) : StC W g h s :=
  ⟨H.cell 0 rfl, H.cell 1 rfl, H.cell 2 rfl, H.cell 3 rfl, H.cell 4 rfl, H.cell 5 rfl, H.cell 6 rfl, H.cell 7 rfl, H.cell 8 rfl, H.cell 9 rfl, H.cell 10 rfl, H.cell 11 rfl, H.cell 12 rfl, H.cell 13 rfl, H.cell 14 rfl⟩
theorem z15 {Z : Array Value} (h : Z.size = 15) : (Tryd.prog.info? 28).map (·.size) = some Z.size := by rw [h]; exact stinfo
theorem wemit_any {B g : Nat} {W : World} {h : Hs} {x : WkS} (H : Wk B g W h x) (hb : Bd 90 x) (y : Sc) (vs : List Int) (hx : Fl (one .i64) 1 W y vs) (hv : ∀ z ∈ vs, C64 z) (hn : vs.length ≤ 2) :
    Calls Tryd.prog 47 #[.pointer (some ⟨g, 0, none⟩), .slice y.a y.n y.c] W fun e W' => e = .returned (.tuple #[]) ∧ WEnd B g W h (emiP vs x) W' := by
  obtain ⟨s, t⟩ := x
  have c15 := H.blk.cell 15 (v := .int .i64 t) rfl
  have f15 := H.blk.free 15
  by_cases h0 : t = 0
  · subst h0
    have e0 : emiP vs (s, 0) = ((emitC s vs).2, (emitC s vs).1) := if_pos rfl
    rw [e0]
    have rng := Lib.hid H.blk.range
    have hP := Lib.hid ((emit_how h s y vs W H.is hb.ok hb.mem (by have := hb.spots; show s.spots.length ≤ _; dsimp only at this; omega) hx hv (by omega)).mono (R' := fun e w1 => ∃ Z, e = .returned (.tuple #[.agg Z, .int .i64 (emitC s vs).1]) ∧ Hid (Stored B g W h w1 Z 0 ((emitC s vs).2, (emitC s vs).1))) fun e w1 hh => by
      obtain ⟨h', g1, g2, g3, g4, g5⟩ := hh
      exact ⟨_, g1, Lib.hid (H.store g3 g2 g4 g5 (emitC_more vs s hb.ok hb.mem).2.2.1 _)⟩)
    generalize (emitC s vs).1 = t' at *
    generalize (emitC s vs).2 = s' at *
    clear e0 hb hx hv hn H
    obtain ⟨ya, yn, yc⟩ := y
    dsimp only at hP ⊢
    go_enter Tryd.func47, Tryd.ntmps47
    go_wp2_with (first
      | (refine wpList_load_mid rfl 28 (.tmp 14) rfl g 0 rfl (cst h s).toList _ rng.out Tryd.underlying28 rfl stinfo ?_)
      | (go_at_call 64; (with_reducible refine hP.out.mono ?_); rintro e w1 ⟨Z, rfl, hS⟩; obtain ⟨z1, z2, z3, z4, z5, z6, _, _, _, _, _⟩ := hS.out; replace z6 := Lib.hid z6; replace z3 := Lib.hid z3; replace z2 := Lib.hid z2)
      | (refine wpList_store_mid rfl 28 (.tmp 21) (.tmp 18) rfl g 0 _ rfl rfl z3.out (z15 z1) z2.out ?_))
    go_end0
    exact ⟨rfl, z6.out⟩
  · have e0 : emiP vs (s, t) = (s, t) := if_neg h0
    rw [e0]
    have h1 : (t == 0) = false := by simpa using h0
    have ht := hb.thr
    dsimp only at ht
    have hN : Hid (WEnd B g W h (s, t) W) := Lib.hid ⟨h, H, Stp.refl _ _ _⟩
    clear e0 hb hx hv hn H h0
    obtain ⟨ya, yn, yc⟩ := y
    dsimp only
    go_enter Tryd.func47, Tryd.ntmps47
    go_wp2
    go_end0
    exact ⟨rfl, hN.out⟩
theorem patch_how (h : Hs) (s : St) (p v : Int) (w : World) (hS : StIs w h s) (hk : s.ok) (hm : s.mem.length ≤ 1000000) (hp : C64 p) (hv : C64 v) :
    Calls Tryd.prog 58 #[.agg (cst h s), .int .i64 p, .int .i64 v] w (EmHow w h (patC s p v)) := by
  unfold patC
  split
  · exact (patch_no h s p v w hS hk hm hp hv (by assumption)).mono fun e w' H => by
      obtain ⟨h1, h2⟩ := H
      subst h1
      exact ⟨Hs.zero, rfl, StIs.zero _, h2, FrA.zero _ _, .inr rfl⟩
  · exact (patch_okf h s p v w hS hk hm hp hv (by omega)).mono fun e w' H => by
      obtain ⟨x, h1, h2, h3, h4⟩ := H
      have h5 := (hS.below h3).with_mem h2
      exact ⟨_, h1, ⟨h5.mem, h5.data, h5.ret, h5.ctl, h5.words, h5.spots, h5.out⟩, h3, ⟨.inr h4, .inl rfl, .inl rfl, .inl rfl, .inl rfl, .inl rfl, .inl rfl⟩, .inl rfl⟩
theorem patC_ctl (s : St) (p v : Int) : (patC s p v).2.ctl = s.ctl ∨ (patC s p v).2.ctl = [] := by
  unfold patC
  split
  · exact .inr rfl
  · exact .inl rfl
theorem settle_any {B g : Nat} {W : World} {h : Hs} {x : WkS} (H : Wk B g W h x) (hb : Bd 90 x) (a : Int) (ha : C64 a) :
    Calls Tryd.prog 39 #[.pointer (some ⟨g, 0, none⟩), .int .i64 a] W fun e W' => e = .returned (.tuple #[]) ∧ WEnd B g W h (setP a x) W' := by
  obtain ⟨s, t⟩ := x
  have c15 := H.blk.cell 15 (v := .int .i64 t) rfl
  have f15 := H.blk.free 15
  by_cases h0 : t = 0
  · subst h0
    have e0 : setP a (s, 0) = ((patC s a s.here).2, (patC s a s.here).1) := if_pos rfl
    rw [e0]
    have hd : Below W.heap.size W W.drew := (Below.refl _ _).drew
    have Hd := H.below hd
    obtain ⟨k0, k1, k2, k3, k4, k5, k6, k7, k8, k9, k10, k11, k12, k13, k14⟩ := Hd.blk.stC
    have hhe := hb.ok.here
    dsimp only at hhe
    have hP := Lib.hid ((patch_how h s a s.here W.drew Hd.is hb.ok hb.mem ha hhe).mono (R' := fun e w1 => ∃ Z, e = .returned (.tuple #[.agg Z, .int .i64 (patC s a s.here).1]) ∧ Hid (Stored B g W h w1 Z 0 ((patC s a s.here).2, (patC s a s.here).1))) fun e w1 hh => by
      obtain ⟨h', g1, g2, g3, g4, g5⟩ := hh
      exact ⟨_, g1, Lib.hid (H.store (hd.trans (g3.mono hd.size)) g2 (FrA.trans (w := W) (V := W.drew) hd.size (FrA.refl _ _) g4) g5 (patC_ctl _ _ _) _)⟩)
    generalize (patC s a s.here).1 = t' at *
    generalize (patC s a s.here).2 = s' at *
    clear e0 hb H Hd hd
    go_enter Tryd.func39, Tryd.ntmps39
    go_wp2
    go_region_law
      (go_simp
       go_at_call 58
       (with_reducible refine hP.out.mono ?_)
       rintro e w1 ⟨Z, rfl, hS⟩
       obtain ⟨z1, z2, z3, z4, z5, z6, z7, z8, z9, z10, z11⟩ := hS.out
       replace z6 := Lib.hid z6
       replace z3 := Lib.hid z3
       replace z2 := Lib.hid z2
       replace z11 := Lib.hid z11
       dsimp only)
    all_goals
      go_wp2
      go_end0
      first
        | exact ⟨rfl, z6.out⟩
        | exact ⟨rfl, z11.out⟩
  · have e0 : setP a (s, t) = (s, t) := if_neg h0
    rw [e0]
    have h1 : (t == 0) = false := by simpa using h0
    have ht := hb.thr
    dsimp only at ht
    have hN : Hid (WEnd B g W h (s, t) W) := Lib.hid ⟨h, H, Stp.refl _ _ _⟩
    clear e0 hb H h0
    go_enter Tryd.func39, Tryd.ntmps39
    go_wp2
    go_end0
    exact ⟨rfl, hN.out⟩
theorem lay_any {B g : Nat} {W : World} {h : Hs} {x : WkS} (H : Wk B g W h x) (hb : Bd 88 x) (op c : Int) (h1 : C64 op) (h2 : C64 c) :
    Calls Tryd.prog 57 #[.pointer (some ⟨g, 0, none⟩), .int .i64 op, .int .i64 c] W fun e W' => e = .returned (.int .i64 (layP op c x).1) ∧ WEnd B g W h (layP op c x).2 W' := by
  have hA : Below W.heap.size W (W.alloc (.cells #[.int .i64 op, .int .i64 c] 3)) := (Below.refl _ _).alloc (Nat.le_refl _) _
  have hb2 := hb.lay op c
  have hE := (wemit_any (H.below hA) (hb.le (by decide)) ⟨some ⟨W.heap.size, 0, none⟩, 2, 2⟩ [op, c] (row_new W [op, c] _ 2 rfl rfl (by decide)) (by simp; exact ⟨h1, h2⟩) (Nat.le_refl 2)).mono (R' := fun e w1 => e = .returned (.tuple #[]) ∧ w1.cell? ⟨g, 8, none⟩ = some (.int .i64 (layP op c x).2.1.here) ∧ Hid (WEnd B g W h (layP op c x).2 w1)) fun e w1 hh => by
    obtain ⟨g1, h', g2, g3⟩ := hh
    exact ⟨g1, g2.blk.cell 8 rfl, Lib.hid ⟨h', g2, (Stp.of hA g h).trans g3⟩⟩
  have e1 : (layP op c x).1 = wrap64 ((layP op c x).2.1.here - 8) := rfl
  have hh8 := hb2.1.ok.here
  rw [e1]
  replace hE := Lib.hid hE
  generalize (layP op c x).2 = y at *
  generalize hhy : y.1.here = hy at *
  have hy8 := Lib.hid hhy
  clear hA hb hb2 H h1 h2 e1 hhy
  go_enter Tryd.func57, Tryd.ntmps57
  go_wp2_with (go_at_call 47; (with_reducible refine hE.out.mono ?_); rintro e w1 ⟨rfl, g1, g2⟩)
  go_ret
  exact ⟨rfl, g2.out⟩
theorem own_any {B g : Nat} {W : World} {h : Hs} {x : WkS} (H : Wk B g W h x) (hb : Bd 90 x) (hw : x.1.words.length ≤ 100000) :
    Calls Tryd.prog 48 #[.pointer (some ⟨g, 0, none⟩)] W fun e W' => e = .returned (.int .i64 (ownP x).1) ∧ WEnd B g W h (ownP x).2 W' := by
  have c4 := H.blk.cell 4 (v := h.words.val) rfl
  have hl : x.1.words.length = h.words.n := Fl.len H.is.words On.wdc_len (by decide)
  have hbd := H.is.words.bd
  rw [hl] at hw
  have hC := hold_any H hb false (-22)
  dsimp only [On.Sc.val] at c4
  by_cases hz : h.words.n = 0
  · have e0 : ownP x = (0, x.1, holP false (-22) x.2) := by unfold ownP hidB; rw [if_neg (by simp; intro hc; omega)]
    rw [e0]
    replace hC := Lib.hid hC
    rw [hz] at c4
    clear e0 hl H hb hz hbd hw
    generalize h.words.a = ca at *
    generalize h.words.c = cc at *
    go_enter Tryd.func48, Tryd.ntmps48
    go_wp2_with (go_at_call 61; (with_reducible refine hC.out.mono ?_); rintro e w1 ⟨rfl, hw⟩)
    go_ret
    exact ⟨rfl, hw⟩
  · obtain ⟨k, hkn⟩ : ∃ k : Nat, h.words.n = k + 1 := ⟨h.words.n - 1, by omega⟩
    have hq1 : (h.words.n : Int) - 1 = (k : Int) := by omega
    have hkw : (k : Int) < (h.words.n : Int) := by omega
    obtain ⟨b, o, ha, p0, p1, p2, p3⟩ := words_cell H.is.words (i := k) (by omega)
    have hkl : x.1.words.length - 1 = k := by omega
    have hcode : C64 (x.1.words.getD k default).code := (hb.ok.words (x.1.words.getD k default) (by simp [List.getD, show k < x.1.words.length by omega])).2.2
    have eh : hidB x.1 = (x.1.words.getD k default).hid := by
      unfold hidB; rw [hkl, decide_eq_true (by omega : 0 < x.1.words.length)]; rfl
    have eo : ownP x = if (x.1.words.getD k default).hid = true then ((x.1.words.getD k default).code, x) else (0, x.1, holP false (-22) x.2) := by
      unfold ownP; rw [eh, hkl]
    rw [eo]
    have hN : Hid (WEnd B g W h x W) := Lib.hid ⟨h, H, Stp.refl _ _ _⟩
    rcases hwd : x.1.words.getD k default with ⟨nm, cd, nw, hd⟩
    rw [hwd] at p0 p1 p2 p3 hcode
    rw [ha] at c4
    dsimp only at p0 p1 p2 p3 hcode ⊢
    replace hkn := Lib.hid hkn
    replace hC := Lib.hid hC
    clear hl H hb hwd ha eh eo hkl hz hw
    generalize h.words.c = cc at *
    generalize h.words.n = cn at *
    cases hd with
    | false =>
      rw [if_neg (by simp)]
      clear p0 p1 p2 hcode
      go_enter Tryd.func48, Tryd.ntmps48
      go_wp2_with (go_at_call 61; (with_reducible refine hC.out.mono ?_); rintro e w1 ⟨rfl, hw⟩)
      go_ret
      exact ⟨rfl, hw⟩
    | true =>
      rw [if_pos rfl]
      clear p0 p2 hC
      go_enter Tryd.func48, Tryd.ntmps48
      go_wp2
      go_ret
      exact ⟨rfl, hN.out⟩
end Go.Proofs.YtcjbfokindoicaaDoor

/- The words of control flow, one by one: THEN, ELSE, BEGIN, WHILE, REPEAT, RECURSE. -/
namespace Go.Proofs.YtcjbfokindoicaaDoor
set_option maxRecDepth 100000
open Go.ChangeShapes Go.WideShapes Go.ChangeAt Go.RowKit
open On (St Hs StIs cst Fl one C64 C8 Sc slc spc Sz wpList_append_run)
set_option linter.unusedVariables false
set_option maxRecDepth 100000

def WordEnd (B g : Nat) (W : World) (h : Hs) (x : WkS) (e : Ending) (w : World) : Prop := e = .returned (.tuple #[]) ∧ WEnd B g W h x w
theorem kin_new1 {B g : Nat} {W : World} {h : Hs} {x : WkS} (H : Wk B g W h x) (k : Int) : Kin g (W.alloc (.cells #[.int .i64 k] 3)) h W.heap.size [k] :=
  ⟨H.new ((Below.refl _ _).alloc (Nat.le_refl _) _) _ (Nat.le_refl _) (by simp), fun i hi => by
    obtain rfl : i = 0 := by simpa using hi
    exact (Bx.new W 3 #[.int .i64 k]).cell 0 rfl⟩
theorem kin_new2 {B g : Nat} {W : World} {h : Hs} {x : WkS} (H : Wk B g W h x) (k j : Int) : Kin g (W.alloc (.cells #[.int .i64 k, .int .i64 j] 3)) h W.heap.size [k, j] :=
  ⟨H.new ((Below.refl _ _).alloc (Nat.le_refl _) _) _ (Nat.le_refl _) (by simp), fun i hi => by
    have h2 : i < 2 := hi
    obtain rfl | rfl : i = 0 ∨ i = 1 := by omega
    · exact (Bx.new W 3 #[.int .i64 k, .int .i64 j]).cell 0 rfl
    · exact (Bx.new W 3 #[.int .i64 k, .int .i64 j]).cell 1 rfl⟩
/-- what want leaves, its array in a variable -/
structure Wanted (B g : Nat) (W : World) (h : Hs) (y : WkS) (a0 a1 : Int) (w1 : World) (h1 : Hs) : Prop where
  wk : Wk B g w1 h1 y
  stp : Stp g W h w1 h1
  wk2 : Wk B g (w1.alloc (.cells #[.int .i64 a0, .int .i64 a1] 78)) h1 y
  stp2 : Stp g W h (w1.alloc (.cells #[.int .i64 a0, .int .i64 a1] 78)) h1
  loc : Loc g (w1.alloc (.cells #[.int .i64 a0, .int .i64 a1] 78)) h1 w1.heap.size
  bx : Bx (w1.alloc (.cells #[.int .i64 a0, .int .i64 a1] 78)) w1.heap.size 78 #[.int .i64 a0, .int .i64 a1]
theorem wanted_of {B g : Nat} {W W1 : World} {h : Hs} {y : WkS} {l : List Int} (hs : Stp g W h W1 h) {e : Ending} {w1 : World} (hh : e = .returned (.agg (padA l)) ∧ WEnd B g W1 h y w1) : e = .returned (.agg #[.int .i64 (l.getD 0 0), .int .i64 (l.getD 1 0)]) ∧ ∃ h1, Hid (Wanted B g W h y (l.getD 0 0) (l.getD 1 0) w1 h1) := by
  obtain ⟨g1, h1, g2, g3⟩ := hh
  have hA : Below w1.heap.size w1 (w1.alloc (.cells #[.int .i64 (l.getD 0 0), .int .i64 (l.getD 1 0)] 78)) := (Below.refl _ _).alloc (Nat.le_refl _) _
  have S := hs.trans g3
  exact ⟨g1, h1, Lib.hid ⟨g2, S, g2.below hA, S.trans (Stp.of hA g h1), g2.new hA _ (Nat.le_refl _) (by simp), Bx.new _ _ _⟩⟩
theorem want1 {B g : Nat} {W : World} {h : Hs} {x : WkS} (H : Wk B g W h x) (hb : Bd 90 x) (k : Int) :
    Calls Tryd.prog 40 #[.pointer (some ⟨g, 0, none⟩), .slice (some ⟨W.heap.size, 0, none⟩) 1 1] (W.alloc (.cells #[.int .i64 k] 3)) fun e w1 => e = .returned (.agg #[.int .i64 ((wanP [k] x).1.getD 0 0), .int .i64 ((wanP [k] x).1.getD 1 0)]) ∧ ∃ h1, Hid (Wanted B g W h (wanP [k] x).2 ((wanP [k] x).1.getD 0 0) ((wanP [k] x).1.getD 1 0) w1 h1) := by
  have hA : Below W.heap.size W (W.alloc (.cells #[.int .i64 k] 3)) := (Below.refl _ _).alloc (Nat.le_refl _) _
  exact (want_any (H.below hA) hb W.heap.size [k] (kin_new1 H k) (Nat.le_succ 1)).mono fun e w1 hh => wanted_of (Stp.of hA g h) hh
theorem want2 {B g : Nat} {W : World} {h : Hs} {x : WkS} (H : Wk B g W h x) (hb : Bd 90 x) (k j : Int) :
    Calls Tryd.prog 40 #[.pointer (some ⟨g, 0, none⟩), .slice (some ⟨W.heap.size, 0, none⟩) 2 2] (W.alloc (.cells #[.int .i64 k, .int .i64 j] 3)) fun e w1 => e = .returned (.agg #[.int .i64 ((wanP [k, j] x).1.getD 0 0), .int .i64 ((wanP [k, j] x).1.getD 1 0)]) ∧ ∃ h1, Hid (Wanted B g W h (wanP [k, j] x).2 ((wanP [k, j] x).1.getD 0 0) ((wanP [k, j] x).1.getD 1 0) w1 h1) := by
  have hA : Below W.heap.size W (W.alloc (.cells #[.int .i64 k, .int .i64 j] 3)) := (Below.refl _ _).alloc (Nat.le_refl _) _
  exact (want_any (H.below hA) hb W.heap.size [k, j] (kin_new2 H k j) (Nat.le_refl 2)).mono fun e w1 hh => wanted_of (Stp.of hA g h) hh
/-- lay, its results named -/
theorem lay_eq {B g : Nat} {W : World} {h : Hs} {x : WkS} (H : Wk B g W h x) (hb : Bd 88 x) (op c : Int) (h1 : C64 op) (h2 : C64 c) (v : Int) (y : WkS) (he : layP op c x = (v, y)) :
    Calls Tryd.prog 57 #[.pointer (some ⟨g, 0, none⟩), .int .i64 op, .int .i64 c] W fun e W' => e = .returned (.int .i64 v) ∧ WEnd B g W h y W' := by
  have := lay_any H hb op c h1 h2
  rw [he] at this
  exact this
theorem settle_eq {B g : Nat} {W : World} {h : Hs} {x : WkS} (H : Wk B g W h x) (hb : Bd 90 x) (a : Int) (ha : C64 a) (y : WkS) (he : setP a x = y) :
    Calls Tryd.prog 39 #[.pointer (some ⟨g, 0, none⟩), .int .i64 a] W (WordEnd B g W h y) := by
  have := settle_any H hb a ha
  rw [he] at this
  exact this
theorem put_eq {B g : Nat} {W : World} {h : Hs} {x : WkS} (H : Wk B g W h x) (hb : Bd 90 x) (k a : Int) (y : WkS) (he : putP k a x = y) :
    Calls Tryd.prog 56 #[.pointer (some ⟨g, 0, none⟩), .int .i64 k, .int .i64 a] W (WordEnd B g W h y) := by
  have := put_any H hb k a
  rw [he] at this
  exact this
theorem room_eq {B g : Nat} {W : World} {h : Hs} {x : WkS} (H : Wk B g W h x) (hb : Bd 90 x) (m : Nat) (hm : m ≤ 10) (z : Int) (hz : (m : Int) = z) (y : WkS) (he : rooP m x = y) :
    Calls Tryd.prog 55 #[.pointer (some ⟨g, 0, none⟩), .int .i64 z] W (WordEnd B g W h y) := by
  have := room_any H hb m hm
  rw [he, hz] at this
  exact this
theorem c64_lit {n : Int} (h : (decide (-9223372036854775808 ≤ n) && decide (n ≤ 9223372036854775807)) = true) : C64 n := by
  simp at h; exact h

theorem ix0 (a b : Int) (w : World) : (Instr.index 78 (.agg #[.int .i64 a, .int .i64 b]) (.int .i64 0)).run Tryd.prog w = .ok (.int .i64 a) w := by kernel_rfl
theorem then_is {B g : Nat} {W : World} {h : Hs} {x : WkS} (H : Wk B g W h x) (hb : Bd 10 x) :
    Calls Tryd.prog 38 #[.pointer (some ⟨g, 0, none⟩)] W (WordEnd B g W h (theW x)) := by
  have hw := want1 H (hb.le (by decide)) 1
  have hb1 := hb.wan [1]
  have ha : C64 ((wanP [1] x).1.getD 0 0) := getD_c64 hb1.2 0
  obtain ⟨z, hz⟩ : ∃ z, theW x = z := ⟨_, rfl⟩
  have e2 : setP ((wanP [1] x).1.getD 0 0) (wanP [1] x).2 = z := hz
  rw [hz]
  replace hb1 := Lib.hid (hb1.1.le (show 10 ≤ 90 by decide))
  generalize (wanP [1] x).1.getD 0 0 = a0 at *
  generalize (wanP [1] x).1.getD 1 0 = a1 at *
  generalize (wanP [1] x).2 = y at *
  replace hw := Lib.hid hw
  replace e2 := Lib.hid e2
  replace ha := Lib.hid ha
  have hix := ix0
  clear hz H hb
  go_enter Tryd.func38, Tryd.ntmps38
  go_wp2_with (first
    | (go_at_call 40; (with_reducible refine hw.out.mono ?_); rintro e w1 ⟨rfl, h1, q1⟩)
    | (go_at_call 39; (with_reducible refine (settle_eq q1.out.wk hb1.out a0 ha.out z e2.out).mono ?_); rintro e w2 ⟨rfl, k1⟩; replace k1 := Lib.hid k1))
  go_end0
  exact ⟨rfl, WEnd.trans q1.out.stp k1.out⟩
theorem begin_is {B g : Nat} {W : World} {h : Hs} {x : WkS} (H : Wk B g W h x) (hb : Bd 10 x) :
    Calls Tryd.prog 41 #[.pointer (some ⟨g, 0, none⟩)] W (WordEnd B g W h (begW x)) := by
  obtain ⟨y, hy⟩ : ∃ y, rooP 1 x = y := ⟨_, rfl⟩
  have hw := Lib.hid ((room_eq H (hb.le (by decide)) 1 (by decide) 1 rfl y hy).mono (R' := fun e w1 => e = .returned (.tuple #[]) ∧ ∃ h1, w1.cell? ⟨g, 8, none⟩ = some (.int .i64 y.1.here) ∧ Hid (Wk B g w1 h1 y) ∧ Hid (Stp g W h w1 h1)) fun e w1 hh => by
    obtain ⟨g1, h1, g2, g3⟩ := hh
    exact ⟨g1, h1, g2.blk.cell 8 rfl, Lib.hid g2, Lib.hid g3⟩)
  obtain ⟨z, hz⟩ : ∃ z, begW x = z := ⟨_, rfl⟩
  have hbr := hb.roo 1
  rw [hy] at hbr
  have hb1 := Lib.hid (hbr.le (show 10 ≤ 90 by decide))
  have e2 : putP 2 y.1.here y = z := by rw [← hz]; unfold begW; rw [hy]
  rw [hz]
  clear hbr
  replace e2 := Lib.hid e2
  clear hz hy H hb
  generalize y.1.here = hr at *
  go_enter Tryd.func41, Tryd.ntmps41
  go_wp2_with (first
    | (go_at_call 55; (with_reducible refine hw.out.mono ?_); rintro e w1 ⟨rfl, h1, c8, q1, q2⟩)
    | (go_at_call 56; (with_reducible refine (put_eq q1.out hb1.out 2 hr z e2.out).mono ?_); rintro e w2 ⟨rfl, k1⟩; replace k1 := Lib.hid k1))
  go_end0
  exact ⟨rfl, WEnd.trans q2.out k1.out⟩
theorem else_is {B g : Nat} {W : World} {h : Hs} {x : WkS} (H : Wk B g W h x) (hb : Bd 10 x) :
    Calls Tryd.prog 37 #[.pointer (some ⟨g, 0, none⟩)] W (WordEnd B g W h (elsW x)) := by
  have hw := want1 H (hb.le (by decide)) 1
  have hbw := hb.wan [1]
  have ha : C64 ((wanP [1] x).1.getD 0 0) := getD_c64 hbw.2 0
  obtain ⟨z, hz⟩ : ∃ z, elsW x = z := ⟨_, rfl⟩
  have e4 : putP 1 (layP 3 0 (wanP [1] x).2).1 (setP ((wanP [1] x).1.getD 0 0) (layP 3 0 (wanP [1] x).2).2) = z := hz
  rw [hz]
  generalize (wanP [1] x).1.getD 0 0 = a0 at *
  generalize (wanP [1] x).1.getD 1 0 = a1 at *
  generalize (wanP [1] x).2 = y at *
  have hbl := hbw.1.lay 3 0
  obtain ⟨v, y2, e1⟩ : ∃ v y2, layP 3 0 y = (v, y2) := ⟨_, _, rfl⟩
  rw [e1] at e4 hbl
  obtain ⟨y3, e2⟩ : ∃ y3, setP a0 y2 = y3 := ⟨_, rfl⟩
  dsimp only at e4 hbl
  rw [e2] at e4
  have hbs := hbl.1.set a0
  rw [e2] at hbs
  have b1 := Lib.hid (hbw.1.le (show 10 ≤ 88 by decide))
  have b2 := Lib.hid (hbl.1.le (show 12 ≤ 90 by decide))
  have b3 := Lib.hid (hbs.le (show 12 ≤ 90 by decide))
  have l1 := Lib.hid (c64_lit (n := 3) rfl)
  have l2 := Lib.hid (c64_lit (n := 0) rfl)
  replace hw := Lib.hid hw
  replace e1 := Lib.hid e1
  replace e2 := Lib.hid e2
  replace e4 := Lib.hid e4
  replace ha := Lib.hid ha
  clear hz H hb hbw hbl hbs
  go_enter Tryd.func37, Tryd.ntmps37
  go_wp2_with (first
    | (go_at_call 40; (with_reducible refine hw.out.mono ?_); rintro e w1 ⟨rfl, h1, q1⟩)
    | (go_at_call 57; (with_reducible refine (lay_eq q1.out.wk2 b1.out 3 0 l1.out l2.out v y2 e1.out).mono ?_); rintro e w2 ⟨rfl, h2, k1, k2⟩
       have d0 := (q1.out.loc.bx k2 q1.out.bx).cell 0 rfl
       replace k1 := Lib.hid k1
       replace k2 := Lib.hid k2)
    | (go_at_call 39; (with_reducible refine (settle_eq k1.out b2.out a0 ha.out y3 e2.out).mono ?_); rintro e w3 ⟨rfl, h3, m1, m2⟩
       replace m1 := Lib.hid m1
       replace m2 := Lib.hid m2)
    | (go_at_call 56; (with_reducible refine (put_eq m1.out b3.out 1 v z e4.out).mono ?_); rintro e w4 ⟨rfl, n1⟩; replace n1 := Lib.hid n1))
  go_end0
  exact ⟨rfl, WEnd.trans (q1.out.stp2.trans (k2.out.trans m2.out)) n1.out⟩
theorem while_is {B g : Nat} {W : World} {h : Hs} {x : WkS} (H : Wk B g W h x) (hb : Bd 10 x) :
    Calls Tryd.prog 43 #[.pointer (some ⟨g, 0, none⟩)] W (WordEnd B g W h (whiW x)) := by
  have hw := want1 H (hb.le (by decide)) 2
  have hbw := hb.wan [2]
  obtain ⟨z, hz⟩ : ∃ z, whiW x = z := ⟨_, rfl⟩
  have e4 : putP 2 ((wanP [2] x).1.getD 0 0) (putP 1 (layP 4 0 (rooP 2 (wanP [2] x).2)).1 (layP 4 0 (rooP 2 (wanP [2] x).2)).2) = z := hz
  have ha : C64 ((wanP [2] x).1.getD 0 0) := getD_c64 hbw.2 0
  rw [hz]
  generalize (wanP [2] x).1.getD 0 0 = a0 at *
  generalize (wanP [2] x).1.getD 1 0 = a1 at *
  generalize (wanP [2] x).2 = y at *
  have hbr := hbw.1.roo 2
  obtain ⟨y2, e1⟩ : ∃ y2, rooP 2 y = y2 := ⟨_, rfl⟩
  rw [e1] at e4 hbr
  have hbl := hbr.lay 4 0
  obtain ⟨v, y3, e2⟩ : ∃ v y3, layP 4 0 y2 = (v, y3) := ⟨_, _, rfl⟩
  rw [e2] at e4 hbl
  dsimp only at e4 hbl
  obtain ⟨y4, e3⟩ : ∃ y4, putP 1 v y3 = y4 := ⟨_, rfl⟩
  rw [e3] at e4
  have hbp := hbl.1.put (c64_lit (n := 1) rfl) hbl.2
  rw [e3] at hbp
  have b1 := Lib.hid (hbw.1.le (show 10 ≤ 90 by decide))
  have b2 := Lib.hid (hbr.le (show 10 ≤ 88 by decide))
  have b3 := Lib.hid (hbl.1.le (show 12 ≤ 90 by decide))
  have b4 := Lib.hid (hbp.le (show 14 ≤ 90 by decide))
  have l1 := Lib.hid (c64_lit (n := 4) rfl)
  have l2 := Lib.hid (c64_lit (n := 0) rfl)
  have hm := Lib.hid (show 2 ≤ 10 by decide)
  have h22 := Lib.hid (show ((2 : Nat) : Int) = 2 from rfl)
  replace hw := Lib.hid hw
  replace e1 := Lib.hid e1
  replace e2 := Lib.hid e2
  replace e3 := Lib.hid e3
  replace e4 := Lib.hid e4
  clear hz H hb hbw hbl hbp hbr ha
  go_enter Tryd.func43, Tryd.ntmps43
  go_wp2_with (first
    | (go_at_call 40; (with_reducible refine hw.out.mono ?_); rintro e w1 ⟨rfl, h1, q1⟩)
    | (go_at_call 55; (with_reducible refine (room_eq q1.out.wk2 b1.out 2 hm.out 2 h22.out y2 e1.out).mono ?_); rintro e w2 ⟨rfl, h2, k1, k2⟩
       have d1 := Lib.hid (q1.out.loc.bx k2 q1.out.bx)
       have d2 := Lib.hid (q1.out.loc.stp k2)
       replace k1 := Lib.hid k1
       replace k2 := Lib.hid k2)
    | (go_at_call 57; (with_reducible refine (lay_eq k1.out b2.out 4 0 l1.out l2.out v y3 e2.out).mono ?_); rintro e w3 ⟨rfl, h3, m1, m2⟩
       have d3 := Lib.hid (d2.out.bx m2 d1.out)
       have d4 := Lib.hid (d2.out.stp m2)
       replace m1 := Lib.hid m1
       replace m2 := Lib.hid m2)
    | (go_at_call 56; (with_reducible refine (put_eq m1.out b3.out 1 v y4 e3.out).mono ?_); rintro e w4 ⟨rfl, h4, n1, n2⟩
       have d5 := (d4.out.bx n2 d3.out).cell 0 rfl
       replace n1 := Lib.hid n1
       replace n2 := Lib.hid n2)
    | (go_at_call 56; (with_reducible refine (put_eq n1.out b4.out 2 a0 z e4.out).mono ?_); rintro e w5 ⟨rfl, o1⟩; replace o1 := Lib.hid o1))
  go_end0
  exact ⟨rfl, WEnd.trans (((q1.out.stp2.trans k2.out).trans m2.out).trans n2.out) o1.out⟩
theorem repeat_is {B g : Nat} {W : World} {h : Hs} {x : WkS} (H : Wk B g W h x) (hb : Bd 10 x) :
    Calls Tryd.prog 44 #[.pointer (some ⟨g, 0, none⟩)] W (WordEnd B g W h (repW x)) := by
  have hw := want2 H (hb.le (by decide)) 2 1
  have hbw := hb.wan [2, 1]
  obtain ⟨z, hz⟩ : ∃ z, repW x = z := ⟨_, rfl⟩
  have e4 : setP ((wanP [2, 1] x).1.getD 1 0) (layP 3 ((wanP [2, 1] x).1.getD 0 0) (wanP [2, 1] x).2).2 = z := hz
  have ha : C64 ((wanP [2, 1] x).1.getD 0 0) := getD_c64 hbw.2 0
  have ha1 : C64 ((wanP [2, 1] x).1.getD 1 0) := getD_c64 hbw.2 1
  rw [hz]
  generalize (wanP [2, 1] x).1.getD 0 0 = a0 at *
  generalize (wanP [2, 1] x).1.getD 1 0 = a1 at *
  generalize (wanP [2, 1] x).2 = y at *
  have hbl := hbw.1.lay 3 a0
  obtain ⟨v, y3, e2⟩ : ∃ v y3, layP 3 a0 y = (v, y3) := ⟨_, _, rfl⟩
  rw [e2] at e4 hbl
  dsimp only at e4 hbl
  have b1 := Lib.hid (hbw.1.le (show 10 ≤ 88 by decide))
  have b3 := Lib.hid (hbl.1.le (show 12 ≤ 90 by decide))
  have l1 := Lib.hid (c64_lit (n := 3) rfl)
  replace hw := Lib.hid hw
  replace e2 := Lib.hid e2
  replace e4 := Lib.hid e4
  replace ha := Lib.hid ha
  replace ha1 := Lib.hid ha1
  clear hz H hb hbw hbl
  go_enter Tryd.func44, Tryd.ntmps44
  go_wp2_with (first
    | (go_at_call 40; (with_reducible refine hw.out.mono ?_); rintro e w1 ⟨rfl, h1, q1⟩
       have d0 := q1.out.bx.cell 0 rfl
       have d00 := Lib.hid (q1.out.bx))
    | (go_at_call 57; (with_reducible refine (lay_eq q1.out.wk2 b1.out 3 a0 l1.out ha.out v y3 e2.out).mono ?_); rintro e w3 ⟨rfl, h3, m1, m2⟩
       have d3 := (q1.out.loc.bx m2 q1.out.bx).cell 1 rfl
       replace m1 := Lib.hid m1
       replace m2 := Lib.hid m2)
    | (go_at_call 39; (with_reducible refine (settle_eq m1.out b3.out a1 ha1.out z e4.out).mono ?_); rintro e w4 ⟨rfl, n1⟩; replace n1 := Lib.hid n1))
  go_end0
  exact ⟨rfl, WEnd.trans (q1.out.stp2.trans m2.out) n1.out⟩
theorem recurse_is {B g : Nat} {W : World} {h : Hs} {x : WkS} (H : Wk B g W h x) (hb : Bd 10 x) (hwl : x.1.words.length ≤ 100000) :
    Calls Tryd.prog 46 #[.pointer (some ⟨g, 0, none⟩)] W (WordEnd B g W h (recW x)) := by
  have hw := own_any H (hb.le (by decide)) hwl
  have hbw := hb.own
  obtain ⟨z, hz⟩ : ∃ z, recW x = z := ⟨_, rfl⟩
  have e4 : emiP [(ownP x).1] (ownP x).2 = z := hz
  rw [hz]
  generalize (ownP x).1 = cd at *
  generalize (ownP x).2 = y at *
  have hE : ∀ w1 h1, Wk B g w1 h1 y → Calls Tryd.prog 47 #[.pointer (some ⟨g, 0, none⟩), .slice (some ⟨w1.heap.size, 0, none⟩) 1 1] (w1.alloc (.cells #[.int .i64 cd] 3)) fun e w2 => e = .returned (.tuple #[]) ∧ WEnd B g w1 h1 z w2 := fun w1 h1 q => by
    have hA : Below w1.heap.size w1 (w1.alloc (.cells #[.int .i64 cd] 3)) := (Below.refl _ _).alloc (Nat.le_refl _) _
    have := wemit_any (q.below hA) (hbw.1.le (show 10 ≤ 90 by decide)) ⟨some ⟨w1.heap.size, 0, none⟩, 1, 1⟩ [cd] (row_new w1 [cd] _ 1 rfl rfl (by decide)) (fun u hu => by obtain rfl := List.mem_singleton.1 hu; exact hbw.2) (Nat.le_succ 1)
    rw [e4] at this
    exact this.mono fun e w2 hh => ⟨hh.1, WEnd.trans (Stp.of hA g h1) hh.2⟩
  replace hw := Lib.hid hw
  replace hE := Lib.hid hE
  clear hz H hb hbw e4 hwl
  go_enter Tryd.func46, Tryd.ntmps46
  go_wp2_with (first
    | (go_at_call 48; (with_reducible refine hw.out.mono ?_); rintro e w1 ⟨rfl, h1, q1, q2⟩; replace q1 := Lib.hid q1; replace q2 := Lib.hid q2)
    | (go_at_call 47; (with_reducible refine (hE.out w1 h1 q1.out).mono ?_); rintro e w2 ⟨rfl, k1⟩; replace k1 := Lib.hid k1))
  go_end0
  exact ⟨rfl, WEnd.trans q2.out k1.out⟩
theorem low_cell {B g b o : Nat} {W w1 : World} {h h1 : Hs} {x : WkS} {v : Value} (H : Wk B g W h x) (hb : b < g) (s : Stp g W h w1 h1) (hc : W.cell? ⟨b, o, none⟩ = some v) : w1.cell? ⟨b, o, none⟩ = some v := by
  unfold World.cell? at hc ⊢
  simp only [s.q.block b (by have := H.blk.lt; omega) (by omega) (fun hc => by have := (H.row_lt hc.symm).1; have := H.gB; omega)]
  exact hc
theorem closing_is {B g : Nat} {W : World} {h : Hs} {x : WkS} (H : Wk B g W h x) (hb : Bd 10 x) (p : Nat) (op : Int) (hp : p < g) (hc : W.cell? ⟨p, 0, none⟩ = some (.int .i64 op)) (hop : C64 op) :
    Calls Tryd.prog 63 #[.pointer (some ⟨g, 0, none⟩), .pointer (some ⟨p, 0, none⟩)] W (WordEnd B g W h (cloW op x)) := by
  have hw := want1 H (hb.le (by decide)) 3
  have hbw := hb.wan [3]
  obtain ⟨z, hz⟩ : ∃ z, cloW op x = z := ⟨_, rfl⟩
  have e4 : setP ((wanP [3] x).1.getD 0 0) (layP op (wrap64 ((wanP [3] x).1.getD 0 0 + 8)) (wanP [3] x).2).2 = z := hz
  have ha : C64 ((wanP [3] x).1.getD 0 0) := getD_c64 hbw.2 0
  rw [hz]
  generalize (wanP [3] x).1.getD 0 0 = a0 at *
  generalize (wanP [3] x).1.getD 1 0 = a1 at *
  generalize (wanP [3] x).2 = y at *
  have hbl := hbw.1.lay op (wrap64 (a0 + 8))
  obtain ⟨a8, h8⟩ : ∃ a8, IntKind.i64.wrap (a0 + 8) = a8 := ⟨_, rfl⟩
  have h8w : wrap64 (a0 + 8) = a8 := by rw [← Me.wrapi]; exact h8
  have ha8 : C64 a8 := by rw [← h8w]; exact wrap_c64 _
  rw [h8w] at e4 hbl
  obtain ⟨v, y3, e2⟩ : ∃ v y3, layP op a8 y = (v, y3) := ⟨_, _, rfl⟩
  rw [e2] at e4 hbl
  dsimp only at e4 hbl
  have b1 := Lib.hid (hbw.1.le (show 10 ≤ 88 by decide))
  have b3 := Lib.hid (hbl.1.le (show 12 ≤ 90 by decide))
  have hcl := Lib.hid (fun (w1 : World) (h1 : Hs) (s : Stp g W h w1 h1) => low_cell H hp s hc)
  replace hw := Lib.hid hw
  replace e2 := Lib.hid e2
  replace e4 := Lib.hid e4
  have ha' := Lib.hid ha
  unfold C64 at ha
  replace ha8 := Lib.hid ha8
  replace hop := Lib.hid hop
  clear hz H hb hbw hbl h8w hc hp
  go_enter Tryd.func63, Tryd.ntmps63
  go_wp2_with (first
    | (go_at_call 40; (with_reducible refine hw.out.mono ?_); rintro e w1 ⟨rfl, h1, q1⟩
       have d0 := q1.out.bx.cell 0 rfl
       have d2 := hcl.out _ _ q1.out.stp2)
    | (go_at_call 57; (with_reducible refine (lay_eq q1.out.wk2 b1.out op a8 hop.out ha8.out v y3 e2.out).mono ?_); rintro e w3 ⟨rfl, h3, m1, m2⟩
       have d3 := (q1.out.loc.bx m2 q1.out.bx).cell 0 rfl
       replace m1 := Lib.hid m1
       replace m2 := Lib.hid m2)
    | (go_at_call 39; (with_reducible refine (settle_eq m1.out b3.out a0 ha'.out z e4.out).mono ?_); rintro e w4 ⟨rfl, n1⟩; replace n1 := Lib.hid n1))
  go_end0
  exact ⟨rfl, WEnd.trans (q1.out.stp2.trans m2.out) n1.out⟩
end Go.Proofs.YtcjbfokindoicaaDoor

/- The two closures whose statement draws its order: what opens, what goes back. -/
namespace Go.Proofs.YtcjbfokindoicaaDoor
set_option maxRecDepth 100000
open Go.ChangeShapes Go.WideShapes Go.ChangeAt Go.RowKit
open On (St Hs StIs cst Fl one C64 C8 Sc slc spc Sz wpList_append_run)
set_option linter.unusedVariables false
set_option maxRecDepth 100000

theorem opening_is {B g : Nat} {W : World} {h : Hs} {x : WkS} (H : Wk B g W h x) (hb : Bd 10 x) (pk po : Nat) (kind op : Int) (hpk : pk < g) (hpo : po < g) (hk : W.cell? ⟨pk, 0, none⟩ = some (.int .i64 kind)) (ho : W.cell? ⟨po, 0, none⟩ = some (.int .i64 op)) (hop : C64 op) :
    Calls Tryd.prog 54 #[.pointer (some ⟨g, 0, none⟩), .pointer (some ⟨pk, 0, none⟩), .pointer (some ⟨po, 0, none⟩)] W (WordEnd B g W h (opeW op kind x)) := by
  obtain ⟨y, e1⟩ : ∃ y, rooP 1 x = y := ⟨_, rfl⟩
  have hw := room_eq H (hb.le (by decide)) 1 (by decide) 1 rfl y e1
  obtain ⟨z, hz⟩ : ∃ z, opeW op kind x = z := ⟨_, rfl⟩
  have e4 : putP kind (layP op 0 (rooP 1 x)).1 (layP op 0 (rooP 1 x)).2 = z := hz
  rw [hz]
  have hbr := hb.roo 1
  rw [e1] at e4 hbr
  have hbl := hbr.lay op 0
  obtain ⟨v, y3, e2⟩ : ∃ v y3, layP op 0 y = (v, y3) := ⟨_, _, rfl⟩
  rw [e2] at e4 hbl
  dsimp only at e4 hbl
  have b1 := Lib.hid (hbr.le (show 10 ≤ 88 by decide))
  have b3 := Lib.hid (hbl.1.le (show 12 ≤ 90 by decide))
  have l2 := Lib.hid (c64_lit (n := 0) rfl)
  have hcl := Lib.hid (fun (w1 : World) (h1 : Hs) (s : Stp g W h w1 h1) => And.intro (low_cell H hpk s hk) (low_cell H hpo s ho))
  replace hw := Lib.hid hw
  replace e2 := Lib.hid e2
  replace e4 := Lib.hid e4
  replace hop := Lib.hid hop
  clear hz H hb hbr hbl e1 hk ho hpk hpo
  go_enter Tryd.func54, Tryd.ntmps54
  go_wp2_with (go_at_call 55; (with_reducible refine hw.out.mono ?_); rintro e w1 ⟨rfl, h1, q1, q2⟩)
  have hd : Below w1.heap.size w1 w1.drew := (Below.refl _ _).drew
  have qd := q1.below hd
  have sd := q2.trans (Stp.of hd g h1)
  have hc1 := hcl.out _ _ sd
  have hL := Lib.hid ((lay_eq qd b1.out op 0 hop.out l2.out v y3 e2.out).mono (R' := fun e w2 => e = .returned (.int .i64 v) ∧ (w2.cell? ⟨pk, 0, none⟩ = some (.int .i64 kind) ∧ w2.cell? ⟨po, 0, none⟩ = some (.int .i64 op)) ∧ Hid (Calls Tryd.prog 56 #[.pointer (some ⟨g, 0, none⟩), .int .i64 kind, .int .i64 v] w2 fun e w3 => e = .returned (.tuple #[]) ∧ (w3.cell? ⟨pk, 0, none⟩ = some (.int .i64 kind) ∧ w3.cell? ⟨po, 0, none⟩ = some (.int .i64 op)) ∧ Hid (WEnd B g W h z w3))) fun e w2 hh => by
    obtain ⟨g1, h2, g2, g3⟩ := hh
    have s2 := sd.trans g3
    refine ⟨g1, hcl.out _ _ s2, Lib.hid ((put_eq g2 b3.out kind v z e4.out).mono fun e w3 hh => ?_)⟩
    obtain ⟨k1, h3, k2, k3⟩ := hh
    exact ⟨k1, hcl.out _ _ (s2.trans k3), Lib.hid ⟨h3, k2, s2.trans k3⟩⟩)
  clear qd sd hd q1 q2
  go_region_held3 (fun V => V.cell? ⟨pk, 0, none⟩ = some (.int .i64 kind) ∧ V.cell? ⟨po, 0, none⟩ = some (.int .i64 op))
    (first
      | with_reducible exact hc1
      | with_reducible exact hc2
      | with_reducible exact hc3)
    (first
      | (go_at_call 57
         (with_reducible refine hL.out.mono ?_)
         rintro e w2 ⟨rfl, hc2, hQ⟩)
      | (go_at_call 56
         (with_reducible refine hQ.out.mono ?_)
         rintro e w3 ⟨rfl, hc3, hE⟩))
  all_goals
    go_wp2
    go_end0
    exact ⟨rfl, hE.out⟩
theorem goingback_is {B g : Nat} {W : World} {h : Hs} {x : WkS} (H : Wk B g W h x) (hb : Bd 10 x) (po : Nat) (op : Int) (hpo : po < g) (ho : W.cell? ⟨po, 0, none⟩ = some (.int .i64 op)) (hop : C64 op) :
    Calls Tryd.prog 62 #[.pointer (some ⟨g, 0, none⟩), .pointer (some ⟨po, 0, none⟩)] W (WordEnd B g W h (gobW op x)) := by
  have hA : Below W.heap.size W (W.alloc (.cells #[.int .i64 2] 3)) := (Below.refl _ _).alloc (Nat.le_refl _) _
  have hD : Below W.heap.size W (W.alloc (.cells #[.int .i64 2] 3)).drew := hA.drew
  have hDD : Below (W.alloc (.cells #[.int .i64 2] 3)).heap.size (W.alloc (.cells #[.int .i64 2] 3)) (W.alloc (.cells #[.int .i64 2] 3)).drew := (Below.refl _ _).drew
  have sd := Stp.of hD g h
  have hw : Calls Tryd.prog 40 #[.pointer (some ⟨g, 0, none⟩), .slice (some ⟨W.heap.size, 0, none⟩) 1 1] (W.alloc (.cells #[.int .i64 2] 3)).drew fun e w1 => e = .returned (.agg #[.int .i64 ((wanP [2] x).1.getD 0 0), .int .i64 ((wanP [2] x).1.getD 1 0)]) ∧ ∃ h1, Hid (Wanted B g W h (wanP [2] x).2 ((wanP [2] x).1.getD 0 0) ((wanP [2] x).1.getD 1 0) w1 h1) :=
    (want_any (H.below hD) (hb.le (by decide)) W.heap.size [2] ((kin_new1 H 2).stp (Stp.of hDD g h)) (Nat.le_succ 1)).mono fun e w1 hh => wanted_of sd hh
  have hbw := hb.wan [2]
  obtain ⟨z, hz⟩ : ∃ z, gobW op x = z := ⟨_, rfl⟩
  have e4 : (layP op ((wanP [2] x).1.getD 0 0) (wanP [2] x).2).2 = z := hz
  have ha : C64 ((wanP [2] x).1.getD 0 0) := getD_c64 hbw.2 0
  rw [hz]
  generalize (wanP [2] x).1.getD 0 0 = a0 at *
  generalize (wanP [2] x).1.getD 1 0 = a1 at *
  generalize (wanP [2] x).2 = y at *
  have b1 := Lib.hid (hbw.1.le (show 10 ≤ 88 by decide))
  have hcl := Lib.hid (fun (w1 : World) (h1 : Hs) (s : Stp g W h w1 h1) => low_cell H hpo s ho)
  have hc0 := hcl.out _ _ sd
  have hc1 := hcl.out _ _ (Stp.of hA g h)
  have hc5 := hcl.out _ _ (Stp.of ((Below.refl W.heap.size W).drew) g h)
  have hW := Lib.hid (hw.mono (R' := fun e w1 => e = .returned (.agg #[.int .i64 a0, .int .i64 a1]) ∧ w1.cell? ⟨po, 0, none⟩ = some (.int .i64 op) ∧ w1.drew.cell? ⟨po, 0, none⟩ = some (.int .i64 op) ∧ Hid (∀ V, (V = w1 ∨ V = w1.drew) → Calls Tryd.prog 57 #[.pointer (some ⟨g, 0, none⟩), .int .i64 op, .int .i64 a0] V fun e w3 => ∃ v, e = .returned (.int .i64 v) ∧ w3.cell? ⟨po, 0, none⟩ = some (.int .i64 op) ∧ Hid (WEnd B g W h z w3))) fun e w1 hh => by
    obtain ⟨g1, h1, q1⟩ := hh
    have s1 := q1.out.stp
    have hd1 : Below w1.heap.size w1 w1.drew := (Below.refl _ _).drew
    refine ⟨g1, hcl.out _ _ s1, hcl.out _ _ (s1.trans (Stp.of hd1 g h1)), Lib.hid fun V hV => ?_⟩
    have hVb : Below w1.heap.size w1 V := by
      rcases hV with rfl | rfl
      · exact Below.refl _ _
      · exact hd1
    refine ((lay_eq (q1.out.wk.below hVb) b1.out op a0 hop ha _ z (by rw [← e4]))).mono fun e w3 hh => ?_
    obtain ⟨k1, h3, k2, k3⟩ := hh
    have s3 := (s1.trans (Stp.of hVb g h1)).trans k3
    exact ⟨_, k1, hcl.out _ _ s3, Lib.hid ⟨h3, k2, s3⟩⟩)
  have hix := ix0
  clear hz H hb hbw hw sd hA hD hDD ha e4 ho
  go_enter Tryd.func62, Tryd.ntmps62
  go_region_held3 (fun V => V.cell? ⟨po, 0, none⟩ = some (.int .i64 op))
    (first
      | with_reducible exact hc0
      | with_reducible exact hc1
      | with_reducible exact hc2
      | with_reducible exact hc3
      | with_reducible exact hc4
      | with_reducible exact hc5)
    (first
      | (go_at_call 40
         (with_reducible refine hW.out.mono ?_)
         rintro e w1 ⟨rfl, hc2, hc3, hQ⟩)
      | (go_at_call 57
         (with_reducible refine (hQ.out _ ?_).mono ?_)
         · first
             | exact Or.inl rfl
             | exact Or.inr rfl
         rintro e w3 ⟨v, rfl, hc4, hE⟩))
  all_goals
    go_wp2
    go_end0
    exact ⟨rfl, hE.out⟩
end Go.Proofs.YtcjbfokindoicaaDoor

/- A map of words of control flow by their names, made by a literal: what is in it, what is found. -/
namespace Go.Proofs.YtcjbfokindoicaaDoor
set_option maxRecDepth 100000
open Go.ChangeShapes Go.WideShapes Go.ChangeAt Go.RowKit
open On (St Hs StIs cst Fl one C64 C8 Sc slc spc Sz bytesOk)
set_option linter.unusedVariables false
set_option maxRecDepth 100000

structure Keep (W w : World) : Prop where
  os : w.os = W.os
  tape : w.tape = W.tape
  output : w.output = W.output
  size : W.heap.size ≤ w.heap.size
  block : ∀ (k : Nat) (c : Array Value) (e : TypeId) (z : Nat × Nat), W.heap[k]? = some (.cells c e z) → w.heap[k]? = some (.cells c e z)
theorem Keep.refl (W : World) : Keep W W := ⟨rfl, rfl, rfl, Nat.le_refl _, fun _ _ _ _ h => h⟩
theorem Keep.trans {a b c : World} (h : Keep a b) (k : Keep b c) : Keep a c :=
  ⟨k.os.trans h.os, k.tape.trans h.tape, k.output.trans h.output, Nat.le_trans h.size k.size, fun i c e z hi => k.block i c e z (h.block i c e z hi)⟩
theorem Keep.of {W w : World} (h : Below W.heap.size W w) : Keep W w :=
  ⟨h.os, h.tape, h.output, h.size, fun k c e z hk => (h.block k (Array.getElem?_eq_some_iff.1 hk).1).trans hk⟩
theorem Keep.cell {W w : World} (h : Keep W w) {p : Addr} {v : Value} (hc : W.cell? p = some v) : w.cell? p = some v := by
  unfold World.cell? at hc ⊢
  cases hk : W.heap[p.block]? with
  | none => rw [hk] at hc; cases hc
  | some o =>
    rw [hk] at hc
    cases o with
    | cells c e z => rw [h.block _ _ _ _ hk]; exact hc
    | _ => cases hc
/-- a variable of its own -/
theorem boxed (w : World) (v : Value) (T : TypeId) : (w.alloc (.cells #[v] T)).cell? ⟨w.heap.size, 0, none⟩ = some v ∧ Below w.heap.size w (w.alloc (.cells #[v] T)) :=
  ⟨cell_of_one (heap_alloc_new w _), (Below.refl _ _).alloc (Nat.le_refl _) _⟩
/-- it has a body: a call enters it -/
def Ent (k : Nat) : Prop := ∀ (args : Array Value) (w : World), (callFunc k args).run Tryd.prog w = .ok (.enter k args) w
/-- a word of control flow: what it makes of any work whose variable is made later -/
def FloIs (W : World) (F : Value) (φ : WkS → WkS) : Prop := ∃ k cap, F = .func (.func k) #[] cap ∧ Ent k ∧ ∀ w, Keep W w → ∀ B g h x, W.heap.size ≤ g → Wk B g w h x → Bd 10 x → x.1.words.length ≤ 100000 → Calls Tryd.prog k (#[.pointer (some ⟨g, 0, none⟩)] ++ cap) w (WordEnd B g w h (φ x))
theorem FloIs.keep {W w : World} {F : Value} {φ} (H : FloIs W F φ) (hk : Keep W w) : FloIs w F φ := let ⟨k, cap, e, g, H⟩ := H; ⟨k, cap, e, g, fun w2 h2 B g h x hg => H w2 (hk.trans h2) B g h x (Nat.le_trans hk.size hg)⟩
theorem fl_then (W : World) : FloIs W (.func (.func 38) #[] #[]) theW := ⟨_, _, rfl, fun _ _ => by kernel_rfl, fun w _ B g h x _ H hb _ => then_is H hb⟩
theorem fl_else (W : World) : FloIs W (.func (.func 37) #[] #[]) elsW := ⟨_, _, rfl, fun _ _ => by kernel_rfl, fun w _ B g h x _ H hb _ => else_is H hb⟩
theorem fl_begin (W : World) : FloIs W (.func (.func 41) #[] #[]) begW := ⟨_, _, rfl, fun _ _ => by kernel_rfl, fun w _ B g h x _ H hb _ => begin_is H hb⟩
theorem fl_while (W : World) : FloIs W (.func (.func 43) #[] #[]) whiW := ⟨_, _, rfl, fun _ _ => by kernel_rfl, fun w _ B g h x _ H hb _ => while_is H hb⟩
theorem fl_repeat (W : World) : FloIs W (.func (.func 44) #[] #[]) repW := ⟨_, _, rfl, fun _ _ => by kernel_rfl, fun w _ B g h x _ H hb _ => repeat_is H hb⟩
theorem fl_recurse (W : World) : FloIs W (.func (.func 46) #[] #[]) recW := ⟨_, _, rfl, fun _ _ => by kernel_rfl, fun w _ B g h x _ H hb hw => recurse_is H hb hw⟩
/-- what makes a word tells one -/
def Makes (W : World) (φ : WkS → WkS) (e : Ending) (w : World) : Prop := ∃ G, e = .returned G ∧ FloIs w G φ ∧ Below W.heap.size W w
theorem opening_new (W : World) (op kind : Int) (hop : C64 op) : Calls Tryd.prog 36 #[.int .i64 op, .int .i64 kind] W (Makes W (opeW op kind)) := by
  have hmf := mkfo
  have b1 := boxed W (.int .i64 op) 3
  have b2 := boxed (W.alloc (.cells #[.int .i64 op] 3)) (.int .i64 kind) 3
  have hsz : (W.alloc (.cells #[.int .i64 op] 3)).heap.size = W.heap.size + 1 := by simp
  have hE : Makes W (opeW op kind) (.returned (.func (.func 54) #[] #[.pointer (some ⟨W.heap.size + 1, 0, none⟩), .pointer (some ⟨W.heap.size, 0, none⟩)])) ((W.alloc (.cells #[.int .i64 op] 3)).alloc (.cells #[.int .i64 kind] 3)) := by
    rw [hsz] at b2
    have hs2 : ((W.alloc (.cells #[.int .i64 op] 3)).alloc (.cells #[.int .i64 kind] 3)).heap.size = W.heap.size + 2 := by simp
    have c1 := ((Keep.of (hsz ▸ b2.2)).cell b1.1)
    refine ⟨_, rfl, ⟨_, _, rfl, fun _ _ => by kernel_rfl, fun w hk B g h x hg H hb _ => ?_⟩, b1.2.trans ((hsz ▸ b2.2 : Below (W.alloc (.cells #[.int .i64 op] 3)).heap.size _ _).mono (by omega))⟩
    exact opening_is H hb (W.heap.size + 1) W.heap.size kind op (by omega) (by omega) (hk.cell b2.1) (hk.cell c1) hop
  replace hE := Lib.hid hE
  clear b1 b2 hsz hop
  go_enter Tryd.func36, Tryd.ntmps36
  go_wp2
  go_ret
  exact hE.out
theorem goback_new (W : World) (op : Int) (hop : C64 op) : Calls Tryd.prog 42 #[.int .i64 op] W (Makes W (gobW op)) := by
  have hmf := mkfo
  have b1 := boxed W (.int .i64 op) 3
  have hs2 : (W.alloc (.cells #[.int .i64 op] 3)).heap.size = W.heap.size + 1 := by simp
  have hE := Lib.hid (show Makes W (gobW op) (.returned (.func (.func 62) #[] #[.pointer (some ⟨W.heap.size, 0, none⟩)])) (W.alloc (.cells #[.int .i64 op] 3)) from
    ⟨_, rfl, ⟨_, _, rfl, fun _ _ => by kernel_rfl, fun w hk B g h x hg H hb _ => goingback_is H hb W.heap.size op (by omega) (hk.cell b1.1) hop⟩, b1.2⟩)
  clear b1 hs2 hop
  go_enter Tryd.func42, Tryd.ntmps42
  go_wp2
  go_ret
  exact hE.out
theorem closing_new (W : World) (op : Int) (hop : C64 op) : Calls Tryd.prog 45 #[.int .i64 op] W (Makes W (cloW op)) := by
  have hmf := mkfo
  have b1 := boxed W (.int .i64 op) 3
  have hs2 : (W.alloc (.cells #[.int .i64 op] 3)).heap.size = W.heap.size + 1 := by simp
  have hE := Lib.hid (show Makes W (cloW op) (.returned (.func (.func 63) #[] #[.pointer (some ⟨W.heap.size, 0, none⟩)])) (W.alloc (.cells #[.int .i64 op] 3)) from
    ⟨_, rfl, ⟨_, _, rfl, fun _ _ => by kernel_rfl, fun w hk B g h x hg H hb _ => closing_is H hb W.heap.size op (by omega) (hk.cell b1.1) hop⟩, b1.2⟩)
  clear b1 hs2 hop
  go_enter Tryd.func45, Tryd.ntmps45
  go_wp2
  go_ret
  exact hE.out

abbrev Phi := WkS → WkS
abbrev Tbl := List (List Int × Phi)
def lkp : Tbl → List Int → Option Phi
  | [], _ => none
  | (k, φ) :: l, f => if k = f then some φ else lkp l f
theorem lkp_mem {l : Tbl} {f : List Int} {φ : Phi} (hn : (l.map (·.1)).Nodup) (h : (f, φ) ∈ l) : lkp l f = some φ := by
  induction l with
  | nil => cases h
  | cons x l ih =>
    obtain ⟨k, ψ⟩ := x
    simp only [List.map_cons, List.nodup_cons] at hn
    rcases List.mem_cons.1 h with e | e
    · injection e with e1 e2
      subst e1; subst e2
      exact if_pos rfl
    · have hne : k ≠ f := fun q => hn.1 (by rw [q]; exact List.mem_map.2 ⟨_, e, rfl⟩)
      show (if k = f then some ψ else lkp l f) = some φ
      rw [if_neg hne]
      exact ih hn.2 e
theorem lkp_no {l : Tbl} {f : List Int} (h : ∀ x ∈ l, x.1 ≠ f) : lkp l f = none := by
  induction l with
  | nil => rfl
  | cons x l ih =>
    obtain ⟨k, ψ⟩ := x
    show (if k = f then some ψ else lkp l f) = none
    rw [if_neg (h (k, ψ) (.head _))]
    exact ih fun y hy => h y (.tail _ hy)

/-- a map's entries are these words -/
structure Ents (W : World) (es : List MapEntry) (l : Tbl) : Prop where
  len : es.length = l.length
  key : ∀ (i : Nat) (e : MapEntry) (x : List Int × Phi), es[i]? = some e → l[i]? = some x → e.key = .string (strOfNums x.1) ∧ FloIs W e.val x.2
  nodup : (l.map (·.1)).Nodup
  ok : ∀ x ∈ l, bytesOk x.1
theorem Ents.keep {W w : World} {es : List MapEntry} {l : Tbl} (h : Ents W es l) (hk : Keep W w) : Ents w es l :=
  ⟨h.len, fun i e x h1 h2 => ⟨(h.key i e x h1 h2).1, (h.key i e x h1 h2).2.keep hk⟩, h.nodup, h.ok⟩
theorem Ents.isKey {W : World} {es : List MapEntry} {l : Tbl} (h : Ents W es l) : ∀ e ∈ es, MapKept.IsKey .string e.key := by
  intro e he
  obtain ⟨i, hi⟩ := List.mem_iff_getElem?.1 he
  have hl : i < l.length := by rw [← h.len]; exact (List.getElem?_eq_some_iff.1 hi).1
  rw [(h.key i e _ hi (List.getElem?_eq_getElem hl)).1]
  trivial
theorem Ents.find {W : World} {es : List MapEntry} {l : Tbl} (h : Ents W es l) {f : List Int} (hf : bytesOk f) :
    (Instr.findNow .string (.string (strOfNums f)) es 0 = some none ∧ lkp l f = none) ∨ ∃ j F φ, Instr.findNow .string (.string (strOfNums f)) es 0 = some (some (j, F)) ∧ lkp l f = some φ ∧ FloIs W F φ := by
  rcases MapKept.findNow_spec (d := .string) (k := .string (strOfNums f)) trivial es 0 h.isKey with ⟨h1, h2⟩ | ⟨j, e, h1, h2, h3⟩
  · refine .inl ⟨h1, lkp_no fun x hx q => ?_⟩
    obtain ⟨i, hi⟩ := List.mem_iff_getElem?.1 hx
    have hl : i < es.length := by rw [h.len]; exact (List.getElem?_eq_some_iff.1 hi).1
    exact h2 _ (List.getElem_mem hl) ((h.key i _ x (List.getElem?_eq_getElem hl) hi).1.trans (by rw [q]))
  · have hl : j < l.length := by rw [← h.len]; exact (List.getElem?_eq_some_iff.1 h2).1
    obtain ⟨k1, k2⟩ := h.key j e _ h2 (List.getElem?_eq_getElem hl)
    have hm : l[j] ∈ l := List.getElem_mem hl
    have he : (l[j]).1 = f := On.str_inj (h.ok _ hm) hf (by
      rw [k1] at h3
      injection h3 with h3
      rw [h3])
    refine .inr ⟨0 + j, e.val, (l[j]).2, h1, lkp_mem h.nodup ?_, k2⟩
    rw [← he]
    exact hm
/-- the map at B holds these words -/
def MapIs (W : World) (B : Nat) (l : Tbl) : Prop := ∃ es c, W.heap[B]? = some (.map es c) ∧ Ents W es.toList l
theorem MapIs.lookup {W : World} {B : Nat} {l : Tbl} (h : MapIs W B l) {f : List Int} (hf : bytesOk f) :
    ((Instr.lookup 51 (.map (some B)) (.string (strOfNums f)) true).run Tryd.prog W = .ok (.tuple #[.nilFunc, .bool false]) W ∧ lkp l f = none) ∨
    ∃ F φ, (Instr.lookup 51 (.map (some B)) (.string (strOfNums f)) true).run Tryd.prog W = .ok (.tuple #[F, .bool true]) W ∧ lkp l f = some φ ∧ FloIs W F φ := by
  obtain ⟨es, c, hb, hE⟩ := h
  have hik : MapKept.IsKey .string (.string (strOfNums f)) := trivial
  have hz : (zeroValue 49).run Tryd.prog W = .ok .nilFunc W := by kernel_rfl
  rcases hE.find hf with ⟨h1, h2⟩ | ⟨j, F, φ, h1, h2, h3⟩
  · exact .inl ⟨by simp [Instr.lookup, run_underlying Tryd.underlying51, MapKept.run_getObj_map hb, MapKept.run_checkKey Tryd.underlying9 hik, MapKept.run_findKey Tryd.underlying9 h1, hz, Result.andThen], h2⟩
  · exact .inr ⟨F, φ, by simp [Instr.lookup, run_underlying Tryd.underlying51, MapKept.run_getObj_map hb, MapKept.run_checkKey Tryd.underlying9 hik, MapKept.run_findKey Tryd.underlying9 h1, Result.andThen], h2, h3⟩

/-- while it is made, from the world w0 on -/
structure Tab (w0 W : World) (l : Tbl) : Prop where
  below : Below w0.heap.size w0 W
  map : MapIs W w0.heap.size l
theorem Tab.begin (w0 : World) : Tab w0 (w0.alloc (.map #[] 0)) [] :=
  ⟨(Below.refl _ _).alloc (Nat.le_refl _) _, #[], 0, (MapKept.heap_alloc w0 _).1, rfl, fun i e x h1 h2 => (by simp at h1), List.nodup_nil, fun x hx => (by cases hx)⟩
theorem Tab.next {w0 W W' : World} {l : Tbl} {F : Value} {φ : Phi} (hT : Tab w0 W l) (hb : Below W.heap.size W W') (hF : FloIs W' F φ) (s : ByteArray) (key : List Int) (hs : s = strOfNums key)
    (hk : (l.all fun x => x.1 != key) = true) (hok : (key.all fun c => decide (0 ≤ c) && decide (c ≤ 255)) = true) :
    ∃ W2, (Instr.mapUpdate 51 (.map (some w0.heap.size)) (.string s) F).run Tryd.prog W' = .ok () W2 ∧ Tab w0 W2 (l ++ [(key, φ)]) := by
  subst hs
  obtain ⟨hB, es, c, hm, hE⟩ := hT
  have hlt : w0.heap.size < W.heap.size := (Array.getElem?_eq_some_iff.1 hm).1
  have hm' : W'.heap[w0.heap.size]? = some (.map es c) := (hb.block _ hlt).trans hm
  have hE' : Ents W' es.toList l := hE.keep (Keep.of hb)
  have hkn : ∀ x ∈ l, x.1 ≠ key := fun x hx => by
    have := List.all_eq_true.1 hk x hx
    simpa using this
  have hokk : bytesOk key := fun c hc => by
    have := List.all_eq_true.1 hok c hc
    simpa using this
  have hfresh : Instr.findNow .string (.string (strOfNums key)) es.toList 0 = some none := by
    rcases hE'.find hokk with ⟨h1, _⟩ | ⟨j, F, ψ, _, h2, _⟩
    · exact h1
    · rw [lkp_no hkn] at h2
      cases h2
  have hik : MapKept.IsKey .string (.string (strOfNums key)) := trivial
  have hkeep : Keep W' { W' with heap := W'.heap.setIfInBounds w0.heap.size (.map (es.push { key := .string (strOfNums key), val := F, born := c }) (c + 1)) } :=
    ⟨rfl, rfl, rfl, by simp, fun k a e z h => by
      have hne : k ≠ w0.heap.size := fun q => by rw [q, hm'] at h; cases h
      exact ((MapKept.heap_set hm').2 k hne).trans h⟩
  refine ⟨{ W' with heap := W'.heap.setIfInBounds w0.heap.size (.map (es.push { key := .string (strOfNums key), val := F, born := c }) (c + 1)) }, ?_, ⟨?_, es.push { key := .string (strOfNums key), val := F, born := c }, c + 1, (MapKept.heap_set hm').1, ?_⟩⟩
  · simp [Instr.mapUpdate, run_underlying Tryd.underlying51, MapKept.run_getObj_map hm', MapKept.run_checkKey Tryd.underlying9 hik, MapKept.run_findKey Tryd.underlying9 hfresh, MapKept.run_setObj_map _ hm', Result.andThen]
  · have hB' := hB.trans (hb.mono (Nat.le_of_lt hlt))
    exact ⟨hB'.os, hB'.tape, hB'.output, by simpa using hB'.size, fun k hk => ((MapKept.heap_set hm').2 k (Nat.ne_of_lt hk)).trans (hB'.block k hk)⟩
  · have hl := hE'.len
    refine ⟨by simp at hl ⊢; exact hl, fun i e x h1 h2 => ?_, ?_, ?_⟩
    · simp only [Array.toList_push] at h1
      by_cases hi : i < es.toList.length
      · rw [List.getElem?_append_left hi] at h1
        rw [List.getElem?_append_left (by rw [← hl]; exact hi)] at h2
        exact ⟨(hE'.key i e x h1 h2).1, (hE'.key i e x h1 h2).2.keep hkeep⟩
      · rw [List.getElem?_append_right (by omega)] at h1
        rw [List.getElem?_append_right (by omega)] at h2
        rw [← hl] at h2
        obtain h0 | h0 : i - es.toList.length = 0 ∨ ¬ i - es.toList.length = 0 := by omega
        · rw [h0] at h1 h2
          simp only [List.getElem?_cons_zero, Option.some.injEq] at h1 h2
          subst h1; subst h2
          exact ⟨rfl, hF.keep hkeep⟩
        · rw [List.getElem?_eq_none (by simp only [List.length_singleton]; omega)] at h1
          cases h1
    · rw [List.map_append, List.nodup_append]
      refine ⟨hE'.nodup, by simp, fun a ha b hb q => ?_⟩
      obtain ⟨x, hx, rfl⟩ := List.mem_map.1 ha
      simp only [List.map_cons, List.map_nil, List.mem_singleton] at hb
      exact hkn x hx (q.trans hb)
    · intro x hx
      rcases List.mem_append.1 hx with h | h
      · exact hE'.ok x h
      · simp only [List.mem_singleton] at h
        subst h
        exact hokk
theorem make_map (w : World) : (Instr.makeMap 51 none).run Tryd.prog w = .ok (.map (some w.heap.size)) (w.alloc (.map #[] 0)) := by kernel_rfl
end Go.Proofs.YtcjbfokindoicaaDoor

/- The map of the words of control flow; a list of numbers cloned. -/
namespace Go.Proofs.YtcjbfokindoicaaDoor
set_option maxRecDepth 100000
open Go.ChangeShapes Go.WideShapes Go.ChangeAt Go.RowKit
open On (St Hs StIs cst Fl one C64 C8 Sc slc spc Sz bytesOk wpList_append_run)
set_option linter.unusedVariables false
set_option maxRecDepth 100000

def tbF : Tbl := [([73, 70], opeW 4 1),
  ([69, 76, 83, 69], elsW),
  ([84, 72, 69, 78], theW),
  ([66, 69, 71, 73, 78], begW),
  ([65, 71, 65, 73, 78], gobW 3),
  ([85, 78, 84, 73, 76], gobW 4),
  ([87, 72, 73, 76, 69], whiW),
  ([82, 69, 80, 69, 65, 84], repW),
  ([68, 79], opeW 5 3),
  ([76, 79, 79, 80], cloW 6),
  ([43, 76, 79, 79, 80], cloW 7),
  ([82, 69, 67, 85, 82, 83, 69], recW)]
theorem fmk_0 (W : World) : Calls Tryd.prog 36 #[.int .i64 4, .int .i64 1] W (Makes W (opeW 4 1)) := opening_new W 4 1 (c64_lit rfl)
theorem fmk_4 (W : World) : Calls Tryd.prog 42 #[.int .i64 3] W (Makes W (gobW 3)) := goback_new W 3 (c64_lit rfl)
theorem fmk_5 (W : World) : Calls Tryd.prog 42 #[.int .i64 4] W (Makes W (gobW 4)) := goback_new W 4 (c64_lit rfl)
theorem fmk_8 (W : World) : Calls Tryd.prog 36 #[.int .i64 5, .int .i64 3] W (Makes W (opeW 5 3)) := opening_new W 5 3 (c64_lit rfl)
theorem fmk_9 (W : World) : Calls Tryd.prog 45 #[.int .i64 6] W (Makes W (cloW 6)) := closing_new W 6 (c64_lit rfl)
theorem fmk_10 (W : World) : Calls Tryd.prog 45 #[.int .i64 7] W (Makes W (cloW 7)) := closing_new W 7 (c64_lit rfl)
set_option maxHeartbeats 4000000 in
theorem words_any (w : World) : Calls Tryd.prog 17 #[] w fun e w' => ∃ B, e = .returned (.map (some B)) ∧ MapIs w' B tbF ∧ Below w.heap.size w w' := by
  have hmm := make_map w
  have hT := Lib.hid (Tab.begin w)
  generalize w.alloc (.map #[] 0) = V0 at *
  go_enter Tryd.func17, Tryd.ntmps17
  go_wp2_with (first
    | (go_at_call 36; (with_reducible refine (fmk_0 _).mono ?_); rintro e w0 ⟨G0, rfl, hG, hb⟩; obtain ⟨x0, r0, hT⟩ := hT.out.next hb hG ⟨#[73, 70]⟩ [73, 70] rfl rfl rfl; replace hT := Lib.hid hT; clear hG hb; obtain ⟨x1, r1, hT⟩ := hT.out.next (Below.refl _ x0) (fl_else x0) ⟨#[69, 76, 83, 69]⟩ [69, 76, 83, 69] rfl rfl rfl; replace hT := Lib.hid hT; obtain ⟨x2, r2, hT⟩ := hT.out.next (Below.refl _ x1) (fl_then x1) ⟨#[84, 72, 69, 78]⟩ [84, 72, 69, 78] rfl rfl rfl; replace hT := Lib.hid hT; obtain ⟨x3, r3, hT⟩ := hT.out.next (Below.refl _ x2) (fl_begin x2) ⟨#[66, 69, 71, 73, 78]⟩ [66, 69, 71, 73, 78] rfl rfl rfl; replace hT := Lib.hid hT)
    | (go_at_call 42; (with_reducible refine (fmk_4 _).mono ?_); rintro e w4 ⟨G4, rfl, hG, hb⟩; obtain ⟨x4, r4, hT⟩ := hT.out.next hb hG ⟨#[65, 71, 65, 73, 78]⟩ [65, 71, 65, 73, 78] rfl rfl rfl; replace hT := Lib.hid hT; clear hG hb)
    | (go_at_call 42; (with_reducible refine (fmk_5 _).mono ?_); rintro e w5 ⟨G5, rfl, hG, hb⟩; obtain ⟨x5, r5, hT⟩ := hT.out.next hb hG ⟨#[85, 78, 84, 73, 76]⟩ [85, 78, 84, 73, 76] rfl rfl rfl; replace hT := Lib.hid hT; clear hG hb; obtain ⟨x6, r6, hT⟩ := hT.out.next (Below.refl _ x5) (fl_while x5) ⟨#[87, 72, 73, 76, 69]⟩ [87, 72, 73, 76, 69] rfl rfl rfl; replace hT := Lib.hid hT; obtain ⟨x7, r7, hT⟩ := hT.out.next (Below.refl _ x6) (fl_repeat x6) ⟨#[82, 69, 80, 69, 65, 84]⟩ [82, 69, 80, 69, 65, 84] rfl rfl rfl; replace hT := Lib.hid hT)
    | (go_at_call 36; (with_reducible refine (fmk_8 _).mono ?_); rintro e w8 ⟨G8, rfl, hG, hb⟩; obtain ⟨x8, r8, hT⟩ := hT.out.next hb hG ⟨#[68, 79]⟩ [68, 79] rfl rfl rfl; replace hT := Lib.hid hT; clear hG hb)
    | (go_at_call 45; (with_reducible refine (fmk_9 _).mono ?_); rintro e w9 ⟨G9, rfl, hG, hb⟩; obtain ⟨x9, r9, hT⟩ := hT.out.next hb hG ⟨#[76, 79, 79, 80]⟩ [76, 79, 79, 80] rfl rfl rfl; replace hT := Lib.hid hT; clear hG hb)
    | (go_at_call 45; (with_reducible refine (fmk_10 _).mono ?_); rintro e w10 ⟨G10, rfl, hG, hb⟩; obtain ⟨x10, r10, hT⟩ := hT.out.next hb hG ⟨#[43, 76, 79, 79, 80]⟩ [43, 76, 79, 79, 80] rfl rfl rfl; replace hT := Lib.hid hT; clear hG hb; obtain ⟨x11, r11, hT⟩ := hT.out.next (Below.refl _ x10) (fl_recurse x10) ⟨#[82, 69, 67, 85, 82, 83, 69]⟩ [82, 69, 67, 85, 82, 83, 69] rfl rfl rfl; replace hT := Lib.hid hT))
  go_ret
  exact ⟨_, rfl, hT.out.map, hT.out.below⟩
theorem intone (l : List Int) : ∀ u ∈ l.flatMap (one .i64), u.oneCell' = true := fun u hu => by
  obtain ⟨x, _, hx⟩ := List.mem_flatMap.1 hu
  obtain rfl := List.mem_singleton.1 hx
  rfl
theorem nil_yes (w : World) : (binOp .eql 23 (.slice none 0 0) (.slice none 0 0)).run Tryd.prog w = .ok (.bool true) w := by kernel_rfl
theorem nil_not (p : Addr) (n c : Nat) (w : World) : (binOp .eql 23 (.slice (some p) n c) (.slice none 0 0)).run Tryd.prog w = .ok (.bool false) w := by kernel_rfl
/-- a list of numbers in memory of its own -/
theorem clone_any {W : World} (x : Sc) (l : List Int) (hx : Fl (one .i64) 1 W x l) (hn : x.n ≤ 100000) :
    Calls Tryd.prog 18 #[.slice x.a x.n x.c] W fun e w => ∃ a c, e = .returned (.slice a x.n c) ∧ On.Oz w W.heap.size 3 1 a x.n c (l.flatMap (one .i64)) ∧ Below W.heap.size W w := by
  obtain ⟨xa, n, xc⟩ := x
  have hbd := hx.bd
  dsimp only at hn hbd ⊢
  cases xa with
  | none =>
    have h0 : xc = 0 := Sz.isnil hx rfl
    obtain rfl : n = 0 := by omega
    subst h0
    have hl : l = [] := List.eq_nil_of_length_eq_zero (Fl.len hx (fun _ => rfl) (by decide))
    subst hl
    clear hx
    have hny := nil_yes
    go_enter Tryd.func18, Tryd.ntmps18
    go_wp2
    go_ret
    exact ⟨none, 0, rfl, On.Oz.nil _ _ _ _, Below.refl _ _⟩
  | some p =>
    have hA : Below W.heap.size W (W.alloc (.cells #[] 3)) := (Below.refl _ _).alloc (Nat.le_refl _) _
    have ho : On.Oz (W.alloc (.cells #[] 3)) W.heap.size 3 1 (some ⟨W.heap.size, 0, none⟩) 0 0 [] := On.Oz.made W W.heap.size 3 1 (Nat.le_refl _) #[] 0 (Nat.zero_le _) rfl
    obtain ⟨i, hi, hz0, hz1, hz2⟩ := info_parts intinf2
    obtain ⟨a', cap', w2, hrun, h2, hb2⟩ := On.Oz.app (P := Tryd.prog) (ty := 23) Tryd.underlying23 hi hz0 hz1 hz2 rfl (by decide) ho (hx.below hA) (intone l) (by dsimp only; omega) (by dsimp only; omega) hA.size
    dsimp only at hrun h2
    rw [Nat.zero_add] at hrun h2
    have h2' := Lib.hid h2
    have hb2' := Lib.hid (hA.trans hb2)
    clear hx hA ho h2 hb2 hi hz0 hz1 hz2
    have hny := nil_not p n xc
    go_enter Tryd.func18, Tryd.ntmps18
    go_wp2_with (refine wpList_append_run rfl (.tmp 5) (.tmp 6) 23 rfl _ _ _ rfl rfl hrun ?_)
    go_ret
    exact ⟨a', cap', rfl, h2'.out, hb2'.out⟩
end Go.Proofs.YtcjbfokindoicaaDoor
