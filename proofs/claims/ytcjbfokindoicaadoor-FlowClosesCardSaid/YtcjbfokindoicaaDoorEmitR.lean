/- The document's Emit. -/
import Derived.Test.YtcjbfokindoicaaDoorEmitA
import Derived.Deep.RegionHeld3
import Derived.Deep.DeepCutAuto
import Derived.Deep.CutBlock
import Derived.BigQuiet
namespace Go.Proofs.YtcjbfokindoicaaDoor
set_option maxRecDepth 100000
open Go.ChangeShapes Go.WideShapes Go.ChangeAt Go.RowKit
open On (St Hs StIs cst Fl one C64 C8 Sc slc spc Oz Sz wpList_append_run)
set_option linter.unusedVariables false
set_option maxRecDepth 100000

/-- bytes and spots as they were, all else as in the state that came -/
structure Live (w0 w : World) (h0 : Hs) (s0 : St) (h : Hs) (s : St) : Prop where
  below : Below w0.heap.size w0 w
  eqh : h = { h0 with mem := h.mem, spots := h.spots }
  eqs : s = { s0 with mem := s.mem, spots := s.spots, here := s.here }
  mem : Fl (one .u8) 1 w h.mem s.mem
  spots : Fl spc 2 w h.spots s.spots
  off : h.spots.n = 0 ∨ ∃ b o, h.spots.a = some ⟨b, o, none⟩ ∧ b ≠ w0.heap.size ∧ b ≠ w0.heap.size + 1
theorem Live.is {w0 w : World} {h0 h : Hs} {s0 s : St} (H : Live w0 w h0 s0 h s) (h1 : StIs w0 h0 s0) : StIs w h s := by
  have h2 := (h1.below H.below).with_mem H.mem
  have h3 := h2.with_spots H.spots
  rw [H.eqh, H.eqs]
  exact ⟨h3.mem, h3.data, h3.ret, h3.ctl, h3.words, h3.spots, h3.out⟩
/-- what is thrown, and what comes of it -/
def EmEnd (w : World) (x : Int × St) (e : Ending) (w' : World) : Prop := ∃ h', e = .returned (.tuple #[.agg (cst h' x.2), .int .i64 x.1]) ∧ StIs w' h' x.2 ∧ Below w.heap.size w w'
/-- all fields of a variable that holds a state, told one by one -/
abbrev StC (V : World) (g : Nat) (h' : Hs) (s' : St) : Prop := V.cell? ⟨g, 0, none⟩ = some h'.mem.val ∧ V.cell? ⟨g, 1, none⟩ = some h'.data.val ∧ V.cell? ⟨g, 2, none⟩ = some h'.ret.val ∧ V.cell? ⟨g, 3, none⟩ = some h'.ctl.val ∧ V.cell? ⟨g, 4, none⟩ = some h'.words.val ∧ V.cell? ⟨g, 5, none⟩ = some h'.spots.val ∧ V.cell? ⟨g, 6, none⟩ = some h'.out.val ∧ V.cell? ⟨g, 7, none⟩ = some (.int .i64 s'.ip) ∧ V.cell? ⟨g, 8, none⟩ = some (.int .i64 s'.here) ∧ V.cell? ⟨g, 9, none⟩ = some (.int .i64 s'.pos) ∧ V.cell? ⟨g, 10, none⟩ = some (.int .i64 s'.tok) ∧ V.cell? ⟨g, 11, none⟩ = some (.int .i64 s'.inn) ∧ V.cell? ⟨g, 12, none⟩ = some (.int .i64 s'.err) ∧ V.cell? ⟨g, 13, none⟩ = some (.bool s'.comp) ∧ V.cell? ⟨g, 14, none⟩ = some (.bool s'.halt)
theorem StC.of {V : World} {g : Nat} {h' : Hs} {s' : St} {T : TypeId} (hB : Bx V g T (cst h' s')) : StC V g h' s' :=
  ⟨hB.cell 0 rfl, hB.cell 1 rfl, hB.cell 2 rfl, hB.cell 3 rfl, hB.cell 4 rfl, hB.cell 5 rfl, hB.cell 6 rfl, hB.cell 7 rfl, hB.cell 8 rfl, hB.cell 9 rfl, hB.cell 10 rfl, hB.cell 11 rfl, hB.cell 12 rfl, hB.cell 13 rfl, hB.cell 14 rfl⟩
theorem far1 {W V : World} (h : Below W.drew.heap.size W.drew V) : Below W.heap.size W V := ((Below.refl W.heap.size W).drew).trans h
theorem far2 {W V : World} {o : Obj} (h : Below (W.drew.alloc o).heap.size (W.drew.alloc o) V) : Below W.heap.size W V :=
  ((((Below.refl W.heap.size W).drew).alloc (Nat.le_refl _) o)).trans (h.mono (((((Below.refl W.heap.size W).drew).alloc (Nat.le_refl _) o)).size))
theorem far3 {W V : World} (h : Below (W.drew.alloc (.cells zst 28)).heap.size (W.drew.alloc (.cells zst 28)) V) : Bx V W.heap.size 28 zst := (Bx.new W.drew 28 zst).below h (by simp)
theorem cells_at {W : World} {g : Nat} {cs ds : Array Value} (h : Bx W g 28 cs) (hs : cs.size = ds.size) (h1 : ds.all (·.oneCell') = true) : (storeCells ⟨g, 0, none⟩ ds.toList).run Tryd.prog W = .ok () (W.setRow g ds) := by
  have := run_storeCells_from (P := Tryd.prog) g 28 ds.toList 0 cs W h (by simp; omega) (fun v hv => (Array.all_eq_true_iff_forall_mem.1 h1) v (by simpa using hv))
  have e : cs.toList.take 0 ++ (ds.toList ++ cs.toList.drop (0 + ds.toList.length)) = ds.toList := by simp; omega
  simpa [hs] using this
def StZ (Z : Array Value) : Prop := Z.size = 15 ∧ Z.all (·.oneCell') = true
theorem StZ.cst (h : Hs) (s : St) : StZ (cst h s) := ⟨rfl, cst_one h s⟩
theorem StZ.zst : StZ zst := StZ.cst Hs.zero St.zero
theorem fl_setRow {α : Type} {f : α → List Value} {z : Nat} {w : World} {x : Sc} {l : List α} (h : Fl f z w x l) (g : Nat) (hoff : x.n = 0 ∨ ∃ b o, x.a = some ⟨b, o, none⟩ ∧ b ≠ g) (cs : Array Value) : Fl f z (w.setRow g cs) x l := by
  refine ⟨Sz.len h, Sz.cap h, Sz.big h, Sz.isnil h, fun hn => ?_⟩
  obtain ⟨b, o, ha, hr⟩ := Sz.cells h hn
  refine ⟨b, o, ha, fun i v hv => ?_⟩
  rcases hoff with h0 | ⟨b', o', ha', hne⟩
  · omega
  · obtain ⟨rfl, rfl⟩ : b' = b ∧ o' = o := by rw [ha] at ha'; simp at ha'; exact ⟨ha'.1.symm, ha'.2.symm⟩
    have := hr i v hv
    unfold World.cell? at this ⊢
    simp only [setRow_other w g b' cs hne]
    exact this
theorem Live.row {w0 w : World} {h0 h : Hs} {s0 s : St} {T : TypeId} {c1 c2 : Array Value} (H : Live w0 w h0 s0 h s) (q1 : Bx w w0.heap.size T c1) (q2 : Bx w (w0.heap.size + 1) T c2) (n1 : NoB c1) (n2 : NoB c2) (g : Nat) (hg : g = w0.heap.size ∨ g = w0.heap.size + 1) (cs : Array Value) : Live w0 (w.setRow g cs) h0 s0 h s :=
  ⟨below_setRow H.below (by omega) cs, H.eqh, H.eqs, mem_keep H.mem w0.heap.size (w0.heap.size + 1) q1 q2 n1 n2 (fun k k1 k2 => setRow_other _ _ k _ (by rcases hg with rfl | rfl <;> assumption)), fl_setRow H.spots g (by
    rcases H.off with h | ⟨b, o, ha, h1, h2⟩
    · exact .inl h
    · exact .inr ⟨b, o, ha, by rcases hg with rfl | rfl <;> assumption⟩) cs, H.off⟩
/-- a new variable g that holds a state with other bytes -/
def Made (W V : World) (g : Nat) (h : Hs) (s : St) : Prop := ∃ x, W.heap.size ≤ g ∧ Bx V g 28 (cst { h with mem := x } s) ∧ Fl (one .u8) 1 V x s.mem ∧ ∀ y, x.a = some y → W.heap.size ≤ y.block
theorem fin1 {W w3 : World} {Z : Array Value} {h : Hs} {s : St} (hle : W.heap.size ≤ w3.heap.size) (hF : ∃ x, Z = cst { h with mem := x } s ∧ Fl (one .u8) 1 w3 x s.mem ∧ ∀ y, x.a = some y → W.heap.size ≤ y.block) : Made W ((w3.alloc (.cells zst 28)).setRow w3.heap.size Z) w3.heap.size h s := by
  obtain ⟨x, rfl, hf, hfr⟩ := hF
  exact ⟨x, hle, (Bx.new w3 28 zst).row _, hf.below (below_setRow ((Below.refl _ _).alloc (Nat.le_refl _) _) (Nat.le_refl _) _), hfr⟩
theorem fin2 {W w3 : World} {Z : Array Value} {h : Hs} {s : St} (hF : ∃ x, Z = cst { h with mem := x } s ∧ Fl (one .u8) 1 w3 x s.mem ∧ ∀ y, x.a = some y → W.heap.size ≤ y.block) (hb : Below (W.drew.alloc (.cells zst 28)).heap.size (W.drew.alloc (.cells zst 28)) w3) : Made W (w3.setRow W.heap.size Z) W.heap.size h s := by
  obtain ⟨x, rfl, hf, hfr⟩ := hF
  have hB := far3 hb
  exact ⟨x, Nat.le_refl _, hB.row _, mem_keep hf W.heap.size W.heap.size hB hB zst_nob zst_nob (fun k k1 _ => setRow_other _ _ k _ k1), hfr⟩
theorem Oz.below {w w' : World} {B n cap z : Nat} {e : TypeId} {a : Option Addr} {vs : List Value} (h : Oz w B e z a n cap vs) (hb : Below w.heap.size w w') : Oz w' B e z a n cap vs := by
  refine ⟨h.1, ?_⟩
  rcases h.2 with h0 | ⟨g, cap', cur, hv, hB, hg, hr⟩
  · exact .inl h0
  · exact .inr ⟨g, cap', cur, hv, hB, (hb.block _ (Array.getElem?_eq_some_iff.1 hg).1).trans hg, hr⟩
theorem keepS_next (h : Int) (l : List (Int × Int)) {j : Nat} (hj : j < l.length) : keepS h (l.take (j + 1)) = keepS h (l.take j) ++ (if (l.getD j default).1 < h then [l.getD j default] else []) := by
  have e : l.getD j default = l[j] := by simp [List.getD, hj]
  unfold keepS
  rw [List.take_add_one, List.getElem?_eq_getElem hj, List.filter_append, e]
  simp only [Option.toList_some, List.filter_cons, List.filter_nil]
  split <;> simp_all
/-- the end of a round: the new spots stored in the new variable, that one in the old -/
theorem finish {w0 wr w2 : World} {h0 h : Hs} {s0 s : St} {v : Int} {g m cap wcs : Nat} {a : Option Addr} {x : Sc} (H : Live w0 wr h0 s0 h s) (yg : Bx w2 g 28 (cst { h with mem := x } (comS s v))) (y1 : Bx w2 w0.heap.size 28 (cst h s)) (y2 : Bx w2 (w0.heap.size + 1) 28 zst)
    (hg : wr.heap.size ≤ g) (hg2 : g < wcs) (hb : Below wr.heap.size wr w2) (hm : Fl (one .u8) 1 w2 x (comS s v).mem) (hs : Fl spc 2 w2 ⟨a, m, cap⟩ (emiS s v).spots) (ha : ∀ x, a = some x → wcs ≤ x.block) (hlt : w0.heap.size + 1 < g) :
    Bx (w2.setCell ⟨g, 5, none⟩ (.slice a m cap)) g 28 (cst { h with mem := x, spots := ⟨a, m, cap⟩ } (emiS s v)) ∧ Bx (w2.setCell ⟨g, 5, none⟩ (.slice a m cap)) w0.heap.size 28 (cst h s) ∧
    Bx ((w2.setCell ⟨g, 5, none⟩ (.slice a m cap)).setRow w0.heap.size (cst { h with mem := x, spots := ⟨a, m, cap⟩ } (emiS s v))) w0.heap.size 28 (cst { h with mem := x, spots := ⟨a, m, cap⟩ } (emiS s v)) ∧
    Bx ((w2.setCell ⟨g, 5, none⟩ (.slice a m cap)).setRow w0.heap.size (cst { h with mem := x, spots := ⟨a, m, cap⟩ } (emiS s v))) (w0.heap.size + 1) 28 zst ∧
    Live w0 ((w2.setCell ⟨g, 5, none⟩ (.slice a m cap)).setRow w0.heap.size (cst { h with mem := x, spots := ⟨a, m, cap⟩ } (emiS s v))) h0 s0 { h with mem := x, spots := ⟨a, m, cap⟩ } (emiS s v) := by
  have z1 := y1.setOther ⟨g, 5, none⟩ (.slice a m cap) (show g ≠ w0.heap.size by omega)
  have z2 := y2.setOther ⟨g, 5, none⟩ (.slice a m cap) (show g ≠ w0.heap.size + 1 by omega)
  have zg := yg.set 5 (.slice a m cap)
  have hmk : Fl (one .u8) 1 ((w2.setCell ⟨g, 5, none⟩ (.slice a m cap)).setRow w0.heap.size (cst { h with mem := x, spots := ⟨a, m, cap⟩ } (emiS s v))) x (comS s v).mem :=
    mem_keep hm g w0.heap.size yg y1 (cst_nob _ _) (cst_nob _ _) (fun k k1 k2 => (setRow_other _ _ k _ k2).trans (heap_set_other _ _ _ k1))
  have hc : (m = 0 ∨ ∃ b o, a = some ⟨b, o, none⟩ ∧ wcs ≤ b) := by
    rcases Nat.eq_zero_or_pos m with h | h
    · exact .inl h
    · obtain ⟨b, o, hab, _⟩ := Sz.cells hs h
      exact .inr ⟨b, o, hab, ha _ hab⟩
  have hs1 : Fl spc 2 (w2.setCell ⟨g, 5, none⟩ (.slice a m cap)) ⟨a, m, cap⟩ (emiS s v).spots := by
    refine ⟨Sz.len hs, Sz.cap hs, Sz.big hs, Sz.isnil hs, fun hn => ?_⟩
    obtain ⟨b, o, hab, hr⟩ := Sz.cells hs hn
    refine ⟨b, o, hab, fun i u hu => ?_⟩
    have := hr i u hu
    have hbg := ha _ hab
    unfold World.cell? at this ⊢
    simp only [heap_set_other w2 ⟨g, 5, none⟩ (.slice a m cap) (k := b) (show b ≠ g by dsimp only at hbg; omega)]
    exact this
  refine ⟨zg, z1, z1.row _, z2.rowOther _ (by omega), ⟨?_, ?_, ?_, hmk, fl_setRow hs1 _ ?_ _, ?_⟩⟩
  · exact below_setRow ((H.below.trans (hb.mono H.below.size)).setCell (p := ⟨g, 5, none⟩) (by show w0.heap.size ≤ g; omega) _) (Nat.le_refl _) _
  · have := H.eqh
    rcases h with ⟨_, _, _, _, _, _, _⟩
    simp at this ⊢
    exact this
  · have := H.eqs
    rcases s with ⟨_, _, _, _, _, _, _, _, _, _, _, _, _, _, _⟩
    simp [emiS, comS] at this ⊢
    exact this
  · rcases hc with h | ⟨b, o, h, hb⟩
    · exact .inl h
    · exact .inr ⟨b, o, h, by omega⟩
  · rcases hc with h | ⟨b, o, h, hb⟩
    · exact .inl h
    · exact .inr ⟨b, o, h, by omega, by omega⟩
set_option maxHeartbeats 4000000 in
theorem remit_where (h : Hs) (s : St) (x : Sc) (vs : List Int) (w : World) (hS : StIs w h s) (hk : s.ok) (hm : s.mem.length ≤ 1000000) (hsp : s.spots.length ≤ 50000) (hx : Fl (one .i64) 1 w x vs) (hv : ∀ z ∈ vs, C64 z) (hn : vs.length ≤ 1000) :
    Calls Tryd.prog 24 #[.agg (cst h s), .slice x.a x.n x.c] w (EmWhere w h (emitC s vs)) := by
  obtain ⟨xa, n, xc⟩ := x
  have hl : vs.length = n := Fl.len hx (fun _ => rfl) (by decide)
  have hbx := hx.bd
  dsimp only at hbx hl ⊢
  obtain ⟨b1, b2, hb0⟩ := boxes w (cst h s) zst 28
  have hL : Live w ((w.alloc (.cells (cst h s) 28)).alloc (.cells zst 28)) h s h s := ⟨hb0, rfl, rfl, hS.mem.below hb0, hS.spots.below hb0, by
    rcases Nat.eq_zero_or_pos h.spots.n with h0 | h0
    · exact .inl h0
    · obtain ⟨b, o, ha, hr⟩ := On.Sz.cells hS.spots h0
      have hlt : b < w.heap.size := On.range_lt hr (fun hc => by
        have := On.Sz.len hS.spots
        rw [hc] at this
        simp at this
        omega)
      exact .inr ⟨b, o, ha, by omega, by omega⟩⟩
  have r1 := Lib.hid b1
  have r2 := Lib.hid b2
  have r3 := Lib.hid hL
  have r4 := Lib.hid hS
  have r5 := Lib.hid hx
  have r6 := Lib.hid hk
  have r7 := Lib.hid hv
  have r8 := Lib.hid hl
  have r9 := Lib.hid (show s.mem.length ≤ 1000000 ∧ s.spots.length ≤ 50000 from ⟨hm, hsp⟩)
  have hn2 : n ≤ 1000 := by omega
  clear b1 b2 hb0 hL hS hx hk hv hl hm hsp hn
  go_enter Tryd.func24, Tryd.ntmps24
  go_wp2
  go_loopw [6] (fun i wr => ∃ (k : Nat) (h' : Hs) (s' : St), k ≤ n ∧ i = .int .i64 k ∧ Hid (emitC s vs = emitC s' (vs.drop k)) ∧ Hid (Bx wr w.heap.size 28 (cst h' s')) ∧ Hid (Bx wr (w.heap.size + 1) 28 zst) ∧ Hid (Live w wr h s h' s') ∧ Hid s'.ok ∧ Hid (s'.mem.length ≤ 1000000 ∧ s'.spots.length ≤ 50000 + k) ∧ Hid (Fr w h h')) (fun i _ => n - (intOf i).toNat)
  case atStart => exact ⟨0, h, s, Nat.zero_le _, rfl, Lib.hid rfl, r1, r2, r3, r6, r9, Lib.hid ⟨.inl rfl, .inl rfl⟩⟩
  case round =>
    obtain ⟨k, h', s', hk, rfl, e1, q1, q2, qL, qk, qn, qF⟩ := hrel
    clear r1 r2 r3
    by_cases h1 : k < n
    · obtain ⟨b, o, ha, qv⟩ := ints_cell (r5.out.below qL.out.below) (i := k) h1
      dsimp only at ha
      subst ha
      have hdrop : Hid (vs.drop k = vs.getD k 0 :: vs.drop (k + 1)) := Lib.hid (by
        have := r8.out
        rw [List.drop_eq_getElem_cons (by omega)]
        simp [List.getD, show k < vs.length by omega])
      have hvk := r7.out (vs.getD k 0) (by
        have := r8.out
        simp [List.getD, show k < vs.length by omega])
      rw [hdrop.out] at e1
      generalize vs.getD k 0 = v at *
      clear hdrop
      have hst := Lib.hid (qL.out.is r4.out)
      by_cases ht : comT s' = 0
      · have hE : Hid (emitC s vs = emitC (emiS s' v) (vs.drop (k + 1))) := Lib.hid (by rw [e1.out, emitC, if_neg (by simpa using ht)])
        have hP := Lib.hid (fun V (hV : Below wr.heap.size wr V) => (rcomma_yesf h' s' v V (hst.out.below hV) qk.out (by have := qn.out.1; omega) hvk ht).mono (R' := fun e w3 => ∃ Z, e = .returned (.tuple #[.agg Z, .int .i64 0]) ∧ Hid (StZ Z) ∧ Hid (∃ x, Z = cst { h' with mem := x } (comS s' v) ∧ Fl (one .u8) 1 w3 x (comS s' v).mem ∧ ∀ y, x.a = some y → wr.heap.size ≤ y.block) ∧ Below V.heap.size V w3) fun e w3 hh => by
          obtain ⟨x, h1, h2, h3, h4⟩ := hh
          exact ⟨_, h1, Lib.hid (StZ.cst _ _), Lib.hid ⟨x, rfl, h2, fun y hy => Nat.le_trans hV.size (h4 y hy)⟩, h3⟩)
        have hnx := Lib.hid (emiS_ok qk.out (by have := qn.out.1; omega) v ht)
        have hcl := Lib.hid (fun V (hV : Below wr.heap.size wr V) => show _ ∧ StC V w.heap.size h' s' from ⟨(hV.cell (p := ⟨b, o + k, none⟩) (World.block_lt_of_cell? _ _ qv)).trans qv, StC.of (q1.out.below hV q1.out.lt)⟩)
        go_wp2
        go_cut [7, 8] (fun p q V => (∃ g, p = .pointer (some ⟨g, 0, none⟩) ∧ Hid (Made wr V g h' (comS s' v))) ∧ q = .int .i64 0 ∧ Hid (Below wr.heap.size wr V))
        case first =>
          go_region_held3 (fun V => V.cell? ⟨b, o + k, none⟩ = some (.int .i64 v) ∧ V.cell? ⟨w.heap.size, 0, none⟩ = some h'.mem.val ∧ V.cell? ⟨w.heap.size, 1, none⟩ = some h'.data.val ∧ V.cell? ⟨w.heap.size, 2, none⟩ = some h'.ret.val ∧ V.cell? ⟨w.heap.size, 3, none⟩ = some h'.ctl.val ∧ V.cell? ⟨w.heap.size, 4, none⟩ = some h'.words.val ∧ V.cell? ⟨w.heap.size, 5, none⟩ = some h'.spots.val ∧ V.cell? ⟨w.heap.size, 6, none⟩ = some h'.out.val ∧ V.cell? ⟨w.heap.size, 7, none⟩ = some (.int .i64 s'.ip) ∧ V.cell? ⟨w.heap.size, 8, none⟩ = some (.int .i64 s'.here) ∧ V.cell? ⟨w.heap.size, 9, none⟩ = some (.int .i64 s'.pos) ∧ V.cell? ⟨w.heap.size, 10, none⟩ = some (.int .i64 s'.tok) ∧ V.cell? ⟨w.heap.size, 11, none⟩ = some (.int .i64 s'.inn) ∧ V.cell? ⟨w.heap.size, 12, none⟩ = some (.int .i64 s'.err) ∧ V.cell? ⟨w.heap.size, 13, none⟩ = some (.bool s'.comp) ∧ V.cell? ⟨w.heap.size, 14, none⟩ = some (.bool s'.halt))
            (first
              | with_reducible exact hcl.out _ hV3
              | with_reducible exact hcl.out _ (hV3.alloc hV3.size _)
              | with_reducible exact hcl.out _ (Below.refl _ _).drew
              | with_reducible exact hcl.out _ (((Below.refl _ _).drew).alloc (Nat.le_refl _) _)
              | with_reducible exact hcl.out _ (((Below.refl _ _).alloc (Nat.le_refl _) _).drew)
              | with_reducible exact hcl.out _ (below_setRow hV3 (Nat.le_refl _) _)
              | with_reducible exact hcl.out _ (below_setRow (hV3.alloc hV3.size _) hV3.size _)
              | (with_reducible refine hcl.out _ ?_; repeat (first | with_reducible exact hV3 | (with_reducible refine Below.setCell ?_ (Nat.le_refl _) _)); done))
            (first
              | (go_at_call 49
                 (with_reducible refine (hP.out _ ?_).mono ?_)
                 · exact (((Below.refl _ _).drew).alloc (Nat.le_refl _) _)
                 rintro e w3 ⟨Z, rfl, hZ, hF, hb3⟩
                 have hV3 := far2 hb3
                 have hz1 := hZ.out.1
                 have hst := cells_at (ds := Z) (far3 hb3) hZ.out.1.symm hZ.out.2
                 have hG := Lib.hid (fin2 hF.out hb3))
              | (go_at_call 49
                 (with_reducible refine (hP.out _ ?_).mono ?_)
                 · exact (Below.refl _ _).drew
                 rintro e w3 ⟨Z, rfl, hZ, hF, hb3⟩
                 have hV3 := far1 hb3
                 have hz1 := hZ.out.1
                 have hst := cells_at (ds := Z) (Bx.new w3 28 zst) hZ.out.1.symm hZ.out.2
                 have hG := Lib.hid (fin1 hV3.size hF.out)))
          all_goals (go_wp2_with fail; go_meet; first | with_reducible exact ⟨⟨_, rfl, hG⟩, rfl, Lib.hid (below_setRow hV3 (Nat.le_refl _) _)⟩ | with_reducible exact ⟨⟨_, rfl, hG⟩, rfl, Lib.hid (below_setRow (hV3.alloc hV3.size _) hV3.size _)⟩)
        case rest =>
          obtain ⟨⟨g, rfl, hG⟩, rfl, hW⟩ := hcut
          obtain ⟨x, hgle, hGB, hGF, hGf⟩ := hG.out
          clear hcl hP qv
          obtain ⟨pa, pn, pc, hps⟩ : ∃ pa pn pc, h'.spots = ⟨pa, pn, pc⟩ := ⟨_, _, _, rfl⟩
          have hspl : s'.spots.length = pn := by
            have := Fl.len qL.out.spots On.spc_len (by decide)
            rw [hps] at this
            exact this
          have hpb := qL.out.spots.bd
          rw [hps] at hpb
          dsimp only at hpb
          have hpn : pn ≤ 60000 := by have := qn.out.2; omega
          have hsl := Lib.hid hspl
          have hcw := Lib.hid (fun V (hV : Below wc.heap.size wc V) => show V.cell? ⟨w.heap.size, 5, none⟩ = some (.slice pa pn pc) ∧ V.cell? ⟨w.heap.size, 8, none⟩ = some (.int .i64 s'.here) ∧ V.cell? ⟨w.heap.size, 10, none⟩ = some (.int .i64 s'.tok) ∧ Fl spc 2 V ⟨pa, pn, pc⟩ s'.spots by
            have hV2 : Below wr.heap.size wr V := hW.out.trans (hV.mono hW.out.size)
            have hB := q1.out.below hV2 q1.out.lt
            refine ⟨?_, hB.cell 8 rfl, hB.cell 10 rfl, hps ▸ qL.out.spots.below hV2⟩
            have := hB.cell 5 (v := h'.spots.val) rfl
            rw [hps] at this
            exact this)
          clear hspl
          go_wp2
          go_loopw [9, 10] (fun sl i wx => ∃ (j m : Nat) (a : Option Addr) (cap : Nat), j ≤ pn ∧ i = .int .i64 j ∧ sl = .slice a m cap ∧ m ≤ j ∧ Hid (Oz wx wc.heap.size 85 2 a m cap ((keepS s'.here (s'.spots.take j)).flatMap spc)) ∧ Hid (Below wc.heap.size wc wx)) (fun _ i _ => pn - (intOf i).toNat)
          case atStart => exact ⟨0, 0, none, 0, Nat.zero_le _, rfl, rfl, Nat.le_refl _, Lib.hid (Oz.nil _ _ _ _), Lib.hid (Below.refl _ _)⟩
          case round =>
            obtain ⟨j, m, a, cap, hj, rfl, rfl, hmj, hO, hB⟩ := hrel
            obtain ⟨c5, c8, c10, hf⟩ := hcw.out _ hB.out
            by_cases hj1 : j < pn
            · obtain ⟨b2, o2, ha2, p0, p1⟩ := spots_cell hf (i := j) hj1
              dsimp only at ha2
              subst ha2
              have hkn := Lib.hid (keepS_next s'.here s'.spots (j := j) (by have := hsl.out; omega))
              rcases hy : s'.spots.getD j default with ⟨y0, y1⟩
              rw [hy] at p0 p1 hkn
              dsimp only at p0 p1
              have hO1 := Lib.hid (fun nq => Oz.below hO.out (below_drewN (Below.refl wr.heap.size wr) nq))
              have hpp := Lib.hid (fun nq => show (wr.drewN nq).cell? ⟨b2, o2 + j * 2, none⟩ = _ ∧ (wr.drewN nq).cell? ⟨b2, o2 + j * 2 + 1, none⟩ = _ ∧ _ from ⟨((below_drewN (Below.refl wr.heap.size wr) nq).cell (p := ⟨b2, o2 + j * 2, none⟩) (World.block_lt_of_cell? _ _ p0)).trans p0, ((below_drewN (Below.refl wr.heap.size wr) nq).cell (p := ⟨b2, o2 + j * 2 + 1, none⟩) (World.block_lt_of_cell? _ _ p1)).trans p1, (hcw.out _ (below_drewN hB.out nq)).1⟩)
              by_cases hlt : y0 < s'.here
              · rw [if_pos hlt] at hkn
                clear hf
                go_wp2
                go_quiet (fail)
                obtain ⟨t0, t1, t5⟩ := hpp.out nq
                obtain ⟨a', cap', w2, happ, hO2, hB2⟩ := spot_app (y0, y1) (hO1.out nq) (by omega) ((below_drewN hB.out nq).size) 26
                have happ' := Lib.hid happ
                clear happ
                have hO3 : Hid (Oz w2 wc.heap.size 85 2 a' (m + 1) cap' ((keepS s'.here (s'.spots.take (j + 1))).flatMap spc)) := Lib.hid (by rw [hkn.out, List.flatMap_append]; exact hO2)
                have hB3 := Lib.hid ((below_drewN hB.out nq).trans hB2)
                clear hO2 hB2
                go_wp2_with (at_builtin; refine wpList_append_run rfl (.tmp 46) (.tmp 52) 26 rfl _ _ _ rfl rfl happ'.out ?_)
                exact ⟨⟨j + 1, m + 1, a', cap', by omega, by go_num, rfl, by omega, hO3, hB3⟩, by simp only [intOf]; omega⟩
              · rw [if_neg hlt, List.append_nil] at hkn
                clear hf
                go_wp2
                go_quiet (fail)
                go_wp2
                have hO3 : Hid (Oz (wr.drewN nq) wc.heap.size 85 2 a m cap ((keepS s'.here (s'.spots.take (j + 1))).flatMap spc)) := Lib.hid (by rw [hkn.out]; exact hO1.out nq)
                exact ⟨⟨j + 1, m, a, cap, by omega, by go_num, rfl, by omega, hO3, Lib.hid (below_drewN hB.out nq)⟩, by simp only [intOf]; omega⟩
            · obtain rfl : pn = j := by omega
              have htk : s'.spots.take pn = s'.spots := List.take_of_length_le (by have := hsl.out; omega)
              rw [htk] at hO
              obtain ⟨a', cap', w2, happ, hO2, hB2⟩ := spot_app (s'.here, s'.tok) hO.out (by omega) hB.out.size 26
              have happ' := Lib.hid happ
              have hB3 := hB.out.trans hB2
              have hglt := hGB.lt
              have hwl := hW.out.size
              have q0lt := q1.out.lt
              have q2lt := q2.out.lt
              have z1 := q1.out.below hW.out q1.out.lt
              have z2 := q2.out.below hW.out q2.out.lt
              have y1 := z1.below hB3 z1.lt
              have y2 := z2.below hB3 z2.lt
              have yg := hGB.below hB3 hglt
              have hsf : Fl spc 2 w2 ⟨a', m + 1, cap'⟩ (emiS s' v).spots := by
                have := hO2.sz
                show Sz w2 2 a' (m + 1) cap' ((keepS s'.here s'.spots ++ [(s'.here, s'.tok)]).flatMap spc)
                rw [List.flatMap_append]
                exact this
              have hoffg : ∀ x, a' = some x → wc.heap.size ≤ x.block := fun x hx => by subst hx; exact (Oz.lt hO2).1
              have hfr : Hid (Fr w h { h' with mem := x, spots := ⟨a', m + 1, cap'⟩ }) := Lib.hid ⟨.inr fun y hy => by have := hoffg y hy; have := qL.out.below.size; omega, .inr fun y hy => by have := hGf y hy; have := qL.out.below.size; omega⟩
              have fin := finish qL.out yg y1 y2 hgle (by omega) (hW.out.trans (hB3.mono hwl)) (hGF.below hB3) hsf hoffg (by omega)
              have k5 := yg.cell 5 (v := h'.spots.val) rfl
              have k6 := yg.free 5
              obtain ⟨f1, f2, f3, f4, f5⟩ := fin
              replace f1 := Lib.hid f1
              replace f2 := Lib.hid f2
              replace f3 := Lib.hid f3
              replace f4 := Lib.hid f4
              replace f5 := Lib.hid f5
              have hnb : Hid ((emiS s' v).mem.length ≤ 1000000 ∧ (emiS s' v).spots.length ≤ 50000 + (k + 1)) := Lib.hid (by have h1 := hnx.out; have h2 := qn.out; omega)
              clear happ hB3 z1 z2 y1 y2 yg hsf hoffg hO2 hB2 hO hf hcw hGB hGF hG htk
              go_wp2_with (first | (at_builtin; refine wpList_append_run rfl (.tmp 54) (.tmp 60) 26 rfl _ _ _ rfl rfl happ'.out ?_) | (refine wpList_load_row rfl 28 (.tmp 7) rfl g rfl _ _ _ _ f1.out Tryd.underlying28 rfl stinfo ?_) | (refine wpList_store_row rfl 28 (.tmp 2) (.tmp 64) rfl w.heap.size (cst { h' with mem := x, spots := ⟨a', m + 1, cap'⟩ } (emiS s' v)) rfl rfl _ _ f2.out stinfo rfl (cst_one _ _) ?_))
              exact ⟨⟨k + 1, _, emiS s' v, by omega, by go_num, hE, f3, f4, f5, Lib.hid hnx.out.1, hnb, hfr⟩, by simp only [intOf]; omega⟩
      · have hE : Hid (emitC s vs = (comT s', On.St.zero)) := Lib.hid (by rw [e1.out, emitC, if_pos ht])
        have hP := Lib.hid (fun V (hV : Below wr.heap.size wr V) => (rcomma_not h' s' v V (hst.out.below hV) qk.out (by have := qn.out.1; omega) hvk ht).mono (R' := fun e w3 => ∃ Z, e = .returned (.tuple #[.agg Z, .int .i64 (comT s')]) ∧ Hid (StZ Z) ∧ Below V.heap.size V w3) fun e w3 hh => ⟨zst, hh.1, Lib.hid StZ.zst, hh.2⟩)
        generalize comT s' = t at *
        have hcl := Lib.hid (fun V (hV : Below wr.heap.size wr V) => show _ ∧ StC V w.heap.size h' s' from ⟨(hV.cell (p := ⟨b, o + k, none⟩) (World.block_lt_of_cell? _ _ qv)).trans qv, StC.of (q1.out.below hV q1.out.lt)⟩)
        go_wp2
        go_cut [7, 8] (fun p q V => (∃ g, p = .pointer g) ∧ q = .int .i64 t ∧ Hid (Below wr.heap.size wr V))
        case first =>
          go_region_held3 (fun V => V.cell? ⟨b, o + k, none⟩ = some (.int .i64 v) ∧ V.cell? ⟨w.heap.size, 0, none⟩ = some h'.mem.val ∧ V.cell? ⟨w.heap.size, 1, none⟩ = some h'.data.val ∧ V.cell? ⟨w.heap.size, 2, none⟩ = some h'.ret.val ∧ V.cell? ⟨w.heap.size, 3, none⟩ = some h'.ctl.val ∧ V.cell? ⟨w.heap.size, 4, none⟩ = some h'.words.val ∧ V.cell? ⟨w.heap.size, 5, none⟩ = some h'.spots.val ∧ V.cell? ⟨w.heap.size, 6, none⟩ = some h'.out.val ∧ V.cell? ⟨w.heap.size, 7, none⟩ = some (.int .i64 s'.ip) ∧ V.cell? ⟨w.heap.size, 8, none⟩ = some (.int .i64 s'.here) ∧ V.cell? ⟨w.heap.size, 9, none⟩ = some (.int .i64 s'.pos) ∧ V.cell? ⟨w.heap.size, 10, none⟩ = some (.int .i64 s'.tok) ∧ V.cell? ⟨w.heap.size, 11, none⟩ = some (.int .i64 s'.inn) ∧ V.cell? ⟨w.heap.size, 12, none⟩ = some (.int .i64 s'.err) ∧ V.cell? ⟨w.heap.size, 13, none⟩ = some (.bool s'.comp) ∧ V.cell? ⟨w.heap.size, 14, none⟩ = some (.bool s'.halt))
            (first
              | with_reducible exact hcl.out _ hV3
              | with_reducible exact hcl.out _ (hV3.alloc hV3.size _)
              | with_reducible exact hcl.out _ (Below.refl _ _).drew
              | with_reducible exact hcl.out _ (((Below.refl _ _).drew).alloc (Nat.le_refl _) _)
              | with_reducible exact hcl.out _ (((Below.refl _ _).alloc (Nat.le_refl _) _).drew)
              | with_reducible exact hcl.out _ (below_setRow hV3 (Nat.le_refl _) _)
              | with_reducible exact hcl.out _ (below_setRow (hV3.alloc hV3.size _) hV3.size _)
              | (with_reducible refine hcl.out _ ?_; repeat (first | with_reducible exact hV3 | (with_reducible refine Below.setCell ?_ (Nat.le_refl _) _)); done))
            (first
              | (go_at_call 49
                 (with_reducible refine (hP.out _ ?_).mono ?_)
                 · exact (((Below.refl _ _).drew).alloc (Nat.le_refl _) _)
                 rintro e w3 ⟨Z, rfl, hZ, hb3⟩
                 have hV3 := far2 hb3
                 have hz1 := hZ.out.1
                 have hst := cells_at (ds := Z) (far3 hb3) hZ.out.1.symm hZ.out.2)
              | (go_at_call 49
                 (with_reducible refine (hP.out _ ?_).mono ?_)
                 · exact (Below.refl _ _).drew
                 rintro e w3 ⟨Z, rfl, hZ, hb3⟩
                 have hV3 := far1 hb3
                 have hz1 := hZ.out.1
                 have hst := cells_at (ds := Z) (Bx.new w3 28 zst) hZ.out.1.symm hZ.out.2))
          all_goals (go_wp2_with fail; go_meet; first | with_reducible exact ⟨⟨_, rfl⟩, rfl, Lib.hid (below_setRow hV3 (Nat.le_refl _) _)⟩ | with_reducible exact ⟨⟨_, rfl⟩, rfl, Lib.hid (below_setRow (hV3.alloc hV3.size _) hV3.size _)⟩)
        case rest =>
          obtain ⟨⟨g, rfl⟩, rfl, hW⟩ := hcut
          have ht1 : (t != 0) = true := by simpa using ht
          have c2 := Lib.hid (q2.out.below hW.out q2.out.lt)
          have hend := Lib.hid (show Below w.heap.size w (wc.setRow (w.heap.size + 1) zst) from below_setRow (qL.out.below.trans (hW.out.mono qL.out.below.size)) (Nat.le_succ _) zst)
          clear hcl hP
          go_wp2_with (refine wpList_store_row rfl 28 (.tmp 4) (.tmp 28) rfl (w.heap.size + 1) zst rfl rfl _ _ c2.out stinfo rfl (cst_one Hs.zero St.zero) ?_)
          refine bodyPost_ret (results_row2 rfl _ _ (w.heap.size + 1) 28 _ _ _ rfl rfl (c2.out.row _) Tryd.underlying28 rfl stinfo) rfl ?_
          rw [hE.out]
          exact ⟨Hs.zero, rfl, StIs.zero _, hend.out, FrA.zero _ _⟩
    · obtain rfl : n = k := by omega
      have hE : Hid (emitC s vs = (0, s')) := Lib.hid (by rw [e1.out, List.drop_eq_nil_of_le (by have := r8.out; omega), emitC])
      have hend := Lib.hid (qL.out.row q1.out q2.out (cst_nob _ _) zst_nob (w.heap.size + 1) (.inr rfl) (cst h' s'))
      go_wp2_with (first | (refine wpList_load_row rfl 28 (.tmp 2) rfl w.heap.size rfl _ _ _ _ q1.out Tryd.underlying28 rfl stinfo ?_) | (refine wpList_store_row rfl 28 (.tmp 4) (.tmp 65) rfl (w.heap.size + 1) (cst h' s') rfl rfl _ _ q2.out stinfo rfl (cst_one _ _) ?_))
      refine bodyPost_ret (results_row2 rfl _ _ (w.heap.size + 1) 28 _ _ _ rfl rfl (q2.out.row _) Tryd.underlying28 rfl stinfo) rfl ?_
      rw [hE.out]
      exact ⟨h', rfl, hend.out.is r4.out, hend.out.below, FrA.of qF.out qL.out.eqh⟩
theorem remit_any (h : Hs) (s : St) (x : Sc) (vs : List Int) (w : World) (hS : StIs w h s) (hk : s.ok) (hm : s.mem.length ≤ 1000000) (hsp : s.spots.length ≤ 50000) (hx : Fl (one .i64) 1 w x vs) (hv : ∀ z ∈ vs, C64 z) (hn : vs.length ≤ 1000) :
    Calls Tryd.prog 24 #[.agg (cst h s), .slice x.a x.n x.c] w (EmEnd w (emitC s vs)) :=
  (remit_where h s x vs w hS hk hm hsp hx hv hn).mono fun e w' hh => by
    obtain ⟨h', h1, h2, h3, _⟩ := hh
    exact ⟨h', h1, h2, h3⟩
end Go.Proofs.YtcjbfokindoicaaDoor
