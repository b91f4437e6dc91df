/- The program's Emit. -/
import Derived.Test.YtcjbfokindoicaaDoorEmitR
import Derived.Test.YtcjbfokindoicaaDoorAsmP
import Derived.Test.YtcjbfokindoicaaDoorSpots
import Derived.WalkMore
import Derived.Deep.RegionLaw
namespace Go.Proofs.YtcjbfokindoicaaDoor
set_option maxRecDepth 100000
open Go.ChangeShapes Go.WideShapes Go.ChangeAt Go.RowKit
open On (St Hs StIs cst Fl one C64 C8 Sc slc spc Oz Sz)
set_option linter.unusedVariables false
set_option maxRecDepth 100000

theorem comma_yes (h : Hs) (s : St) (v : Int) (w : World) (hS : StIs w h s) (hk : s.ok) (hm : s.mem.length ≤ 1000000) (hv : C64 v) (ht : comT s = 0) :
    Calls Tryd.prog 67 #[.agg (cst h s), .int .i64 v] w (PatEnd w h (comS s v)) :=
  comma_ok h s v w hS hk hm hv (comT_in ht).1 (comT_in ht).2
theorem comma_yesf (h : Hs) (s : St) (v : Int) (w : World) (hS : StIs w h s) (hk : s.ok) (hm : s.mem.length ≤ 1000000) (hv : C64 v) (ht : comT s = 0) :
    Calls Tryd.prog 67 #[.agg (cst h s), .int .i64 v] w (PatF w h (comS s v)) :=
  comma_okf h s v w hS hk hm hv (comT_in ht).1 (comT_in ht).2
theorem comma_not (h : Hs) (s : St) (v : Int) (w : World) (hS : StIs w h s) (hk : s.ok) (hm : s.mem.length ≤ 1000000) (hv : C64 v) (ht : comT s ≠ 0) :
    Calls Tryd.prog 67 #[.agg (cst h s), .int .i64 v] w (NoEnd w (comT s)) := by
  unfold comT at ht ⊢
  split
  · exact comma_full h s v w hS hk hm (by assumption)
  · rename_i hf
    rw [if_neg hf] at ht
    exact comma_no h s v w hS hk hm hv hf ht
theorem Oz.le {w : World} {B B' n cap z : Nat} {e : TypeId} {a : Option Addr} {vs : List Value} (h : Oz w B e z a n cap vs) (hB : B' ≤ B) : Oz w B' e z a n cap vs := by
  refine ⟨h.1, ?_⟩
  rcases h.2 with h0 | ⟨g, cap', cur, hv, hB2, hg, hr⟩
  · exact .inl h0
  · exact .inr ⟨g, cap', cur, hv, by omega, hg, hr⟩
/-- spots are appended, at a step of a region that draws its order -/
theorem step_spots {w : World} {ops : Array Oper} {o : Oper} {a : Act} {K : Act → World → Prop} {Q : Exit → Act → World → Prop} {E : Prop} (hgd : o.guard = none) (s x : Operand)
    (ho : o.op = .call { callee := .builtin .append, args := #[s, x], argTypes := #[26, 26] })
    {B n cap m c : Nat} {A A2 : Option Addr} {vs us : List Value} (hs : a.eval s = .slice A n cap) (hx : a.eval x = .slice A2 m c) (hown : Oz w B 85 2 A n cap vs) (hr : Sz w 2 A2 m c us) (h1 : ∀ u ∈ us, u.oneCell' = true) (k : Nat) (hk : n + m = k) (hn : k ≤ 100000) (hB : B ≤ w.heap.size)
    (h : ∀ A' cap' w', Oz w' B 85 2 A' k cap' (vs ++ us) → Below B w w' → K (a.put o.dst (.slice A' k cap')) w') :
    if Region.wanted o (yielded ops a.tmps) = true then Oper.wp Tryd.prog o a w K Q else E := by
  have hw : Region.wanted o (yielded ops a.tmps) = true := by simp [Region.wanted, hgd]
  subst hk
  rw [if_pos hw]
  obtain ⟨i, hi, hz0, hz1, hz2⟩ := info_parts spotinfo
  obtain ⟨A', cap', w2, hrun, h2, h4⟩ := On.Oz.app (P := Tryd.prog) (ty := o.type) Tryd.underlying26 hi hz0 hz1 hz2 rfl (by decide) hown hr h1 (by omega) (by omega) hB
  unfold Oper.wp execOp
  simp only [ho, resolve, invoke, builtin, Sem.run_bind, Sem.run_pure, Result.andThen_ok, List.map_toArray, List.map_cons, List.map_nil, hs, hx, hrun]
  exact h A' cap' w2 h2 h4
theorem far4 {W V : World} {o : Obj} (h : Below ((W.alloc o).drew).heap.size ((W.alloc o).drew) V) : Below W.heap.size W V :=
  (((Below.refl W.heap.size W).alloc (Nat.le_refl _) o).drew).trans (h.mono ((((Below.refl W.heap.size W).alloc (Nat.le_refl _) o).drew).size))
/-- in the middle of a round: the state with its cell laid, and the spot that comes -/
structure Mid (w0 wr V : World) (h' : Hs) (s' : St) (v : Int) (x : Sc) : Prop where
  b1 : Bx V w0.heap.size 28 (cst { h' with mem := x } (comS s' v))
  b2 : Bx V (w0.heap.size + 1) 28 zst
  g : Bx V wr.heap.size 85 #[.int .i64 s'.here, .int .i64 s'.tok]
  bel : Below w0.heap.size w0 V
  mem : Fl (one .u8) 1 V x (comS s' v).mem
  spots : Fl spc 2 V h'.spots s'.spots
theorem Mid.below {w0 wr V V' : World} {h' : Hs} {s' : St} {v : Int} {x : Sc} (h : Mid w0 wr V h' s' v x) (hb : Below V.heap.size V V') : Mid w0 wr V' h' s' v x :=
  ⟨h.b1.below hb h.b1.lt, h.b2.below hb h.b2.lt, h.g.below hb h.g.lt, h.bel.trans (hb.mono h.bel.size), h.mem.below hb, h.spots.below hb⟩
theorem Mid.make {w0 wr w3 : World} {h0 h' : Hs} {s0 s' : St} {v : Int} {x : Sc} (H : Live w0 wr h0 s0 h' s') (q1 : Bx wr w0.heap.size 28 (cst h' s')) (q2 : Bx wr (w0.heap.size + 1) 28 zst)
    (hb : Below (wr.alloc (.cells #[.int .i64 s'.here, .int .i64 s'.tok] 85)).heap.size (wr.alloc (.cells #[.int .i64 s'.here, .int .i64 s'.tok] 85)) w3) (hx : Fl (one .u8) 1 w3 x (comS s' v).mem) :
    Bx w3 w0.heap.size 28 (cst h' s') ∧ Mid w0 wr (w3.setRow w0.heap.size (cst { h' with mem := x } (comS s' v))) h' s' v x := by
  have hA : Below wr.heap.size wr (wr.alloc (.cells #[.int .i64 s'.here, .int .i64 s'.tok] 85)) := (Below.refl _ _).alloc (Nat.le_refl _) _
  have hb3 : Below wr.heap.size wr w3 := hA.trans (hb.mono hA.size)
  have c1 := q1.below hb3 q1.lt
  have c2 := q2.below hb3 q2.lt
  have cg := (Bx.new wr 85 #[.int .i64 s'.here, .int .i64 s'.tok]).below hb (Bx.lt (Bx.new wr _ _))
  have l1 := q1.lt
  refine ⟨c1, c1.row _, c2.rowOther _ (by omega), cg.rowOther _ (by omega), below_setRow (H.below.trans (hb3.mono H.below.size)) (Nat.le_refl _) _, mem_keep hx w0.heap.size w0.heap.size c1 c1 (cst_nob _ _) (cst_nob _ _) (fun k k1 _ => setRow_other _ _ k _ k1), fl_setRow (H.spots.below hb3) _ ?_ _⟩
  rcases H.off with h | ⟨b, o, ha, h1, h2⟩
  · exact .inl h
  · exact .inr ⟨b, o, ha, h1⟩
/-- the end of a round: the new spots stored -/
theorem Mid.done {w0 wr V : World} {h0 h' : Hs} {s0 s' : St} {v : Int} {m cap : Nat} {a : Option Addr} {x : Sc} (M : Mid w0 wr V h' s' v x) (H : Live w0 wr h0 s0 h' s') (hs : Fl spc 2 V ⟨a, m, cap⟩ (emiS s' v).spots) (ha : ∀ y, a = some y → w0.heap.size + 1 < y.block) :
    Bx (V.setCell ⟨w0.heap.size, 5, none⟩ (.slice a m cap)) w0.heap.size 28 (cst { h' with mem := x, spots := ⟨a, m, cap⟩ } (emiS s' v)) ∧
    Bx (V.setCell ⟨w0.heap.size, 5, none⟩ (.slice a m cap)) (w0.heap.size + 1) 28 zst ∧
    Live w0 (V.setCell ⟨w0.heap.size, 5, none⟩ (.slice a m cap)) h0 s0 { h' with mem := x, spots := ⟨a, m, cap⟩ } (emiS s' v) := by
  have hc : (m = 0 ∨ ∃ b o, a = some ⟨b, o, none⟩ ∧ w0.heap.size + 1 < b) := by
    rcases Nat.eq_zero_or_pos m with h | h
    · exact .inl h
    · obtain ⟨b, o, hab, _⟩ := Sz.cells hs h
      exact .inr ⟨b, o, hab, ha _ hab⟩
  have hs1 : Fl spc 2 (V.setCell ⟨w0.heap.size, 5, none⟩ (.slice a m cap)) ⟨a, m, cap⟩ (emiS s' v).spots := by
    refine ⟨Sz.len hs, Sz.cap hs, Sz.big hs, Sz.isnil hs, fun hn => ?_⟩
    obtain ⟨b, o, hab, hr⟩ := Sz.cells hs hn
    refine ⟨b, o, hab, fun i u hu => ?_⟩
    have := hr i u hu
    have hbg := ha _ hab
    unfold World.cell? at this ⊢
    simp only [heap_set_other V ⟨w0.heap.size, 5, none⟩ (.slice a m cap) (k := b) (show b ≠ w0.heap.size by dsimp only at hbg; omega)]
    exact this
  refine ⟨M.b1.set 5 _, M.b2.setOther _ _ (by simp), ⟨M.bel.setCell (p := ⟨w0.heap.size, 5, none⟩) (Nat.le_refl _) _, ?_, ?_, mem_keep M.mem w0.heap.size w0.heap.size M.b1 M.b1 (cst_nob _ _) (cst_nob _ _) (fun k k1 _ => heap_set_other _ _ _ k1), hs1, ?_⟩⟩
  · have := H.eqh
    rcases h' with ⟨_, _, _, _, _, _, _⟩
    simp at this ⊢
    exact this
  · have := H.eqs
    rcases s' with ⟨_, _, _, _, _, _, _, _, _, _, _, _, _, _, _⟩
    simp [emiS, comS] at this ⊢
    exact this
  · rcases hc with h | ⟨b, o, h, hb⟩
    · exact .inl h
    · exact .inr ⟨b, o, h, by omega, by omega⟩
/-- as EmWhere; besides, the control stack is as it was, or there is none -/
def EmHow (w : World) (h : Hs) (x : Int × St) (e : Ending) (w' : World) : Prop := ∃ h', e = .returned (.tuple #[.agg (cst h' x.2), .int .i64 x.1]) ∧ StIs w' h' x.2 ∧ Below w.heap.size w w' ∧ FrA w h h' ∧ (h'.ctl = h.ctl ∨ h'.ctl = On.Sc.none)
set_option maxHeartbeats 4000000 in
theorem emit_how (h : Hs) (s : St) (x : Sc) (vs : List Int) (w : World) (hS : StIs w h s) (hk : s.ok) (hm : s.mem.length ≤ 1000000) (hsp : s.spots.length ≤ 50000) (hx : Fl (one .i64) 1 w x vs) (hv : ∀ z ∈ vs, C64 z) (hn : vs.length ≤ 1000) :
    Calls Tryd.prog 64 #[.agg (cst h s), .slice x.a x.n x.c] w (EmHow w h (emitC s vs)) := by
  obtain ⟨xa, n, xc⟩ := x
  have hl : vs.length = n := Fl.len hx (fun _ => rfl) (by decide)
  have hbx := hx.bd
  dsimp only at hbx hl ⊢
  obtain ⟨b1, b2, hb0⟩ := boxes w (cst h s) zst 28
  have hL : Live w ((w.alloc (.cells (cst h s) 28)).alloc (.cells zst 28)) h s h s := ⟨hb0, rfl, rfl, hS.mem.below hb0, hS.spots.below hb0, by
    rcases Nat.eq_zero_or_pos h.spots.n with h0 | h0
    · exact .inl h0
    · obtain ⟨b, o, ha, hr⟩ := On.Sz.cells hS.spots h0
      have hlt : b < w.heap.size := On.range_lt hr (fun hc => by
        have := On.Sz.len hS.spots
        rw [hc] at this
        simp at this
        omega)
      exact .inr ⟨b, o, ha, by omega, by omega⟩⟩
  have r1 := Lib.hid b1
  have r2 := Lib.hid b2
  have r3 := Lib.hid hL
  have r4 := Lib.hid hS
  have r5 := Lib.hid hx
  have r6 := Lib.hid hk
  have r7 := Lib.hid hv
  have r8 := Lib.hid hl
  have r9 := Lib.hid (show s.mem.length ≤ 1000000 ∧ s.spots.length ≤ 50000 from ⟨hm, hsp⟩)
  have hn2 : n ≤ 1000 := by omega
  clear b1 b2 hb0 hL hS hx hk hv hl hm hsp hn
  go_enter Tryd.func64, Tryd.ntmps64
  go_wp2
  go_step3
  go_wp2
  go_step3
  go_wp2
  go_loopw [6, 12] (fun th i wr => ∃ (k : Nat) (h' : Hs) (s' : St), k ≤ n ∧ th = .int .i64 0 ∧ i = .int .i64 k ∧ Hid (emitC s vs = emitC s' (vs.drop k)) ∧ Hid (Bx wr w.heap.size 28 (cst h' s')) ∧ Hid (Bx wr (w.heap.size + 1) 28 zst) ∧ Hid (Live w wr h s h' s') ∧ Hid s'.ok ∧ Hid (s'.mem.length ≤ 1000000 ∧ s'.spots.length ≤ 50000 + k) ∧ Hid (Fr w h h')) (fun _ i _ => n - (intOf i).toNat)
  case atStart => exact ⟨0, h, s, Nat.zero_le _, rfl, rfl, Lib.hid rfl, r1, r2, r3, r6, r9, Lib.hid ⟨.inl rfl, .inl rfl⟩⟩
  case round =>
    obtain ⟨k, h', s', hk, rfl, rfl, e1, q1, q2, qL, qk, qn, qF⟩ := hrel
    clear r1 r2 r3
    by_cases h1 : k < n
    · obtain ⟨b, o, ha, qv⟩ := ints_cell (r5.out.below qL.out.below) (i := k) h1
      dsimp only at ha
      subst ha
      have hdrop : Hid (vs.drop k = vs.getD k 0 :: vs.drop (k + 1)) := Lib.hid (by
        have := r8.out
        rw [List.drop_eq_getElem_cons (by omega)]
        simp [List.getD, show k < vs.length by omega])
      have hvk := r7.out (vs.getD k 0) (by
        have := r8.out
        simp [List.getD, show k < vs.length by omega])
      rw [hdrop.out] at e1
      generalize vs.getD k 0 = v at *
      clear hdrop
      have hst := qL.out.is r4.out
      have hAb : Below wr.heap.size wr (wr.alloc (.cells #[.int .i64 s'.here, .int .i64 s'.tok] 85)) := (Below.refl _ _).alloc (Nat.le_refl _) _
      have hA1 := Lib.hid (q1.out.below hAb q1.out.lt)
      have c8 := q1.out.cell 8 (v := .int .i64 s'.here) rfl
      have c10 := q1.out.cell 10 (v := .int .i64 s'.tok) rfl
      have hhe := qk.out.here
      have hto := qk.out.tok
      by_cases ht : comT s' = 0
      · have hE : Hid (emitC s vs = emitC (emiS s' v) (vs.drop (k + 1))) := Lib.hid (by rw [e1.out, emitC, if_neg (by simpa using ht)])
        have hAw : w.heap.size ≤ (wr.alloc (.cells #[.int .i64 s'.here, .int .i64 s'.tok] 85)).heap.size := Nat.le_trans qL.out.below.size hAb.size
        have hP := Lib.hid ((comma_yesf h' s' v _ (hst.below hAb) qk.out (by have := qn.out.1; omega) hvk ht).mono (R' := fun e w3 => ∃ x, e = .returned (.tuple #[.agg (cst { h' with mem := x } (comS s' v)), .int .i64 0]) ∧ Bx w3 w.heap.size 28 (cst h' s') ∧ Mid w wr (w3.setRow w.heap.size (cst { h' with mem := x } (comS s' v))) h' s' v x ∧ Hid (∀ y, x.a = some y → w.heap.size ≤ y.block)) fun e w3 hh => by
          obtain ⟨x, h1, h2, h3, h4⟩ := hh
          have hmk := Mid.make qL.out q1.out q2.out h3 h2
          exact ⟨x, h1, hmk.1, hmk.2, Lib.hid fun y hy => Nat.le_trans hAw (h4 y hy)⟩)
        have hnx := Lib.hid (emiS_ok qk.out (by have := qn.out.1; omega) v ht)
        clear hst hAb hAw
        go_wp2_with (first | (refine wpList_load_row rfl 28 (.tmp 2) rfl w.heap.size rfl _ _ _ _ hA1.out Tryd.underlying28 rfl stinfo ?_) | (go_at_call 67; (with_reducible refine hP.out.mono ?_); rintro e w3 ⟨x, rfl, k1, hM, hxf⟩; replace k1 := Lib.hid k1; replace hM := Lib.hid hM) | (refine wpList_store_row rfl 28 (.tmp 2) (.tmp 25) rfl w.heap.size _ rfl rfl _ _ k1.out stinfo rfl (cst_one _ _) ?_))
        generalize hw4 : w3.setRow w.heap.size (cst { h' with mem := x } (comS s' v)) = w4 at *
        clear hw4 k1 hP hA1 c8 c10 qv w3
        obtain ⟨pa, pn, pc, hps⟩ : ∃ pa pn pc, h'.spots = ⟨pa, pn, pc⟩ := ⟨_, _, _, rfl⟩
        have hspl : s'.spots.length = pn := by
          have := Fl.len hM.out.spots On.spc_len (by decide)
          rw [hps] at this
          exact this
        have hpn : pn ≤ 60000 := by have := qn.out.2; omega
        have hl2 := hM.out.b2.lt
        have hD : Hid (∀ V, Below w4.heap.size w4 V → Calls Tryd.prog 68 #[.slice pa pn pc, .int .i64 s'.here] V (fun e w' => ∃ a m c, e = .returned (.slice a m c) ∧ m ≤ pn ∧ Hid (Oz w' w4.heap.size 85 2 a m c ((keepS s'.here s'.spots).flatMap spc)) ∧ Below V.heap.size V w')) := Lib.hid fun V hV => by
          have h5 := (hM.out.below hV).spots
          rw [hps] at h5
          refine (below_any ⟨pa, pn, pc⟩ s'.spots s'.here V h5 qk.out.spots (by show pn ≤ 60000; omega) hhe).mono fun e w' hh => ?_
          obtain ⟨a, m, c, h1, h2, h3, h4⟩ := hh
          exact ⟨a, m, c, h1, h2, Lib.hid (Oz.le h3 hV.size), h4⟩
        have hcl : Hid (∀ V, Below w4.heap.size w4 V → V.cell? ⟨wr.heap.size, 0, none⟩ = some (.int .i64 s'.here) ∧ V.cell? ⟨wr.heap.size, 1, none⟩ = some (.int .i64 s'.tok)) := Lib.hid fun V hV => by
          have h5 := hM.out.below hV
          exact ⟨h5.g.cell 0 rfl, h5.g.cell 1 rfl⟩
        have hcs : Hid (∀ V u, Below w4.heap.size w4 V → (V.setCell ⟨w.heap.size, 5, none⟩ u).cell? ⟨wr.heap.size, 0, none⟩ = some (.int .i64 s'.here) ∧ (V.setCell ⟨w.heap.size, 5, none⟩ u).cell? ⟨wr.heap.size, 1, none⟩ = some (.int .i64 s'.tok)) := Lib.hid fun V u hV => by
          have h5 := (hM.out.below hV).g.setOther ⟨w.heap.size, 5, none⟩ u (show w.heap.size ≠ wr.heap.size by have := q1.out.lt; omega)
          exact ⟨h5.cell 0 rfl, h5.cell 1 rfl⟩
        have hc5 : Hid (∀ V, Below w4.heap.size w4 V → V.cell? ⟨w.heap.size, 5, none⟩ = some (.slice pa pn pc) ∧ V.frozen? ⟨w.heap.size, 5, none⟩ = false) := Lib.hid fun V hV => by
          have h5 := hM.out.below hV
          have := h5.b1.cell 5 (v := h'.spots.val) rfl
          rw [hps] at this
          exact ⟨this, h5.b1.free 5⟩
        have hd1 := (hc5.out _ (Below.refl _ _).drew).1
        have hd3 := (hc5.out _ ((((Below.refl _ _).alloc (Nat.le_refl _) (.cells #[.int .i64 s'.here, .int .i64 s'.tok] 85))).drew)).1
        have hd2 := (hc5.out _ (((Below.refl _ _).drew).alloc (Nat.le_refl _) (.cells #[.int .i64 s'.here, .int .i64 s'.tok] 85))).1
        have hrow : Hid (∀ (V : World) (g : Nat), V.heap.size = g → Sz (V.alloc (.cells #[.int .i64 s'.here, .int .i64 s'.tok] 85)) 2 (some ⟨g, 0, none⟩) 1 1 (spc (s'.here, s'.tok))) := Lib.hid fun V g hg => by
          subst hg
          exact (Oz.full V V.heap.size 85 2 (Nat.le_refl _) #[.int .i64 s'.here, .int .i64 s'.tok] 1 (by decide) rfl).sz
        have hrow2 : Hid (∀ (V : World) (g : Nat), V.heap.size = g → Sz (V.alloc (.cells #[.int .i64 s'.here, .int .i64 s'.tok] 85)).drew 2 (some ⟨g, 0, none⟩) 1 1 (spc (s'.here, s'.tok))) := Lib.hid fun V g hg => (hrow.out V g hg).below ((Below.refl _ _).drew)
        have hrow3 : Hid (∀ (V : World) (g : Nat), V.heap.size = g → Sz (V.drew.alloc (.cells #[.int .i64 s'.here, .int .i64 s'.tok] 85)) 2 (some ⟨g, 0, none⟩) 1 1 (spc (s'.here, s'.tok))) := Lib.hid fun V g hg => hrow.out V.drew g hg
        have hone : Hid (∀ u ∈ spc (s'.here, s'.tok), u.oneCell' = true) := Lib.hid fun u hu => by
          rcases List.mem_cons.1 hu with rfl | hu
          · rfl
          · obtain rfl := List.mem_singleton.1 hu
            rfl
        have hspx := Lib.hid hspl
        clear hspl hps
        obtain ⟨i0, i1⟩ := hcl.out _ (Below.refl _ _).drew
        obtain ⟨i2, i3⟩ := hcl.out _ (((Below.refl _ _).alloc (Nat.le_refl _) (.cells #[.int .i64 s'.here, .int .i64 s'.tok] 85)).drew)
        obtain ⟨i4, i5⟩ := hcl.out _ (((Below.refl _ _).drew).alloc (Nat.le_refl _) (.cells #[.int .i64 s'.here, .int .i64 s'.tok] 85))
        go_region_law
          (first
            | (go_simp
               go_at_call 68
               (with_reducible refine (hD.out _ ?_).mono ?_)
               · first
                   | exact (Below.refl _ _).drew
                   | exact (((Below.refl _ _).drew).alloc (Nat.le_refl _) _)
                   | exact (((Below.refl _ _).alloc (Nat.le_refl _) _).drew)
               rintro e V5 ⟨A5, m5, c5, rfl, hm5, hO5, hb5⟩
               have hV5 : Below w4.heap.size w4 V5 := by first | exact far1 hb5 | exact far2 hb5 | exact far4 hb5
               obtain ⟨j0, j1⟩ := hcl.out _ hV5
               dsimp only)
            | (refine step_spots (by rfl) (.tmp 34) (.tmp 36) (by rfl) (B := w4.heap.size) (vs := (keepS s'.here s'.spots).flatMap spc) (us := spc (s'.here, s'.tok)) (by rfl) (by rfl) ?_ ?_ hone.out (m5 + 1) (by omega) (by omega) ?_ ?_
               · first
                   | exact hO5.out
                   | exact hO5.out.alloc _
               · first
                   | exact hrow.out _ _ rfl
                   | exact Sz.below (hrow2.out _ _ rfl) hb5
                   | exact Sz.below (hrow3.out _ _ rfl) hb5
               · first
                   | exact hV5.size
                   | (have := hV5.size; simp; omega)
               intro A6 cap6 V6 hO6 hB6
               have hV6 : Below w4.heap.size w4 V6 := by first | exact hV5.trans hB6 | exact (hV5.alloc hV5.size _).trans hB6
               obtain ⟨e5, e6⟩ := hc5.out _ hV6))
        all_goals
          have hsf : Fl spc 2 V6 ⟨A6, m5 + 1, cap6⟩ (emiS s' v).spots := by
            have := hO6.sz
            show Sz V6 2 A6 (m5 + 1) cap6 ((keepS s'.here s'.spots ++ [(s'.here, s'.tok)]).flatMap spc)
            rw [List.flatMap_append]
            exact this
          obtain ⟨f1, f2, f3⟩ := (hM.out.below hV6).done qL.out hsf (fun y hy => by subst hy; have := (Oz.lt hO6).1; omega)
          have hnb : Hid ((emiS s' v).mem.length ≤ 1000000 ∧ (emiS s' v).spots.length ≤ 50000 + (k + 1)) := Lib.hid (by have h1 := hnx.out; have h2 := qn.out; omega)
          have hfr : Hid (Fr w h { h' with mem := x, spots := ⟨A6, m5 + 1, cap6⟩ }) := Lib.hid ⟨.inr fun y hy => by dsimp only at hy; subst hy; have := (Oz.lt hO6).1; have := hM.out.bel.size; omega, .inr hxf.out⟩
          replace f1 := Lib.hid f1
          replace f2 := Lib.hid f2
          replace f3 := Lib.hid f3
          clear hsf hM hcl hD hrow hrow2 hrow3 hone hO6 hB6 hO5
          go_wp2
          exact ⟨⟨k + 1, _, emiS s' v, by omega, rfl, by go_num, hE, f1, f2, f3, Lib.hid hnx.out.1, hnb, hfr⟩, by simp only [intOf]; omega⟩
      · have hE : Hid (emitC s vs = (comT s', On.St.zero)) := Lib.hid (by rw [e1.out, emitC, if_pos ht])
        have hP := Lib.hid ((comma_not h' s' v _ (hst.below hAb) qk.out (by have := qn.out.1; omega) hvk ht).mono (R' := fun e w3 => e = .returned (.tuple #[.agg zst, .int .i64 (comT s')]) ∧ Bx w3 w.heap.size 28 (cst h' s') ∧ Bx (w3.setRow w.heap.size zst) w.heap.size 28 zst ∧ Bx (w3.setRow w.heap.size zst) (w.heap.size + 1) 28 zst ∧ Below w.heap.size w ((w3.setRow w.heap.size zst).setRow (w.heap.size + 1) zst)) fun e w3 hh => by
          obtain ⟨h1, h2⟩ := hh
          have hb3 := hAb.trans (h2.mono hAb.size)
          have y1 := q1.out.below hb3 q1.out.lt
          have y2 := q2.out.below hb3 q2.out.lt
          exact ⟨h1, y1, y1.row _, y2.rowOther _ (by omega), below_setRow (below_setRow (qL.out.below.trans (hb3.mono qL.out.below.size)) (Nat.le_refl _) _) (Nat.le_succ _) _⟩)
        have ht1 : (comT s' == 0) = false := by simpa using ht
        generalize comT s' = t at *
        clear hst hAb
        go_wp2_with (first | (refine wpList_load_row rfl 28 (.tmp 2) rfl w.heap.size rfl _ _ _ _ hA1.out Tryd.underlying28 rfl stinfo ?_) | (go_at_call 67; (with_reducible refine hP.out.mono ?_); rintro e w3 ⟨rfl, k1, k2, k3, k4⟩; replace k1 := Lib.hid k1; replace k2 := Lib.hid k2; replace k3 := Lib.hid k3; replace k4 := Lib.hid k4) | (refine wpList_store_row rfl 28 (.tmp 2) (.tmp 25) rfl w.heap.size zst rfl rfl _ _ k1.out stinfo rfl (cst_one Hs.zero St.zero) ?_) | (refine wpList_load_row rfl 28 (.tmp 2) rfl w.heap.size rfl _ _ _ _ k2.out Tryd.underlying28 rfl stinfo ?_) | (refine wpList_store_row rfl 28 (.tmp 4) (.tmp 40) rfl (w.heap.size + 1) zst rfl rfl _ _ k3.out stinfo rfl (cst_one Hs.zero St.zero) ?_))
        try rw [Exit.noGoto_ret]
        try simp only [Exit.inBlock, Exit.then]
        refine bodyPost_ret (results_row2 rfl _ _ (w.heap.size + 1) 28 _ _ _ rfl rfl (k3.out.row _) Tryd.underlying28 rfl stinfo) rfl ?_
        rw [hE.out]
        exact ⟨Hs.zero, rfl, StIs.zero _, k4.out, FrA.zero _ _, .inr rfl⟩
    · obtain rfl : n = k := by omega
      have hE : Hid (emitC s vs = (0, s')) := Lib.hid (by rw [e1.out, List.drop_eq_nil_of_le (by have := r8.out; omega), emitC])
      have hend := Lib.hid (qL.out.row q1.out q2.out (cst_nob _ _) zst_nob (w.heap.size + 1) (.inr rfl) (cst h' s'))
      go_wp2_with (first | (refine wpList_load_row rfl 28 (.tmp 2) rfl w.heap.size rfl _ _ _ _ q1.out Tryd.underlying28 rfl stinfo ?_) | (refine wpList_store_row rfl 28 (.tmp 4) (.tmp 40) rfl (w.heap.size + 1) (cst h' s') rfl rfl _ _ q2.out stinfo rfl (cst_one _ _) ?_))
      try rw [Exit.noGoto_ret]
      try simp only [Exit.inBlock, Exit.then]
      refine bodyPost_ret (results_row2 rfl _ _ (w.heap.size + 1) 28 _ _ _ rfl rfl (q2.out.row _) Tryd.underlying28 rfl stinfo) rfl ?_
      rw [hE.out]
      exact ⟨h', rfl, hend.out.is r4.out, hend.out.below, FrA.of qF.out qL.out.eqh, .inl (show h'.ctl = _ from (congrArg On.Hs.ctl qL.out.eqh : _ = ({ h with mem := h'.mem, spots := h'.spots } : Hs).ctl))⟩
theorem emit_where (h : Hs) (s : St) (x : Sc) (vs : List Int) (w : World) (hS : StIs w h s) (hk : s.ok) (hm : s.mem.length ≤ 1000000) (hsp : s.spots.length ≤ 50000) (hx : Fl (one .i64) 1 w x vs) (hv : ∀ z ∈ vs, C64 z) (hn : vs.length ≤ 1000) :
    Calls Tryd.prog 64 #[.agg (cst h s), .slice x.a x.n x.c] w (EmWhere w h (emitC s vs)) :=
  (emit_how h s x vs w hS hk hm hsp hx hv hn).mono fun e w' hh => by
    obtain ⟨h', h1, h2, h3, h4, _⟩ := hh
    exact ⟨h', h1, h2, h3, h4⟩
theorem emit_any (h : Hs) (s : St) (x : Sc) (vs : List Int) (w : World) (hS : StIs w h s) (hk : s.ok) (hm : s.mem.length ≤ 1000000) (hsp : s.spots.length ≤ 50000) (hx : Fl (one .i64) 1 w x vs) (hv : ∀ z ∈ vs, C64 z) (hn : vs.length ≤ 1000) :
    Calls Tryd.prog 64 #[.agg (cst h s), .slice x.a x.n x.c] w (EmEnd w (emitC s vs)) :=
  (emit_where h s x vs w hS hk hm hsp hx hv hn).mono fun e w' hh => by
    obtain ⟨h', h1, h2, h3, _⟩ := hh
    exact ⟨h', h1, h2, h3⟩
end Go.Proofs.YtcjbfokindoicaaDoor
