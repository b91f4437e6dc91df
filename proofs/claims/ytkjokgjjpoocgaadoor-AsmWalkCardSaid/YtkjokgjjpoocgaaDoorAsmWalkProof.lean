/- AsmWalk: for every input the law returns true, and each argument reads behind the call as it read before. Condition: the listed package-level variables (nostos/ops.words) start as the program's own text lays them, and the card ties that to the text. -/
import Derived.Test.YtkjokgjjpoocgaaDoorRows
import Derived.WalkKit
import Derived.ProofKit
import Derived.OpenShut
import Derived.ShutString
import Derived.ChangeOld
import Derived.Below
import Derived.Test.YtkjokgjjpoocgaaDoorTie
import Derived.Test.YtkjokgjjpoocgaaDoorCards
import Derived.Test.YtkjokgjjpoocgaaDoorBelow
import Derived.Test.YtkjokgjjpoocgaaDoorAsmKeep
import Derived.SevenTiedAt
import Derived.LaidMore
import Derived.Stop.Joined
namespace Go.Proofs.YtkjokgjjpoocgaaDoor.asmWalk
open Go.ChangeShapes Go.WideShapes Go.ChangeAt Go.RowKit
open Go.ChangeMaps (open_string shut_string)
set_option linter.unusedVariables false

theorem own : ownKnob Tryd.prog.godebug = none := by kernel_rfl
theorem laidOut : laidOutB Tryd.prog = true := by kernel_rfl

/-- a slice of integers that came in: nil, or a row of cap cells, the numbers zs, each fitting its kind -/
def IsRow (k : IntKind) (w : World) (a : Option Addr) (len cap : Nat) (zs : List Int) : Prop :=
  (a = none ∧ len = 0 ∧ cap = 0 ∧ zs = []) ∨
  ∃ x, a = some x ∧ len ≤ cap ∧ cap ≤ maxLen ∧ zs.length = cap ∧ (∀ i, i < zs.length → w.cell? (x.add i) = some (.int k (zs.getD i 0))) ∧ ∀ n ∈ zs, (Lit.int k n).wf = true

/-! ### the walk: the Go text returns true -/
/-- what came in, as a list of bytes -/
theorem isRow_mem {w : World} {a : Option Addr} {len cap : Nat} {zs : List Int} (h : IsRow .u8 w a len cap zs) : Me.Mem w a len cap (zs.take len) := by
  rcases h with ⟨rfl, rfl, rfl, rfl⟩ | ⟨x, rfl, hl, hm, hz, hcell, hwz⟩
  · exact Me.Mem.zero w
  · refine ⟨by simp; omega, hl, hm, fun y hy => ?_, fun h => (by cases h), fun hn => ?_⟩
    · have := bd_u8 (hwz y (List.mem_of_mem_take hy))
      omega
    · obtain ⟨b, o, s⟩ := x
      obtain rfl : s = none := by simpa [Addr.add] using World.cell?_spot (hcell 0 (by omega))
      refine ⟨b, o, rfl, fun i hi => ?_⟩
      have := hcell i (by omega)
      rw [add_plain] at this
      rw [this]
      simp [List.getD, hi]

set_option maxRecDepth 100000 in
set_option maxHeartbeats 8000000 in
theorem walk (a0 : Option Addr) (len0 cap0 : Nat) (z0 : List Int) (a1 : Int) (w : World) (hL : Laid w) (w0 : IsRow .u8 w a0 len0 cap0 z0) (w1 : (Lit.int .i64 a1).wf = true) :
    Calls Tryd.prog 7 #[.slice a0 len0 cap0, .int .i64 a1] w fun e w' => e = .returned (.bool true) ∧ Below w.heap.size w w' := by
  have hp : On.C64 a1 := bd_i64 w1
  have hm := isRow_mem w0
  have hvl : (z0.take len0).length = len0 := hm.len
  have hby : ∀ x ∈ z0.take len0, 0 ≤ x ∧ x ≤ 255 := fun x hx => by have := hm.ok x hx; omega
  have hvb := hm.bd
  have hA := awake_any w hL
  clear w0 w1
  generalize z0.take len0 = xs at *
  by_cases hl : 20 < len0
  · clear hm hL
    go_enter Tryd.func7, Tryd.ntmps7
    go_wp2_with (go_at_call 8; (with_reducible refine hA.mono ?_); rintro e w1 ⟨rfl, hb1⟩)
    go_ret
    exact ⟨rfl, hb1⟩
  obtain ⟨Z, hZ, m1⟩ := aw_make 400 400 rfl (by decide)
  have r1 := Lib.hid hm
  have r2 := Lib.hid hby
  have r3 := Lib.hid hvl
  have r4 := Lib.hid hp
  have r5 := Lib.hid hL
  have r6 := Lib.hid hZ
  clear hm hby hvl hp hL hZ
  go_enter Tryd.func7, Tryd.ntmps7
  go_wp2_with (go_at_call 8; (with_reducible refine hA.mono ?_); rintro e w1 ⟨rfl, hb1⟩)
  have hb2 : Below w.heap.size w ((w1.alloc (.cells Z 5)).alloc (.cells #[.slice (some ⟨w1.heap.size, 0, none⟩) 400 400, .slice none 0 0, .slice none 0 0, .slice none 0 0, .slice none 0 0, .slice none 0 0, .slice none 0 0, .int .i64 0, .int .i64 0, .int .i64 0, .int .i64 0, .int .i64 0, .int .i64 0, .bool false, .bool false] 28)) := (hb1.alloc hb1.size _).alloc (by simp; have := hb1.size; omega) _
  have hL0 := Lib.hid (lp_first w1 Z r6.out a1 xs)
  have hgw : w.heap.size ≤ w1.heap.size + 1 := by have := hb1.size; omega
  replace hb1 := Lib.hid hb1
  generalize (w1.alloc (.cells Z 5)).alloc (.cells #[.slice (some ⟨w1.heap.size, 0, none⟩) 400 400, .slice none 0 0, .slice none 0 0, .slice none 0 0, .slice none 0 0, .slice none 0 0, .slice none 0 0, .int .i64 0, .int .i64 0, .int .i64 0, .int .i64 0, .int .i64 0, .int .i64 0, .bool false, .bool false] 28) = W0 at *
  generalize w1.heap.size + 1 = g at *
  have hcl : Hid (∀ V, Below w.heap.size w V → ∀ k, k < len0 → ∃ b o, a0 = some ⟨b, o, none⟩ ∧ V.cell? ⟨b, o + k, none⟩ = some (.int .u8 (xs.getD k 0))) := Lib.hid fun V hV k hk => by
    obtain ⟨b, o, ha, hc⟩ := (r1.out.below hV).cells (by omega)
    exact ⟨b, o, ha, hc k hk⟩
  go_loopw [7, 8] (fun sl i wr => ∃ (k : Nat) (a : Option Addr) (cap : Nat) (h' : On.Hs), k ≤ len0 ∧ sl = .slice a k cap ∧ i = .int .i64 k ∧ Hid (On.Oz wr (g + 1) 3 1 a k cap (sts a1 xs k)) ∧ Hid (Lp wr g (Value.slice a k cap).ownBlock h' (stk a1 xs k)) ∧ Hid (Below w.heap.size w wr)) (fun _ i _ => len0 - (intOf i).toNat)
  case atStart => exact ⟨0, none, 0, _, Nat.zero_le _, rfl, rfl, Lib.hid (On.Oz.nil _ _ _ _), hL0, Lib.hid hb2⟩
  case round =>
    obtain ⟨k, a, cap, h', hk, rfl, rfl, hO, hL, hB⟩ := hrel
    by_cases hk1 : k < len0
    · have hgl := hL.out.b.lt
      obtain ⟨b, o, rfl, lc1⟩ := hcl.out wr hB.out k hk1
      have hlc : Hid (∀ V, Below w.heap.size w V → V.cell? ⟨b, o + k, none⟩ = some (.int .u8 (xs.getD k 0))) := Lib.hid fun V hV => by
        obtain ⟨b', o', e', c⟩ := hcl.out V hV k hk1
        simp at e'
        obtain ⟨rfl, rfl⟩ := e'
        exact c
      have hxm : xs.getD k 0 ∈ xs := by
        have := r3.out
        simp [List.getD, show k < xs.length by omega]
      have hxb := r2.out _ hxm
      have hk20 : k + 1 ≤ 20 := by omega
      have hsk := stk_mem r4.out r2.out (xs := xs) (k := k) (by omega)
      have hnext := Lib.hid (stk_next r4.out r2.out (k := k) (by have := r3.out; omega) hk20)
      have hbare := Lib.hid (stk_bare r4.out r2.out (k := k + 1) hk20)
      have hsok := Lib.hid (stk_ok (wth := a1) (xs := xs) k)
      have c8 := hL.out.b.cell 8 (v := .int .i64 (stk a1 xs k).here) rfl
      rw [show (stk a1 xs k).here = (stt a1 xs k : Int) from hsk.2.2] at c8
      have hsb := stt_le a1 xs k
      obtain ⟨a', cap', w2, happ, hO2, hg2, hb2', hblk⟩ := int_app (stt a1 xs k : Int) hO.out (by omega) hgl 23
      rw [← sts_next] at hO2
      have happ' := Lib.hid happ
      clear happ
      have hgr : some g ≠ (Value.slice a k cap).ownBlock := fun hc => by have := World.ownsRow.lt hO.out g hc.symm; omega
      have hL2 := Lib.hid ((hL.out.below ((Below.refl _ _).alloc (Nat.le_refl _) (.cells #[.int .i64 (stt a1 xs k : Int)] 3))).grown hg2 hblk hgr)
      have hB2 := Lib.hid (hB.out.trans (hb2'.mono (show w.heap.size ≤ g + 1 by omega)))
      have hrl : Hid (∀ q, (Value.slice a' (k + 1) cap').ownBlock = some q → q < w2.heap.size) := Lib.hid fun q hq => (World.ownsRow.lt hO2 q hq).2
      replace hO2 := Lib.hid hO2
      clear hg2 hb2' hblk hgr
      have hcd := cdo_ok r4.out hxb
      generalize xs.getD k 0 = x at *
      generalize (stt a1 xs k : Int) = sk8 at *
      by_cases h3 : x % 3 = 0
      · have e3 : cdo a1 x = [2 + x / 3 % 6, a1] := by unfold cdo; rw [if_pos h3]
        rw [e3] at hnext hcd
        have hp2 : Below w2.heap.size w2 ((w2.alloc (.cells #[.int .i64 (13 + x % 100)] 3)).alloc (.cells #[.int .i64 (2 + x / 3 % 6), .int .i64 a1] 3)) := ((Below.refl _ _).alloc (Nat.le_refl _) _).alloc (by simp) _
        have hL3 := hL2.out.below hp2
        have hLb := Lib.hid hL3.b
        have hO3 := Lib.hid (Oz.below hO2.out hp2)
        have hB3 := Lib.hid (hB2.out.trans (hp2.mono hB2.out.size))
        have lc2 := hlc.out _ (hB2.out.alloc hB2.out.size (.cells #[.int .i64 (13 + x % 100)] 3))
        have hP := lp_emit hL3 (fun q hq => by have := hrl.out q hq; simp; omega) ⟨some ⟨(w2.alloc (.cells #[.int .i64 (13 + x % 100)] 3)).heap.size, 0, none⟩, 2, 2⟩ [2 + x / 3 % 6, a1] (fl_lit _ _ _ 2 rfl rfl (by decide)) hcd (show 2 ≤ 1000 by decide) hsok.out (by rw [hsk.1]; decide) (by have := hsk.2.1; omega) hnext.out hbare.out
        rw [show (w2.alloc (.cells #[.int .i64 (13 + x % 100)] 3)).heap.size = w2.heap.size + 1 by simp] at hP
        dsimp only at hP
        replace hP := Lib.hid hP
        clear hL3 hp2 hsk hcd
        generalize stk a1 xs k = s1 at *
        go_wp2_with (first
          | (at_builtin; refine On.wpList_append_run rfl (.tmp 39) (.tmp 42) 23 rfl _ _ _ rfl rfl happ'.out ?_)
          | (refine wpList_load_row rfl 28 (.tmp 6) rfl g rfl _ _ _ _ hLb.out Tryd.underlying28 rfl stinfo ?_)
          | (go_at_call 12
             (with_reducible refine hP.out.mono ?_)
             rintro e w5 ⟨S2, rfl, hO5⟩
             have hz5 := hO5.out.stz.1
             have hst := hO5.out.new
             obtain ⟨cs, hcs, hcs15⟩ := hO5.out.old
             have hst2 := cells_at (ds := S2) hcs (by rw [hcs15, hz5]) hO5.out.stz.2
             replace hcs := Lib.hid hcs)
          | (refine wpList_load_row rfl 28 (.tmp 11) rfl w5.heap.size rfl _ _ _ _ hO5.out.load Tryd.underlying28 rfl (stz_info hO5.out.stz) ?_))
        obtain ⟨h2, e2, L6⟩ := hO5.out.lp
        have hO6 := Lib.hid (Oz.setRow (Oz.below hO3.out hO5.out.bel) (Nat.lt_succ_self g) S2)
        have hB6 := Lib.hid (below_setRow (hB3.out.trans (hO5.out.bel.mono hB3.out.size)) hgw S2)
        exact ⟨⟨k + 1, a', cap', h2, by omega, rfl, by go_num, hO6, Lib.hid L6, hB6⟩, by simp only [intOf]; omega⟩
      · have e3 : cdo a1 x = [13 + x % 100] := by unfold cdo; rw [if_neg h3]
        rw [e3] at hnext hcd
        have hp2 : Below w2.heap.size w2 (w2.alloc (.cells #[.int .i64 (13 + x % 100)] 3)) := (Below.refl _ _).alloc (Nat.le_refl _) _
        have hL3 := hL2.out.below hp2
        have hLb := Lib.hid hL3.b
        have hO3 := Lib.hid (Oz.below hO2.out hp2)
        have hB3 := Lib.hid (hB2.out.trans (hp2.mono hB2.out.size))
        have lc2 := hlc.out _ hB3.out
        have hP := lp_emit hL3 (fun q hq => by have := hrl.out q hq; simp; omega) ⟨some ⟨w2.heap.size, 0, none⟩, 1, 1⟩ [13 + x % 100] (fl_lit _ _ _ 1 rfl rfl (by decide)) hcd (show 1 ≤ 1000 by decide) hsok.out (by rw [hsk.1]; decide) (by have := hsk.2.1; omega) hnext.out hbare.out
        dsimp only at hP
        replace hP := Lib.hid hP
        clear hL3 hp2 hsk hcd
        generalize stk a1 xs k = s1 at *
        go_wp2_with (first
          | (at_builtin; refine On.wpList_append_run rfl (.tmp 39) (.tmp 42) 23 rfl _ _ _ rfl rfl happ'.out ?_)
          | (refine wpList_load_row rfl 28 (.tmp 6) rfl g rfl _ _ _ _ hLb.out Tryd.underlying28 rfl stinfo ?_)
          | (go_at_call 12
             (with_reducible refine hP.out.mono ?_)
             rintro e w5 ⟨S2, rfl, hO5⟩
             have hz5 := hO5.out.stz.1
             have hst := hO5.out.new
             obtain ⟨cs, hcs, hcs15⟩ := hO5.out.old
             have hst2 := cells_at (ds := S2) hcs (by rw [hcs15, hz5]) hO5.out.stz.2
             replace hcs := Lib.hid hcs)
          | (refine wpList_load_row rfl 28 (.tmp 11) rfl w5.heap.size rfl _ _ _ _ hO5.out.load Tryd.underlying28 rfl (stz_info hO5.out.stz) ?_))
        obtain ⟨h2, e2, L6⟩ := hO5.out.lp
        have hO6 := Lib.hid (Oz.setRow (Oz.below hO3.out hO5.out.bel) (Nat.lt_succ_self g) S2)
        have hB6 := Lib.hid (below_setRow (hB3.out.trans (hO5.out.bel.mono hB3.out.size)) hgw S2)
        exact ⟨⟨k + 1, a', cap', h2, by omega, rfl, by go_num, hO6, Lib.hid L6, hB6⟩, by simp only [intOf]; omega⟩
    · obtain rfl : len0 = k := by omega
      have hn20 : xs.length ≤ 20 := by have := r3.out; omega
      have hsk := stk_mem r4.out r2.out hn20
      have hsok := stk_ok (wth := a1) (xs := xs) xs.length
      have hlen := r3.out
      have hfe : Hid (∀ j, j < len0 → ∃ op, fetC (stk a1 xs len0).mem (stt a1 xs j : Int) = (op, if xs.getD j 0 % 3 = 0 then a1 else 0, (stt a1 xs (j + 1) : Int), 0)) := Lib.hid fun j hj => by
        have := fet_at r4.out r2.out hn20 (k := j) (by omega)
        rw [hlen] at this
        exact this
      have hst8 : (stk a1 xs len0).here = (stt a1 xs len0 : Int) := by have := hsk.2.2; rw [hlen] at this; exact this
      rw [hlen] at hsk hsok
      obtain ⟨⟨ma, mn, mc⟩, xd, xr, xc, xw, xs5, xo⟩ := h'
      have hLo := hL.out
      have hmm : (stk a1 xs len0).mem.length = mn := On.Fl.len hLo.st.mem (fun _ => rfl) (by decide)
      have hF : Hid (∀ V, Below wr.heap.size wr V → ∀ j, j < len0 → ∃ op, Calls Tryd.prog 17 #[.slice ma mn mc, .int .i64 (stt a1 xs j : Int)] V fun e w' => e = .returned (.tuple #[.int .i64 op, .int .i64 (if xs.getD j 0 % 3 = 0 then a1 else 0), .int .i64 (stt a1 xs (j + 1) : Int), .int .i64 0]) ∧ Below V.heap.size V w') := Lib.hid fun V hV j hj => by
        obtain ⟨op, h1⟩ := hfe.out j hj
        have hb9 := stt_le a1 xs j
        have h2 := fetch_any ma mn mc (stk a1 xs len0).mem (stt a1 xs j : Int) V (mem_of (hLo.st.mem.below hV) hsok.mem) (by have := hsk.1; omega) (by unfold On.C64; omega) (laid_from r5.out (since hB.out hV))
        rw [h1] at h2
        exact ⟨op, h2.mono fun e w' hh => hh⟩
      have hcell : Hid (∀ V, Below wr.heap.size wr V → V.cell? ⟨g, 0, none⟩ = some (.slice ma mn mc) ∧ V.cell? ⟨g, 8, none⟩ = some (.int .i64 (stt a1 xs len0 : Int))) := Lib.hid fun V hV => by
        have hB7 := hLo.b.below hV hLo.b.lt
        have := hB7.cell 8 (v := .int .i64 (stk a1 xs len0).here) rfl
        rw [hst8] at this
        exact ⟨hB7.cell 0 rfl, this⟩
      have hrow : Hid (∀ V, Below wr.heap.size wr V → ∀ j, j < len0 → ∃ b o, a = some ⟨b, o, none⟩ ∧ V.cell? ⟨b, o + j, none⟩ = some (.int .i64 (stt a1 xs j : Int))) := Lib.hid fun V hV j hj => by
        obtain ⟨b, o, ha, hc⟩ := hO.out.sz.cells (by omega)
        have := hc j _ (sts_get a1 xs hj)
        exact ⟨b, o, ha, (hV.cell (p := ⟨b, o + j, none⟩) (World.block_lt_of_cell? _ _ this)).trans this⟩
      have hcl2 : Hid (∀ V, Below wr.heap.size wr V → ∀ j, j < len0 → ∃ b o, a0 = some ⟨b, o, none⟩ ∧ V.cell? ⟨b, o + j, none⟩ = some (.int .u8 (xs.getD j 0)) ∧ 0 ≤ xs.getD j 0 ∧ xs.getD j 0 ≤ 255) := Lib.hid fun V hV j hj => by
        obtain ⟨b, o, h1, h2⟩ := hcl.out V (since hB.out hV) j hj
        exact ⟨b, o, h1, h2, r2.out _ (by simp [List.getD, show j < xs.length by omega])⟩
      obtain ⟨V0, hV0⟩ : ∃ V0, V0 = wr := ⟨_, rfl⟩
      subst hV0
      have hnx : Hid (∀ j, j < len0 → (stt a1 xs j : Int) < (stt a1 xs (j + 1) : Int) ∧ (stt a1 xs (j + 1) : Int) ≤ 400) := Lib.hid fun j hj => by
        have h1 := stt_next a1 xs (k := j) (by omega)
        have h2 := (cdo_len a1 (xs.getD j 0)).1
        have h4 := stt_le a1 xs (j + 1)
        omega
      clear hsk hsok hfe hst8 hLo hmm hL hO hcl r1 r2 r4 r5
      go_wp2
      go_loopw [13, 14] (fun p i wx => ∃ j : Nat, j ≤ len0 ∧ p = .int .i64 (stt a1 xs j : Int) ∧ i = .int .i64 j ∧ Hid (Below V0.heap.size V0 wx)) (fun _ i _ => len0 - (intOf i).toNat)
      case atStart => exact ⟨0, Nat.zero_le _, rfl, rfl, Lib.hid (Below.refl _ _)⟩
      case round =>
        obtain ⟨j, hj, rfl, rfl, hX⟩ := hrel
        by_cases hj1 : j < len0
        · obtain ⟨op, hFj⟩ := hF.out _ hX.out j hj1
          obtain ⟨c0, c8⟩ := hcell.out _ hX.out
          have hstep := hnx.out j hj1
          have hfacts := Lib.hid (fun V (hV : Below V0.heap.size V0 V) => And.intro (hrow.out V hV j hj1) (hcl2.out V hV j hj1))
          obtain ⟨⟨b, o, rfl, _⟩, b2, o2, rfl, _, hx0, hx1⟩ := hfacts.out _ hX.out
          have hf2 : Hid (∀ V, Below V0.heap.size V0 V → V.cell? ⟨b, o + j, none⟩ = some (.int .i64 (stt a1 xs j : Int)) ∧ V.cell? ⟨b2, o2 + j, none⟩ = some (.int .u8 (xs.getD j 0))) := Lib.hid fun V hV => by
            obtain ⟨⟨b', o', e', q⟩, b3, o3, e3, q3, _⟩ := hfacts.out V hV
            simp at e' e3
            obtain ⟨rfl, rfl⟩ := e'
            obtain ⟨rfl, rfl⟩ := e3
            exact ⟨q, q3⟩
          clear hfacts hrow hcl2 hF hnx
          generalize (stt a1 xs j : Int) = p at *
          generalize hq : (stt a1 xs (j + 1) : Int) = q at *
          generalize xs.getD j 0 = x at *
          have hFh := Lib.hid hFj
          clear hFj
          by_cases h3 : x % 3 = 0
          · rw [if_pos h3] at hFh
            go_wp2_with (go_at_call 17; (with_reducible refine hFh.out.mono ?_); rintro e w6 ⟨rfl, hb6⟩; have hY := Lib.hid (since hX.out hb6); obtain ⟨d1, d2⟩ := hf2.out _ hY.out)
            exact ⟨⟨j + 1, by omega, by rw [hq], by go_num, hY⟩, by simp only [intOf]; omega⟩
          · rw [if_neg h3] at hFh
            go_wp2_with (go_at_call 17; (with_reducible refine hFh.out.mono ?_); rintro e w6 ⟨rfl, hb6⟩; have hY := Lib.hid (since hX.out hb6); obtain ⟨d1, d2⟩ := hf2.out _ hY.out)
            exact ⟨⟨j + 1, by omega, by rw [hq], by go_num, hY⟩, by simp only [intOf]; omega⟩
        · obtain rfl : len0 = j := by omega
          obtain ⟨c0, c8⟩ := hcell.out _ hX.out
          go_wp2
          go_ret
          exact ⟨rfl, since hB.out hX.out⟩

/-! ### the door's own heap meets the condition -/
theorem door_met (os : Os) (args : Array Value) : laidMetH Tryd.prog [("nostos/ops.words", Rows.laid_nostos_ops_words)] ((World.doorLaid Tryd.prog 14 os).forCall (fun _ _ => 0) ⟨#[], args, []⟩).memory :=
  laidMetH_of_parts3 (fuel := 8) (laidMet_of_run' 8 (by kernel_rfl) (by kernel_rfl)) (by kernel_rfl) (by kernel_rfl)

/-! ### the row's step -/
set_option maxRecDepth 100000 in
theorem lifted (os : Os) (started : os.Started) (H : Type) (enc : TypeId × Value → H) :
    ReturnsInHanded {} Tryd.checked os 7 .any (fun w args => (Rows.asmWalkSpec.pre enc Tryd.prog Tryd.f7 [] false w args ∧ laidMetH Tryd.prog [("nostos/ops.words", Rows.laid_nostos_ops_words)] w) ∧ sizedMet enc Tryd.prog Tryd.f7 (OpenSpec.ofChange Rows.asmWalkSpec) false w args)
      (Rows.asmWalkSpec.post enc Tryd.prog Tryd.f7 false true false false) := by
  refine returnsInHanded_of_change_and (C := Tryd.checked) (X := fun w _ => laidMetH Tryd.prog [("nostos/ops.words", Rows.laid_nostos_ops_words)] w) (fun _ _ _ hh h => h.of_heap hh) own started (by kernel_rfl) Tryd.func7
    (ChangeSpec.witness_shaped (enc := enc) (C := Tryd.checked) (os := os) (X := fun w _ => laidMetH Tryd.prog [("nostos/ops.words", Rows.laid_nostos_ops_words)] w) false (World.doorLaid Tryd.prog 14 os) #[.slice none 0 0, .int .i64 0] 8 rfl (World.shaped_of_RefB (by kernel_rfl) (by kernel_rfl)) (by kernel_rfl) (by kernel_rfl) (by kernel_rfl) (door_met os _)) ?_
  intro W base args ds gs before hval0 hW _ _ hL0 _
  have hval : ∀ (j : Nat) t v, Tryd.f7.params[j]? = some t → args[j]? = some v → Value.okWide Tryd.prog W .any base t v := hval0
  have hW' := hW
  obtain ⟨p, q, hA0, hV, rfl, hfz, hnd⟩ := hW
  have hA : DataW.TrodAll enc Tryd.prog W 0 (fun _ => true) true Tryd.f7.params.toList args.toList ds p := hA0
  rw [Tryd.params7] at hA hval
  obtain ⟨v0, vs0, d0, ds0, p0, q0, hargs, rfl, rfl, h0, r0⟩ := trodAll_cons hA
  obtain ⟨v1, vs1, d1, ds1, p1, q1, rfl, rfl, rfl, h1, r1⟩ := trodAll_cons r0
  obtain ⟨rfl, rfl, rfl⟩ := trodAll_nil r1
  obtain rfl : args = #[v0, v1] := by cases args; simp_all
  obtain ⟨rfl, rfl⟩ := trodVars_none hV
  obtain ⟨a0, len0, cap0, rfl⟩ := okWide_slice Tryd.underlying22 (hval 0 22 v0 rfl rfl)
  have k0 := h0
  have lt0 : ∀ x ∈ p0, x.block < W.heap.size := by obtain ⟨m, hm⟩ := k0; exact DataW.trod_lt m _ _ _ hm
  obtain ⟨z0, w0⟩ : ∃ zs, IsRow .u8 W a0 len0 cap0 zs := by
    obtain ⟨fuel, hf⟩ := h0
    rcases open_ints Tryd.underlying22 Tryd.underlying5 (by kernel_rfl) hf with ⟨hcs, _⟩ | ⟨x, l, c, zs, hcs, _, hl, hm, hz, _, hcell, hwz⟩
    · simp [Value.cells] at hcs
      obtain ⟨rfl, rfl, rfl⟩ := hcs
      exact ⟨[], .inl ⟨rfl, rfl, rfl, rfl⟩⟩
    · simp [Value.cells] at hcs
      obtain ⟨rfl, rfl, rfl⟩ := hcs
      exact ⟨zs, .inr ⟨_, rfl, hl, hm, by simpa using hz, hcell, hwz⟩⟩
  obtain ⟨a1, rfl, rfl, rfl, w1⟩ := open_int Tryd.underlying3 (hval 1 3 v1 rfl rfl) h1
  clear hA0 hval0
  refine (walk a0 len0 cap0 z0 a1 W (laid_of hL0) w0 w1).mono fun e W' ⟨he, bel⟩ => ?_
  subst he
  exact ⟨_, rfl, _, _, _, [], _, [], hW', trodAll_mk1 (shut_bool Tryd.underlying4 _), (trodAll_cons_mk (Below.trod laidOut (by kernel_rfl) (of_decide_eq_true (by kernel_rfl)) k0 bel lt0) (trodAll_cons_mk (shut_int Tryd.underlying3 w1) trodAll_mk0)), rfl, bel.frame _, fun h => by cases h⟩

theorem over : Rows.asmWalkRow.holds Tryd.pinned (OpenSpec.ofChange Rows.asmWalkSpec) :=
  OpenClaim.holds_of_wide 7 Tryd.f7 rfl rfl rfl rfl rfl rfl rfl ⟨rfl, rfl, rfl, rfl, rfl⟩ rfl rfl rfl rfl rfl (by kernel_rfl) Tryd.func7 (by kernel_rfl)
    (of_decide_eq_true (by kernel_rfl)) (by unfold Func.isWrapper; first | (rw [if_pos (by decide +kernel)]; kernel_rfl) | (rw [if_neg (by decide +kernel)]; exact ⟨rfl, rfl⟩))
    (fun os started H enc _ => lifted os started H enc)

/-- the statement -/
theorem proved : Rows.AsmWalkCardSaid := 
  Claim7.holds_tied_plain_at .later [] [.data] true (true, "961e839cc12026cbaef8b63ef80415f98936f9fe6d737958e1b5d0b4db23427f") false
    over (fun _ h => by cases h) (by kernel_rfl) (fun _ h => by cases h) asmWalk_row_tie rfl ⟨rfl, rfl⟩ (by kernel_rfl) rfl
    (fun f fn hf hfn => by
      obtain rfl : f = 7 := Option.some.inj ((show Tryd.prog.funcNamed "nostos/nostoslaw10.AsmWalk" = some 7 by kernel_rfl).symm.trans hf) |>.symm
      obtain rfl : fn = Tryd.f7 := (Option.some.inj (Tryd.func7.symm.trans hfn)).symm
      exact ⟨by kernel_rfl, fun j t ht => by
        rw [Tryd.params7] at ht
        have hm : t ∈ [22, 3] := by simpa using Array.mem_of_getElem? ht
        have hall : ([22, 3].all fun u => !Tryd.prog.wantsStandIn u) = true := by kernel_rfl
        exact (show Tryd.prog.wantsStandIn t = false by simpa using List.all_eq_true.1 hall t hm)⟩)
    (by kernel_rfl)
#print axioms proved
end Go.Proofs.YtkjokgjjpoocgaaDoor.asmWalk
