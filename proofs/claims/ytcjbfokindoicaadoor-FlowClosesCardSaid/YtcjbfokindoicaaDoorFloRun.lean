/- run: words of control flow, one behind the other. -/
import Derived.Test.YtcjbfokindoicaaDoorFloAw
namespace Go.Proofs.YtcjbfokindoicaaDoor
set_option maxRecDepth 100000
open Go.ChangeShapes Go.WideShapes Go.ChangeAt Go.RowKit
open On (St Hs StIs cst Fl one C64 C8 Sc slc spc Sz bytesOk)
set_option linter.unusedVariables false
set_option maxRecDepth 100000

/-- the names of the words, by their numbers -/
def bst (k : Int) : ByteArray := if k = 98 then ⟨#[73, 70]⟩ else if k = 99 then ⟨#[69, 76, 83, 69]⟩ else if k = 100 then ⟨#[84, 72, 69, 78]⟩ else if k = 101 then ⟨#[66, 69, 71, 73, 78]⟩ else if k = 102 then ⟨#[65, 71, 65, 73, 78]⟩ else if k = 103 then ⟨#[85, 78, 84, 73, 76]⟩ else if k = 104 then ⟨#[87, 72, 73, 76, 69]⟩ else if k = 105 then ⟨#[82, 69, 80, 69, 65, 84]⟩ else if k = 106 then ⟨#[68, 79]⟩ else ⟨#[76, 79, 79, 80]⟩
def okW (k : Int) : Prop := 98 ≤ k ∧ k ≤ 107
theorem nm_bst {k : Int} (h : okW k) : Nm (bst k) k := by
  unfold okW at h
  rcases (show k = 98 ∨ k = 99 ∨ k = 100 ∨ k = 101 ∨ k = 102 ∨ k = 103 ∨ k = 104 ∨ k = 105 ∨ k = 106 ∨ k = 107 by omega) with rfl | rfl | rfl | rfl | rfl | rfl | rfl | rfl | rfl | rfl
  · exact nm_if
  · exact nm_else
  · exact nm_then
  · exact nm_begin
  · exact nm_again
  · exact nm_until
  · exact nm_while
  · exact nm_repeat
  · exact nm_do
  · exact nm_loop

def runP : List Int → St → St × Int
  | [], s => (s, 0)
  | k :: l, s => if (floP s k).1 ≠ 0 ∨ (floP s k).2.1 = false then (s, (floP s k).1) else runP l (floP s k).2.2
theorem runP_cons (k : Int) (l : List Int) (s : St) : runP (k :: l) s = if (floP s k).1 ≠ 0 ∨ (floP s k).2.1 = false then (s, (floP s k).1) else runP l (floP s k).2.2 := rfl
/-- a list of such names -/
def strs (l : List Int) : List Value := l.map fun k => .string (bst k)
theorem strs_cell {w : World} {a : Option Addr} {n c : Nat} {l : List Int} (h : Sz w 1 a n c (strs l)) {i : Nat} (hi : i < n) : ∃ b o, a = some ⟨b, o, none⟩ ∧ w.cell? ⟨b, o + i, none⟩ = some (.string (bst (l.getD i 0))) := by
  obtain ⟨b, o, ha, hr⟩ := h.cells (by omega)
  have hl : (strs l).length = n * 1 := h.len
  have hl2 : l.length = n := by unfold strs at hl; simp at hl; exact hl
  refine ⟨b, o, ha, hr i _ ?_⟩
  unfold strs
  rw [List.getElem?_map, List.getElem?_eq_getElem (show i < l.length by omega)]
  simp [List.getD, show i < l.length by omega]
/-- the variable g holds the state, whose slices lie neither in b nor in the next block -/
def HeldO (b : Nat) (V : World) (g : Nat) (s : St) : Prop := ∃ h', Bx V g 28 (cst h' s) ∧ StIs V h' s ∧ OffA h' b ∧ OffA h' (b + 1)
theorem Told.heldO {V : World} {h : Hs} {w3 : World} {Z : Array Value} {s' : St} (H : Told V h w3 Z s') {g b : Nat} {cs : Array Value} (hB : Bx w3 g 28 cs) (ho : OffA h g) (hg : g < V.heap.size) (h0 : OffA h b) (h1 : OffA h (b + 1)) (hb : b + 1 < V.heap.size) : HeldO b (w3.setRow g Z) g s' := by
  obtain ⟨h2, rfl, h3, h4⟩ := H
  exact ⟨h2, hB.row _, (ho.next h4 hg).row h3 _, h0.next h4 (by omega), h1.next h4 hb⟩
theorem Told.newO {V : World} {h : Hs} {w3 : World} {Z : Array Value} {s' : St} (H : Told V h w3 Z s') {b : Nat} (h0 : OffA h b) (h1 : OffA h (b + 1)) (hb : b + 1 < V.heap.size) : HeldO b ((w3.alloc (.cells zst 28)).setRow w3.heap.size Z) w3.heap.size s' := by
  obtain ⟨h2, rfl, h3, h4⟩ := H
  have hbl : Below w3.heap.size w3 (w3.alloc (.cells zst 28)) := (Below.refl _ _).alloc (Nat.le_refl _) _
  exact ⟨h2, (Bx.new w3 _ _).row _, h3.below (below_setRow hbl (Nat.le_refl _) _), h0.next h4 (by omega), h1.next h4 hb⟩
theorem Bz.goes {p c q : Nat} {s : St} (h : Bz p c q (s, 0)) (hp : p ≤ 30000) (hc : c ≤ 30000) (hq : q ≤ 100000) : Goes s := ⟨⟨h.ok, h.mem, Nat.le_trans h.spots hp, Nat.le_trans h.ctl hc, Nat.le_trans h.words hq, h.thr⟩⟩
set_option maxHeartbeats 4000000 in
theorem run_any (h : Hs) (s : St) (a : Option Addr) (n c : Nat) (ops : List Int) (w : World) (p cc q : Nat) (hL : On.Laid w) (hS : StIs w h s) (hb : Bz p cc q (s, 0)) (hp : p ≤ 20000) (hcc : cc ≤ 20000) (hq : q ≤ 100000) (hx : Sz w 1 a n c (strs ops)) (hn : n ≤ 1000) (hw : ∀ k ∈ ops, okW k) :
    Calls Tryd.prog 13 #[.agg (cst h s), .slice a n c] w fun e w' => ∃ Z, e = .returned (.tuple #[.agg Z, .int .i64 (runP ops s).2]) ∧ Zis w' Z (runP ops s).1 ∧ Below w.heap.size w w' := by
  have hol : ops.length = n := by
    have := hx.len
    unfold strs at this
    simpa using this
  obtain ⟨b1, b2, hb0⟩ := boxes w (cst h s) zst 28
  have r1 := Lib.hid b1
  have r2 := Lib.hid b2
  have r3 := Lib.hid (hS.below hb0)
  have r4 := Lib.hid (OffA.place hS (g := w.heap.size) (Nat.le_refl _))
  have r5 := Lib.hid (OffA.place hS (g := w.heap.size + 1) (Nat.le_succ _))
  have r6 := Lib.hid hb
  have r7 := Lib.hid hb0
  have r8 := Lib.hid hx
  have r9 := Lib.hid hol
  have r10 := Lib.hid hw
  have hbd := hx.bd
  clear b1 b2 hS hb hb0 hx hol hw
  go_enter Tryd.func13, Tryd.ntmps13
  go_wp2
  go_loopw [6] (fun i wr => ∃ (k : Nat) (h' : Hs) (s' : St), k ≤ n ∧ i = .int .i64 (k : Int) ∧ Hid (runP ops s = runP (ops.drop k) s') ∧ Hid (Bx wr w.heap.size 28 (cst h' s')) ∧ Hid (Bx wr (w.heap.size + 1) 28 zst) ∧ Hid (StIs wr h' s') ∧ Hid (OffA h' w.heap.size) ∧ Hid (OffA h' (w.heap.size + 1)) ∧ Hid (Bz (p + 2 * k) (cc + 4 * k) q (s', 0)) ∧ Hid (Below w.heap.size w wr)) (fun i _ => n - (intOf i).toNat)
  case atStart => exact ⟨0, h, s, Nat.zero_le _, rfl, Lib.hid rfl, r1, r2, r3, r4, r5, r6, r7⟩
  case round =>
    obtain ⟨k, h', s', hk, rfl, hE, q1, q2, q3, qO, qO1, qz, qB⟩ := hrel
    clear r1 r2 r3 r4 r5 r6 r7
    by_cases h1 : k < n
    · obtain ⟨lb, lo, ha, pk⟩ := strs_cell (r8.out.below qB.out) (i := k) h1
      subst ha
      have hdr : Hid (ops.drop k = ops.getD k 0 :: ops.drop (k + 1)) := Lib.hid (by
        have := r9.out
        rw [List.drop_eq_getElem_cons (by omega)]
        simp [List.getD, show k < ops.length by omega])
      have hkk0 := r10.out (ops.getD k 0) (by
        have := r9.out
        simp [List.getD, show k < ops.length by omega])
      generalize ops.getD k 0 = kk at *
      have hnm := Lib.hid (nm_bst hkk0)
      have hkk : Hid (C64 kk) := Lib.hid (by unfold okW at hkk0; unfold C64; omega)
      have hgo := Lib.hid (qz.out.goes (by omega) (by omega) hq)
      have hbz := floP_bz qz.out kk
      obtain ⟨tt, bb, s2, he⟩ : ∃ t b s2, floP s' kk = (t, b, s2) := ⟨_, _, _, rfl⟩
      rw [he] at hbz
      have hbz2 : Hid (Bz (p + 2 * (k + 1)) (cc + 4 * (k + 1)) q (s2, 0)) := Lib.hid (hbz.1.le (by omega) (by omega))
      have httc := Lib.hid hbz.2
      replace he := Lib.hid he
      clear hbz hkk0
      have hcl : Hid (∀ V, Below wr.heap.size wr V → V.cell? ⟨lb, lo + k, none⟩ = some (.string (bst kk)) ∧ StC V w.heap.size h' s') := Lib.hid fun V hV => ⟨(hV.cell (p := ⟨lb, lo + k, none⟩) (World.block_lt_of_cell? _ _ pk)).trans pk, StC.of (q1.out.below hV q1.out.lt)⟩
      have hD : Hid (∀ V, Below wr.heap.size wr V → Calls Tryd.prog 10 #[.agg (cst h' s'), .int .i64 kk] V fun e w3 => ∃ Z, e = .returned (.tuple #[.agg Z, .int .i64 tt, .bool bb]) ∧ Hid (StZ Z) ∧ Hid (Told V h' w3 Z s2) ∧ Below V.heap.size V w3) := Lib.hid fun V hV => do_t (q3.out.below hV) kk (hL.below (since2 qB.out hV) (Nat.le_refl _)) hkk.out hgo.out he.out
      have hOff : Hid (∀ g', wr.heap.size ≤ g' → OffA h' g') := Lib.hid fun g' hg => OffA.place q3.out hg
      have hLW : Hid (∀ V, Below wr.heap.size wr V → On.Laid V) := Lib.hid fun V hV => hL.below (since2 qB.out hV) (Nat.le_refl _)
      go_wp2
      go_cut [7, 8, 9] (fun p q r V => (∃ g, p = .pointer (some ⟨g, 0, none⟩) ∧ Hid (HeldO w.heap.size V g s2)) ∧ q = .int .i64 tt ∧ r = .bool bb ∧ Hid (Below wr.heap.size wr V))
      case first =>
        go_region_held3 (fun V => V.cell? ⟨lb, lo + k, none⟩ = some (.string (bst kk)) ∧ V.cell? ⟨w.heap.size, 0, none⟩ = some (h'.mem.val) ∧ V.cell? ⟨w.heap.size, 1, none⟩ = some (h'.data.val) ∧ V.cell? ⟨w.heap.size, 2, none⟩ = some (h'.ret.val) ∧ V.cell? ⟨w.heap.size, 3, none⟩ = some (h'.ctl.val) ∧ V.cell? ⟨w.heap.size, 4, none⟩ = some (h'.words.val) ∧ V.cell? ⟨w.heap.size, 5, none⟩ = some (h'.spots.val) ∧ V.cell? ⟨w.heap.size, 6, none⟩ = some (h'.out.val) ∧ V.cell? ⟨w.heap.size, 7, none⟩ = some (.int .i64 s'.ip) ∧ V.cell? ⟨w.heap.size, 8, none⟩ = some (.int .i64 s'.here) ∧ V.cell? ⟨w.heap.size, 9, none⟩ = some (.int .i64 s'.pos) ∧ V.cell? ⟨w.heap.size, 10, none⟩ = some (.int .i64 s'.tok) ∧ V.cell? ⟨w.heap.size, 11, none⟩ = some (.int .i64 s'.inn) ∧ V.cell? ⟨w.heap.size, 12, none⟩ = some (.int .i64 s'.err) ∧ V.cell? ⟨w.heap.size, 13, none⟩ = some (.bool s'.comp) ∧ V.cell? ⟨w.heap.size, 14, none⟩ = some (.bool s'.halt))
          (first
            | with_reducible exact hcl.out _ hW3
            | with_reducible exact hcl.out _ (bl_alloc hW3 _)
            | with_reducible exact hcl.out _ hWa
            | with_reducible exact hcl.out _ (bl_alloc hWa _)
            | with_reducible exact hcl.out _ (bl_drew (Below.refl _ _))
            | with_reducible exact hcl.out _ (bl_alloc (bl_drew (Below.refl _ _)) _)
            | with_reducible exact hcl.out _ (bl_drew (bl_alloc (Below.refl _ _) _))
            | with_reducible exact hcl.out _ (bl_row hW3 _ (Nat.le_refl _))
            | with_reducible exact hcl.out _ (bl_row hW3 _ hle1)
            | with_reducible exact hcl.out _ (bl_row (bl_alloc hW3 _) _ hle3))
          (first
            | (go_at_call 16
               (with_reducible refine (find_nm hnm.out _ ?_).mono ?_)
               · refine hLW.out _ ?_
                 repeat (first | with_reducible exact Below.refl _ _ | with_reducible refine bl_alloc ?_ _ | with_reducible refine bl_drew ?_ | with_reducible refine bl_row ?_ _ ?_ | with_reducible exact Nat.le_refl _)
               rintro e w1 ⟨rfl, hb1⟩
               have hWa : Below wr.heap.size wr w1 := by
                 refine since2 ?_ hb1
                 repeat (first | with_reducible exact Below.refl _ _ | with_reducible refine bl_alloc ?_ _ | with_reducible refine bl_drew ?_ | with_reducible refine bl_row ?_ _ ?_ | with_reducible exact Nat.le_refl _)
               have hle1 := hWa.size)
            | (go_at_call 10
               (with_reducible refine (hD.out _ ?_).mono ?_)
               · first
                   | with_reducible exact hWa
                   | with_reducible exact bl_alloc hWa _
               rintro e w3 ⟨Z, rfl, hz, hT, hb3⟩
               have hW3 : Below wr.heap.size wr w3 := by
                 refine since2 ?_ hb3
                 first
                   | with_reducible exact hWa
                   | with_reducible exact bl_alloc hWa _
               have hle3 := hW3.size
               have hlv : w.heap.size + 1 < _ := Nat.lt_of_lt_of_le q2.out.lt hWa.size
               have hz1 := hz.out.1
               have kst0 := cells_at (ds := Z) (Bx.new w3 28 zst) hz.out.1.symm hz.out.2
               try (have k1 : Bx w3 wr.heap.size 28 zst := by
                      repeat (first | (with_reducible refine bx_at ?_; simp; done) | (with_reducible refine bx_at ?_; rfl) | with_reducible refine bx_st ?_ hb3 | with_reducible refine bx_st ?_ hb1 | with_reducible refine bx_up ?_ _ | with_reducible refine bx_dr ?_)
                      done
                    have kst1 := cells_at (ds := Z) k1 hz.out.1.symm hz.out.2)
               try (have k2 : Bx w3 w1.heap.size 28 zst := by
                      repeat (first | (with_reducible refine bx_at ?_; simp; done) | (with_reducible refine bx_at ?_; rfl) | with_reducible refine bx_st ?_ hb3 | with_reducible refine bx_st ?_ hb1 | with_reducible refine bx_up ?_ _ | with_reducible refine bx_dr ?_)
                      done
                    have kst2 := cells_at (ds := Z) k2 hz.out.1.symm hz.out.2)))
        all_goals
          go_wp2_with fail
          go_meet
          first
            | exact ⟨⟨_, rfl, Lib.hid (hT.out.newO qO.out qO1.out (by first | exact hlv | exact Nat.lt_of_lt_of_le hlv (bl_alloc (Below.refl _ _) _).size))⟩, rfl, rfl, Lib.hid (new_row hW3)⟩
            | (refine ⟨⟨_, rfl, Lib.hid (hT.out.heldO (by first | exact k1 | exact k2) (hOff.out _ ?_) ?_ qO.out qO1.out (by first | exact hlv | exact Nat.lt_of_lt_of_le hlv (bl_alloc (Below.refl _ _) _).size))⟩, rfl, rfl, Lib.hid (below_setRow hW3 ?_ _)⟩
               all_goals (have hs1 := hb1.size; simp at hs1 ⊢; try omega))
      case rest =>
        obtain ⟨⟨g, rfl, hG⟩, rfl, rfl, hW1⟩ := hcut
        clear hcl hD hOff hLW hnm
        obtain ⟨h2, gB, gS, gO, gO1⟩ := hG.out
        have hlt1 := q2.out.lt
        have z1 := Lib.hid (q1.out.below hW1.out q1.out.lt)
        have z2 := Lib.hid (q2.out.below hW1.out q2.out.lt)
        have zS := q3.out.below hW1.out
        have hBw := since2 qB.out hW1.out
        have hszw := hBw.size
        by_cases hgo1 : tt = 0 ∧ bb = true
        · obtain ⟨rfl, rfl⟩ := hgo1
          have hE2 : Hid (runP ops s = runP (ops.drop (k + 1)) s2) := Lib.hid (by rw [hE.out, hdr.out, runP_cons, he.out, if_neg (by simp)])
          have y1 := Lib.hid (z1.out.row (cst h2 s2))
          have y2 := Lib.hid (z2.out.rowOther (cst h2 s2) (show w.heap.size + 1 ≠ w.heap.size by omega))
          have y3 := Lib.hid (gO.row gS (cst h2 s2))
          have y4 := Lib.hid gO
          have y5 := Lib.hid gO1
          have y6 := Lib.hid (below_setRow hBw (g := w.heap.size) (Nat.le_refl _) (cst h2 s2))
          have yg := Lib.hid gB
          clear gB gS gO gO1 zS hG
          go_wp2_with (first
            | (refine wpList_load_row rfl 28 (.tmp 7) rfl g rfl _ _ _ _ yg.out Tryd.underlying28 rfl stinfo ?_)
            | (refine wpList_store_row rfl 28 (.tmp 2) (.tmp 35) rfl w.heap.size _ rfl rfl _ _ z1.out stinfo rfl (cst_one _ _) ?_))
          exact ⟨⟨k + 1, h2, s2, by omega, by go_num, hE2, y1, y2, y3, y4, y5, hbz2, y6⟩, by simp only [intOf]; omega⟩
        · have hE2 : Hid (runP ops s = (s', tt)) := Lib.hid (by
            rw [hE.out, hdr.out, runP_cons, he.out]
            refine if_pos ?_
            by_cases ht : tt = 0
            · exact .inr (by cases bb with
                | true => exact absurd ⟨ht, rfl⟩ hgo1
                | false => rfl)
            · exact .inl ht)
          have hfin := Lib.hid (show Zis (wc.setRow (w.heap.size + 1) (cst h' s')) (cst h' s') s' from ⟨h', rfl, qO1.out.row zS _⟩)
          have hend := Lib.hid (below_setRow hBw (g := w.heap.size + 1) (Nat.le_succ _) (cst h' s'))
          have yr := Lib.hid (z2.out.row (cst h' s'))
          have htt := httc.out
          unfold C64 at htt
          clear gB gS gO gO1 zS hG hE hdr he
          by_cases ht : tt = 0
          · subst ht
            have hbb : bb = false := by cases bb with
              | true => exact absurd ⟨rfl, rfl⟩ hgo1
              | false => rfl
            subst hbb
            clear hgo1
            go_wp2_with (first
              | (refine wpList_load_row rfl 28 (.tmp 2) rfl w.heap.size rfl _ _ _ _ z1.out Tryd.underlying28 rfl stinfo ?_)
              | (refine wpList_store_row rfl 28 (.tmp 4) (.tmp 33) rfl (w.heap.size + 1) _ rfl rfl _ _ z2.out stinfo rfl (cst_one _ _) ?_))
            try rw [Exit.noGoto_ret]
            try simp only [Exit.inBlock, Exit.then]
            refine bodyPost_ret (results_row2 rfl _ _ (w.heap.size + 1) 28 _ _ _ rfl rfl yr.out Tryd.underlying28 rfl stinfo) rfl ?_
            rw [hE2.out]
            exact ⟨_, rfl, hfin.out, hend.out⟩
          · have ht1 : (tt != 0) = true := by simpa using ht
            clear hgo1 ht
            go_wp2_with (first
              | (refine wpList_load_row rfl 28 (.tmp 2) rfl w.heap.size rfl _ _ _ _ z1.out Tryd.underlying28 rfl stinfo ?_)
              | (refine wpList_store_row rfl 28 (.tmp 4) (.tmp 33) rfl (w.heap.size + 1) _ rfl rfl _ _ z2.out stinfo rfl (cst_one _ _) ?_))
            try rw [Exit.noGoto_ret]
            try simp only [Exit.inBlock, Exit.then]
            refine bodyPost_ret (results_row2 rfl _ _ (w.heap.size + 1) 28 _ _ _ rfl rfl yr.out Tryd.underlying28 rfl stinfo) rfl ?_
            rw [hE2.out]
            exact ⟨_, rfl, hfin.out, hend.out⟩
    · obtain rfl : n = k := by omega
      have hE2 : Hid (runP ops s = (s', 0)) := Lib.hid (by rw [hE.out, List.drop_eq_nil_of_le (by have := r9.out; omega)]; rfl)
      have hfin := Lib.hid (show Zis (wr.setRow (w.heap.size + 1) (cst h' s')) (cst h' s') s' from ⟨h', rfl, qO1.out.row q3.out _⟩)
      have hend := Lib.hid (below_setRow qB.out (g := w.heap.size + 1) (Nat.le_succ _) (cst h' s'))
      have yr := Lib.hid (q2.out.row (cst h' s'))
      clear hE
      go_wp2_with (first
        | (refine wpList_load_row rfl 28 (.tmp 2) rfl w.heap.size rfl _ _ _ _ q1.out Tryd.underlying28 rfl stinfo ?_)
        | (refine wpList_store_row rfl 28 (.tmp 4) (.tmp 36) rfl (w.heap.size + 1) _ rfl rfl _ _ q2.out stinfo rfl (cst_one _ _) ?_))
      try rw [Exit.noGoto_ret]
      try simp only [Exit.inBlock, Exit.then]
      refine bodyPost_ret (results_row2 rfl _ _ (w.heap.size + 1) 28 _ _ _ rfl rfl yr.out Tryd.underlying28 rfl stinfo) rfl ?_
      rw [hE2.out]
      exact ⟨_, rfl, hfin.out, hend.out⟩
end Go.Proofs.YtcjbfokindoicaaDoor
