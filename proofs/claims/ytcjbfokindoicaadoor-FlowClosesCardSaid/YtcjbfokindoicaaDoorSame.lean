/- The document's Same: of two states with the same contents it is true. -/
import Derived.Test.YtcjbfokindoicaaDoorBox
import Derived.Test.YtcjbfokindoicaaDoorState
import Derived.Test.YtcjbfokindoicaaDoorAsmRef
import Derived.BigQuiet
namespace Go.Proofs.YtcjbfokindoicaaDoor
set_option maxRecDepth 100000
open Go.ChangeShapes Go.WideShapes Go.ChangeAt Go.RowKit
open On (St Hs StIs cst Fl one C64 C8 Sc slc spc)
set_option linter.unusedVariables false
set_option maxRecDepth 100000

theorem ints_cell {w : World} {x : Sc} {l : List Int} (h : Fl (one .i64) 1 w x l) {i : Nat} (hi : i < x.n) : ∃ b o, x.a = some ⟨b, o, none⟩ ∧ w.cell? ⟨b, o + i, none⟩ = some (.int .i64 (l.getD i 0)) := by
  have hl : l.length = x.n := Fl.len h (fun _ => rfl) (by decide)
  obtain ⟨b, o, ha, hc⟩ := Fl.cell h (fun _ => rfl) (i := i) (j := 0) (by omega) (v := .int .i64 l[i]) rfl
  refine ⟨b, o, ha, ?_⟩
  have := hc 0 _ rfl
  simp only [Nat.mul_one, Nat.add_zero] at this
  rw [this]
  simp [List.getD, show i < l.length by omega]
theorem rints_yes (a a' : Option Addr) (n c c' : Nat) (l : List Int) (w : World) (h : Fl (one .i64) 1 w ⟨a, n, c⟩ l) (h' : Fl (one .i64) 1 w ⟨a', n, c'⟩ l) :
    Calls Tryd.prog 27 #[.slice a n c, .slice a' n c'] w fun e w' => e = .returned (.bool true) ∧ Below w.heap.size w w' := by
  have hb := Fl.bd h
  have hb' := Fl.bd h'
  dsimp only at hb hb'
  replace h := Lib.hid h
  replace h' := Lib.hid h'
  go_enter Tryd.func27, Tryd.ntmps27
  go_wp2
  go_loopw [5] (fun i wr => ∃ k : Nat, k ≤ n ∧ i = .int .i64 k ∧ Hid (Below w.heap.size w wr)) (fun i _ => n - (intOf i).toNat)
  case atStart => exact ⟨0, Nat.zero_le _, rfl, Lib.hid (Below.refl _ _)⟩
  case round =>
    obtain ⟨k, hk, rfl, hB⟩ := hrel
    by_cases h1 : k < n
    · obtain ⟨b, o, ha, q⟩ := ints_cell (h.out.below hB.out) (i := k) h1
      obtain ⟨b', o', ha', q'⟩ := ints_cell (h'.out.below hB.out) (i := k) h1
      dsimp only at ha ha'
      subst ha; subst ha'
      generalize l.getD k 0 = z at *
      go_wp2
      go_quiet (fail)
      go_wp2
      exact ⟨⟨k + 1, by omega, by go_num, Lib.hid (below_drewN hB.out nq)⟩, by simp only [intOf]; omega⟩
    · obtain rfl : k = n := by omega
      go_wp2
      go_ret
      exact ⟨rfl, hB.out⟩

theorem slots_cell {w : World} {x : Sc} {l : List (Int × Bool)} (h : Fl slc 2 w x l) {i : Nat} (hi : i < x.n) : ∃ b o, x.a = some ⟨b, o, none⟩ ∧ w.cell? ⟨b, o + i * 2, none⟩ = some (.int .i64 (l.getD i default).1) ∧ w.cell? ⟨b, o + i * 2 + 1, none⟩ = some (.bool (l.getD i default).2) := by
  have hl : l.length = x.n := Fl.len h On.slc_len (by decide)
  obtain ⟨b, o, ha, hc⟩ := Fl.cell h On.slc_len (i := i) (j := 0) (by omega) (v := .int .i64 l[i].1) rfl
  have e : l.getD i default = l[i] := by simp [List.getD, show i < l.length by omega]
  rw [e]
  exact ⟨b, o, ha, hc 0 _ rfl, hc 1 _ rfl⟩
theorem rslots_yes (a a' : Option Addr) (n c c' : Nat) (l : List (Int × Bool)) (w : World) (h : Fl slc 2 w ⟨a, n, c⟩ l) (h' : Fl slc 2 w ⟨a', n, c'⟩ l) :
    Calls Tryd.prog 28 #[.slice a n c, .slice a' n c'] w fun e w' => e = .returned (.bool true) ∧ Below w.heap.size w w' := by
  have hb := Fl.bd h
  have hb' := Fl.bd h'
  dsimp only at hb hb'
  replace h := Lib.hid h
  replace h' := Lib.hid h'
  go_enter Tryd.func28, Tryd.ntmps28
  go_wp2
  go_loopw [5] (fun i wr => ∃ k : Nat, k ≤ n ∧ i = .int .i64 k ∧ Hid (Below w.heap.size w wr)) (fun i _ => n - (intOf i).toNat)
  case atStart => exact ⟨0, Nat.zero_le _, rfl, Lib.hid (Below.refl _ _)⟩
  case round =>
    obtain ⟨k, hk, rfl, hB⟩ := hrel
    by_cases h1 : k < n
    · obtain ⟨b, o, ha, q0, q1⟩ := slots_cell (h.out.below hB.out) (i := k) h1
      obtain ⟨b', o', ha', q0', q1'⟩ := slots_cell (h'.out.below hB.out) (i := k) h1
      dsimp only at ha ha'
      subst ha; subst ha'
      generalize (l.getD k default).1 = z at *
      generalize (l.getD k default).2 = y at *
      go_wp2
      go_quiet (fail)
      go_wp2
      exact ⟨⟨k + 1, by omega, by go_num, Lib.hid (below_drewN hB.out nq)⟩, by simp only [intOf]; omega⟩
    · obtain rfl : k = n := by omega
      go_wp2
      go_ret
      exact ⟨rfl, hB.out⟩
theorem spots_cell {w : World} {x : Sc} {l : List (Int × Int)} (h : Fl spc 2 w x l) {i : Nat} (hi : i < x.n) : ∃ b o, x.a = some ⟨b, o, none⟩ ∧ w.cell? ⟨b, o + i * 2, none⟩ = some (.int .i64 (l.getD i default).1) ∧ w.cell? ⟨b, o + i * 2 + 1, none⟩ = some (.int .i64 (l.getD i default).2) := by
  have hl : l.length = x.n := Fl.len h On.spc_len (by decide)
  obtain ⟨b, o, ha, hc⟩ := Fl.cell h On.spc_len (i := i) (j := 0) (by omega) (v := .int .i64 l[i].1) rfl
  have e : l.getD i default = l[i] := by simp [List.getD, show i < l.length by omega]
  rw [e]
  exact ⟨b, o, ha, hc 0 _ rfl, hc 1 _ rfl⟩
theorem rspots_yes (a a' : Option Addr) (n c c' : Nat) (l : List (Int × Int)) (w : World) (h : Fl spc 2 w ⟨a, n, c⟩ l) (h' : Fl spc 2 w ⟨a', n, c'⟩ l) :
    Calls Tryd.prog 30 #[.slice a n c, .slice a' n c'] w fun e w' => e = .returned (.bool true) ∧ Below w.heap.size w w' := by
  have hb := Fl.bd h
  have hb' := Fl.bd h'
  dsimp only at hb hb'
  replace h := Lib.hid h
  replace h' := Lib.hid h'
  go_enter Tryd.func30, Tryd.ntmps30
  go_wp2
  go_loopw [5] (fun i wr => ∃ k : Nat, k ≤ n ∧ i = .int .i64 k ∧ Hid (Below w.heap.size w wr)) (fun i _ => n - (intOf i).toNat)
  case atStart => exact ⟨0, Nat.zero_le _, rfl, Lib.hid (Below.refl _ _)⟩
  case round =>
    obtain ⟨k, hk, rfl, hB⟩ := hrel
    by_cases h1 : k < n
    · obtain ⟨b, o, ha, q0, q1⟩ := spots_cell (h.out.below hB.out) (i := k) h1
      obtain ⟨b', o', ha', q0', q1'⟩ := spots_cell (h'.out.below hB.out) (i := k) h1
      dsimp only at ha ha'
      subst ha; subst ha'
      generalize (l.getD k default).1 = z at *
      generalize (l.getD k default).2 = y at *
      go_wp2
      go_quiet (fail)
      go_wp2
      exact ⟨⟨k + 1, by omega, by go_num, Lib.hid (below_drewN hB.out nq)⟩, by simp only [intOf]; omega⟩
    · obtain rfl : k = n := by omega
      go_wp2
      go_ret
      exact ⟨rfl, hB.out⟩
theorem words_cell {w : World} {x : Sc} {l : List On.Wd} (h : Fl On.Wd.cells 4 w x l) {i : Nat} (hi : i < x.n) : ∃ b o, x.a = some ⟨b, o, none⟩ ∧ w.cell? ⟨b, o + i * 4, none⟩ = some (.string (strOfNums (l.getD i default).nm)) ∧ w.cell? ⟨b, o + i * 4 + 1, none⟩ = some (.int .i64 (l.getD i default).code) ∧ w.cell? ⟨b, o + i * 4 + 2, none⟩ = some (.bool (l.getD i default).now) ∧ w.cell? ⟨b, o + i * 4 + 3, none⟩ = some (.bool (l.getD i default).hid) := by
  have hl : l.length = x.n := Fl.len h On.wdc_len (by decide)
  obtain ⟨b, o, ha, hc⟩ := Fl.cell h On.wdc_len (i := i) (j := 0) (by omega) (v := .string (strOfNums l[i].nm)) rfl
  have e : l.getD i default = l[i] := by simp [List.getD, show i < l.length by omega]
  rw [e]
  exact ⟨b, o, ha, hc 0 _ rfl, hc 1 _ rfl, hc 2 _ rfl, hc 3 _ rfl⟩
theorem rwords_yes (a a' : Option Addr) (n c c' : Nat) (l : List On.Wd) (w : World) (h : Fl On.Wd.cells 4 w ⟨a, n, c⟩ l) (h' : Fl On.Wd.cells 4 w ⟨a', n, c'⟩ l) :
    Calls Tryd.prog 29 #[.slice a n c, .slice a' n c'] w fun e w' => e = .returned (.bool true) ∧ Below w.heap.size w w' := by
  have hb := Fl.bd h
  have hb' := Fl.bd h'
  dsimp only at hb hb'
  replace h := Lib.hid h
  replace h' := Lib.hid h'
  go_enter Tryd.func29, Tryd.ntmps29
  go_wp2
  go_loopw [5] (fun i wr => ∃ k : Nat, k ≤ n ∧ i = .int .i64 k ∧ Hid (Below w.heap.size w wr)) (fun i _ => n - (intOf i).toNat)
  case atStart => exact ⟨0, Nat.zero_le _, rfl, Lib.hid (Below.refl _ _)⟩
  case round =>
    obtain ⟨k, hk, rfl, hB⟩ := hrel
    by_cases h1 : k < n
    · obtain ⟨b, o, ha, q0, q1, q2, q3⟩ := words_cell (h.out.below hB.out) (i := k) h1
      obtain ⟨b', o', ha', q0', q1', q2', q3'⟩ := words_cell (h'.out.below hB.out) (i := k) h1
      dsimp only at ha ha'
      subst ha; subst ha'
      generalize strOfNums (l.getD k default).nm = z0 at *
      generalize (l.getD k default).code = z1 at *
      generalize (l.getD k default).now = z2 at *
      generalize (l.getD k default).hid = z3 at *
      go_wp2
      go_quiet (fail)
      go_wp2
      exact ⟨⟨k + 1, by omega, by go_num, Lib.hid (below_drewN hB.out nq)⟩, by simp only [intOf]; omega⟩
    · obtain rfl : k = n := by omega
      go_wp2
      go_ret
      exact ⟨rfl, hB.out⟩

/-- the fields of a variable that holds a state, told one by one -/
def Cl (W : World) (b : Nat) (h : Hs) : Prop := W.cell? ⟨b, 0, none⟩ = some h.mem.val ∧ W.cell? ⟨b, 1, none⟩ = some h.data.val ∧ W.cell? ⟨b, 2, none⟩ = some h.ret.val ∧ W.cell? ⟨b, 3, none⟩ = some h.ctl.val ∧ W.cell? ⟨b, 4, none⟩ = some h.words.val ∧ W.cell? ⟨b, 5, none⟩ = some h.spots.val ∧ W.cell? ⟨b, 6, none⟩ = some h.out.val
theorem Cl.of {W : World} {b : Nat} {h : Hs} {s : St} {T : TypeId} (hB : Bx W b T (cst h s)) : Cl W b h := ⟨hB.cell 0 rfl, hB.cell 1 rfl, hB.cell 2 rfl, hB.cell 3 rfl, hB.cell 4 rfl, hB.cell 5 rfl, hB.cell 6 rfl⟩
theorem rints_eq (x x' : Sc) (l : List Int) (w : World) (h : Fl (one .i64) 1 w x l) (h' : Fl (one .i64) 1 w x' l) :
    Calls Tryd.prog 27 #[.slice x.a x.n x.c, .slice x'.a x'.n x'.c] w fun e w' => e = .returned (.bool true) ∧ Below w.heap.size w w' := by
  have e : x'.n = x.n := (Fl.len h' (fun _ => rfl) (by decide)).symm.trans (Fl.len h (fun _ => rfl) (by decide))
  obtain ⟨a, n, c⟩ := x
  obtain ⟨a', n', c'⟩ := x'
  dsimp only at e
  subst e
  exact rints_yes a a' n' c c' l w h h'
theorem rslots_eq (x x' : Sc) (l : List (Int × Bool)) (w : World) (h : Fl slc 2 w x l) (h' : Fl slc 2 w x' l) :
    Calls Tryd.prog 28 #[.slice x.a x.n x.c, .slice x'.a x'.n x'.c] w fun e w' => e = .returned (.bool true) ∧ Below w.heap.size w w' := by
  have e : x'.n = x.n := (Fl.len h' On.slc_len (by decide)).symm.trans (Fl.len h On.slc_len (by decide))
  obtain ⟨a, n, c⟩ := x
  obtain ⟨a', n', c'⟩ := x'
  dsimp only at e
  subst e
  exact rslots_yes a a' n' c c' l w h h'
theorem rspots_eq (x x' : Sc) (l : List (Int × Int)) (w : World) (h : Fl spc 2 w x l) (h' : Fl spc 2 w x' l) :
    Calls Tryd.prog 30 #[.slice x.a x.n x.c, .slice x'.a x'.n x'.c] w fun e w' => e = .returned (.bool true) ∧ Below w.heap.size w w' := by
  have e : x'.n = x.n := (Fl.len h' On.spc_len (by decide)).symm.trans (Fl.len h On.spc_len (by decide))
  obtain ⟨a, n, c⟩ := x
  obtain ⟨a', n', c'⟩ := x'
  dsimp only at e
  subst e
  exact rspots_yes a a' n' c c' l w h h'
theorem rwords_eq (x x' : Sc) (l : List On.Wd) (w : World) (h : Fl On.Wd.cells 4 w x l) (h' : Fl On.Wd.cells 4 w x' l) :
    Calls Tryd.prog 29 #[.slice x.a x.n x.c, .slice x'.a x'.n x'.c] w fun e w' => e = .returned (.bool true) ∧ Below w.heap.size w w' := by
  have e : x'.n = x.n := (Fl.len h' On.wdc_len (by decide)).symm.trans (Fl.len h On.wdc_len (by decide))
  obtain ⟨a, n, c⟩ := x
  obtain ⟨a', n', c'⟩ := x'
  dsimp only at e
  subst e
  exact rwords_yes a a' n' c c' l w h h'
theorem mem_str {w : World} {x : Sc} {l : List Int} (h : Fl (one .u8) 1 w x l) (hb : ∀ z ∈ l, C8 z) : (convert 22 9 (.slice x.a x.n x.c)).run Tryd.prog w = .ok (.string (strOfNums l)) w := (mem_of h hb).str _ _ _ Tryd.underlying22 Tryd.underlying5 Tryd.underlying9
set_option maxHeartbeats 1000000 in
theorem rsame_yes (h h' : Hs) (s : St) (w : World) (hS : StIs w h s) (hS' : StIs w h' s) (hk : s.ok) :
    Calls Tryd.prog 12 #[.agg (cst h s), .agg (cst h' s)] w fun e w' => e = .returned (.bool true) ∧ Below w.heap.size w w' := by
  obtain ⟨b1, b2, hb0⟩ := boxes w (cst h s) (cst h' s) 28
  have hz : ((w.alloc (.cells (cst h s) 28)).alloc (.cells (cst h' s) 28)).heap.size = w.heap.size + 2 := by simp
  generalize hW0 : (w.alloc (.cells (cst h s) 28)).alloc (.cells (cst h' s) 28) = W0 at *
  have hend := Lib.hid (fun W (hW : Below (w.heap.size + 2) W0 W) => show Below w.heap.size w W from hb0.trans (hW.mono (by omega)))
  have hon := Lib.hid (fun W (hW : Below (w.heap.size + 2) W0 W) => show StIs W h s ∧ StIs W h' s ∧ Cl W w.heap.size h ∧ Cl W (w.heap.size + 1) h' from
    ⟨hS.below (hend.out W hW), hS'.below (hend.out W hW), Cl.of (b1.below hW (by omega)), Cl.of (b2.below hW (by omega))⟩)
  have htr : Hid (∀ W, Below (w.heap.size + 2) W0 W → ∀ W', Below W.heap.size W W' → Below (w.heap.size + 2) W0 W') := Lib.hid fun W hW W' h' => hW.trans (h'.mono (by have := hW.size; omega))
  have hD := Lib.hid (fun W (hW : Below (w.heap.size + 2) W0 W) => (rints_eq h.data h'.data s.data W (hon.out W hW).1.data (hon.out W hW).2.1.data).mono (R' := fun e w' => e = .returned (.bool true) ∧ Below (w.heap.size + 2) W0 w') fun e w' hh => ⟨hh.1, htr.out W hW w' hh.2⟩)
  have hR := Lib.hid (fun W (hW : Below (w.heap.size + 2) W0 W) => (rslots_eq h.ret h'.ret s.ret W (hon.out W hW).1.ret (hon.out W hW).2.1.ret).mono (R' := fun e w' => e = .returned (.bool true) ∧ Below (w.heap.size + 2) W0 w') fun e w' hh => ⟨hh.1, htr.out W hW w' hh.2⟩)
  have hC := Lib.hid (fun W (hW : Below (w.heap.size + 2) W0 W) => (rints_eq h.ctl h'.ctl s.ctl W (hon.out W hW).1.ctl (hon.out W hW).2.1.ctl).mono (R' := fun e w' => e = .returned (.bool true) ∧ Below (w.heap.size + 2) W0 w') fun e w' hh => ⟨hh.1, htr.out W hW w' hh.2⟩)
  have hN := Lib.hid (fun W (hW : Below (w.heap.size + 2) W0 W) => (rwords_eq h.words h'.words s.words W (hon.out W hW).1.words (hon.out W hW).2.1.words).mono (R' := fun e w' => e = .returned (.bool true) ∧ Below (w.heap.size + 2) W0 w') fun e w' hh => ⟨hh.1, htr.out W hW w' hh.2⟩)
  have hP := Lib.hid (fun W (hW : Below (w.heap.size + 2) W0 W) => (rspots_eq h.spots h'.spots s.spots W (hon.out W hW).1.spots (hon.out W hW).2.1.spots).mono (R' := fun e w' => e = .returned (.bool true) ∧ Below (w.heap.size + 2) W0 w') fun e w' hh => ⟨hh.1, htr.out W hW w' hh.2⟩)
  have hT := Lib.hid (fun W (hW : Below (w.heap.size + 2) W0 W) => show _ ∧ _ ∧ _ ∧ _ from ⟨mem_str (hon.out W hW).1.mem hk.mem, mem_str (hon.out W hW).2.1.mem hk.mem, mem_str (hon.out W hW).1.out hk.out, mem_str (hon.out W hW).2.1.out hk.out⟩)
  have hfirst := Lib.hid (Below.refl (w.heap.size + 2) W0)
  clear b1 b2 hb0 hS hS' hk hz htr
  subst hW0
  go_enter Tryd.func12, Tryd.ntmps12
  go_wp2_with (first
    | (go_at_call 27; (with_reducible refine (hD.out _ hfirst.out).mono ?_); rintro e w3 ⟨rfl, hb3⟩; obtain ⟨_, _, hq1, hq2⟩ := hon.out _ hb3; obtain ⟨_, _, _, _, _, _, _⟩ := hq1; obtain ⟨_, _, _, _, _, _, _⟩ := hq2; replace hb3 := Lib.hid hb3)
    | (go_at_call 28; (with_reducible refine (hR.out _ hb3.out).mono ?_); rintro e w4 ⟨rfl, hb4⟩; obtain ⟨_, _, hq1, hq2⟩ := hon.out _ hb4; obtain ⟨_, _, _, _, _, _, _⟩ := hq1; obtain ⟨_, _, _, _, _, _, _⟩ := hq2; replace hb4 := Lib.hid hb4)
    | (go_at_call 27; (with_reducible refine (hC.out _ hb4.out).mono ?_); rintro e w5 ⟨rfl, hb5⟩; obtain ⟨_, _, hq1, hq2⟩ := hon.out _ hb5; obtain ⟨_, _, _, _, _, _, _⟩ := hq1; obtain ⟨_, _, _, _, _, _, _⟩ := hq2; replace hb5 := Lib.hid hb5)
    | (go_at_call 29; (with_reducible refine (hN.out _ hb5.out).mono ?_); rintro e w6 ⟨rfl, hb6⟩; obtain ⟨_, _, hq1, hq2⟩ := hon.out _ hb6; obtain ⟨_, _, _, _, _, _, _⟩ := hq1; obtain ⟨_, _, _, _, _, _, _⟩ := hq2; replace hb6 := Lib.hid hb6)
    | (go_at_call 30; (with_reducible refine (hP.out _ hb6.out).mono ?_); rintro e w7 ⟨rfl, hb7⟩; obtain ⟨_, _, hq1, hq2⟩ := hon.out _ hb7; obtain ⟨_, _, _, _, _, _, _⟩ := hq1; obtain ⟨_, _, _, _, _, _, _⟩ := hq2; obtain ⟨_, _, _, _⟩ := hT.out _ hb7; replace hb7 := Lib.hid hb7))
  go_ret
  exact ⟨rfl, hend.out _ hb7.out⟩
end Go.Proofs.YtcjbfokindoicaaDoor
