/- What is thrown by a word that finds no pair, or no room; two cells laid. -/
import Derived.Test.YtcjbfokindoicaaDoorFloAw
namespace Go.Proofs.YtcjbfokindoicaaDoor
set_option maxRecDepth 100000
open Go.ChangeShapes Go.WideShapes Go.ChangeAt Go.RowKit
open On (St Hs StIs cst Fl one C64 C8 Sc slc spc Sz bytesOk)
set_option linter.unusedVariables false
set_option maxRecDepth 100000

theorem lk98 : lkp tbF (On.nm 98) = some (opeW 4 1) := by kernel_rfl
theorem lk99 : lkp tbF (On.nm 99) = some elsW := by kernel_rfl
theorem lk100 : lkp tbF (On.nm 100) = some theW := by kernel_rfl
theorem lk101 : lkp tbF (On.nm 101) = some begW := by kernel_rfl
theorem lk102 : lkp tbF (On.nm 102) = some (gobW 3) := by kernel_rfl
theorem lk103 : lkp tbF (On.nm 103) = some (gobW 4) := by kernel_rfl
theorem lk104 : lkp tbF (On.nm 104) = some whiW := by kernel_rfl
theorem lk105 : lkp tbF (On.nm 105) = some repW := by kernel_rfl
theorem lk106 : lkp tbF (On.nm 106) = some (opeW 5 3) := by kernel_rfl
theorem lk107 : lkp tbF (On.nm 107) = some (cloW 6) := by kernel_rfl
theorem lk108 : lkp tbF (On.nm 108) = some (cloW 7) := by kernel_rfl
theorem floP_thr {s : St} {op : Int} {φ : Phi} (h : lkp tbF (On.nm op) = some φ) : (floP s op).1 = (φ (s, 0)).2 ∧ (floP s op).2.1 = true := by
  rw [floP_some h]
  split
  · rename_i h0; exact ⟨h0.symm, rfl⟩
  · exact ⟨rfl, rfl⟩
theorem floP_go {s : St} {op : Int} {φ : Phi} (h : lkp tbF (On.nm op) = some φ) {s' : St} (he : φ (s, 0) = (s', 0)) : floP s op = (0, true, s') := by
  rw [floP_some h, he]; rfl
theorem emiP_stay {x : WkS} (h : x.2 ≠ 0) (vs : List Int) : emiP vs x = x := if_neg h
theorem setP_stay {x : WkS} (h : x.2 ≠ 0) (a : Int) : setP a x = x := if_neg h
theorem layP_stay {x : WkS} (h : x.2 ≠ 0) (op a : Int) : (layP op a x).2 = x := emiP_stay h _
theorem rooP_stay {x : WkS} (h : x.2 ≠ 0) (m : Nat) : rooP m x = x := by unfold rooP holP; rw [if_neg (fun hh => h hh.2)]
theorem offP_no {k : Int} {s : St} (h : s.ctl.length < 2 ∨ s.ctl.getD (s.ctl.length - 2) 0 ≠ k) : offP k s = (0, false, s) := by
  unfold offP
  split
  · rfl
  · rw [if_pos (by rcases h with h | h; · omega
                   · exact h)]
theorem wan_no {k : Int} {ks : List Int} {s : St} (h : s.ctl.length < 2 ∨ s.ctl.getD (s.ctl.length - 2) 0 ≠ k) : (wanP (k :: ks) (s, 0)).2 = (s, -22) := by
  unfold wanP
  rw [takP_cons, offP_no h]
  rfl
theorem m22 {s : St} : (s, (-22 : Int)).2 ≠ 0 := by show (-22 : Int) ≠ 0; decide
/-- a word that wants a pair of another kind, or finds none -/
theorem mis_no {s : St} {k : Int} (hk : k = 99 ∨ k = 100 ∨ k = 102 ∨ k = 103 ∨ k = 104 ∨ k = 105 ∨ k = 107 ∨ k = 108) (h : s.ctl.length < 2 ∨ ¬ (1 ≤ s.ctl.getD (s.ctl.length - 2) 0 ∧ s.ctl.getD (s.ctl.length - 2) 0 ≤ 3)) : (floP s k).1 = -22 := by
  have w : ∀ (j : Int) (js : List Int), 1 ≤ j → j ≤ 3 → (wanP (j :: js) (s, 0)).2 = (s, -22) := fun j js h1 h2 => wan_no (by
    rcases h with h | h
    · exact .inl h
    · exact .inr fun hc => h (by omega))
  rcases hk with rfl | rfl | rfl | rfl | rfl | rfl | rfl | rfl
  · rw [(floP_thr lk99).1]; unfold elsW; rw [w 1 [] (by decide) (by decide), layP_stay m22, setP_stay m22]; rfl
  · rw [(floP_thr lk100).1]; unfold theW; rw [w 1 [] (by decide) (by decide), setP_stay m22]
  · rw [(floP_thr lk102).1]; unfold gobW; rw [w 2 [] (by decide) (by decide), layP_stay m22]
  · rw [(floP_thr lk103).1]; unfold gobW; rw [w 2 [] (by decide) (by decide), layP_stay m22]
  · rw [(floP_thr lk104).1]; unfold whiW; rw [w 2 [] (by decide) (by decide), rooP_stay m22, layP_stay m22]; rfl
  · rw [(floP_thr lk105).1]; unfold repW; rw [w 2 [1] (by decide) (by decide), layP_stay m22, setP_stay m22]
  · rw [(floP_thr lk107).1]; unfold cloW; rw [w 3 [] (by decide) (by decide), layP_stay m22, setP_stay m22]
  · rw [(floP_thr lk108).1]; unfold cloW; rw [w 3 [] (by decide) (by decide), layP_stay m22, setP_stay m22]
theorem mis_is {s : St} {k : Int} (hk : 98 ≤ k ∧ k ≤ 108) : (floP s k).2.1 = true := by
  rcases (show k = 98 ∨ k = 99 ∨ k = 100 ∨ k = 101 ∨ k = 102 ∨ k = 103 ∨ k = 104 ∨ k = 105 ∨ k = 106 ∨ k = 107 ∨ k = 108 by omega) with rfl | rfl | rfl | rfl | rfl | rfl | rfl | rfl | rfl | rfl | rfl
  · exact (floP_thr lk98).2
  · exact (floP_thr lk99).2
  · exact (floP_thr lk100).2
  · exact (floP_thr lk101).2
  · exact (floP_thr lk102).2
  · exact (floP_thr lk103).2
  · exact (floP_thr lk104).2
  · exact (floP_thr lk105).2
  · exact (floP_thr lk106).2
  · exact (floP_thr lk107).2
  · exact (floP_thr lk108).2
theorem comT_ok {s : St} (h0 : 0 ≤ s.here) (h1 : s.here + 8 ≤ s.mem.length) (h8 : s.here % 8 = 0) : comT s = 0 := by
  unfold comT
  rw [if_neg (by omega)]
  exact Me.tC_ok ⟨h0, h1⟩ h8
/-- two cells laid -/
theorem emit2 {s : St} (a b : Int) (h0 : 0 ≤ s.here) (h1 : s.here + 16 ≤ s.mem.length) (h8 : s.here % 8 = 0) : emitC s [a, b] = (0, { s with mem := Me.setC (Me.setC s.mem s.here a) (s.here + 8) b, here := s.here + 8 + 8, spots := keepS (s.here + 8) (keepS s.here s.spots ++ [(s.here, s.tok)]) ++ [(s.here + 8, s.tok)] }) := by
  have e1 : comT s = 0 := comT_ok h0 (by omega) h8
  have hl : (Me.setC s.mem s.here a).length = s.mem.length := setC_len _ (Me.tC_ok ⟨h0, by omega⟩ h8)
  have e2 : comT (emiS s a) = 0 := comT_ok (s := emiS s a) (show 0 ≤ s.here + 8 by omega) (show s.here + 8 + 8 ≤ ((Me.setC s.mem s.here a).length : Int) by rw [hl]; omega) (show (s.here + 8) % 8 = 0 by omega)
  rw [emitC, if_neg (by simp [e1]), emitC, if_neg (by simp [e2]), emitC]
  rfl
theorem rooP_yes {s : St} {m : Nat} (h : s.ctl.length + 2 * m ≤ 128) : rooP m (s, 0) = (s, 0) := by
  unfold rooP holP
  rw [decide_eq_true (by show (s.ctl.length : Int) + (m : Int) * 2 ≤ 128; omega), if_neg (by simp)]
theorem rooP_no {s : St} {m : Nat} (h : ¬ s.ctl.length + 2 * m ≤ 128) : rooP m (s, 0) = (s, -3) := by
  unfold rooP holP
  rw [decide_eq_false (by show ¬ (s.ctl.length : Int) + (m : Int) * 2 ≤ 128; omega), if_pos ⟨rfl, rfl⟩]
theorem m3 {s : St} : (s, (-3 : Int)).2 ≠ 0 := by show (-3 : Int) ≠ 0; decide
theorem opeW_yes {s : St} (op k : Int) (hc : s.ctl.length ≤ 126) (h0 : 0 ≤ s.here) (h1 : s.here + 16 ≤ s.mem.length) (h8 : s.here % 8 = 0) : (opeW op k (s, 0)).2 = 0 := by
  unfold opeW
  rw [rooP_yes (m := 1) (by omega)]
  show (layP op 0 (s, 0)).2.2 = 0
  unfold layP emiP
  rw [if_pos rfl, emit2 op 0 h0 h1 h8]
theorem opeW_no {s : St} (op k : Int) (hc : ¬ s.ctl.length ≤ 126) : (opeW op k (s, 0)).2 = -3 := by
  unfold opeW
  rw [rooP_no (m := 1) (by omega), layP_stay m3]
  rfl
/-- a word that wants no pair -/
theorem mis_free {s : St} {k : Int} (hk : k = 98 ∨ k = 101 ∨ k = 106) (h0 : s.here = 0) (h1 : s.mem.length = 200) : (floP s k).1 = if s.ctl.length ≤ 126 then 0 else -3 := by
  split
  · rename_i hc
    rcases hk with rfl | rfl | rfl
    · rw [(floP_thr lk98).1]; exact opeW_yes 4 1 hc (by omega) (by omega) (by omega)
    · rw [(floP_thr lk101).1]; unfold begW; rw [rooP_yes (m := 1) (by omega)]; rfl
    · rw [(floP_thr lk106).1]; exact opeW_yes 5 3 hc (by omega) (by omega) (by omega)
  · rename_i hc
    rcases hk with rfl | rfl | rfl
    · rw [(floP_thr lk98).1]; exact opeW_no 4 1 hc
    · rw [(floP_thr lk101).1]; unfold begW; rw [rooP_no (m := 1) (by omega)]; rfl
    · rw [(floP_thr lk106).1]; exact opeW_no 5 3 hc
abbrev Laid (w : World) : Prop := On.Laid w
theorem laid_of {W : World} (h : laidMetH Tryd.prog [("nostos/ops.words", Rows.laid_nostos_ops_words)] W) : Laid W := On.laid_of h
/-- the law's own state: so many bytes, what stands on the control stack -/
def misS (l : List Int) : St := { On.St.zero with mem := List.replicate 200 0, ctl := l }
theorem misS_goes {l : List Int} (hc : ∀ z ∈ l, C64 z) (hl : l.length ≤ 200) : Goes (misS l) :=
  ⟨⟨{ aw_ok 200 0 0 c64_0 c64_0 with ctl := hc }, (show (List.replicate 200 (0 : Int)).length ≤ 1000000 by decide), Nat.zero_le _, (show l.length ≤ 30000 by omega), Nat.zero_le _, c64_0⟩⟩
theorem mis_st {V : World} {b : Nat} {x : Sc} {l : List Int} (hf : Fl (one .u8) 1 V ⟨some ⟨b, 0, none⟩, 200, 200⟩ (List.replicate 200 0)) (hx : Fl (one .i64) 1 V x l) : StIs V { Hs.zero with mem := ⟨some ⟨b, 0, none⟩, 200, 200⟩, ctl := x } (misS l) := by
  have := (StIs.zero V).with_mem hf
  exact ⟨this.mem, this.data, this.ret, hx, this.words, this.spots, this.out⟩
theorem mis_row {V : World} {Z : Array Value} (hZ : Hid (Z = (Me.u8s (List.replicate 200 0)).toArray)) : Fl (one .u8) 1 (V.alloc (.cells Z 5)) ⟨some ⟨V.heap.size, 0, none⟩, 200, 200⟩ (List.replicate 200 0) := aw_row V 200 (by decide) Z hZ.out
theorem mis_do {V : World} {b : Nat} {a : Option Addr} {n c : Nat} {l : List Int} (hL : On.Laid V) (hf : Fl (one .u8) 1 V ⟨some ⟨b, 0, none⟩, 200, 200⟩ (List.replicate 200 0)) (hx : Fl (one .i64) 1 V ⟨a, n, c⟩ l) (hc : ∀ z ∈ l, C64 z) (hl : l.length ≤ 200) {k t : Int} (hk : C64 k) (ht : (floP (misS l) k).1 = t) (hb : (floP (misS l) k).2.1 = true) :
    Calls Tryd.prog 10 #[.agg #[.slice (some ⟨b, 0, none⟩) 200 200, .slice none 0 0, .slice none 0 0, .slice a n c, .slice none 0 0, .slice none 0 0, .slice none 0 0, .int .i64 0, .int .i64 0, .int .i64 0, .int .i64 0, .int .i64 0, .int .i64 0, .bool false, .bool false], .int .i64 k] V fun e w3 => ∃ Z, e = .returned (.tuple #[.agg Z, .int .i64 t, .bool true]) ∧ Hid (StZ Z) ∧ Below V.heap.size V w3 := by
  have h := do_t (mis_st hf hx) k hL hk (misS_goes hc hl) (t := t) (b := true) (s' := (floP (misS l) k).2.2) (by rw [← ht, ← hb])
  exact h.mono fun e w hh => by
    obtain ⟨Z, g1, g2, g3, g4⟩ := hh
    exact ⟨Z, g1, g2, g4⟩
end Go.Proofs.YtcjbfokindoicaaDoor
