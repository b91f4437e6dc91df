/- Contracts of the document's Patch, Comma, Emit. -/
import Derived.Test.YtcjbfokindoicaaDoorBox
import Derived.Test.YtcjbfokindoicaaDoorState
import Derived.Test.YtcjbfokindoicaaDoorMemFreshR
namespace Go.Proofs.YtcjbfokindoicaaDoor
set_option maxRecDepth 100000
open Go.ChangeShapes Go.WideShapes Go.ChangeAt Go.RowKit
open On (St Hs StIs cst Fl one C64 C8 Sc)
set_option linter.unusedVariables false
set_option maxRecDepth 100000

theorem one_flat (k : IntKind) (l : List Int) : l.flatMap (one k) = l.map (Value.int k) := by
  induction l with
  | nil => rfl
  | cons x l ih => rw [List.flatMap_cons, ih]; rfl
/-- bytes, as package memory's contracts have them -/
theorem mem_of {w : World} {x : Sc} {l : List Int} (h : Fl (one .u8) 1 w x l) (hb : ∀ z ∈ l, C8 z) : Me.Mem w x.a x.n x.c l := by
  have hl : l.length = x.n := Fl.len h (fun _ => rfl) (by decide)
  have hc := On.Sz.cells h
  rw [one_flat] at hc
  refine ⟨hl, On.Sz.cap h, On.Sz.big h, fun z hz => by have := hb z hz; unfold C8 at this; omega, On.Sz.isnil h, fun hn => ?_⟩
  obtain ⟨b, o, ha, hr⟩ := hc hn
  refine ⟨b, o, ha, fun i hi => hr i _ ?_⟩
  rw [List.getElem?_map, List.getElem?_eq_getElem (by omega)]
  simp [List.getD, show i < l.length by omega]
theorem of_mem {w : World} {a : Option Addr} {n c : Nat} {l : List Int} (h : Me.Mem w a n c l) : Fl (one .u8) 1 w ⟨a, n, c⟩ l := by
  refine ⟨?_, h.cap, h.big, h.isnil, fun hn => ?_⟩
  · rw [one_flat]; simp [h.len]
  · obtain ⟨b, o, ha, hr⟩ := h.cells hn
    refine ⟨b, o, ha, fun i v hv => ?_⟩
    rw [one_flat, List.getElem?_map] at hv
    have hi : i < l.length := by
      rcases Nat.lt_or_ge i l.length with h | h
      · exact h
      · rw [List.getElem?_eq_none h] at hv; cases hv
    rw [List.getElem?_eq_getElem hi] at hv
    rw [hr i (by have := h.len; omega), ← hv]
    simp [List.getD, hi]

theorem stinfo : (Tryd.prog.info? 28).map (·.size) = some 15 := by kernel_rfl
abbrev zst : Array Value := #[.slice none 0 0, .slice none 0 0, .slice none 0 0, .slice none 0 0, .slice none 0 0, .slice none 0 0, .slice none 0 0, .int .i64 0, .int .i64 0, .int .i64 0, .int .i64 0, .int .i64 0, .int .i64 0, .bool false, .bool false]
theorem cst_one (h : Hs) (s : St) : (cst h s).all (·.oneCell') = true := by rw [← Array.all_toList]; rfl
/-- a state that came, and a zero one behind it: two variables of the call's own -/
theorem boxes (w : World) (cs ds : Array Value) (T : TypeId) : Bx ((w.alloc (.cells cs T)).alloc (.cells ds T)) w.heap.size T cs ∧ Bx ((w.alloc (.cells cs T)).alloc (.cells ds T)) (w.heap.size + 1) T ds ∧ Below w.heap.size w ((w.alloc (.cells cs T)).alloc (.cells ds T)) := by
  refine ⟨(Bx.new w T cs).alloc _, ?_, ((Below.refl _ _).alloc (Nat.le_refl _) _).alloc (by simp) _⟩
  have := Bx.new (w.alloc (.cells cs T)) T ds
  simpa using this

/-- bytes lie in no variable that holds a state -/
def NoB (cs : Array Value) : Prop := ∀ (i : Nat) (n : Int), cs[i]? ≠ some (.int .u8 n)
theorem cst_nob (h : Hs) (s : St) : NoB (cst h s) := fun i n => by
  match i with
  | 0 | 1 | 2 | 3 | 4 | 5 | 6 | 7 | 8 | 9 | 10 | 11 | 12 | 13 | 14 => simp
  | i + 15 => rw [Array.getElem?_eq_none (by simp)]; simp
theorem zst_nob : NoB zst := cst_nob Hs.zero St.zero
theorem mem_keep {w w' : World} {x : Sc} {l : List Int} (h : Fl (one .u8) 1 w x l) (b1 b2 : Nat) {T1 T2 : TypeId} {c1 c2 : Array Value} (h1 : Bx w b1 T1 c1) (h2 : Bx w b2 T2 c2) (n1 : NoB c1) (n2 : NoB c2)
    (hw : ∀ k, k ≠ b1 → k ≠ b2 → w'.heap[k]? = w.heap[k]?) : Fl (one .u8) 1 w' x l := by
  refine ⟨On.Sz.len h, On.Sz.cap h, On.Sz.big h, On.Sz.isnil h, fun hn => ?_⟩
  obtain ⟨b, o, ha, hr⟩ := On.Sz.cells h hn
  refine ⟨b, o, ha, fun i v hv => ?_⟩
  have hc := hr i v hv
  rw [one_flat, List.getElem?_map, Option.map_eq_some_iff] at hv
  obtain ⟨z, hz, rfl⟩ := hv
  have hne : ∀ {b' : Nat} {T : TypeId} {cs : Array Value}, Bx w b' T cs → NoB cs → b ≠ b' := fun hB hN hq => by
    subst hq
    unfold World.cell? at hc
    rw [hB] at hc
    exact hN _ _ hc
  have e : w'.heap[b]? = w.heap[b]? := hw b (hne h1 n1) (hne h2 n2)
  unfold World.cell? at hc ⊢
  simp only [e]
  exact hc
theorem heap_set_other (w : World) (p : Addr) (v : Value) {k : Nat} (hk : k ≠ p.block) : (w.setCell p v).heap[k]? = w.heap[k]? := by
  unfold World.setCell
  rw [Array.getElem?_modify, if_neg (Ne.symm hk)]

/-- a state with other bytes -/
def PatEnd (w : World) (h : Hs) (s : St) (e : Ending) (w' : World) : Prop := ∃ x, e = .returned (.tuple #[.agg (cst { h with mem := x } s), .int .i64 0]) ∧ Fl (one .u8) 1 w' x s.mem ∧ Below w.heap.size w w'
/-- no state, and what is thrown -/
def NoEnd (w : World) (t : Int) (e : Ending) (w' : World) : Prop := e = .returned (.tuple #[.agg zst, .int .i64 t]) ∧ Below w.heap.size w w'
/-- a state with other bytes, in memory made since -/
def PatF (w : World) (h : Hs) (s : St) (e : Ending) (w' : World) : Prop := ∃ x, e = .returned (.tuple #[.agg (cst { h with mem := x } s), .int .i64 0]) ∧ Fl (one .u8) 1 w' x s.mem ∧ Below w.heap.size w w' ∧ ∀ y, x.a = some y → w.heap.size ≤ y.block
theorem PatF.end_ {w : World} {h : Hs} {s : St} {e : Ending} {w' : World} (H : PatF w h s e w') : PatEnd w h s e w' := by
  obtain ⟨x, h1, h2, h3, _⟩ := H
  exact ⟨x, h1, h2, h3⟩
theorem rpatch_okf (h : Hs) (s : St) (p v : Int) (w : World) (hS : StIs w h s) (hk : s.ok) (hm : s.mem.length ≤ 1000000) (hp : C64 p) (hv : C64 v) (ht : Me.tC s.mem.length p = 0) :
    Calls Tryd.prog 26 #[.agg (cst h s), .int .i64 p, .int .i64 v] w (PatF w h { s with mem := Me.setC s.mem p v }) := by
  have hl : s.mem.length = h.mem.n := Fl.len hS.mem (fun _ => rfl) (by decide)
  obtain ⟨b1, b2, hb0⟩ := boxes w (cst h s) zst 28
  have ht2 : Me.tC h.mem.n p = 0 := by rw [← hl]; exact ht
  have hC := Me.rsetCell_fresh h.mem.a h.mem.n h.mem.c s.mem p v _ ((mem_of hS.mem hk.mem).below hb0) (by omega) hp hv ht2
  replace hC := Lib.hid (hC.mono (R' := fun e w3 => ∃ a c, e = .returned (.tuple #[.slice a (Me.setC s.mem p v).length c, .int .i64 0]) ∧
      Bx (w3.setCell ⟨w.heap.size, 0, none⟩ (.slice a (Me.setC s.mem p v).length c)) w.heap.size 28 (cst { h with mem := ⟨a, (Me.setC s.mem p v).length, c⟩ } { s with mem := Me.setC s.mem p v }) ∧
      Bx (w3.setCell ⟨w.heap.size, 0, none⟩ (.slice a (Me.setC s.mem p v).length c)) (w.heap.size + 1) 28 zst ∧
      w3.cell? ⟨w.heap.size, 0, none⟩ = some h.mem.val ∧ w3.frozen? ⟨w.heap.size, 0, none⟩ = false ∧
      Fl (one .u8) 1 ((w3.setCell ⟨w.heap.size, 0, none⟩ (.slice a (Me.setC s.mem p v).length c)).setRow (w.heap.size + 1) (cst { h with mem := ⟨a, (Me.setC s.mem p v).length, c⟩ } { s with mem := Me.setC s.mem p v })) ⟨a, (Me.setC s.mem p v).length, c⟩ (Me.setC s.mem p v) ∧ Below w.heap.size w w3 ∧ ∀ y, a = some y → w.heap.size ≤ y.block) fun e w3 hh => by
    obtain ⟨a, c, rfl, hM, hb, hfr⟩ := hh
    have hb' := hb0.trans (hb.mono hb0.size)
    have c1 := b1.below hb b1.lt
    have c2 := b2.below hb b2.lt
    exact ⟨a, c, rfl, c1.set 0 _, c2.setOther _ _ (by simp), c1.cell 0 rfl, c1.free 0, mem_keep (of_mem hM) w.heap.size (w.heap.size + 1) c1 c2 (cst_nob _ _) zst_nob (fun k k1 k2 => (setRow_other _ _ k _ k2).trans (heap_set_other _ _ _ k1)), hb', fun y hy => Nat.le_trans hb0.size (hfr y hy)⟩)
  have hend := Lib.hid (fun (W : World) (b : Value) (cs : Array Value) (hb : Below w.heap.size w W) => (show Below w.heap.size w ((W.setCell ⟨w.heap.size, 0, none⟩ b).setRow (w.heap.size + 1) cs) from below_setRow (hb.setCell (p := ⟨w.heap.size, 0, none⟩) (Nat.le_refl _) b) (by omega) cs))
  clear b1 b2 hb0 ht ht2 hS hk hp hv hl hm
  generalize Me.setC s.mem p v = m at *
  go_enter Tryd.func26, Tryd.ntmps26
  go_wp2_with (first | (go_at_call 50; (with_reducible refine hC.out.mono ?_); rintro e w3 ⟨a3, c3, rfl, q1, q2, q3, q4, q5, q6, q7⟩; replace q7 := Lib.hid q7; replace q5 := Lib.hid q5; replace q6 := Lib.hid q6; replace q1 := Lib.hid q1; replace q2 := Lib.hid q2) | (refine wpList_load_row rfl 28 (.tmp 3) rfl w.heap.size rfl _ _ _ _ q1.out Tryd.underlying28 rfl stinfo ?_) | (refine wpList_store_row rfl 28 (.tmp 6) (.tmp 24) rfl (w.heap.size + 1) _ rfl rfl _ _ q2.out stinfo rfl (cst_one _ _) ?_))
  refine bodyPost_ret (results_row2 rfl _ _ (w.heap.size + 1) 28 _ _ _ rfl rfl (q2.out.row _) Tryd.underlying28 rfl stinfo) rfl ⟨_, rfl, q5.out, hend.out _ _ _ q6.out, q7.out⟩
theorem rpatch_ok (h : Hs) (s : St) (p v : Int) (w : World) (hS : StIs w h s) (hk : s.ok) (hm : s.mem.length ≤ 1000000) (hp : C64 p) (hv : C64 v) (ht : Me.tC s.mem.length p = 0) :
    Calls Tryd.prog 26 #[.agg (cst h s), .int .i64 p, .int .i64 v] w (PatEnd w h { s with mem := Me.setC s.mem p v }) := (rpatch_okf h s p v w hS hk hm hp hv ht).mono fun e w' hh => hh.end_
theorem rpatch_no (h : Hs) (s : St) (p v : Int) (w : World) (hS : StIs w h s) (hk : s.ok) (hm : s.mem.length ≤ 1000000) (hp : C64 p) (hv : C64 v) (ht : Me.tC s.mem.length p ≠ 0) :
    Calls Tryd.prog 26 #[.agg (cst h s), .int .i64 p, .int .i64 v] w (NoEnd w (Me.tC s.mem.length p)) := by
  have hl : s.mem.length = h.mem.n := Fl.len hS.mem (fun _ => rfl) (by decide)
  obtain ⟨b1, b2, hb0⟩ := boxes w (cst h s) zst 28
  have hC := Me.rsetCell_any h.mem.a h.mem.n h.mem.c s.mem p v _ ((mem_of hS.mem hk.mem).below hb0) (by omega) hp hv
  have ht1 : (Me.tC h.mem.n p != 0) = true := by rw [← hl]; simpa using ht
  rw [hl]
  replace hC := Lib.hid (hC.mono (R' := fun e w3 => ∃ a n c, e = .returned (.tuple #[.slice a n c, .int .i64 (Me.tC h.mem.n p)]) ∧ Bx w3 (w.heap.size + 1) 28 zst ∧ w3.cell? ⟨w.heap.size, 0, none⟩ = some h.mem.val ∧ Below w.heap.size w w3) fun e w3 hh => by
    obtain ⟨a, c, rfl, hM, hb⟩ := hh
    exact ⟨a, _, c, rfl, b2.below hb b2.lt, (b1.below hb b1.lt).cell 0 rfl, hb0.trans (hb.mono hb0.size)⟩)
  clear b1 b2 hb0 ht hS hk hp hv hl hm
  generalize Me.tC h.mem.n p = t at *
  go_enter Tryd.func26, Tryd.ntmps26
  go_wp2_with (first | (go_at_call 50; (with_reducible refine hC.out.mono ?_); rintro e w3 ⟨a3, n3, c3, rfl, q2, q3, q6⟩; replace q6 := Lib.hid q6; replace q2 := Lib.hid q2) | (refine wpList_store_row rfl 28 (.tmp 6) (.tmp 20) rfl (w.heap.size + 1) zst rfl rfl _ _ q2.out stinfo rfl (cst_one Hs.zero St.zero) ?_))
  refine bodyPost_ret (results_row2 rfl _ _ (w.heap.size + 1) 28 _ _ _ rfl rfl (q2.out.row _) Tryd.underlying28 rfl stinfo) rfl ⟨rfl, below_setRow q6.out (by omega) _⟩

theorem rcomma_full (h : Hs) (s : St) (v : Int) (w : World) (hS : StIs w h s) (hk : s.ok) (hm : s.mem.length ≤ 1000000) (hf : (s.mem.length : Int) - 8 < s.here) :
    Calls Tryd.prog 49 #[.agg (cst h s), .int .i64 v] w (NoEnd w (-8)) := by
  have hl : s.mem.length = h.mem.n := Fl.len hS.mem (fun _ => rfl) (by decide)
  rw [hl] at hf hm
  obtain ⟨b1, b2, hb0⟩ := boxes w (cst h s) zst 28
  have q2 := Lib.hid b2
  have q6 := Lib.hid hb0
  have hh := hk.here
  clear b1 b2 hb0 hS hk hl
  go_enter Tryd.func49, Tryd.ntmps49
  go_wp2_with (refine wpList_store_row rfl 28 (.tmp 4) (.tmp 15) rfl (w.heap.size + 1) zst rfl rfl _ _ q2.out stinfo rfl (cst_one Hs.zero St.zero) ?_)
  refine bodyPost_ret (results_row2 rfl _ _ (w.heap.size + 1) 28 _ _ _ rfl rfl (q2.out.row _) Tryd.underlying28 rfl stinfo) rfl ⟨rfl, below_setRow q6.out (by omega) _⟩
theorem rcomma_no (h : Hs) (s : St) (v : Int) (w : World) (hS : StIs w h s) (hk : s.ok) (hm : s.mem.length ≤ 1000000) (hv : C64 v) (hf : ¬ (s.mem.length : Int) - 8 < s.here) (ht : Me.tC s.mem.length s.here ≠ 0) :
    Calls Tryd.prog 49 #[.agg (cst h s), .int .i64 v] w (NoEnd w (Me.tC s.mem.length s.here)) := by
  have hl : s.mem.length = h.mem.n := Fl.len hS.mem (fun _ => rfl) (by decide)
  obtain ⟨b1, b2, hb0⟩ := boxes w (cst h s) zst 28
  have hP := rpatch_no h s s.here v _ (hS.below hb0) hk hm hk.here hv ht
  have hh := hk.here
  replace hP := Lib.hid (hP.mono (R' := fun e w3 => e = .returned (.tuple #[.agg zst, .int .i64 (Me.tC s.mem.length s.here)]) ∧ Bx (w3.alloc (.cells zst 28)) w3.heap.size 28 zst ∧ Bx ((w3.alloc (.cells zst 28)).setRow w3.heap.size zst) (w.heap.size + 1) 28 zst ∧ Below w.heap.size w ((w3.alloc (.cells zst 28)).setRow w3.heap.size zst)) fun e w3 hh => by
    obtain ⟨rfl, hb⟩ := hh
    have hb' := hb0.trans (hb.mono hb0.size)
    have c2 := b2.below hb b2.lt
    exact ⟨rfl, Bx.new _ _ _, (c2.alloc _).rowOther _ (Nat.ne_of_lt c2.lt), below_setRow (hb'.alloc hb'.size _) hb'.size _⟩)
  have k1 := Lib.hid b1
  have ht1 : (Me.tC s.mem.length s.here != 0) = true := by simpa using ht
  generalize Me.tC s.mem.length s.here = t at *
  rw [hl] at hf hm
  clear b1 b2 hb0 hS hk hv hl ht
  go_enter Tryd.func49, Tryd.ntmps49
  go_wp2_with (first | (refine wpList_load_row rfl 28 (.tmp 2) rfl w.heap.size rfl _ _ _ _ k1.out Tryd.underlying28 rfl stinfo ?_) | (go_at_call 26; (with_reducible refine hP.out.mono ?_); rintro e w3 ⟨rfl, q1, q2, q6⟩; replace q1 := Lib.hid q1; replace q2 := Lib.hid q2; replace q6 := Lib.hid q6) | (refine wpList_store_row rfl 28 (.tmp 6) (.tmp 22) rfl w3.heap.size zst rfl rfl _ _ q1.out stinfo rfl (cst_one Hs.zero St.zero) ?_) | (refine wpList_store_row rfl 28 (.tmp 4) (.tmp 26) rfl (w.heap.size + 1) zst rfl rfl _ _ q2.out stinfo rfl (cst_one Hs.zero St.zero) ?_))
  refine bodyPost_ret (results_row2 rfl _ _ (w.heap.size + 1) 28 _ _ _ rfl rfl (q2.out.row _) Tryd.underlying28 rfl stinfo) rfl ⟨rfl, below_setRow q6.out (by omega) _⟩
theorem rcomma_okf (h : Hs) (s : St) (v : Int) (w : World) (hS : StIs w h s) (hk : s.ok) (hm : s.mem.length ≤ 1000000) (hv : C64 v) (hf : ¬ (s.mem.length : Int) - 8 < s.here) (ht : Me.tC s.mem.length s.here = 0) :
    Calls Tryd.prog 49 #[.agg (cst h s), .int .i64 v] w (PatF w h { s with mem := Me.setC s.mem s.here v, here := s.here + 8 }) := by
  have hl : s.mem.length = h.mem.n := Fl.len hS.mem (fun _ => rfl) (by decide)
  obtain ⟨b1, b2, hb0⟩ := boxes w (cst h s) zst 28
  have hP := rpatch_okf h s s.here v _ (hS.below hb0) hk hm hk.here hv ht
  have hh := hk.here
  generalize Me.setC s.mem s.here v = m at *
  replace hP := Lib.hid (hP.mono (R' := fun e w3 => ∃ x, e = .returned (.tuple #[.agg (cst { h with mem := x } { s with mem := m }), .int .i64 0]) ∧
      Bx (w3.alloc (.cells zst 28)) w3.heap.size 28 zst ∧
      ((w3.alloc (.cells zst 28)).setRow w3.heap.size (cst { h with mem := x } { s with mem := m })).cell? ⟨w.heap.size, 8, none⟩ = some (.int .i64 s.here) ∧
      ((w3.alloc (.cells zst 28)).setRow w3.heap.size (cst { h with mem := x } { s with mem := m })).cell? ⟨w3.heap.size, 8, none⟩ = some (.int .i64 s.here) ∧
      ((w3.alloc (.cells zst 28)).setRow w3.heap.size (cst { h with mem := x } { s with mem := m })).frozen? ⟨w3.heap.size, 8, none⟩ = false ∧
      Bx (((w3.alloc (.cells zst 28)).setRow w3.heap.size (cst { h with mem := x } { s with mem := m })).setCell ⟨w3.heap.size, 8, none⟩ (.int .i64 (s.here + 8))) w3.heap.size 28 (cst { h with mem := x } { s with mem := m, here := s.here + 8 }) ∧
      Bx (((w3.alloc (.cells zst 28)).setRow w3.heap.size (cst { h with mem := x } { s with mem := m })).setCell ⟨w3.heap.size, 8, none⟩ (.int .i64 (s.here + 8))) (w.heap.size + 1) 28 zst ∧
      Fl (one .u8) 1 ((((w3.alloc (.cells zst 28)).setRow w3.heap.size (cst { h with mem := x } { s with mem := m })).setCell ⟨w3.heap.size, 8, none⟩ (.int .i64 (s.here + 8))).setRow (w.heap.size + 1) (cst { h with mem := x } { s with mem := m, here := s.here + 8 })) x m ∧
      Below w.heap.size w ((((w3.alloc (.cells zst 28)).setRow w3.heap.size (cst { h with mem := x } { s with mem := m })).setCell ⟨w3.heap.size, 8, none⟩ (.int .i64 (s.here + 8))).setRow (w.heap.size + 1) (cst { h with mem := x } { s with mem := m, here := s.here + 8 })) ∧ ∀ y, x.a = some y → w.heap.size ≤ y.block) fun e w3 hh => by
    obtain ⟨x, rfl, hx, hb, hfr⟩ := hh
    have hb' := hb0.trans (hb.mono hb0.size)
    have c1 := b1.below hb b1.lt
    have c2 := b2.below hb b2.lt
    have n3 := Bx.new w3 28 zst
    have n1 := (c1.alloc (.cells zst 28)).rowOther (cst { h with mem := x } { s with mem := m }) (Nat.ne_of_lt c1.lt)
    have n2 := (c2.alloc (.cells zst 28)).rowOther (cst { h with mem := x } { s with mem := m }) (Nat.ne_of_lt c2.lt)
    have r3 := n3.row (cst { h with mem := x } { s with mem := m })
    have hx4 := hx.below ((Below.refl w3.heap.size w3).alloc (Nat.le_refl _) (.cells zst 28))
    refine ⟨x, rfl, n3, n1.cell 8 rfl, r3.cell 8 rfl, r3.free 8, r3.set 8 _, n2.setOther _ _ (Nat.ne_of_gt c2.lt), mem_keep hx4 w3.heap.size (w.heap.size + 1) n3 (c2.alloc _) zst_nob zst_nob (fun k k1 k2 => (setRow_other _ _ k _ k2).trans ((heap_set_other _ _ _ k1).trans (setRow_other _ _ k _ k1))), ?_, fun y hy => Nat.le_trans hb0.size (hfr y hy)⟩
    exact below_setRow ((below_setRow (hb'.alloc hb'.size _) hb'.size _).setCell (p := ⟨w3.heap.size, 8, none⟩) hb'.size _) (by omega) _)
  have k1 := Lib.hid b1
  rw [hl] at hf hm
  have hw : -9223372036854775808 ≤ s.here + 8 ∧ s.here + 8 ≤ 9223372036854775807 := by unfold C64 at hh; omega
  clear b1 b2 hb0 hS hk hv hl ht
  go_enter Tryd.func49, Tryd.ntmps49
  go_wp2_with (first | (refine wpList_load_row rfl 28 (.tmp 2) rfl w.heap.size rfl _ _ _ _ k1.out Tryd.underlying28 rfl stinfo ?_) | (go_at_call 26; (with_reducible refine hP.out.mono ?_); rintro e w3 ⟨x, rfl, q1, l1, l2, l3, q4, q2, q5, q6, q7⟩; replace q7 := Lib.hid q7; replace q1 := Lib.hid q1; replace q2 := Lib.hid q2; replace q4 := Lib.hid q4; replace q5 := Lib.hid q5; replace q6 := Lib.hid q6) | (refine wpList_store_row rfl 28 (.tmp 6) (.tmp 22) rfl w3.heap.size _ rfl rfl _ _ q1.out stinfo rfl (cst_one _ _) ?_) | (refine wpList_load_row rfl 28 (.tmp 6) rfl w3.heap.size rfl _ _ _ _ q4.out Tryd.underlying28 rfl stinfo ?_) | (refine wpList_store_row rfl 28 (.tmp 4) (.tmp 32) rfl (w.heap.size + 1) _ rfl rfl _ _ q2.out stinfo rfl (cst_one _ _) ?_))
  refine bodyPost_ret (results_row2 rfl _ _ (w.heap.size + 1) 28 _ _ _ rfl rfl (q2.out.row _) Tryd.underlying28 rfl stinfo) rfl ⟨x, rfl, q5.out, q6.out, q7.out⟩
theorem rcomma_ok (h : Hs) (s : St) (v : Int) (w : World) (hS : StIs w h s) (hk : s.ok) (hm : s.mem.length ≤ 1000000) (hv : C64 v) (hf : ¬ (s.mem.length : Int) - 8 < s.here) (ht : Me.tC s.mem.length s.here = 0) :
    Calls Tryd.prog 49 #[.agg (cst h s), .int .i64 v] w (PatEnd w h { s with mem := Me.setC s.mem s.here v, here := s.here + 8 }) := (rcomma_okf h s v w hS hk hm hv hf ht).mono fun e w' hh => hh.end_
/-- where the bytes and the spots of a state lie that comes of h: as h's, or in memory made since -/
def Fr (w : World) (h h' : Hs) : Prop := (h'.spots = h.spots ∨ ∀ y, h'.spots.a = some y → w.heap.size ≤ y.block) ∧ (h'.mem = h.mem ∨ ∀ y, h'.mem.a = some y → w.heap.size ≤ y.block)
/-- a slice lies as it did, or in memory made since; all of a state's do -/
def FrX (w : World) (x x' : Sc) : Prop := x' = x ∨ ∀ y, x'.a = some y → w.heap.size ≤ y.block
structure FrA (w : World) (h h' : Hs) : Prop where
  mem : FrX w h.mem h'.mem
  data : FrX w h.data h'.data
  ret : FrX w h.ret h'.ret
  ctl : FrX w h.ctl h'.ctl
  words : FrX w h.words h'.words
  spots : FrX w h.spots h'.spots
  out : FrX w h.out h'.out
theorem FrX.zero (w : World) (x : Sc) : FrX w x Sc.none := .inr fun y hy => by cases hy
theorem FrA.zero (w : World) (h : Hs) : FrA w h Hs.zero := ⟨FrX.zero _ _, FrX.zero _ _, FrX.zero _ _, FrX.zero _ _, FrX.zero _ _, FrX.zero _ _, FrX.zero _ _⟩
theorem FrA.refl (w : World) (h : Hs) : FrA w h h := ⟨.inl rfl, .inl rfl, .inl rfl, .inl rfl, .inl rfl, .inl rfl, .inl rfl⟩
theorem FrX.trans {w V : World} {x y z : Sc} (hw : w.heap.size ≤ V.heap.size) (h1 : FrX w x y) (h2 : FrX V y z) : FrX w x z := by
  rcases h2 with rfl | h2
  · exact h1
  · exact .inr fun q hq => Nat.le_trans hw (h2 q hq)
theorem FrA.trans {w V : World} {x y z : Hs} (hw : w.heap.size ≤ V.heap.size) (h1 : FrA w x y) (h2 : FrA V y z) : FrA w x z := ⟨h1.mem.trans hw h2.mem, h1.data.trans hw h2.data, h1.ret.trans hw h2.ret, h1.ctl.trans hw h2.ctl, h1.words.trans hw h2.words, h1.spots.trans hw h2.spots, h1.out.trans hw h2.out⟩
theorem FrA.of {w : World} {h h' : Hs} (hf : Fr w h h') (e : h' = { h with mem := h'.mem, spots := h'.spots }) : FrA w h h' :=
  ⟨hf.2, .inl (by rw [e]), .inl (by rw [e]), .inl (by rw [e]), .inl (by rw [e]), hf.1, .inl (by rw [e])⟩
def EmWhere (w : World) (h : Hs) (x : Int × St) (e : Ending) (w' : World) : Prop := ∃ h', e = .returned (.tuple #[.agg (cst h' x.2), .int .i64 x.1]) ∧ StIs w' h' x.2 ∧ Below w.heap.size w w' ∧ FrA w h h'
end Go.Proofs.YtcjbfokindoicaaDoor
