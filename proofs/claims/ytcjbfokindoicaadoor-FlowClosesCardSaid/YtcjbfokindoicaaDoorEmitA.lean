/- What Emit makes of a state; Comma told in one sentence; a Spot appended. -/
import Derived.Test.YtcjbfokindoicaaDoorFetchR
namespace Go.Proofs.YtcjbfokindoicaaDoor
set_option maxRecDepth 100000
open Go.ChangeShapes Go.WideShapes Go.ChangeAt Go.RowKit
open On (St Hs StIs cst Fl one C64 C8 Sc slc spc Oz Sz)
set_option linter.unusedVariables false
set_option maxRecDepth 100000

/-- what Comma throws, and makes -/
def comT (s : St) : Int := if (s.mem.length : Int) - 8 < s.here then -8 else Me.tC s.mem.length s.here
def comS (s : St) (v : Int) : St := { s with mem := Me.setC s.mem s.here v, here := s.here + 8 }
/-- the spots that stay, and the one that comes -/
def keepS (h : Int) (l : List (Int × Int)) : List (Int × Int) := l.filter fun x => decide (x.1 < h)
def emiS (s : St) (v : Int) : St := { comS s v with spots := keepS s.here s.spots ++ [(s.here, s.tok)] }
def emitC : St → List Int → Int × St
  | s, [] => (0, s)
  | s, v :: vs => if comT s ≠ 0 then (comT s, On.St.zero) else emitC (emiS s v) vs

theorem comT_in {s : St} (h : comT s = 0) : ¬ (s.mem.length : Int) - 8 < s.here ∧ Me.tC s.mem.length s.here = 0 := by
  unfold comT at h
  split at h
  · cases h
  · exact ⟨by assumption, h⟩
theorem setC_len {xs : List Int} {p : Int} (v : Int) (h : Me.tC xs.length p = 0) : (Me.setC xs p v).length = xs.length := by
  unfold Me.setC; rw [if_pos h, Me.putN_len]
theorem setC_ok {xs : List Int} (p v : Int) (h : ∀ z ∈ xs, C8 z) : ∀ z ∈ Me.setC xs p v, C8 z := by
  unfold Me.setC
  split
  · intro z hz
    have := Me.putN_ok (xs := xs) (fun z hz => by have := h z hz; unfold C8 at this; omega) p.toNat v 8 z hz
    unfold C8; omega
  · intro z hz; cases hz
theorem comS_ok {s : St} (hk : s.ok) (hm : s.mem.length ≤ 1000000) (v : Int) (ht : comT s = 0) : (comS s v).ok ∧ (comS s v).mem.length = s.mem.length := by
  obtain ⟨h1, h2⟩ := comT_in ht
  have := Me.tC_in h2
  exact ⟨{ hk with mem := setC_ok _ _ hk.mem, here := by unfold C64; show _ ≤ s.here + 8 ∧ s.here + 8 ≤ _; omega }, setC_len v h2⟩
theorem emiS_ok {s : St} (hk : s.ok) (hm : s.mem.length ≤ 1000000) (v : Int) (ht : comT s = 0) : (emiS s v).ok ∧ (emiS s v).mem.length = s.mem.length ∧ (emiS s v).spots.length ≤ s.spots.length + 1 := by
  obtain ⟨h1, h2⟩ := comS_ok hk hm v ht
  refine ⟨{ h1 with spots := fun x hx => ?_ }, h2, ?_⟩
  · rcases List.mem_append.1 hx with h | h
    · exact hk.spots x ((List.mem_filter.1 h).1)
    · obtain rfl := List.mem_singleton.1 h
      exact ⟨hk.here, hk.tok⟩
  · show (keepS s.here s.spots ++ [(s.here, s.tok)]).length ≤ _
    rw [List.length_append]
    have := List.length_filter_le (fun x : Int × Int => decide (x.1 < s.here)) s.spots
    unfold keepS
    simp only [List.length_singleton]
    omega
theorem rcomma_yes (h : Hs) (s : St) (v : Int) (w : World) (hS : StIs w h s) (hk : s.ok) (hm : s.mem.length ≤ 1000000) (hv : C64 v) (ht : comT s = 0) :
    Calls Tryd.prog 49 #[.agg (cst h s), .int .i64 v] w (PatEnd w h (comS s v)) :=
  rcomma_ok h s v w hS hk hm hv (comT_in ht).1 (comT_in ht).2
theorem rcomma_yesf (h : Hs) (s : St) (v : Int) (w : World) (hS : StIs w h s) (hk : s.ok) (hm : s.mem.length ≤ 1000000) (hv : C64 v) (ht : comT s = 0) :
    Calls Tryd.prog 49 #[.agg (cst h s), .int .i64 v] w (PatF w h (comS s v)) :=
  rcomma_okf h s v w hS hk hm hv (comT_in ht).1 (comT_in ht).2
theorem rcomma_not (h : Hs) (s : St) (v : Int) (w : World) (hS : StIs w h s) (hk : s.ok) (hm : s.mem.length ≤ 1000000) (hv : C64 v) (ht : comT s ≠ 0) :
    Calls Tryd.prog 49 #[.agg (cst h s), .int .i64 v] w (NoEnd w (comT s)) := by
  unfold comT at ht ⊢
  split
  · exact rcomma_full h s v w hS hk hm (by assumption)
  · rename_i hf
    rw [if_neg hf] at ht
    exact rcomma_no h s v w hS hk hm hv hf ht

theorem spotinfo : (Tryd.prog.info? 85).map (fun i => (i.zero, i.size, i.bytes)) = some (some (.agg #[.int .i64 0, .int .i64 0]), 2, 16) := by kernel_rfl
/-- a Spot is appended -/
theorem spot_app {w : World} {B n cap : Nat} {a : Option Addr} {vs : List Value} (x : Int × Int) (h : Oz w B 85 2 a n cap vs) (hn : n ≤ 1000000) (hB : B ≤ w.heap.size) (ty : TypeId) :
    ∃ a' cap' w2, (Builtin.append_ #[26, 26] ty #[.slice a n cap, .slice (some ⟨w.heap.size, 0, none⟩) 1 1]).run Tryd.prog (w.alloc (.cells #[.int .i64 x.1, .int .i64 x.2] 85)) = .ok (.slice a' (n + 1) cap') w2 ∧ Oz w2 B 85 2 a' (n + 1) cap' (vs ++ spc x) ∧ Below B w w2 := by
  obtain ⟨i, hi, hz0, hz1, hz2⟩ := info_parts spotinfo
  have ho : Oz (w.alloc (.cells #[.int .i64 x.1, .int .i64 x.2] 85)) w.heap.size 85 2 (some ⟨w.heap.size, 0, none⟩) 1 1 (spc x) := Oz.full w w.heap.size 85 2 (Nat.le_refl _) #[.int .i64 x.1, .int .i64 x.2] 1 (by decide) rfl
  obtain ⟨a', cap', w2, h1, h2, h3⟩ := Oz.app (P := Tryd.prog) (ty := ty) Tryd.underlying26 hi hz0 hz1 hz2 rfl (by decide) (h.alloc (.cells #[.int .i64 x.1, .int .i64 x.2] 85)) ho.sz (fun u hu => by
    rcases List.mem_cons.1 hu with rfl | hu
    · rfl
    · obtain rfl := List.mem_singleton.1 hu
      rfl) (by omega) (by omega) (by simp; omega)
  exact ⟨a', cap', w2, h1, h2, ((Below.refl B w).alloc hB _).trans h3⟩
/-- a store, a load at a step of a region that draws its order -/
theorem step_store_row {P : Program} {w : World} {ops : Array Oper} {o : Oper} {a : Act} {K : Act → World → Prop} {Q : Exit → Act → World → Prop} {E : Prop} (hgd : o.guard = none) (ty : TypeId) (x y : Operand) (ho : o.op = .store ty x y)
    (g : Nat) (cells : Array Value) (hx : a.eval x = .pointer (some ⟨g, 0, none⟩)) (hy : a.eval y = .agg cells)
    (t : TypeId) (old : Array Value) (hg : w.heap[g]? = some (.cells old t (0, 0))) (hi : (P.info? ty).map (·.size) = some cells.size)
    (hold : old.size = cells.size) (h1 : cells.all (·.oneCell') = true)
    (h : K (a.put o.dst undef) (w.setRow g cells)) : if Region.wanted o (yielded ops a.tmps) = true then Oper.wp P o a w K Q else E := by
  rw [if_pos (by simp [Region.wanted, hgd])]
  exact wp_store_row ty x y ho g cells hx hy t old hg hi hold h1 h
theorem step_load_row {P : Program} {w : World} {ops : Array Oper} {o : Oper} {a : Act} {K : Act → World → Prop} {Q : Exit → Act → World → Prop} {E : Prop} (hgd : o.guard = none) (ty : TypeId) (x : Operand) (ho : o.op = .load ty x)
    (g : Nat) (hx : a.eval x = .pointer (some ⟨g, 0, none⟩)) (t : TypeId) (cs : Array Value) (d : TypeDesc) (hg : Bx w g t cs)
    (hu : P.underlying ty = some d) (hd : (match d with | .struct _ | .array _ _ => true | _ => false) = true) (hi : (P.info? ty).map (·.size) = some cs.size)
    (h : K (a.put o.dst (.agg cs)) w) : if Region.wanted o (yielded ops a.tmps) = true then Oper.wp P o a w K Q else E := by
  rw [if_pos (by simp [Region.wanted, hgd])]
  exact wp_load_row ty x ho g hx t cs (0, 0) d hg hu hd hi h
end Go.Proofs.YtcjbfokindoicaaDoor
