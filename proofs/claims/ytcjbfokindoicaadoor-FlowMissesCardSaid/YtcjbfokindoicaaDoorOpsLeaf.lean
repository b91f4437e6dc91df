/- The table of names, as it lies in its variable; contracts of Is, Name and isOneOf. -/
import Derived.Test.YtcjbfokindoicaaDoorOpsMath
import Derived.Test.YtcjbfokindoicaaDoorNamLeaf
import Derived.Laws.Rows
import Derived.LaidMore
import Derived.Lib.LaidTab
namespace Go.Proofs.YtcjbfokindoicaaDoor.On
set_option maxRecDepth 100000
open Go.ChangeShapes Go.WideShapes Go.RowKit
set_option linter.unusedVariables false

/-! ### the table -/
def WA : Array Value := (nms.map fun x => Value.string (strOfNums x)).toArray
def Laid (w : World) : Prop := ∃ t fr, w.heap[0]? = some (.cells WA t fr)
theorem WA_get {m : Nat} (h : m < 137) : WA[m]? = some (.string (strOfNums (nmN m))) := by
  have hl : m < nms.length := by rw [nms_len]; exact h
  simp [WA, nmN, List.getD, hl]
theorem Laid.lt {w : World} (h : Laid w) : 0 < w.heap.size := by
  obtain ⟨t, fr, h⟩ := h
  exact (Array.getElem?_eq_some_iff.1 h).1
theorem Laid.below {w w' : World} {B : Nat} (h : Laid w) (hb : Below B w w') (hB : w.heap.size ≤ B) : Laid w' := by
  have hl := h.lt
  obtain ⟨t, fr, h⟩ := h
  exact ⟨t, fr, (hb.block _ (by omega)).trans h⟩
theorem Laid.from {w w' : World} (h : Laid w) (hb : Hid (Below w.heap.size w w')) : Laid w' := h.below hb.out (Nat.le_refl _)
theorem Laid.alloc {w : World} (h : Laid w) (o : Obj) : Laid (w.alloc o) := h.below ((Below.refl w.heap.size w).alloc (Nat.le_refl _) o) (Nat.le_refl _)
theorem Laid.at {w : World} (h : Laid w) {m : Nat} (hm : m < 137) : w.cell? ⟨0, m, none⟩ = some (.string (strOfNums (nmN m))) := by
  obtain ⟨t, fr, h⟩ := h
  rw [cell_of_row w _ m WA t fr h, WA_get hm]

theorem cells_of_strs {H : Type} {enc : TypeId × Value → H} {P : Program} {w : World} {base : Nat} {sp : Nat → Bool} {held : Bool} {fuel : Nat} {t e : TypeId} {n : Nat} {cs : List Value} {zs : List (List UInt8)} {p : List MemPlace}
    (ht : P.underlying t = some (.array n e)) (he : P.underlying e = some .string) (hce : P.cellsOf e = 1) (hct : P.cellsOf t = n)
    (h : DataW.trod enc P w base sp held fuel t cs = some (.agg (zs.map fun z => .lit (.string z)), p)) : cs = zs.map fun z => Value.string ⟨z.toArray⟩ := by
  obtain ⟨xs, m, rfl, hx, hlen, hn, hel⟩ := DataW.trod_array ht h
  simp only [Prod.mk.injEq, DataW.agg.injEq] at hx
  have hxs : xs.map (·.1) = zs.map fun z => (DataW.lit (.string z) : DataW H) := hx.1.symm
  have hzl : zs.length = n := by
    have := congrArg List.length hxs
    simp at this
    omega
  apply List.ext_getElem?
  intro i
  by_cases hi : i < n
  · have h1 := hel i hi
    have hxi : i < xs.length := by omega
    rw [List.getElem?_eq_getElem hxi] at h1
    obtain ⟨s, hc, hd, _⟩ := DataW.trod_string he h1
    rw [hce] at hc
    have h2 : cs[i]? = some (.string s) := by
      have := congrArg (·[0]?) hc
      simpa [List.getElem?_take, List.getElem?_drop] using this
    have h3 : (xs.map (·.1))[i]? = some (DataW.lit (.string s.data.toList) : DataW H) := by
      rw [List.getElem?_map, List.getElem?_eq_getElem hxi, hd]
      rfl
    rw [hxs] at h3
    simp only [List.getElem?_map, Option.map_eq_some_iff, DataW.lit.injEq, Lit.string.injEq] at h3
    obtain ⟨z, hz, rfl⟩ := h3
    rw [h2, List.getElem?_map, hz]
    rfl
  · rw [List.getElem?_eq_none (by omega), List.getElem?_eq_none (by simp; omega)]

def nmsU : List (List UInt8) := nms.map fun x => x.map fun n => UInt8.ofNat n.toNat
theorem laid_data : (Rows.laid_nostos_ops_words : DataW Unit) = .agg (nmsU.map fun z => .lit (.string z)) := by kernel_rfl
theorem gWords : Tryd.prog.globalNamed "nostos/ops.words" = some 0 := by kernel_rfl
theorem tWords : (Tryd.prog.globals[0]?).map (·.type) = some 72 := by kernel_rfl
theorem laid_of {W : World} (h : laidMetH Tryd.prog [("nostos/ops.words", Rows.laid_nostos_ops_words)] W) : Laid W := by
  rw [MakeChecks.laidMetH_plain _ _ _ (by kernel_rfl)] at h
  obtain ⟨ps, ⟨g0, t0, cs0, f0, p0, q0, hg0, ht0, hv0, hd0, _⟩, _⟩ := h
  obtain rfl := Option.some.inj (gWords.symm.trans hg0)
  obtain rfl := Option.some.inj (tWords.symm.trans ht0)
  rw [laid_data] at hd0
  have hc := cells_of_strs Tryd.underlying72 Tryd.underlying9 (by kernel_rfl) (by kernel_rfl) hd0
  have hcs : cs0 = WA := by
    apply Array.toList_inj.1
    rw [hc]
    simp [nmsU, WA, strOfNums]
  unfold World.var? at hv0
  rw [hg0] at hv0
  simp only [Option.bind_some] at hv0
  split at hv0
  · rename_i c t fr he
    obtain rfl := Option.some.inj hv0
    rw [hcs] at he
    exact ⟨t, fr, he⟩
  · cases hv0

/-! ### Is, Name -/
theorem is_any (op : Int) (w : World) (hb : -9223372036854775808 ≤ op ∧ op ≤ 9223372036854775807) :
    Calls Tryd.prog 32 #[.int .i64 op] w fun e w' => e = .returned (.bool (isw op)) ∧ w = w' := by
  by_cases h1 : 1 ≤ op
  · by_cases h2 : op ≤ 137
    · have e : Hid (isw op = true) := Lib.hid (by simp [isw, h1, h2])
      go_enter Tryd.func32, Tryd.ntmps32
      go_wp2
      go_ret
      rw [e.out]
      exact ⟨rfl, rfl⟩
    · have e : Hid (isw op = false) := Lib.hid (by simp [isw, h2])
      go_enter Tryd.func32, Tryd.ntmps32
      go_wp2
      go_ret
      rw [e.out]
      exact ⟨rfl, rfl⟩
  · have e : Hid (isw op = false) := Lib.hid (by simp [isw, h1])
    go_enter Tryd.func32, Tryd.ntmps32
    go_wp2
    go_ret
    rw [e.out]
    exact ⟨rfl, rfl⟩

theorem str_nil : strOfNums [] = ⟨#[]⟩ := rfl
theorem name_any (op : Int) (w : World) (hL : Laid w) (hb : -9223372036854775808 ≤ op ∧ op ≤ 9223372036854775807) :
    Calls Tryd.prog 15 #[.int .i64 op] w fun e w' => e = .returned (.string (strOfNums (nm op))) ∧ w = w' := by
  have hI := is_any op w hb
  by_cases h : 1 ≤ op ∧ op ≤ 137
  · have e : isw op = true := by simp [isw, h.1, h.2]
    rw [e] at hI
    obtain ⟨m, hm, hop⟩ := in_at h
    have e1 : op - 1 = (m : Int) := by omega
    have hc := hL.at hm
    have hn : Hid (strOfNums (nm op) = strOfNums (nmN m)) := Lib.hid (by rw [hop, nm_at hm])
    replace hI := Lib.hid hI
    obtain ⟨h1, h2⟩ := h
    clear e hL hop
    generalize strOfNums (nmN m) = s at *
    go_enter Tryd.func15, Tryd.ntmps15
    go_wp2_with (go_at_call 32; (with_reducible refine hI.out.mono ?_); rintro e w' ⟨rfl, rfl⟩)
    go_ret
    rw [hn.out]
    exact ⟨rfl, rfl⟩
  · have e : isw op = false := by simp [isw]; omega
    rw [e] at hI
    have hn : Hid (nm op = []) := Lib.hid (nm_out h)
    replace hI := Lib.hid hI
    clear e hL h
    go_enter Tryd.func15, Tryd.ntmps15
    go_wp2_with (go_at_call 32; (with_reducible refine hI.out.mono ?_); rintro e w' ⟨rfl, rfl⟩)
    go_ret
    rw [hn.out]
    exact ⟨rfl, rfl⟩
end Go.Proofs.YtcjbfokindoicaaDoor.On
