/- The map of all names and their numbers that ops.numbers makes; what ops.Find finds in it. -/
import Derived.Test.YtcjbfokindoicaaDoorOpsOne
import Derived.Test.YtcjbfokindoicaaDoorNamFold
import Derived.Carry
import Derived.MapKept
namespace Go.Proofs.YtcjbfokindoicaaDoor.On
set_option maxRecDepth 100000
open Go.ChangeShapes Go.WideShapes Go.RowKit
set_option linter.unusedVariables false

/-- the first k names' entries -/
def ent (m : Nat) : MapEntry := { key := .string (strOfNums (nmN m)), val := .int .i64 ((m : Int) + 1), born := m }
def ents (k : Nat) : Array MapEntry := ((List.range k).map ent).toArray
theorem ents_next (k : Nat) : (ents k).push (ent k) = ents (k + 1) := by
  simp [ents, List.range_succ]
theorem ents_key (k : Nat) : ∀ x ∈ (ents k).toList, MapKept.IsKey .string x.key := by
  intro x hx
  simp only [ents, List.mem_map] at hx
  obtain ⟨m, _, rfl⟩ := hx
  trivial
theorem ents_get {k j : Nat} {e : MapEntry} (h : (ents k).toList[j]? = some e) : j < k ∧ e = ent j := by
  simp only [ents, List.getElem?_map, Option.map_eq_some_iff] at h
  obtain ⟨m, hm, rfl⟩ := h
  obtain ⟨hj, rfl⟩ := List.getElem?_eq_some_iff.1 hm
  simp at hj ⊢
  exact hj
theorem ents_find {f : List Int} (hf : bytesOk f) : ∃ r, Instr.findNow .string (.string (strOfNums f)) (ents 137).toList 0 = some r ∧ ((r = none ∧ ix f = 0) ∨ ∃ j, r = some (j, .int .i64 (ix f))) := by
  rcases MapKept.findNow_spec (d := .string) (k := .string (strOfNums f)) trivial (ents 137).toList 0 (ents_key 137) with ⟨h1, h2⟩ | ⟨j, e, h1, h2, h3⟩
  · refine ⟨_, h1, .inl ⟨rfl, ?_⟩⟩
    rcases ix_cases f with ⟨h0, _⟩ | ⟨m, hm, rfl, _⟩
    · exact h0
    · exact absurd rfl (h2 (ent m) (by simp only [ents, List.mem_map]; exact ⟨m, by simp [hm], rfl⟩))
  · obtain ⟨hj, rfl⟩ := ents_get h2
    refine ⟨_, h1, .inr ⟨0 + j, ?_⟩⟩
    have he : nmN j = f := str_inj (nmN_ok hj) hf (by
      have : strOfNums (nmN j) = strOfNums f := by injection h3
      rw [this])
    rw [← he, ix_at hj]
    rfl
theorem ents_fresh {k : Nat} (hk : k < 137) : Instr.findNow .string (.string (strOfNums (nmN k))) (ents k).toList 0 = some none := by
  rcases MapKept.findNow_spec (d := .string) (k := .string (strOfNums (nmN k))) trivial (ents k).toList 0 (ents_key k) with ⟨h1, h2⟩ | ⟨j, e, h1, h2, h3⟩
  · exact h1
  · exfalso
    obtain ⟨hj, rfl⟩ := ents_get h2
    have he : nmN j = nmN k := str_inj (nmN_ok (by omega)) (nmN_ok hk) (by
      have : strOfNums (nmN j) = strOfNums (nmN k) := by injection h3
      rw [this])
    have := nmN_inj (by omega) hk he
    omega

theorem set_last (w : World) (o p : Obj) : { (w.alloc o) with heap := (w.alloc o).heap.setIfInBounds w.heap.size p } = w.alloc p := by
  have e : (w.alloc o).heap = w.heap.push o := rfl
  have e2 : (w.heap.push o).setIfInBounds w.heap.size p = w.heap.push p := by
    apply Array.ext_getElem?
    intro i
    rw [Array.getElem?_setIfInBounds, Array.getElem?_push, Array.getElem?_push, Array.size_push]
    by_cases h : w.heap.size = i
    · subst h; simp
    · rw [if_neg h, if_neg (Ne.symm h), if_neg (Ne.symm h)]
  rw [e, e2]; rfl
theorem run_put {k : Nat} (hk : k < 137) (w : World) :
    (Instr.mapUpdate 73 (.map (some w.heap.size)) (.string (strOfNums (nmN k))) (.int .i64 ((k : Int) + 1))).run Tryd.prog (w.alloc (.map (ents k) k)) = .ok () (w.alloc (.map (ents (k + 1)) (k + 1))) := by
  have hb := (MapKept.heap_alloc w (.map (ents k) k)).1
  have hik : MapKept.IsKey .string (.string (strOfNums (nmN k))) := trivial
  have h2 := set_last w (.map (ents k) k) (.map ((ents k).push (ent k)) (k + 1))
  rw [← ents_next]
  simp [Instr.mapUpdate, run_underlying Tryd.underlying73, MapKept.run_getObj_map hb, MapKept.run_checkKey Tryd.underlying9 hik, MapKept.run_findKey Tryd.underlying9 (ents_fresh hk), MapKept.run_setObj_map _ hb, Result.andThen]
  exact h2
theorem run_get {f : List Int} (hf : bytesOk f) (b c : Nat) (w : World) (hb : w.heap[b]? = some (.map (ents 137) c)) :
    (Instr.lookup 73 (.map (some b)) (.string (strOfNums f)) false).run Tryd.prog w = .ok (.int .i64 (ix f)) w := by
  have hik : MapKept.IsKey .string (.string (strOfNums f)) := trivial
  have hz : (zeroValue 3).run Tryd.prog w = .ok (.int .i64 0) w := by kernel_rfl
  obtain ⟨r, hr, ⟨rfl, h0⟩ | ⟨j, rfl⟩⟩ := ents_find hf
  · rw [h0]
    simp [Instr.lookup, run_underlying Tryd.underlying73, MapKept.run_getObj_map hb, MapKept.run_checkKey Tryd.underlying9 hik, MapKept.run_findKey Tryd.underlying9 hr, hz, Result.andThen]
  · simp [Instr.lookup, run_underlying Tryd.underlying73, MapKept.run_getObj_map hb, MapKept.run_checkKey Tryd.underlying9 hik, MapKept.run_findKey Tryd.underlying9 hr, Result.andThen]
theorem make_map (w : World) : (Instr.makeMap 73 (some (.int .i64 137))).run Tryd.prog w = .ok (.map (some w.heap.size)) (w.alloc (.map #[] 0)) := by kernel_rfl
theorem index_words {m : Nat} (h : m < 137) (W : World) : (Instr.index 72 (.agg WA) (.int .i64 (m : Int))).run Tryd.prog W = .ok (.string (strOfNums (nmN m))) W := by
  have hz : (sizeOf 9).run Tryd.prog W = .ok 1 W := by kernel_rfl
  have ha : (isAgg 9).run Tryd.prog W = .ok false W := by kernel_rfl
  have hg := WA_get h
  simp [Instr.index, asIntOf, run_underlying Tryd.underlying72, hz, part, ha, hg, h, Result.andThen]

set_option maxRecDepth 100000 in
theorem numbers_any (w : World) (hL : Laid w) :
    Calls Tryd.prog 33 #[] w fun e w' => e = .returned (.map (some w.heap.size)) ∧ w.alloc (.map (ents 137) 137) = w' := by
  have hmm := make_map
  obtain ⟨tt, fr, hg⟩ := hL.alloc (.map #[] 0)
  clear hL
  have hix := Lib.hid (fun (m : Nat) (h : m < 137) => index_words h)
  have hput := Lib.hid (fun (m : Nat) (h : m < 137) => run_put h w)
  have hsz : (Tryd.prog.info? 72).map (·.size) = some WA.size := by kernel_rfl
  go_enter Tryd.func33, Tryd.ntmps33
  go_wp2_with (refine wpList_load_row rfl 72 _ rfl 0 rfl tt _ fr _ hg Tryd.underlying72 rfl hsz ?_)
  go_loopw [2, 3, 6] (fun _ _ i wr => ∃ k : Nat, k ≤ 137 ∧ i = .int .i64 k ∧ wr = w.alloc (.map (ents k) k)) (fun _ _ i _ => 137 - (intOf i).toNat)
  case atStart => exact ⟨0, by decide, rfl, rfl⟩
  case round =>
    obtain ⟨k, hk, rfl, rfl⟩ := hrel
    by_cases hkn : k < 137
    · have h1 := hix.out k hkn
      have h2 := hput.out k hkn
      generalize strOfNums (nmN k) = s at *
      go_wp2
      exact ⟨⟨k + 1, by omega, by go_num, rfl⟩, by simp only [intOf]; omega⟩
    · obtain rfl : k = 137 := by omega
      go_wp2
      go_ret
      exact ⟨rfl, rfl⟩

theorem find_any (xs : List Int) (w : World) (hL : Laid w) (hx : bytesOk xs) (hn : xs.length ≤ 1000) :
    Calls Tryd.prog 16 #[.string (strOfNums xs)] w fun e w' => e = .returned (.int .i64 (fnO (fold xs))) ∧ Below w.heap.size w w' := by
  have hM := Lib.hid (numbers_any w hL)
  have hF := Lib.hid (fold_any xs (w.alloc (.map (ents 137) 137)) hx hn)
  have hb0 : Below w.heap.size w (w.alloc (.map (ents 137) 137)) := (Below.refl w.heap.size w).alloc (Nat.le_refl _) _
  have hl0 := hL.alloc (.map (ents 137) 137)
  have hB0 : (w.alloc (.map (ents 137) 137)).heap[w.heap.size]? = some (.map (ents 137) 137) := (MapKept.heap_alloc w _).1
  have hlt : w.heap.size < (w.alloc (.map (ents 137) 137)).heap.size := (Array.getElem?_eq_some_iff.1 hB0).1
  generalize w.alloc (.map (ents 137) 137) = V at *
  have hG := Lib.hid (fun (W : World) (h : Below V.heap.size V W) => run_get (fold_ok hx) w.heap.size 137 W ((h.block _ hlt).trans hB0))
  have hbd : -9223372036854775808 ≤ ix (fold xs) ∧ ix (fold xs) ≤ 9223372036854775807 := by
    rcases ix_cases (fold xs) with ⟨h, _⟩ | ⟨m, hm, _, h⟩ <;> omega
  have hI := Lib.hid (fun (W : World) (h : Below V.heap.size V W) => inn_any (ix (fold xs)) W (hl0.below h (Nat.le_refl _)) hbd)
  have hE : Hid (fnO (fold xs) = if inn (ix (fold xs)) then 0 else ix (fold xs)) := Lib.hid rfl
  have hb0' := Lib.hid hb0
  have hBB := Lib.hid (fun (W U : World) (h : Below V.heap.size V W) (h2 : Below W.heap.size W U) => hb0.trans ((h.trans (h2.mono h.size)).mono hb0.size))
  clear hL hl0 hB0 hlt hb0 hx hn hbd
  generalize strOfNums (fold xs) = z at *
  generalize ix (fold xs) = k at *
  generalize strOfNums xs = s at *
  cases hin : inn k
  · rw [hin] at hI hE
    clear hin
    go_enter Tryd.func16, Tryd.ntmps16
    go_wp2_with (first | (go_at_call 33; (with_reducible refine hM.out.mono ?_); rintro e w1 ⟨rfl, rfl⟩) | (go_at_call 34; (with_reducible refine hF.out.mono ?_); rintro e w2 ⟨rfl, hb2⟩; have hg2 := hG.out _ hb2; replace hb2 := Lib.hid hb2) | (go_at_call 35; (with_reducible refine (hI.out _ hb2.out).mono ?_); rintro e w3 ⟨rfl, hb3⟩))
    go_ret
    rw [hE.out]
    exact ⟨rfl, hBB.out _ _ hb2.out hb3⟩
  · rw [hin] at hI hE
    clear hin
    go_enter Tryd.func16, Tryd.ntmps16
    go_wp2_with (first | (go_at_call 33; (with_reducible refine hM.out.mono ?_); rintro e w1 ⟨rfl, rfl⟩) | (go_at_call 34; (with_reducible refine hF.out.mono ?_); rintro e w2 ⟨rfl, hb2⟩; have hg2 := hG.out _ hb2; replace hb2 := Lib.hid hb2) | (go_at_call 35; (with_reducible refine (hI.out _ hb2.out).mono ?_); rintro e w3 ⟨rfl, hb3⟩))
    go_ret
    rw [hE.out]
    exact ⟨rfl, hBB.out _ _ hb2.out hb3⟩
end Go.Proofs.YtcjbfokindoicaaDoor.On
