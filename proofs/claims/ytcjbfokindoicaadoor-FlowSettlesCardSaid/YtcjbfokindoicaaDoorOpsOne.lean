/- Contracts of isOneOf, and of the four kinds that ask it. -/
import Derived.Test.YtcjbfokindoicaaDoorOpsLeaf
namespace Go.Proofs.YtcjbfokindoicaaDoor.On
set_option maxRecDepth 100000
open Go.ChangeShapes Go.WideShapes Go.RowKit
set_option linter.unusedVariables false

def strs (ks : List (List Int)) : List Value := ks.map fun k => .string (strOfNums k)
theorem strs_len (ks : List (List Int)) : (strs ks).length = ks.length := by simp [strs]
/-- a string in a slice of strings -/
theorem strs_cell {w : World} {a : Option Addr} {n c : Nat} {ks : List (List Int)} (h : Sz w 1 a n c (strs ks)) {i : Nat} (hi : i < n) : ∃ x, a = some x ∧ w.cell? (x.add i) = some (.string (strOfNums (ks.getD i []))) := by
  obtain ⟨b, o, rfl, hc⟩ := h.cells (by omega)
  have hl := h.len
  rw [strs_len] at hl
  refine ⟨_, rfl, ?_⟩
  rw [add_plain]
  have hik : i < ks.length := by omega
  have := hc i (.string (strOfNums (ks.getD i []))) (by simp [strs, List.getD, hik])
  exact this
theorem row_strs (w : World) (cur : Array Value) (ks : List (List Int)) (n : Nat) (hc : cur.toList = strs ks) (hn : ks.length = n) (hm : n ≤ 1000) : Sz (w.alloc (.cells cur 9)) 1 (some ⟨w.heap.size, 0, none⟩) n n (strs ks) := by
  have hs : cur.size = n * 1 := by
    have := congrArg List.length hc
    rw [strs_len] at this
    simp at this
    omega
  have := (Oz.full w w.heap.size 9 1 (Nat.le_refl _) cur n (by unfold maxLen; omega) hs).sz
  rw [hc] at this
  exact this

theorem isone_any (op : Int) (a : Option Addr) (n c : Nat) (ks : List (List Int)) (w : World) (hL : Laid w) (hS : Sz w 1 a n c (strs ks)) (hk : ∀ k ∈ ks, bytesOk k) (hn : n ≤ 1000) (hb : -9223372036854775808 ≤ op ∧ op ≤ 9223372036854775807) :
    Calls Tryd.prog 53 #[.int .i64 op, .slice a n c] w fun e w' => e = .returned (.bool (decide (nm op ∈ ks))) ∧ w = w' := by
  have hN := Lib.hid (name_any op w hL hb)
  have hl : ks.length = n := by have := hS.len; rw [strs_len] at this; omega
  have hcell := Lib.hid (fun (i : Nat) (hi : i < n) => strs_cell hS hi)
  have hok : Hid (∀ i, i < n → bytesOk (ks.getD i [])) := Lib.hid fun i hi => by
    have : i < ks.length := by omega
    have := hk ks[i] (List.getElem_mem this)
    simpa [List.getD, show i < ks.length by omega] using this
  have hnok := Lib.hid (nm_ok op)
  have hll := Lib.hid hl
  clear hL hS hk hl
  obtain ⟨f, hf⟩ : ∃ f, f = nm op := ⟨_, rfl⟩
  rw [← hf] at hN hnok ⊢
  have hsz := str_size f
  clear hf
  go_enter Tryd.func53, Tryd.ntmps53
  go_wp2_with (go_at_call 15; (with_reducible refine hN.out.mono ?_); rintro e w' ⟨rfl, rfl⟩)
  go_loop [7, 12] (fun x i => ∃ k : Nat, k ≤ n ∧ i = .int .i64 k ∧ Hid (f ∉ ks.take k)) (fun _ i => n - (intOf i).toNat)
  case atStart => exact ⟨0, Nat.zero_le _, rfl, Lib.hid (by simp)⟩
  case round =>
    obtain ⟨k, hk, rfl, hF⟩ := hrel
    by_cases hkn : k < n
    · obtain ⟨x, rfl, hc⟩ := hcell.out k hkn
      have hbq := str_beq hnok.out (hok.out k hkn)
      have hkl : k < ks.length := by have := hll.out; omega
      have hkk : ks[k] = ks.getD k [] := by simp [List.getD, hkl]
      by_cases he : f = ks.getD k []
      · have hres : Hid (decide (f ∈ ks) = true) := Lib.hid (by
          rw [decide_eq_true_eq, he, ← hkk]
          exact List.getElem_mem hkl)
        rw [decide_eq_true he] at hbq
        clear he hkl hkk
        generalize strOfNums (ks.getD k []) = s at *
        generalize strOfNums f = z at *
        go_wp2
        go_ret
        rw [hres.out]
        exact ⟨rfl, rfl⟩
      · have hF2 : Hid (f ∉ ks.take (k + 1)) := Lib.hid (by
          rw [List.take_succ_eq_append_getElem hkl, List.mem_append, hkk]
          simp only [List.mem_singleton]
          exact fun h => h.elim hF.out he)
        rw [decide_eq_false he] at hbq
        clear he hkl hkk
        generalize strOfNums (ks.getD k []) = s at *
        generalize strOfNums f = z at *
        go_wp2
        exact ⟨⟨k + 1, by omega, by go_num, hF2⟩, by simp only [intOf]; omega⟩
    · obtain rfl : k = n := by omega
      have hres : Hid (decide (f ∈ ks) = false) := Lib.hid (by
        have := hF.out
        rw [← hll.out, List.take_length] at this
        exact decide_eq_false this)
      go_wp2
      go_ret
      rw [hres.out]
      exact ⟨rfl, rfl⟩

theorem innK_row (w : World) : Sz (w.alloc (.cells #[.string ⟨#[40, 76, 73, 84, 41]⟩, .string ⟨#[40, 66, 82, 65, 78, 67, 72, 41]⟩, .string ⟨#[40, 48, 66, 82, 65, 78, 67, 72, 41]⟩, .string ⟨#[40, 68, 79, 41]⟩, .string ⟨#[40, 76, 79, 79, 80, 41]⟩, .string ⟨#[40, 43, 76, 79, 79, 80, 41]⟩, .string ⟨#[40, 86, 65, 82, 41]⟩, .string ⟨#[40, 68, 79, 69, 83, 41]⟩, .string ⟨#[40, 84, 69, 88, 84, 41]⟩, .string ⟨#[40, 77, 65, 82, 75, 41]⟩] 9)) 1 (some ⟨w.heap.size, 0, none⟩) 10 10 (strs innK) :=
  row_strs w _ innK 10 (by kernel_rfl) rfl (by decide)
theorem inn_any (op : Int) (w : World) (hL : Laid w) (hb : -9223372036854775808 ≤ op ∧ op ≤ 9223372036854775807) :
    Calls Tryd.prog 35 #[.int .i64 op] w fun e w' => e = .returned (.bool (inn op)) ∧ Below w.heap.size w w' := by
  have hI := Lib.hid (isone_any op _ 10 10 innK _ (hL.alloc _) (innK_row w) innK_ok (by decide) hb)
  rw [innK_is] at hI
  have hB := Lib.hid ((Below.refl w.heap.size w).alloc (Nat.le_refl _) (.cells #[.string ⟨#[40, 76, 73, 84, 41]⟩, .string ⟨#[40, 66, 82, 65, 78, 67, 72, 41]⟩, .string ⟨#[40, 48, 66, 82, 65, 78, 67, 72, 41]⟩, .string ⟨#[40, 68, 79, 41]⟩, .string ⟨#[40, 76, 79, 79, 80, 41]⟩, .string ⟨#[40, 43, 76, 79, 79, 80, 41]⟩, .string ⟨#[40, 86, 65, 82, 41]⟩, .string ⟨#[40, 68, 79, 69, 83, 41]⟩, .string ⟨#[40, 84, 69, 88, 84, 41]⟩, .string ⟨#[40, 77, 65, 82, 75, 41]⟩] 9))
  clear hL
  go_enter Tryd.func35, Tryd.ntmps35
  go_wp2_with (go_at_call 53; (with_reducible refine hI.out.mono ?_); rintro e w' ⟨rfl, rfl⟩)
  go_ret
  exact ⟨rfl, hB.out⟩

theorem nowK_row (w : World) : Sz (w.alloc (.cells #[.string ⟨#[73, 70]⟩, .string ⟨#[69, 76, 83, 69]⟩, .string ⟨#[84, 72, 69, 78]⟩, .string ⟨#[66, 69, 71, 73, 78]⟩, .string ⟨#[65, 71, 65, 73, 78]⟩, .string ⟨#[85, 78, 84, 73, 76]⟩, .string ⟨#[87, 72, 73, 76, 69]⟩, .string ⟨#[82, 69, 80, 69, 65, 84]⟩, .string ⟨#[68, 79]⟩, .string ⟨#[76, 79, 79, 80]⟩, .string ⟨#[43, 76, 79, 79, 80]⟩, .string ⟨#[82, 69, 67, 85, 82, 83, 69]⟩, .string ⟨#[59]⟩, .string ⟨#[68, 79, 69, 83, 62]⟩, .string ⟨#[91, 39, 93]⟩, .string ⟨#[76, 73, 84, 69, 82, 65, 76]⟩, .string ⟨#[80, 79, 83, 84, 80, 79, 78, 69]⟩, .string ⟨#[91]⟩, .string ⟨#[91, 67, 72, 65, 82, 93]⟩, .string ⟨#[40]⟩, .string ⟨#[92]⟩, .string ⟨#[46, 34]⟩] 9)) 1 (some ⟨w.heap.size, 0, none⟩) 22 22 (strs nowK) :=
  row_strs w _ nowK 22 (by kernel_rfl) rfl (by decide)
theorem onlK_row (w : World) : Sz (w.alloc (.cells #[.string ⟨#[69, 88, 73, 84]⟩, .string ⟨#[62, 82]⟩, .string ⟨#[82, 62]⟩, .string ⟨#[82, 64]⟩, .string ⟨#[73]⟩, .string ⟨#[74]⟩, .string ⟨#[85, 78, 76, 79, 79, 80]⟩, .string ⟨#[76, 69, 65, 86, 69]⟩, .string ⟨#[73, 70]⟩, .string ⟨#[69, 76, 83, 69]⟩, .string ⟨#[84, 72, 69, 78]⟩, .string ⟨#[66, 69, 71, 73, 78]⟩, .string ⟨#[65, 71, 65, 73, 78]⟩, .string ⟨#[85, 78, 84, 73, 76]⟩, .string ⟨#[87, 72, 73, 76, 69]⟩, .string ⟨#[82, 69, 80, 69, 65, 84]⟩, .string ⟨#[68, 79]⟩, .string ⟨#[76, 79, 79, 80]⟩, .string ⟨#[43, 76, 79, 79, 80]⟩, .string ⟨#[82, 69, 67, 85, 82, 83, 69]⟩, .string ⟨#[59]⟩, .string ⟨#[68, 79, 69, 83, 62]⟩, .string ⟨#[91, 39, 93]⟩, .string ⟨#[76, 73, 84, 69, 82, 65, 76]⟩, .string ⟨#[80, 79, 83, 84, 80, 79, 78, 69]⟩, .string ⟨#[91, 67, 72, 65, 82, 93]⟩] 9)) 1 (some ⟨w.heap.size, 0, none⟩) 26 26 (strs onlK) :=
  row_strs w _ onlK 26 (by kernel_rfl) rfl (by decide)
theorem widK_row (w : World) : Sz (w.alloc (.cells #[.string ⟨#[40, 76, 73, 84, 41]⟩, .string ⟨#[40, 66, 82, 65, 78, 67, 72, 41]⟩, .string ⟨#[40, 48, 66, 82, 65, 78, 67, 72, 41]⟩, .string ⟨#[40, 68, 79, 41]⟩, .string ⟨#[40, 76, 79, 79, 80, 41]⟩, .string ⟨#[40, 43, 76, 79, 79, 80, 41]⟩, .string ⟨#[40, 86, 65, 82, 41]⟩, .string ⟨#[40, 84, 69, 88, 84, 41]⟩, .string ⟨#[40, 77, 65, 82, 75, 41]⟩] 9)) 1 (some ⟨w.heap.size, 0, none⟩) 9 9 (strs widK) :=
  row_strs w _ widK 9 (by kernel_rfl) rfl (by decide)
end Go.Proofs.YtcjbfokindoicaaDoor.On
