/- Contracts of Fold, the program's and the document's. -/
import Derived.Test.YtcjbfokindoicaaDoorNamLeaf
namespace Go.Proofs.YtcjbfokindoicaaDoor.On
set_option maxRecDepth 100000
open Go.ChangeShapes Go.WideShapes Go.RowKit
set_option linter.unusedVariables false

theorem fold_any (xs : List Int) (w : World) (hx : bytesOk xs) (hn : xs.length ≤ 1000) :
    Calls Tryd.prog 34 #[.string (strOfNums xs)] w fun e w' => e = .returned (.string (strOfNums (fold xs))) ∧ Below w.heap.size w w' := by
  have hmf := mkf
  obtain ⟨C, w1, hcv, hR, hB, hz⟩ := bytes_any xs hx w
  obtain ⟨n, hn'⟩ : ∃ n, n = xs.length := ⟨_, rfl⟩
  rw [← hn'] at hcv hR hn
  have hT := Lib.hid (fun (k S B : Nat) W hS hR hne hk hB => turn_any k xs S w.heap.size n C B W hS hR hne hk hn hB hx hn'.symm)
  have hb1 := (Below.refl w1.heap.size w1).alloc (Nat.le_refl _) (.cells #[.slice (some ⟨w.heap.size, 0, none⟩) n C] 22)
  have hR1 := Lib.hid (hR.below hb1)
  have hB1 := Lib.hid (hB.trans (hb1.mono hB.size))
  have hne' : Hid (w.heap.size ≠ w1.heap.size) := Lib.hid (by omega)
  have hS0 : Hid ((w1.alloc (.cells #[.slice (some ⟨w.heap.size, 0, none⟩) n C] 22)).cell? ⟨w1.heap.size, 0, none⟩ = some (.slice (some ⟨w.heap.size, 0, none⟩) n C)) := Lib.hid (cell_of_one (heap_alloc_new w1 _))
  have hfa : Hid (foldK xs n = fold xs) := Lib.hid (by rw [hn', foldK_all])
  rw [← foldK_0 xs] at hR1
  clear hn' hR hb1 hB hz
  go_enter Tryd.func34, Tryd.ntmps34
  go_wp2
  go_loopw [11] (fun i wr => ∃ k : Nat, k ≤ n ∧ i = .int .i64 k ∧ Hid (Raw wr w.heap.size n (foldK xs k)) ∧ Hid (wr.cell? ⟨w1.heap.size, 0, none⟩ = some (.slice (some ⟨w.heap.size, 0, none⟩) n C)) ∧ Hid (Below w.heap.size w wr)) (fun i _ => n - (intOf i).toNat)
  case atStart => exact ⟨0, Nat.zero_le _, rfl, hR1, hS0, hB1⟩
  case round =>
    obtain ⟨k, hk, rfl, hR, hS, hB⟩ := hrel
    by_cases hkn : k < n
    · go_wp2_with (go_at_call 52; (with_reducible refine (hT.out k _ w.heap.size _ hS.out hR.out hne'.out hkn (Nat.le_refl _)).mono ?_); rintro e w2 ⟨rfl, hR2, hS2, hB2⟩; replace hR2 := Lib.hid hR2; replace hS2 := Lib.hid hS2; replace hB2 := Lib.hid (hB.out.trans hB2))
      exact ⟨⟨k + 1, by omega, by go_num, hR2, hS2, hB2⟩, by simp only [intOf]; omega⟩
    · obtain rfl : k = n := by omega
      have hst := hR.out.str (c := C)
      rw [hfa.out] at hst
      have hS1 := hS.out
      go_wp2
      go_ret
      exact ⟨rfl, hB.out⟩

/-- a byte in a slice of its own -/
theorem one_slice (c : Int) (W : World) : (Instr.buildSlice 22 1 #[(0, .int .u8 c)]).run Tryd.prog W = .ok (.slice (some ⟨W.heap.size, 0, none⟩) 1 1) (W.alloc (.cells #[.int .u8 c] 5)) := by kernel_rfl
theorem app_one {w : World} {B n cap : Nat} {ty : TypeId} {a : Option Addr} {xs : List Int} (c : Int) (h : Oz w B 5 1 a n cap (u8s xs)) (hn : n ≤ 1000) (hB : B ≤ w.heap.size) :
    ∃ a' cap' w2, (Builtin.append_ #[22, 22] ty #[.slice a n cap, .slice (some ⟨w.heap.size, 0, none⟩) 1 1]).run Tryd.prog (w.alloc (.cells #[.int .u8 c] 5)) = .ok (.slice a' (n + 1) cap') w2 ∧ Oz w2 B 5 1 a' (n + 1) cap' (u8s (xs ++ [c])) ∧ Below B w w2 := by
  obtain ⟨i, hi, hz0, hz1, hz2⟩ := info_parts u8info
  have hb0 : Below B w (w.alloc (.cells #[.int .u8 c] 5)) := (Below.refl _ _).alloc hB _
  have hS := (Oz.full w w.heap.size 5 1 (Nat.le_refl _) #[.int .u8 c] 1 (by decide) rfl).sz
  obtain ⟨a', cap', w2, h1, h2, h3⟩ := (h.alloc (.cells #[.int .u8 c] 5)).app (P := Tryd.prog) (ty := ty) Tryd.underlying22 hi hz0 hz1 hz2 rfl (by decide) hS (by intro u hu; simp at hu; subst hu; rfl) (by omega) (by omega) (by have := hb0.size; omega)
  refine ⟨a', cap', w2, h1, ?_, hb0.trans h3⟩
  rw [u8s_app]
  exact h2

end Go.Proofs.YtcjbfokindoicaaDoor.On
