/- The statements' own awake: true. -/
import Derived.Test.YtfaajbcfebficaaMemRef
namespace Go.Proofs.Ytfaajbcfebficaa
open Go.ChangeShapes Go.WideShapes Go.ChangeAt Go.RowKit
set_option linter.unusedVariables false

theorem byteOk_zeros (n : Nat) : byteOk (List.replicate n 0) := by
  intro x hx
  rw [List.eq_of_mem_replicate hx]
  decide

theorem awake_any (w : World) :
    Calls Try.prog 8 #[] w fun e w' => e = .returned (.bool true) ∧ Below w.heap.size w w' := by
  have hmk : ∀ W : World, (Instr.makeSlice 22 (.int .i64 16) (.int .i64 16)).run Try.prog W = .ok (.slice (some ⟨W.heap.size, 0, none⟩) 16 16) (W.alloc (.cells (u8s (List.replicate 16 0)).toArray 5)) := fun W => make_u8 16 (by decide) W
  have hm : Mem (w.alloc (.cells (u8s (List.replicate 16 0)).toArray 5)) (some ⟨w.heap.size, 0, none⟩) 16 16 (List.replicate 16 0) :=
    (Own.of_row w.heap.size (Nat.le_refl _) (by simp) (by unfold maxLen; decide) (heap_alloc_new w _)).mem (byteOk_zeros 16)
  have hb0 : Below w.heap.size w (w.alloc (.cells (u8s (List.replicate 16 0)).toArray 5)) := (Below.refl _ _).alloc (Nat.le_refl _) _
  obtain ⟨zs, hzs⟩ : ∃ zs, zs = List.replicate 16 (0 : Int) := ⟨_, rfl⟩
  obtain ⟨ys, hys⟩ : ∃ ys, ys = setC (List.replicate 16 0) 8 258 := ⟨_, rfl⟩
  have f1 : celI ys 8 = 258 := by rw [hys]; decide +kernel
  have f2 : bytI ys 9 = 1 := by rw [hys]; decide +kernel
  have f3 : tC ys.length 8 = 0 := by rw [hys]; decide +kernel
  have f4 : tC ys.length 9 = -9 := by rw [hys]; decide +kernel
  have f5 : tB ys.length 9 1 = 0 := by rw [hys]; decide +kernel
  have f6 : tB ys.length 16 1 = -9 := by rw [hys]; decide +kernel
  have f7 : tC 16 8 = 0 := by decide +kernel
  have hset := Lib.hid (setCell_any _ _ _ _ 8 258 _ hm (by decide) (by decide) (by decide))
  rw [← hys] at hset
  rw [← hzs] at hset hmk hb0
  have hb0' := Lib.hid hb0
  clear hys hm hb0 hzs
  go_enter Try.func8, Try.ntmps8
  go_wp2_with (first | (go_at_call 15; refine (hset.out).mono ?_; rintro e w2 ⟨a2, c2, rfl, hM, hb2⟩) | (go_at_call 9; (with_reducible refine (cell_any _ _ _ _ _ _ (by assumption) (by decide)).mono ?_); rintro e w' ⟨rfl, rfl⟩) | (go_at_call 11; (with_reducible refine (byte_any _ _ _ _ _ _ (by assumption) (by decide)).mono ?_); rintro e w' ⟨rfl, rfl⟩))
  go_ret
  exact ⟨rfl, hb0'.out.trans (hb2.mono (by simp))⟩
end Go.Proofs.Ytfaajbcfebficaa
