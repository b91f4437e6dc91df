/- Rows of bytes of a call's own: memory.anew. -/
import Derived.Test.YtcjbfokindoicaaDoorMemCell
import Derived.OwnWalk
import Derived.Laws.CopyOwn
import Derived.Laws.AppendOwnNone
namespace Go.Proofs.YtcjbfokindoicaaDoor.Me
set_option maxRecDepth 100000
open Go.ChangeShapes Go.WideShapes Go.ChangeAt Go.RowKit
set_option linter.unusedVariables false

theorem u8info : (Tryd.prog.info? 5).map (fun i => (i.zero, i.size, i.bytes)) = some (some (.int .u8 0), 1, 1) := by kernel_rfl
theorem u8size (w : World) : (Go.sizeOf 5).run Tryd.prog w = .ok 1 w := by kernel_rfl

def u8s (xs : List Int) : List Value := xs.map (Value.int .u8)
theorem u8s_len (xs : List Int) : (u8s xs).length = xs.length := by simp [u8s]
theorem u8s_one (xs : List Int) : ∀ v ∈ u8s xs, v.oneCell' = true := by
  intro v hv
  obtain ⟨x, _, rfl⟩ := List.mem_map.1 hv
  rfl
theorem u8s_get {xs : List Int} {i : Nat} (h : i < xs.length) : (u8s xs)[i]? = some (.int .u8 (xs.getD i 0)) := by
  simp [u8s, List.getD, h]
theorem u8s_set (xs : List Int) (i : Nat) (x : Int) : (u8s xs).set i (.int .u8 x) = u8s (xs.set i x) := by
  simp [u8s, List.map_set]

/-- a row of the call's own, from block B on: xs in its first n cells -/
def Own (w : World) (B g n cap : Nat) (xs : List Int) : Prop := w.ownsRow B 5 1 (.slice (some ⟨g, 0, none⟩) n cap) n (u8s xs)

theorem Own.len {w : World} {B g n cap : Nat} {xs : List Int} (h : Own w B g n cap xs) : xs.length = n := by
  have := h.1
  rw [u8s_len] at this
  omega
theorem Own.mem {w : World} {B g n cap : Nat} {xs : List Int} (h : Own w B g n cap xs) (hx : byteOk xs) : Mem w (some ⟨g, 0, none⟩) n cap xs := by
  obtain ⟨hc, hm⟩ : n ≤ cap ∧ cap ≤ maxLen := by
    rcases h.2 with ⟨h', _⟩ | ⟨g', cap', cur, h', _, _, hnc, hcm, _⟩
    · simp at h'
    · simp only [Value.slice.injEq, Option.some.injEq, Addr.mk.injEq, and_true, true_and] at h'
      obtain ⟨rfl, rfl⟩ := h'
      exact ⟨hnc, hcm⟩
  refine ⟨h.len, hc, hm, hx, fun hn => (by cases hn), fun _ => ⟨g, 0, rfl, fun i hi => ?_⟩⟩
  rw [Nat.zero_add, World.ownsRow.cellAt h i (by omega)]
  exact u8s_get (by rw [h.len]; exact hi)
theorem Own.at {w : World} {B g n cap : Nat} {xs : List Int} (h : Own w B g n cap xs) {i : Nat} (hi : i < n) : w.cell? ⟨g, i, none⟩ = some (.int .u8 (xs.getD i 0)) ∧ w.frozen? ⟨g, i, none⟩ = false := by
  refine ⟨?_, World.ownsRow.frozenAt h i⟩
  rw [World.ownsRow.cellAt h i (by omega)]
  exact u8s_get (by rw [h.len]; exact hi)
theorem Own.base {w : World} {B g n cap : Nat} {xs : List Int} (h : Own w B g n cap xs) : B ≤ g ∧ g < w.heap.size := World.ownsRow.lt h g rfl
theorem Own.put {w : World} {B g n cap : Nat} {xs : List Int} (h : Own w B g n cap xs) (i : Nat) (x : Int) : Own (w.setCell ⟨g, i, none⟩ (.int .u8 x)) B g n cap (xs.set i x) := by
  have := (World.ownsRow.stored h i (.int .u8 x)).1
  rw [u8s_set] at this
  exact this
theorem Own.of_row {w : World} {g n : Nat} {xs : List Int} (B : Nat) (hB : B ≤ g) (hx : xs.length = n) (hn : n ≤ maxLen) (hg : w.heap[g]? = some (.cells (u8s xs).toArray 5 (0, 0))) : Own w B g n n xs :=
  ⟨by rw [u8s_len]; omega, .inr ⟨g, n, _, rfl, hB, hg, Nat.le_refl _, hn, by simp [u8s_len, hx], by simp only [Nat.mul_one]; exact List.take_of_length_le (by rw [u8s_len]; omega)⟩⟩

/-- a row of zeros is made -/
theorem make_u8 (n : Nat) (hn : n ≤ 281474976710656) (W : World) : (Instr.makeSlice 22 (.int .i64 (n : Int)) (.int .i64 (n : Int))).run Tryd.prog W = .ok (.slice (some ⟨W.heap.size, 0, none⟩) n n) (W.alloc (.cells (u8s (List.replicate n 0)).toArray 5)) := by
  obtain ⟨i, hi, hz0, hz1, hz2⟩ := info_parts u8info
  have h := run_make (P := Tryd.prog) W 22 5 i _ Tryd.underlying22 hi hz0 .i64 .i64 n n (by omega) (by omega) (by rw [hz2]; omega) (by omega)
  have e : madeCells (Value.int .u8 0).cells (n * i.size) = (u8s (List.replicate n 0)).toArray := by
    rw [hz1, Nat.mul_one]
    apply Array.toList_inj.1
    show (madeCells #[Value.int .u8 0] n).toList = _
    rw [toList_madeCells_one]
    simp [u8s]
  simp only [Int.toNat_natCast] at h
  rw [h, e]

theorem splice_all {α : Type} (L cs : List α) (h : cs.length = L.length) : splice L 0 cs = cs := by
  unfold splice
  rw [List.drop_eq_nil_of_le (by omega)]
  simp

/-- all of it is copied into a new row of as many -/
theorem copy_u8 {a : Option Addr} {n c : Nat} {xs : List Int} {w : World} (h : Mem w a n c xs) {Z : List Value} (hZ : Z.length = n) :
    ∃ w2, (Builtin.copy_ #[22, 22] 3 #[.slice (some ⟨w.heap.size, 0, none⟩) n n, .slice a n c]).run Tryd.prog (w.alloc (.cells Z.toArray 5)) = .ok (.int .i64 (n : Int)) w2 ∧
      w2.heap[w.heap.size]? = some (.cells (u8s xs).toArray 5 (0, 0)) ∧ Below w.heap.size w w2 := by
  have hl := h.len
  have hb0 : Below w.heap.size w (w.alloc (.cells Z.toArray 5)) := (Below.refl _ _).alloc (Nat.le_refl _) _
  by_cases h0 : n = 0
  · subst h0
    obtain rfl : xs = [] := List.eq_nil_of_length_eq_zero hl
    obtain rfl : Z = [] := List.eq_nil_of_length_eq_zero hZ
    exact ⟨_, run_copy_none (P := Tryd.prog) _ 22 22 3 5 _ _ _ _ _ _ Tryd.underlying22 (by kernel_rfl) rfl, heap_alloc_new w _, hb0⟩
  · obtain ⟨b, o, rfl, hc⟩ := h.cells (by omega)
    have hrun := run_copy_row (P := Tryd.prog) (w.alloc (.cells Z.toArray 5)) 22 22 3 5 w.heap.size 0 n n ⟨b, o, none⟩ n c Z.toArray 5 (u8s xs) Tryd.underlying22 (by kernel_rfl) (heap_alloc_new w _) (by rw [u8s_len, hl]; exact (Nat.min_self n).symm) (fun j v hj => by
      have hjl : j < xs.length := by
        have := (List.getElem?_eq_some_iff.1 hj).1
        rwa [u8s_len] at this
      rw [u8s_get hjl] at hj
      rw [add_plain, ← Option.some.inj hj]
      have := hc j (by omega)
      rw [World.cell?_alloc_lt]
      · exact this
      · exact World.block_lt_of_cell? _ _ this) (by simp [u8s_len]; omega) (u8s_one xs)
    rw [u8s_len, hl] at hrun
    refine ⟨_, hrun, ?_, below_setRow hb0 (Nat.le_refl _) _⟩
    rw [setRow_heap _ _ _ _ _ _ (heap_alloc_new w _)]
    congr 2
    rw [List.drop_eq_nil_of_le (by simp; omega)]
    simp

theorem anew_any (a : Option Addr) (n c : Nat) (xs : List Int) (w : World) (h : Mem w a n c xs) (hn : n ≤ 281474976710656) :
    Calls Tryd.prog 70 #[.slice a n c] w fun e w' => ∃ g, e = .returned (.slice (some ⟨g, 0, none⟩) n n) ∧ Own w' w.heap.size g n n xs ∧ Below w.heap.size w w' := by
  obtain ⟨Z, hZ'⟩ : ∃ Z, Z = u8s (List.replicate n 0) := ⟨_, rfl⟩
  have hZ : Z.length = n := by rw [hZ', u8s_len]; simp
  have hmk := fun W => make_u8 n hn W
  rw [← hZ'] at hmk
  obtain ⟨w2, hcp, hg, hb2⟩ := copy_u8 h hZ
  have hO := Own.of_row w.heap.size (Nat.le_refl _) (n := n) h.len (by unfold maxLen; omega) hg
  have hb := h.bd
  clear hg h hZ hZ'
  go_enter Tryd.func70, Tryd.ntmps70
  go_wp2
  go_ret
  exact ⟨_, rfl, hO, hb2⟩
end Go.Proofs.YtcjbfokindoicaaDoor.Me
