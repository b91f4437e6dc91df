/- Contracts of Fold and its closure, of the document's Fold, of May. -/
import Derived.Test.YtcjbfokindoicaaDoorNamMath
import Derived.Test.YtcjbfokindoicaaDoorSz
import Derived.Laws.IdiomStrings
import Derived.WalkSmall
namespace Go.Proofs.YtcjbfokindoicaaDoor.On
set_option maxRecDepth 100000
open Go.ChangeShapes Go.WideShapes Go.RowKit
set_option linter.unusedVariables false

theorem u8info : (Tryd.prog.info? 5).map (fun i => (i.zero, i.size, i.bytes)) = some (some (.int .u8 0), 1, 1) := by kernel_rfl
def u8s (xs : List Int) : List Value := xs.map (Value.int .u8)
theorem u8s_len (xs : List Int) : (u8s xs).length = xs.length := by simp [u8s]
theorem u8s_one (xs : List Int) : ∀ v ∈ u8s xs, v.oneCell' = true := by
  intro v hv
  obtain ⟨x, _, rfl⟩ := List.mem_map.1 hv
  rfl
theorem u8s_get {xs : List Int} {i : Nat} (h : i < xs.length) : (u8s xs)[i]? = some (.int .u8 (xs.getD i 0)) := by
  simp [u8s, List.getD, h]
theorem u8s_app (xs ys : List Int) : u8s (xs ++ ys) = u8s xs ++ u8s ys := by simp [u8s]

theorem uw8 (x : Int) : IntKind.u8.wrap x = x % 256 := by simp [IntKind.wrap, IntKind.bits, IntKind.signed]

/-- bytes that may be turned, cell by cell -/
def Raw (w : World) (g n : Nat) (xs : List Int) : Prop := xs.length = n ∧ g < w.heap.size ∧ ∀ i, i < n → w.cell? ⟨g, i, none⟩ = some (.int .u8 (xs.getD i 0)) ∧ w.frozen? ⟨g, i, none⟩ = false
theorem Raw.put {w : World} {g n : Nat} {xs : List Int} (h : Raw w g n xs) {k : Nat} (hk : k < n) (c : Int) : Raw (w.setCell ⟨g, k, none⟩ (.int .u8 c)) g n (xs.set k c) := by
  obtain ⟨hl, hg, hc⟩ := h
  refine ⟨by simp [hl], by simpa [World.setCell] using hg, fun i hi => ?_⟩
  rw [World.frozen?_setCell]
  refine ⟨?_, (hc i hi).2⟩
  by_cases e : k = i
  · subst e
    rw [World.cell?_setCell_same _ _ _ (hc k hk).1]
    simp [List.getD, hl, hk]
  · rw [World.cell?_setCell_other _ _ _ _ (by intro h; injection h; omega), (hc i hi).1]
    simp [List.getD, e]
theorem Raw.below {w w' : World} {g n : Nat} {xs : List Int} (h : Raw w g n xs) (hb : Below w.heap.size w w') : Raw w' g n xs :=
  ⟨h.1, Nat.lt_of_lt_of_le h.2.1 hb.size, fun i hi => by
    rw [hb.cell (p := ⟨g, i, none⟩) h.2.1, hb.frozen (p := ⟨g, i, none⟩) h.2.1]
    exact h.2.2 i hi⟩

/-- []byte(s) -/
theorem bytes_any (xs : List Int) (hx : bytesOk xs) (w : World) :
    ∃ C w1, (Go.convert 9 22 (.string (strOfNums xs))).run Tryd.prog w = .ok (.slice (some ⟨w.heap.size, 0, none⟩) xs.length C) w1 ∧ Raw w1 w.heap.size xs.length xs ∧ Below w.heap.size w w1 ∧ w1.heap.size = w.heap.size + 1 := by
  have hr := run_bytes_of_string (P := Tryd.prog) w 9 22 5 (strOfNums xs) Tryd.underlying9 Tryd.underlying22 Tryd.underlying5
  rw [str_size] at hr
  refine ⟨_, _, hr, ⟨rfl, by simp, fun i hi => ?_⟩, ((Below.refl _ _).drew).alloc (Nat.le_refl _) _, by simp⟩
  have hb : (bytesRow (strOfNums xs) (grownCap w xs.length 0 5))[i]? = some (.int .u8 (xs.getD i 0)) := by
    unfold bytesRow strOfNums
    rw [Array.getElem?_append_left (by simpa using hi)]
    have := byte_back (hx.get i)
    simp [List.getD, hi] at this ⊢
    omega
  have hz : i < (bytesRow (strOfNums xs) (grownCap w xs.length 0 5)).size := (Array.getElem?_eq_some_iff.1 hb).1
  refine ⟨?_, ?_⟩
  · rw [← hb]
    exact World.cell?_alloc_mark w.drew _ _ _ i
  · have := World.frozen?_alloc_mark w.drew (bytesRow (strOfNums xs) (grownCap w xs.length 0 5)) 5 (bytesRow (strOfNums xs) (grownCap w xs.length 0 5)).size ((bytesRow (strOfNums xs) (grownCap w xs.length 0 5)).size + 1) i
    rw [show w.heap.size = w.drew.heap.size from rfl, this]
    simp
    omega
/-- string(b) -/
theorem Raw.str {w : World} {g n c : Nat} {xs : List Int} (h : Raw w g n xs) : (Go.convert 22 9 (.slice (some ⟨g, 0, none⟩) n c)).run Tryd.prog w = .ok (.string (strOfNums xs)) w :=
  run_convert_bytes_arg (P := Tryd.prog) w 22 5 Tryd.underlying22 Tryd.underlying5 g 0 n c xs h.1 (fun i hi => by rw [Nat.zero_add]; exact (h.2.2 i hi).1) 9 Tryd.underlying9
theorem Sz.str {w : World} {a : Option Addr} {n c : Nat} {xs : List Int} (h : Sz w 1 a n c (u8s xs)) : (Go.convert 22 9 (.slice a n c)).run Tryd.prog w = .ok (.string (strOfNums xs)) w := by
  have hl : xs.length = n := by have := h.len; rw [u8s_len] at this; omega
  by_cases hn : 0 < n
  · obtain ⟨b, o, rfl, hc⟩ := h.cells hn
    exact run_convert_bytes_arg (P := Tryd.prog) w 22 5 Tryd.underlying22 Tryd.underlying5 b o n c xs hl (fun i hi => hc i _ (u8s_get (by omega))) 9 Tryd.underlying9
  · have h0 : n = 0 := by omega
    subst h0
    obtain rfl : xs = [] := List.eq_nil_of_length_eq_zero hl
    rw [run_convert_bytes_string w 22 9 5 _ 0 c Tryd.underlying22 Tryd.underlying5 Tryd.underlying9]
    cases a <;> simp [Conv.bytesToString, loadCells, strOfNums]
    all_goals rfl

/-- the closure turns one byte -/
theorem turn_any (k : Nat) (xs : List Int) (S g n C B : Nat) (w : World) (hS : w.cell? ⟨S, 0, none⟩ = some (.slice (some ⟨g, 0, none⟩) n C)) (hR : Raw w g n (foldK xs k)) (hne : g ≠ S) (hk : k < n) (hn : n ≤ 1000) (hB : B ≤ g) (hx : bytesOk xs) (hl : xs.length = n) :
    Calls Tryd.prog 52 #[.int .i64 (k : Int), .pointer (some ⟨S, 0, none⟩)] w fun e w' => e = .returned (.tuple #[]) ∧ Raw w' g n (foldK xs (k + 1)) ∧ w'.cell? ⟨S, 0, none⟩ = some (.slice (some ⟨g, 0, none⟩) n C) ∧ Below B w w' := by
  have hkx : k < xs.length := by omega
  obtain ⟨c1, c2⟩ := hR.2.2 k hk
  rw [foldK_at hkx] at c1
  have hb := hx.get k
  by_cases hc : 97 ≤ xs.getD k 0 ∧ xs.getD k 0 ≤ 122
  · have hp := Lib.hid (hR.put hk (cap1 (xs.getD k 0)))
    rw [← foldK_next hkx, cap1_yes hc] at hp
    have hS2 : Hid ((w.setCell ⟨g, k, none⟩ (.int .u8 (xs.getD k 0 - 32))).cell? ⟨S, 0, none⟩ = some (.slice (some ⟨g, 0, none⟩) n C)) := by
      show _ = _
      rw [World.cell?_setCell_other _ _ _ _ (by intro h; injection h; omega)]
      exact hS
    have hB' := Lib.hid ((Below.refl B w).setCell (p := ⟨g, k, none⟩) hB (.int .u8 (xs.getD k 0 - 32)))
    obtain ⟨hc1, hc2⟩ := hc
    clear hR hkx
    generalize xs.getD k 0 = x at *
    have e1 : IntKind.u8.wrap (x - 97) = x - 97 := by rw [uw8]; omega
    have e2 : x - 97 + 65 = x - 32 := by omega
    have e3 : IntKind.u8.wrap (x - 97 + 65) = x - 32 := by rw [uw8]; omega
    go_enter Tryd.func52, Tryd.ntmps52
    go_wp2
    go_end0
    exact ⟨rfl, hp.out, hS2.out, hB'.out⟩
  · have hp := Lib.hid hR
    rw [← foldK_same hkx (cap1_no hc)] at hp
    have hS2 := Lib.hid hS
    clear hR hkx
    generalize xs.getD k 0 = x at *
    by_cases hc1 : 97 ≤ x
    · have hc2 : ¬ x ≤ 122 := by omega
      clear hc
      go_enter Tryd.func52, Tryd.ntmps52
      go_wp2
      go_end0
      exact ⟨rfl, hp.out, hS2.out, Below.refl _ _⟩
    · clear hc
      go_enter Tryd.func52, Tryd.ntmps52
      go_wp2
      go_end0
      exact ⟨rfl, hp.out, hS2.out, Below.refl _ _⟩
end Go.Proofs.YtcjbfokindoicaaDoor.On
