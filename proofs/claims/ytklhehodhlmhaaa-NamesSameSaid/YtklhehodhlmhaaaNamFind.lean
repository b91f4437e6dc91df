/- Contracts of means and Find, of the document's Find and Few. -/
import Derived.Test.YtklhehodhlmhaaaNamFold
namespace Go.Proofs.Ytklhehodhlmhaaa
open Go.ChangeShapes Go.WideShapes Go.RowKit
set_option linter.unusedVariables false

def wcells (ws : List Wd) : List Value := ws.flatMap Wd.cells
theorem wcells_len (ws : List Wd) : (wcells ws).length = ws.length * 4 := by
  induction ws with
  | nil => rfl
  | cons x ws ih =>
    have e : wcells (x :: ws) = x.cells ++ wcells ws := rfl
    rw [e, List.length_append, ih, List.length_cons]
    simp only [Wd.cells, List.length_cons, List.length_nil]
    omega
theorem wcells_app (ws vs : List Wd) : wcells (ws ++ vs) = wcells ws ++ wcells vs := by simp [wcells]
theorem wcells_take : ∀ (ws : List Wd) (k : Nat), (wcells ws).take (k * 4) = wcells (ws.take k)
  | _, 0 => by simp [wcells]
  | [], k + 1 => by simp [wcells]
  | x :: ws, k + 1 => by
    have := wcells_take ws k
    have e : (k + 1) * 4 = k * 4 + 1 + 1 + 1 + 1 := by omega
    simp only [wcells, List.flatMap_cons, List.take_succ_cons] at this ⊢
    rw [e]
    simp [Wd.cells, this]
theorem wcells_drop : ∀ (ws : List Wd) (k : Nat), (wcells ws).drop (k * 4) = wcells (ws.drop k)
  | _, 0 => by simp [wcells]
  | [], k + 1 => by simp [wcells]
  | x :: ws, k + 1 => by
    have := wcells_drop ws k
    have e : (k + 1) * 4 = k * 4 + 1 + 1 + 1 + 1 := by omega
    simp only [wcells, List.flatMap_cons, List.drop_succ_cons] at this ⊢
    rw [e]
    simp [Wd.cells, this]
theorem wcells_at {ws : List Wd} {i : Nat} (h : i < ws.length) : ((wcells ws).drop (i * 4)).take 4 = (ws.getD i default).cells := by
  have e : ws.getD i default = ws[i] := by simp [List.getD, h]
  rw [wcells_drop, List.drop_eq_getElem_cons h, e]
  rfl
theorem wcells_one (ws : List Wd) : ∀ v ∈ wcells ws, v.oneCell' = true := by
  intro v hv
  obtain ⟨x, _, hx⟩ := List.mem_flatMap.1 hv
  simp only [Wd.cells, List.mem_cons, List.not_mem_nil, or_false] at hx
  rcases hx with rfl | rfl | rfl | rfl <;> rfl

/-- the slice reads as these words -/
def Ws (w : World) (a : Option Addr) (n c : Nat) (ws : List Wd) : Prop := Sz w 4 a n c (wcells ws)
theorem Ws.len {w : World} {a : Option Addr} {n c : Nat} {ws : List Wd} (h : Ws w a n c ws) : ws.length = n := by
  have := Sz.len h
  rw [wcells_len] at this
  omega
theorem Ws.below {w w' : World} {a : Option Addr} {n c : Nat} {ws : List Wd} (h : Ws w a n c ws) (hb : Below w.heap.size w w') : Ws w' a n c ws := Sz.below h hb
theorem Ws.at {w : World} {a : Option Addr} {n c : Nat} {ws : List Wd} (h : Ws w a n c ws) {i : Nat} (hi : i < n) : ∃ b o, a = some ⟨b, o, none⟩ ∧ w.rangeAt b (o + i * 4) (ws.getD i default).cells := by
  obtain ⟨b, o, ha, hr⟩ := Sz.at h hi
  rw [wcells_at (by rw [h.len]; exact hi)] at hr
  exact ⟨b, o, ha, hr⟩
theorem wdinfo : (Try.prog.info? 31).map (·.size) = some 4 := by kernel_rfl
theorem wdsize (w : World) : (Go.sizeOf 31).run Try.prog w = .ok 4 w := by kernel_rfl
/-- a word, loaded whole -/
theorem load_word {w : World} {b o : Nat} {x : Wd} (h : w.rangeAt b o x.cells) : (Instr.loadAt 31 (.pointer (some ⟨b, o, none⟩))).run Try.prog w = .ok (.agg #[.string (strOfNums x.nm), .int .i64 x.code, .bool x.now, .bool x.hid]) w :=
  run_loadAt_mid w b o 31 x.cells _ h Try.underlying31 rfl wdinfo
theorem word_cells {w : World} {b o : Nat} {x : Wd} (h : w.rangeAt b o x.cells) : w.cell? ⟨b, o, none⟩ = some (.string (strOfNums x.nm)) ∧ w.cell? ⟨b, o + 1, none⟩ = some (.int .i64 x.code) ∧ w.cell? ⟨b, o + 2, none⟩ = some (.bool x.now) ∧ w.cell? ⟨b, o + 3, none⟩ = some (.bool x.hid) := ⟨h 0 _ rfl, h 1 _ rfl, h 2 _ rfl, h 3 _ rfl⟩

theorem means_any (f : List Int) (x : Wd) (w : World) (hx : x.ok 1000) (hf : bytesOk f) :
    Calls Try.prog 18 #[.string (strOfNums f), .agg #[.string (strOfNums x.nm), .int .i64 x.code, .bool x.now, .bool x.hid]] w fun e w' => e = .returned (.bool (hit x f)) ∧ Below w.heap.size w w' := by
  obtain ⟨xs, cd, nw, hd⟩ := x
  cases hd with
  | true =>
    go_enter Try.func18, Try.ntmps18
    go_wp2
    go_ret
    exact ⟨rfl, (Below.refl _ _).alloc (Nat.le_refl _) _⟩
  | false =>
    obtain ⟨h1, h2⟩ := hx
    have hE := str_beq (fold_ok h1) hf
    have e : Hid (hit ⟨xs, cd, nw, false⟩ f = decide (fold xs = f)) := Lib.hid (by simp [hit])
    have hC := Lib.hid (fun W => fold_any xs W h1 h2)
    have hb0 := Lib.hid ((Below.refl w.heap.size w).alloc (Nat.le_refl _) (.cells #[.string (strOfNums xs), .int .i64 cd, .bool nw, .bool false] 31))
    dsimp only
    clear h1 h2
    generalize strOfNums (fold xs) = z at *
    generalize strOfNums xs = s at *
    generalize strOfNums f = t at *
    go_enter Try.func18, Try.ntmps18
    go_wp2_with (go_at_call 9; (with_reducible refine (hC.out _).mono ?_); rintro e w1 ⟨rfl, hb1⟩; replace hb1 := Lib.hid (hb0.out.trans (hb1.mono hb0.out.size)))
    go_ret
    rw [e.out]
    exact ⟨rfl, hb1.out⟩

theorem find_any (a : Option Addr) (n c : Nat) (ws : List Wd) (nm : List Int) (w : World) (h : Ws w a n c ws) (hw : ∀ x ∈ ws, x.ok 1000) (hn : n ≤ 1000) (hx : bytesOk nm) (hl : nm.length ≤ 1000) :
    Calls Try.prog 14 #[.slice a n c, .string (strOfNums nm)] w fun e w' => e = .returned (.int .i64 (fnd ws nm)) ∧ Below w.heap.size w w' := by
  have hmf := mkf
  have hb := Sz.bd h
  have hF := Lib.hid (fold_any nm w hx hl)
  have hlen := Lib.hid h.len
  have hh := Lib.hid h
  have hM := Lib.hid (fun x W hx' => means_any (fold nm) x W hx' (fold_ok hx))
  have hww := Lib.hid hw
  have e0 : Hid (fnd ws nm = fndK ws (fold nm) n) := Lib.hid (by rw [← h.len]; rfl)
  generalize strOfNums (fold nm) = z at *
  generalize fold nm = f at *
  generalize strOfNums nm = s at *
  clear h hw hx hl
  go_enter Try.func14, Try.ntmps14
  go_wp2_with (go_at_call 9; (with_reducible refine hF.out.mono ?_); rintro e w1 ⟨rfl, hb1⟩; replace hb1 := Lib.hid hb1)
  go_loopw [6] (fun i wr => ∃ k : Nat, k ≤ n ∧ i = .int .i64 ((k : Int) - 1) ∧ Hid (fnd ws nm = fndK ws f k) ∧ Hid (Below w.heap.size w wr)) (fun i _ => (intOf i + 1).toNat)
  case atStart => exact ⟨n, Nat.le_refl _, rfl, e0, hb1⟩
  case round =>
    obtain ⟨k, hk, rfl, e1, hB⟩ := hrel
    rcases k with _ | j
    · go_wp2
      go_ret
      rw [e1.out]
      exact ⟨rfl, hB.out⟩
    · rw [show ((j + 1 : Nat) : Int) - 1 = (j : Int) by omega]
      obtain ⟨b, o, rfl, hr⟩ := (hh.out.below hB.out).at (i := j) (by omega)
      have hok : (ws.getD j default).ok 1000 := hww.out _ (by have := hlen.out; simp [List.getD, show j < ws.length by omega])
      have hM1 := Lib.hid (fun W => hM.out _ W hok)
      obtain ⟨q0, q1, q2, q3⟩ := word_cells hr
      by_cases hhit : hit (ws.getD j default) f = true
      · have e2 := Lib.hid (e1.out.trans (fndK_yes hhit))
        rw [hhit] at hM1
        clear hok hr hhit
        generalize ws.getD j default = x at *
        go_wp2_with (go_at_call 18; (with_reducible refine (hM1.out _).mono ?_); rintro e w2 ⟨rfl, hb2⟩; replace hb2 := Lib.hid (hB.out.trans (hb2.mono hB.out.size)))
        go_ret
        rw [e2.out]
        exact ⟨rfl, hb2.out⟩
      · have hno : hit (ws.getD j default) f = false := by simpa using hhit
        have e2 := Lib.hid (e1.out.trans (fndK_no hno))
        rw [hno] at hM1
        clear hok hr hhit hno
        generalize ws.getD j default = x at *
        go_wp2_with (go_at_call 18; (with_reducible refine (hM1.out _).mono ?_); rintro e w2 ⟨rfl, hb2⟩; replace hb2 := Lib.hid (hB.out.trans (hb2.mono hB.out.size)))
        exact ⟨⟨j, by omega, rfl, e2, hb2⟩, by simp only [intOf]; omega⟩
end Go.Proofs.Ytklhehodhlmhaaa
