/- Do. -/
import Derived.Test.YtobijdfnafnodaaGreatDoorAluDo
import Derived.RegionTactic
namespace Go.Proofs.YtobijdfnafnodaaGreatDoor
set_option maxRecDepth 100000
open Go.ChangeShapes Go.WideShapes Go.ChangeAt Go.RowKit
open Sk (Sl ints Own)
open On (bytesOk Laid nm)
set_option linter.unusedVariables false

def DoEnd (w : World) (r : List Int × Int × Bool) (e : Ending) (w' : World) : Prop := ∃ a n c, e = .returned (.tuple #[.slice a n c, .int .i64 r.2.1, .bool r.2.2]) ∧ Sl w' a n c (ints r.1) ∧ Below w.heap.size w w'
def doR (o : Option Phi) (xs : List Int) (d : Int) : List Int × Int × Bool := match o with
  | none => ([], 0, false)
  | some φ => match φ xs with
    | .error t => ([], t, true)
    | .ok (b, l) => (Sk.pushX b l d, Sk.tPush b.length l.length d, true)
def Small (φ : Phi) : Prop := ∀ xs b l, φ xs = .ok (b, l) → b.length ≤ xs.length ∧ l.length ≤ 10

/-- a variable of the call's own, in a later world -/
theorem own_cell {w w2 : World} {v : Value} {T : TypeId} (h : Below (w.heap.size + 1) (w.alloc (.cells #[v] T)) w2) : w2.cell? ⟨w.heap.size, 0, none⟩ = some v ∧ w2.frozen? ⟨w.heap.size, 0, none⟩ = false ∧ Below w.heap.size w w2 := by
  have hb : w2.heap[w.heap.size]? = some (.cells #[v] T) := (h.block _ (Nat.lt_succ_self _)).trans (heap_alloc_new w _)
  refine ⟨?_, ?_, ((Below.refl w.heap.size w).alloc (Nat.le_refl _) _).trans (h.mono (Nat.le_succ _))⟩
  · unfold World.cell?
    rw [hb]
    rfl
  · unfold World.frozen?
    rw [hb]
    simp

theorem setCell_self {w : World} {p : Addr} {v : Value} (h : w.cell? p = some v) : w.setCell p v = w := by
  obtain ⟨heap, tape, drawn, os, output⟩ := w
  unfold World.setCell
  have e : heap.modify p.block (fun
      | .cells c elem frozen => .cells (if p.spot.isSome then c else c.setIfInBounds p.off v) elem frozen
      | o => o) = heap := by
    apply Array.ext_getElem?
    intro i
    rw [Array.getElem?_modify]
    split
    · rename_i hi
      subst hi
      unfold World.cell? at h
      simp only at h
      cases hk : heap[p.block]? with
      | none => rfl
      | some o =>
        rw [hk] at h
        cases o with
        | cells c e z =>
          simp only at h
          simp only [Option.map_some]
          split at h
          · cases h
          · rename_i hs
            rw [if_neg hs]
            congr 2
            apply Array.ext_getElem?
            intro j
            rw [Array.getElem?_setIfInBounds]
            split
            · rename_i hj
              subst hj
              split
              · exact h.symm
              · rename_i hlt
                rw [Array.getElem?_eq_none (by omega)]
            · rfl
        | _ => rfl
    · rfl
  exact congrArg (fun h => ({ heap := h, tape := tape, drawn := drawn, os := os, output := output } : World)) e

theorem do_none (op : Int) (a : Option Addr) (n c : Nat) (xs : List Int) (d : Int) (w : World) (hL : Laid w) (ho : I64 op) (h : lkA (nm op) = none) :
    Calls Tryz.prog 9 #[.int .i64 op, .slice a n c, .int .i64 d] w (DoEnd w ([], 0, false)) := by
  have hmf := Sk.mkf
  have b1 := boxed w (.int .i64 0) 3
  have hN := Lib.hid (On.name_any op _ (hL.alloc (.cells #[.int .i64 0] 3)) ho)
  have hF := Lib.hid (find_any (nm op) (w.alloc (.cells #[.int .i64 0] 3)) (On.nm_ok op))
  rw [h] at hF
  have hO := Lib.hid (fun (w2 : World) (h : Below (w.heap.size + 1) (w.alloc (.cells #[.int .i64 0] 3)) w2) => own_cell h)
  clear b1 hL h
  go_enter_defers Tryz.func9, Tryz.ntmps9
  go_wp2_with (first | (go_at_call 12; (with_reducible refine hN.out.mono ?_); rintro e w1 ⟨rfl, rfl⟩) | (go_at_call 18; (with_reducible refine hF.out.mono ?_); rintro e w2 ⟨rfl, hb2⟩; simp only [World.size_alloc] at hb2; obtain ⟨o1, o2, o3⟩ := hO.out _ hb2; replace hb2 := Lib.hid hb2))
  refine ⟨.tuple #[.slice none 0 0, .int .i64 0, .bool false], by simp [results, Tryz.results9, go_sem, o1], none, 0, 0, rfl, Sk.Sl.zero _, o3.setCell (Nat.le_refl _) _⟩

theorem do_err (op : Int) (a : Option Addr) (n c : Nat) (xs : List Int) (d t : Int) (φ : Phi) (w : World) (hL : Laid w) (ho : I64 op) (hS : Sl w a n c (ints xs)) (hn : n ≤ 1000000) (hI : I64s xs) (h : lkA (nm op) = some φ) (he : φ xs = .error t) :
    Calls Tryz.prog 9 #[.int .i64 op, .slice a n c, .int .i64 d] w (DoEnd w ([], t, true)) := by
  have hmf := Sk.mkf
  have hN := Lib.hid (On.name_any op _ (hL.alloc (.cells #[.int .i64 0] 3)) ho)
  have hF := Lib.hid (find_any (nm op) (w.alloc (.cells #[.int .i64 0] 3)) (On.nm_ok op))
  rw [h] at hF
  have hO := Lib.hid (fun (w2 : World) (h : Below (w.heap.size + 1) (w.alloc (.cells #[.int .i64 0] 3)) w2) => own_cell h)
  have hgo := Lib.hid (fun (w2 : World) (F : Value) (hW : WordIs w2 F φ) (hb : Below w.heap.size w w2) => show ∃ k cap, F = .func (.func k) #[] cap ∧ Ent k ∧ Calls Tryz.prog k (#[.slice a n c] ++ cap) w2 (WordEnd w2 (.error t)) from by
    obtain ⟨k, cap, e, hE, hC⟩ := hW
    have := hC w2 (Keep.refl _) a n c xs (hS.below hb) hn hI
    rw [he] at this
    exact ⟨k, cap, e, hE, this⟩)
  clear hL h he hS hI
  go_enter_defers Tryz.func9, Tryz.ntmps9
  go_wp2_with (first | (go_at_call 12; (with_reducible refine hN.out.mono ?_); rintro e w1 ⟨rfl, rfl⟩) | (go_at_call 18; (with_reducible refine hF.out.mono ?_); rintro e w2 ⟨F, rfl, hW, hb2⟩; simp only [World.size_alloc] at hb2; obtain ⟨k, cap, rfl, hE, hC⟩ := hgo.out _ _ hW (hO.out _ hb2).2.2; replace hE : ∀ (args : Array Value) (w : World), (callFunc k args).run Tryz.prog w = .ok (.enter k args) w := hE; clear hW; replace hC := Lib.hid hC; replace hb2 := Lib.hid hb2) | ((with_reducible refine hC.out.mono ?_); rintro e w3 ⟨rfl, hb3⟩))
  have hb4 := hb2.out.trans (hb3.mono (by have := hb2.out.size; simp at this; exact this))
  obtain ⟨o1, o2, o3⟩ := hO.out _ hb4
  refine leaves_cons (f := 19) (args := #[.pointer (some ⟨w.heap.size, 0, none⟩)]) (by simp) (by simp [go_sem]) ?_
  refine (catch_panicking ⟨w.heap.size, 0, none⟩ t 0 [] _ o1 o2).mono ?_
  rintro e u' w'' ⟨rfl, rfl, rfl⟩
  refine ⟨.tuple #[.slice none 0 0, .int .i64 t, .bool true], by simp [results, Tryz.results9, go_sem, o1], none, 0, 0, rfl, Sk.Sl.zero _, o3.setCell (Nat.le_refl _) _⟩

theorem do_ok (op : Int) (a : Option Addr) (n c : Nat) (xs : List Int) (d : Int) (φ : Phi) (b l : List Int) (w : World) (hL : Laid w) (ho : I64 op) (hS : Sl w a n c (ints xs)) (hn : n ≤ 1000000) (hI : I64s xs) (hd : I64 d) (h : lkA (nm op) = some φ) (he : φ xs = .ok (b, l)) (hbl : b.length ≤ 1000000 ∧ l.length ≤ 10) :
    Calls Tryz.prog 9 #[.int .i64 op, .slice a n c, .int .i64 d] w (DoEnd w (Sk.pushX b l d, Sk.tPush b.length l.length d, true)) := by
  have hmf := Sk.mkf
  have hN := Lib.hid (On.name_any op _ (hL.alloc (.cells #[.int .i64 0] 3)) ho)
  have hF := Lib.hid (find_any (nm op) (w.alloc (.cells #[.int .i64 0] 3)) (On.nm_ok op))
  rw [h] at hF
  have hO := Lib.hid (fun (w2 : World) (h : Below (w.heap.size + 1) (w.alloc (.cells #[.int .i64 0] 3)) w2) => own_cell h)
  have hgo := Lib.hid (fun (w2 : World) (F : Value) (hW : WordIs w2 F φ) (hb : Below w.heap.size w w2) => show ∃ k cap, F = .func (.func k) #[] cap ∧ Ent k ∧ Calls Tryz.prog k (#[.slice a n c] ++ cap) w2 (WordEnd w2 (.ok (b, l))) from by
    obtain ⟨k, cap, e, hE, hC⟩ := hW
    have := hC w2 (Keep.refl _) a n c xs (hS.below hb) hn hI
    rw [he] at this
    exact ⟨k, cap, e, hE, this⟩)
  have hpu := Lib.hid (fun (w3 : World) a1 n1 c1 a2 n2 c2 (h1 : Sl w3 a1 n1 c1 (ints b)) (h2 : Sl w3 a2 n2 c2 (ints l)) => show Calls Tryz.prog 20 #[.slice a1 n1 c1, .int .i64 d, .slice a2 n2 c2] w3 (fun e w' => Sk.Told w3 w' e (Sk.pushX b l d) (Sk.tPush b.length l.length d)) from by
    have e1 := h1.nums
    have e2 := h2.nums
    subst e1
    subst e2
    exact Sk.push_any a1 a2 b.length c1 l.length c2 b l d w3 h1 h2 (by omega) hd)
  have hz : Sk.tPush b.length l.length d = 0 ∨ Sk.pushX b l d = [] := by
    by_cases hq : Sk.tPush b.length l.length d = 0
    · exact .inl hq
    · exact .inr (by unfold Sk.pushX; rw [if_neg hq])
  clear hL h he hS hI hd
  generalize Sk.pushX b l d = P at *
  generalize Sk.tPush b.length l.length d = t at *
  go_enter_defers Tryz.func9, Tryz.ntmps9
  go_wp2_with (first | (go_at_call 12; (with_reducible refine hN.out.mono ?_); rintro e w1 ⟨rfl, rfl⟩) | (go_at_call 18; (with_reducible refine hF.out.mono ?_); rintro e w2 ⟨F, rfl, hW, hb2⟩; simp only [World.size_alloc] at hb2; obtain ⟨k, cap, rfl, hE, hC⟩ := hgo.out _ _ hW (hO.out _ hb2).2.2; replace hE : ∀ (args : Array Value) (w : World), (callFunc k args).run Tryz.prog w = .ok (.enter k args) w := hE; clear hW; replace hC := Lib.hid hC; replace hb2 := Lib.hid hb2) | (go_at_call 20; (with_reducible refine hP.out.mono ?_); rintro e w4 ⟨a4, c4, rfl, hs4, hb4⟩; have hb5 := hb3.out.trans (hb4.mono (by have := hb3.out.size; simp at this; exact this)); obtain ⟨o1, o2, o3⟩ := hO.out _ hb5; clear hb5; replace hs4 := Lib.hid hs4; replace hb4 := Lib.hid hb4) | ((with_reducible refine hC.out.mono ?_); rintro e w3 ⟨a1, n1, c1, a2, n2, c2, rfl, hs1, hs2, hb3⟩; have hP := Lib.hid (hpu.out _ _ _ _ _ _ _ hs1 hs2); replace hb3 := Lib.hid (hb2.out.trans (hb3.mono (by have := hb2.out.size; simp at this; exact this))); clear hs1 hs2))
  have hw5 : (w4.setCell ⟨w.heap.size, 0, none⟩ (.int .i64 t)).cell? ⟨w.heap.size, 0, none⟩ = some (.int .i64 t) ∧ (w4.setCell ⟨w.heap.size, 0, none⟩ (.int .i64 t)).frozen? ⟨w.heap.size, 0, none⟩ = false ∧ Below w.heap.size w (w4.setCell ⟨w.heap.size, 0, none⟩ (.int .i64 t)) ∧ Sl (w4.setCell ⟨w.heap.size, 0, none⟩ (.int .i64 t)) a4 P.length c4 (ints P) := by
    refine ⟨World.cell?_setCell_same _ _ _ o1, by rw [World.frozen?_setCell]; exact o2, o3.setCell (Nat.le_refl _) _, ?_⟩
    rcases hz with hz | hz
    · subst hz
      rw [setCell_self o1]
      exact hs4.out
    · subst hz
      exact ⟨rfl, Nat.zero_le _, hs4.out.big, hs4.out.isnil, fun h => absurd h (Nat.lt_irrefl _)⟩
  generalize w4.setCell ⟨w.heap.size, 0, none⟩ (.int .i64 t) = w5 at *
  obtain ⟨q1, q2, q3, q4⟩ := hw5
  replace q3 := Lib.hid q3
  replace q4 := Lib.hid q4
  have qs := Lib.hid (setCell_self q1)
  clear o1 o2 o3 hs4 hb4
  go_region
  all_goals
    go_wp2
    refine leaves_cons (f := 19) (args := #[.pointer (some ⟨w.heap.size, 0, none⟩)]) (by simp) (by simp [go_sem]) ?_
    refine (catch_idle ⟨w.heap.size, 0, none⟩ _).mono ?_
    rintro e u' w'' ⟨rfl, rfl, rfl⟩
    rw [qs.out]
    have hdr : Below w5.heap.size w5 w5.drew := (Below.refl _ _).drew
    refine ⟨.tuple #[.slice a4 P.length c4, .int .i64 t, .bool true], by simp [results, Tryz.results9, go_sem, q1], a4, _, c4, rfl, q4.out.below hdr, q3.out.trans (hdr.mono q3.out.size)⟩

theorem do_any (op : Int) (a : Option Addr) (n c : Nat) (xs : List Int) (d : Int) (w : World) (hL : Laid w) (ho : I64 op) (hS : Sl w a n c (ints xs)) (hn : n ≤ 999999) (hI : I64s xs) (hd : I64 d) (hs : ∀ φ, lkA (nm op) = some φ → Small φ) :
    Calls Tryz.prog 9 #[.int .i64 op, .slice a n c, .int .i64 d] w (DoEnd w (doR (lkA (nm op)) xs d)) := by
  have hl := hS.nums
  cases h : lkA (nm op) with
  | none => exact do_none op a n c xs d w hL ho h
  | some φ =>
    cases he : φ xs with
    | error t =>
      have e : doR (some φ) xs d = ([], t, true) := by simp only [doR, he]
      rw [e]
      exact do_err op a n c xs d t φ w hL ho hS (by omega) hI h he
    | ok r =>
      obtain ⟨b, l⟩ := r
      have e : doR (some φ) xs d = (Sk.pushX b l d, Sk.tPush b.length l.length d, true) := by simp only [doR, he]
      rw [e]
      have := hs φ h xs b l he
      exact do_ok op a n c xs d φ b l w hL ho hS (by omega) hI hd h he (by omega)
end Go.Proofs.YtobijdfnafnodaaGreatDoor
