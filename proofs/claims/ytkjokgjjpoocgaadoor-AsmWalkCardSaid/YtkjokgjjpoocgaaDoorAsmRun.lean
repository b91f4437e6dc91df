/- What comes of cells emitted one behind the other. -/
import Derived.Test.YtkjokgjjpoocgaaDoorAsmVar
namespace Go.Proofs.YtkjokgjjpoocgaaDoor
set_option maxRecDepth 100000
open Go.ChangeShapes Go.WideShapes Go.ChangeAt Go.RowKit
open On (St Hs StIs cst Fl one C64 C8 Sc slc spc Oz Sz)
set_option linter.unusedVariables false
set_option maxRecDepth 100000

theorem sumN_same {xs ys : List Int} {q : Nat} : ∀ n : Nat, (∀ k, k < n → xs.getD (q + k) 0 = ys.getD (q + k) 0) → Me.sumN xs q n = Me.sumN ys q n
  | 0, _ => rfl
  | n + 1, h => by
    simp only [Me.sumN]
    rw [sumN_same n (fun k hk => h k (by omega)), h n (by omega)]
theorem cellI_put_other (xs : List Int) (p q : Nat) (v : Int) (hp : p + 8 ≤ xs.length) (hq : q + 8 ≤ p) : Me.cellI (Me.putN xs p v 8) q = Me.cellI xs q := by
  unfold Me.cellI
  rw [sumN_same (xs := Me.putN xs p v 8) (ys := xs) (q := q) 8 (fun k hk => by rw [Me.putN_get xs p v (q + k) (by omega) 8, if_neg (by omega)])]
/-- the spots of so many cells from p on -/
def sps (p t : Int) : Nat → List (Int × Int)
  | 0 => []
  | n + 1 => (p, t) :: sps (p + 8) t n
theorem sps_len (t : Int) : ∀ (n : Nat) (p : Int), (sps p t n).length = n
  | 0, _ => rfl
  | n + 1, p => by simp [sps, sps_len t n]
theorem sps_get (t : Int) : ∀ (n : Nat) (p : Int) (i : Nat), i < n → (sps p t n).getD i default = (p + 8 * (i : Int), t)
  | 0, _, _, h => by omega
  | n + 1, p, 0, _ => by simp [sps]
  | n + 1, p, i + 1, h => by
    have := sps_get t n (p + 8) i (by omega)
    simp only [sps, List.getD_cons_succ]
    rw [this]
    congr 1
    omega
theorem keepS_all {h : Int} {l : List (Int × Int)} (hl : ∀ x ∈ l, x.1 < h) : keepS h l = l := by
  unfold keepS
  exact List.filter_eq_self.2 fun x hx => by simpa using hl x hx
/-- what a run of cells leaves behind -/
structure Run (s S : St) (P : Nat) (vs : List Int) : Prop where
  rest : S = { s with mem := S.mem, spots := S.spots, here := S.here }
  here : S.here = ((P + 8 * vs.length : Nat) : Int)
  tok : S.tok = s.tok
  len : S.mem.length = s.mem.length
  spots : S.spots = s.spots ++ sps P s.tok vs.length
  old : ∀ q, q + 8 ≤ P → Me.cellI S.mem q = Me.cellI s.mem q
  new : ∀ i, i < vs.length → Me.cellI S.mem (P + 8 * i) = vs.getD i 0
theorem emit_run : ∀ (vs : List Int) (s : St) (P : Nat), s.here = (P : Int) → P % 8 = 0 → P + 8 * vs.length ≤ s.mem.length → (∀ x ∈ s.spots, x.1 < (P : Int)) → (∀ z ∈ vs, C64 z) →
    ∃ S, emitC s vs = (0, S) ∧ Run s S P vs
  | [], s, P, hh, _, _, _, _ => ⟨s, rfl, rfl, by simpa using hh, rfl, rfl, by simp [sps], fun _ _ => rfl, fun i hi => by simp at hi⟩
  | v :: vs, s, P, hh, h8, hl, hs, hv => by
    simp only [List.length_cons] at hl
    have ht : comT s = 0 := by
      unfold comT
      rw [hh, if_neg (by omega)]
      exact Me.tC_ok (by omega) (by omega)
    have hm : (emiS s v).mem = Me.putN s.mem P v 8 := by
      show Me.setC s.mem s.here v = _
      unfold Me.setC
      rw [hh, if_pos (Me.tC_ok (by omega) (by omega))]
      rfl
    have hsp : (emiS s v).spots = s.spots ++ [((P : Int), s.tok)] := by
      show keepS s.here s.spots ++ [(s.here, s.tok)] = _
      rw [hh, keepS_all hs]
    have hml : (emiS s v).mem.length = s.mem.length := by rw [hm, Me.putN_len]
    obtain ⟨S, h1, h2⟩ := emit_run vs (emiS s v) (P + 8) (by show s.here + 8 = _; rw [hh]; omega) (by omega) (by rw [hml]; omega) (fun x hx => by
      rw [hsp] at hx
      rcases List.mem_append.1 hx with h | h
      · have := hs x h; omega
      · obtain rfl := List.mem_singleton.1 h
        dsimp only
        omega) (fun z hz => hv z (List.mem_cons_of_mem _ hz))
    refine ⟨S, by rw [emitC, if_neg (by simpa using ht)]; exact h1, h2.rest, ?_, h2.tok, h2.len.trans hml, ?_, fun q hq => ?_, fun i hi => ?_⟩
    · rw [h2.here]; simp only [List.length_cons]; omega
    · rw [h2.spots, hsp, List.length_cons, sps, List.append_assoc]
      rfl
    · rw [h2.old q (by omega), hm, cellI_put_other _ _ _ _ (by omega) hq]
    · cases i with
      | zero =>
        rw [Nat.mul_zero, Nat.add_zero, h2.old P (by omega), hm, Me.cell_put _ _ _ (by omega) (hv v (List.mem_cons_self ..))]
        rfl
      | succ i =>
        simp only [List.length_cons] at hi
        have := h2.new i (by omega)
        rw [show P + 8 * (i + 1) = P + 8 + 8 * i by omega, this]
        rfl
theorem emitC_app : ∀ (a b : List Int) (s : St), (emitC s a).1 = 0 → emitC s (a ++ b) = emitC (emitC s a).2 b
  | [], b, s, _ => rfl
  | v :: a, b, s, h => by
    rw [List.cons_append, emitC, emitC]
    rw [emitC] at h
    split
    · rename_i ht
      rw [if_pos ht] at h
      exact absurd h ht
    · rename_i ht
      rw [if_neg ht] at h
      exact emitC_app a b _ h
/-- memory of so many bytes, all 0, with here and tok -/
def fresh (n : Nat) (he tk : Int) : St := { On.St.zero with mem := List.replicate n 0, here := he, tok := tk }
/-- Emit of a state that is spelt out -/
theorem em_lit (V : World) (x y : Sc) (n : Nat) (he tk : Int) (vs : List Int) (hx : Fl (one .u8) 1 V x (List.replicate n 0)) (hn : n ≤ 600) (h1 : C64 he) (h2 : C64 tk) (hy : Fl (one .i64) 1 V y vs) (hv : ∀ z ∈ vs, C64 z) (hl : vs.length ≤ 1000) :
    Calls Tryd.prog 12 #[.agg #[.slice x.a x.n x.c, .slice none 0 0, .slice none 0 0, .slice none 0 0, .slice none 0 0, .slice none 0 0, .slice none 0 0, .int .i64 0, .int .i64 he, .int .i64 0, .int .i64 tk, .int .i64 0, .int .i64 0, .bool false, .bool false], .slice y.a y.n y.c] V fun e V' => ∃ Z, e = .returned (.tuple #[.agg Z, .int .i64 (emitC (fresh n he tk) vs).1]) ∧ Hid (Zis V' Z (emitC (fresh n he tk) vs).2) ∧ Below V.heap.size V V' :=
  (emit_any _ (fresh n he tk) y vs V (aw_st V n x hx he tk) (aw_ok n he tk h1 h2) (by show (List.replicate n (0 : Int)).length ≤ 600; simpa using hn) (Nat.zero_le _) hy hv hl).mono fun e V' hh => zis_of hh
end Go.Proofs.YtkjokgjjpoocgaaDoor
