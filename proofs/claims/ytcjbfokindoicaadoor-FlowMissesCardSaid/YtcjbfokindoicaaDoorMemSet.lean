/- Contracts of memory.with, SetCell, SetByte, Bytes. -/
import Derived.Test.YtcjbfokindoicaaDoorMemNew
namespace Go.Proofs.YtcjbfokindoicaaDoor.Me
set_option maxRecDepth 100000
open Go.ChangeShapes Go.WideShapes Go.ChangeAt Go.RowKit
set_option linter.unusedVariables false

theorem uw8 (x : Int) : IntKind.u8.wrap x = x % 256 := by simp [IntKind.wrap, IntKind.bits, IntKind.signed]
theorem byteA_sh (v : Int) (k : Nat) : IntKind.u8.wrap (v / 2 ^ (8 * k)) = byteA v k := by
  rw [uw8]
  unfold byteA
  rw [Int.pow_mul]
  rfl

theorem with_any (a : Option Addr) (n c : Nat) (xs : List Int) (p m : Nat) (v : Int) (w : World) (h : Mem w a n c xs) (hn : n ≤ 281474976710656) (hm : m ≤ 8) (hp : p + m ≤ n) (hv : -9223372036854775808 ≤ v ∧ v ≤ 9223372036854775807) :
    Calls Tryd.prog 69 #[.slice a n c, .int .i64 (p : Int), .int .i64 (m : Int), .int .i64 v] w fun e w' => ∃ g, e = .returned (.slice (some ⟨g, 0, none⟩) n n) ∧ Own w' w.heap.size g n n (putN xs p v m) ∧ Below w.heap.size w w' := by
  have hc := fun W h => anew_any a n c xs W h hn
  have hcall := Lib.hid (anew_any a n c xs w h hn)
  have hxl : Hid (xs.length = n) := h.len
  clear h hc
  go_enter Tryd.func69, Tryd.ntmps69
  go_wp2_with (go_at_call 70; (with_reducible refine (hcall.out).mono ?_); rintro e w1 ⟨g, rfl, hO, hb1⟩)
  have hO' := Lib.hid hO
  clear hO
  go_loopw [10, 14] (fun _ i wr => ∃ k : Nat, k ≤ m ∧ i = .int .i64 k ∧ Own wr w.heap.size g n n (putN xs p v k) ∧ Below w.heap.size w wr) (fun _ i _ => m - (intOf i).toNat)
  case atStart => exact ⟨0, by omega, rfl, hO'.out, hb1⟩
  case round =>
    obtain ⟨k, hk, rfl, hO, hb⟩ := hrel
    by_cases hk8 : k < m
    · obtain ⟨hc, hf⟩ := hO.at (show p + k < n by omega)
      have hs := byteA_sh v k
      have hB := hO.base.1
      obtain ⟨x, hx⟩ : ∃ x, x = byteA v k := ⟨_, rfl⟩
      rw [← hx] at hs
      have hO2 := Lib.hid (hO.put (p + k) x)
      have hb2 := Lib.hid (hb.setCell (p := ⟨g, p + k, none⟩) hB (.int .u8 x))
      clear hO hb
      have hx' := Lib.hid hx
      clear hx
      go_wp2
      refine ⟨⟨k + 1, by omega, by go_num, ?_, hb2.out⟩, by simp only [intOf]; omega⟩
      have hO3 := hO2.out
      rw [hx'.out] at hO3 ⊢
      exact hO3
    · obtain rfl : k = m := by omega
      go_wp2
      go_ret
      exact ⟨_, rfl, hO, hb⟩

/-- memory with a cell set; with a byte set; bytes cut out: nothing, where something is thrown -/
def setC (xs : List Int) (p v : Int) : List Int := if tC xs.length p = 0 then putN xs p.toNat v 8 else []
def setB (xs : List Int) (p v : Int) : List Int := if tB xs.length p 1 = 0 then putN xs p.toNat v 1 else []
def cutB (xs : List Int) (p m : Int) : List Int := if tB xs.length p m = 0 then (xs.drop p.toNat).take m.toNat else []

theorem tC_in {n : Nat} {p : Int} (h : tC n p = 0) : 0 ≤ p ∧ p + 8 ≤ n ∧ p % 8 = 0 := by unfold tC at h; split at h <;> omega
theorem tB_in {n : Nat} {p m : Int} (h : tB n p m = 0) : 0 ≤ p ∧ 0 ≤ m ∧ p + m ≤ n := by unfold tB at h; split at h <;> omega

def Told (w w' : World) (e : Ending) (xs : List Int) (t : Int) : Prop := ∃ a c, e = .returned (.tuple #[.slice a xs.length c, .int .i64 t]) ∧ Mem w' a xs.length c xs ∧ Below w.heap.size w w'
theorem told {w w' : World} {e : Ending} {xs : List Int} {t : Int} {a : Option Addr} {n c : Nat} (he : e = .returned (.tuple #[.slice a n c, .int .i64 t])) (h : Mem w' a n c xs) (hb : Below w.heap.size w w') : Told w w' e xs t := by
  have := h.len
  subst this
  exact ⟨a, c, he, h, hb⟩

theorem setCell_any (a : Option Addr) (n c : Nat) (xs : List Int) (p v : Int) (w : World) (h : Mem w a n c xs) (hn : n ≤ 281474976710656) (hp : -9223372036854775808 ≤ p ∧ p ≤ 9223372036854775807) (hv : -9223372036854775808 ≤ v ∧ v ≤ 9223372036854775807) :
    Calls Tryd.prog 66 #[.slice a n c, .int .i64 p, .int .i64 v] w fun e w' => Told w w' e (setC xs p v) (tC n p) := by
  have hb := h.bd.1
  by_cases h1 : tC n p = 0
  · have t0 : (tC n p != 0) = false := by rw [h1]; rfl
    obtain ⟨q1, q2, _⟩ := tC_in h1
    obtain ⟨q, rfl⟩ := Int.eq_ofNat_of_zero_le q1
    have e2 : Hid (setC xs (q : Int) v = putN xs q v 8 ∧ tC n (q : Int) = 0 ∧ byteOk (putN xs q v 8)) := ⟨by unfold setC; rw [h.len, if_pos h1]; rfl, h1, putN_ok h.ok q v 8⟩
    have hcall := Lib.hid (with_any a n c xs q 8 v w h hn (by omega) (by omega) hv)
    clear h1 h
    go_enter Tryd.func66, Tryd.ntmps66
    go_wp2_with (first | (go_at_call 31; (with_reducible refine (ofCell_any _ _ _ _ _ (by assumption) (by assumption)).mono ?_); rintro e w' ⟨rfl, rfl⟩) | (go_at_call 69; refine (hcall.out).mono ?_; rintro e w1 ⟨g, rfl, hO, hb1⟩))
    go_ret2
    rw [e2.out.1, e2.out.2.1]
    exact told rfl (hO.mem e2.out.2.2) hb1
  · have t0 : (tC n p != 0) = true := by simpa using h1
    have e2 : Hid (setC xs p v = []) := by show setC xs p v = []; unfold setC; rw [h.len, if_neg h1]
    clear h1
    go_enter Tryd.func66, Tryd.ntmps66
    go_wp2_with (go_at_call 31; (with_reducible refine (ofCell_any _ _ _ _ _ (by assumption) (by assumption)).mono ?_); rintro e w' ⟨rfl, rfl⟩)
    go_ret2
    rw [e2.out]
    exact told rfl (Mem.zero _) (Below.refl _ _)

end Go.Proofs.YtcjbfokindoicaaDoor.Me
