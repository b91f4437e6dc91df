/- The contract of Put. -/
import Derived.Test.YtjlnfconolndoaaNumLay
import Derived.Laws.BytesArg
namespace Go.Proofs.Ytjlnfconolndoaa
open Go.ChangeShapes Go.WideShapes Go.ChangeAt Go.RowKit
set_option linter.unusedVariables false

def figL : List Int := [48, 49, 50, 51, 52, 53, 54, 55, 56, 57, 65, 66, 67, 68, 69, 70, 71, 72, 73, 74, 75, 76, 77, 78, 79, 80, 81, 82, 83, 84, 85, 86, 87, 88, 89, 90]
theorem figS : (⟨#[48, 49, 50, 51, 52, 53, 54, 55, 56, 57, 65, 66, 67, 68, 69, 70, 71, 72, 73, 74, 75, 76, 77, 78, 79, 80, 81, 82, 83, 84, 85, 86, 87, 88, 89, 90]⟩ : ByteArray) = strOfNums figL := by decide +kernel
theorem figL_ok : bytesOk figL := by
  unfold bytesOk
  decide +kernel
theorem figL_at : ∀ r : Nat, r < 36 → figL.getD r 0 = fig r := by decide +kernel
theorem figs_at {r : Nat} (hr : r < 36) (w : World) : (Instr.index 9 (.string ⟨#[48, 49, 50, 51, 52, 53, 54, 55, 56, 57, 65, 66, 67, 68, 69, 70, 71, 72, 73, 74, 75, 76, 77, 78, 79, 80, 81, 82, 83, 84, 85, 86, 87, 88, 89, 90]⟩) (.int .u64 (r : Int))).run Try.prog w = .ok (.int .u8 (fig r)) w := by
  have hl : r < figL.length := hr
  rw [figS, run_index_string (P := Try.prog) w 9 (strOfNums figL) .u64 r Try.underlying9, dif_pos (by rw [str_size]; omega)]
  simp only [Int.toNat_natCast]
  rw [str_get figL_ok hl, figL_at r hr]
theorem zero65 (w : World) : (zeroValue 32).run Try.prog w = .ok (.agg (u8s (List.replicate 65 0)).toArray) w := by kernel_rfl
theorem mkf2 (fn : Fn) (first cap : Array Value) (w : World) : (Instr.makeFunc fn first cap).run Try.prog w = .ok (.func fn first cap) w := rfl

theorem arr_cut {w : World} {M K : Nat} {ys : List Int} (h : Arr w M ys) (hK : K ≤ 65) (W : World) (hW : W = w) :
    (Go.convert 35 9 (.slice (some ⟨M, K, none⟩) (65 - K) (65 - K))).run Try.prog W = .ok (.string (strOfNums (ys.drop K))) W := by
  subst hW
  refine run_convert_bytes_arg (P := Try.prog) W 35 5 Try.underlying35 Try.underlying5 M K (65 - K) (65 - K) (ys.drop K) (by rw [List.length_drop, h.2]) (fun i hi => ?_) 9 Try.underlying9
  rw [h.at (k := K + i) (by omega)]
  simp [List.getD]
theorem cut65 (M k : Nat) (hk : k < 65) (W : World) : (Instr.sliceAt 32 (.pointer (some ⟨M, 0, none⟩)) (some (.int .i64 (k : Int))) none none).run Try.prog W = .ok (.slice (some ⟨M, k, none⟩) (65 - k) (65 - k)) W := by
  have h65 : Try.prog.arrayLen 32 = 65 := by kernel_rfl
  have hel : Try.prog.elem 32 = 5 := by kernel_rfl
  have hsz : ∀ w, (Go.sizeOf 5).run Try.prog w = .ok 1 w := fun w => by kernel_rfl
  rw [run_sliceAt_array_l (P := Try.prog) W 32 ⟨M, 0, none⟩ (by kernel_rfl) .i64 k (by omega) (by rw [h65]; omega), hel, hsz]
  simp only [Result.andThen, slicedAt, h65, Int.toNat_natCast, Nat.mul_one]
  rw [if_neg (by omega), add_plain, Nat.zero_add]
theorem set_drop {ys : List Int} {k : Nat} (h : k < ys.length) (c : Int) : (ys.set k c).drop k = c :: ys.drop (k + 1) := by
  have h2 : k < (ys.set k c).length := by simpa using h
  rw [drop_cons h2]
  congr 1
  · simp [List.getD, h]
  · simp [List.drop_set]

set_option maxHeartbeats 1000000 in
theorem put_any (n b : Int) (w : World) (hn : -9223372036854775808 ≤ n ∧ n ≤ 9223372036854775807) (hb : -9223372036854775808 ≤ b ∧ b ≤ 9223372036854775807) :
    Calls Try.prog 9 #[.int .i64 n, .int .i64 b] w fun e w' => e = .returned (.tuple #[.string (strOfNums (putL n b)), .bool (isB b)]) ∧ Below w.heap.size w w' := by
  cases hB : isB b with
  | false =>
    have e : Hid (putL n b = []) := putL_no (fun h => by rw [isB_yes h] at hB; cases hB)
    rw [e.out]
    go_enter Try.func9, Try.ntmps9
    go_wp2_with (go_at_call 13; (with_reducible refine (isBase_any _ _ hb).mono ?_); rintro e w' ⟨rfl, rfl⟩)
    go_ret2
    exact ⟨rfl, Below.refl _ _⟩
  | true =>
    have hbb := isB_bd hB
    obtain ⟨B, rfl⟩ : ∃ B : Nat, b = B := ⟨b.toNat, by omega⟩
    have hpl : Hid (putL n B = (if n < 0 then [45] else []) ++ (digs B n.natAbs).map fig) := by show putL n B = _; rw [putL, if_pos hbb]; simp
    have hmf := mkf2
    have hz := zero65
    obtain ⟨zs, hzs⟩ : ∃ zs, zs = List.replicate 65 (0 : Int) := ⟨_, rfl⟩
    rw [← hzs] at hz
    have hzl : Hid (zs.length = 65) := by show zs.length = 65; rw [hzs]; simp
    clear hzs
    obtain ⟨m, hm⟩ : ∃ m, m = n.natAbs := ⟨_, rfl⟩
    have hm' := Lib.hid hm
    obtain ⟨N, hN⟩ : ∃ N, IntKind.u64.wrap n = N := ⟨_, rfl⟩
    have hN2 : N = n % 18446744073709551616 := by rw [← hN]; simp [IntKind.wrap, IntKind.bits, IntKind.signed]
    have hNb : 0 ≤ N ∧ N ≤ 18446744073709551615 := by omega
    have hN3 := Lib.hid hN2
    clear hN2 hm
    go_enter Try.func9, Try.ntmps9
    go_upto_if 17 with (go_at_call 13; (with_reducible refine (isBase_any _ _ hb).mono ?_); rintro e w' ⟨rfl, rfl⟩)
    go_cut [9] from 14 to 19 (fun u wx => u = .int .u64 (m : Int) ∧ At wx (w.heap.size + 1) (((65 : Nat)) : Int) ∧ Arr wx w.heap.size zs ∧ Below w.heap.size w wx)
    case first =>
      have r1 : At ((w.alloc (.cells (u8s zs).toArray 32)).alloc (.cells #[.int .i64 65] 3)) (w.heap.size + 1) (((65 : Nat)) : Int) := by
        have := heap_alloc_new (w.alloc (.cells (u8s zs).toArray 32)) (.cells #[.int .i64 65] 3)
        rw [show (w.alloc (.cells (u8s zs).toArray 32)).heap.size = w.heap.size + 1 by simp] at this
        exact this
      have r2 : Arr ((w.alloc (.cells (u8s zs).toArray 32)).alloc (.cells #[.int .i64 65] 3)) w.heap.size zs := by
        refine ⟨?_, hzl.out⟩
        rw [Below.heap_alloc _ _ _ (by simp)]
        exact heap_alloc_new _ _
      have r3 : Below w.heap.size w ((w.alloc (.cells (u8s zs).toArray 32)).alloc (.cells #[.int .i64 65] 3)) := ((Below.refl _ _).alloc (Nat.le_refl _) _).alloc (by simp) _
      have R1 := Lib.hid r1
      have R2 := Lib.hid r2
      have R3 := Lib.hid r3
      clear r1 r2 r3 hz hmf hzl
      by_cases hneg : n < 0
      · obtain ⟨U, hU⟩ : ∃ U, IntKind.u64.wrap (-N) = U := ⟨_, rfl⟩
        have hU2 : U = (m : Int) := by
          rw [← hU]
          have := hN3.out
          have := hm'.out
          simp [IntKind.wrap, IntKind.bits, IntKind.signed]
          omega
        have hU3 := Lib.hid hU2
        clear hU2
        go_wp2_with fail
        go_meet
        exact ⟨congrArg (Value.int .u64) hU3.out, R1.out, R2.out, R3.out⟩
      · go_wp2_with fail
        go_meet
        exact ⟨congrArg (Value.int .u64) (by have := hN3.out; have := hm'.out; omega), R1.out, R2.out, R3.out⟩
    case rest =>
      obtain ⟨rfl, hAt, hArr, hBel⟩ := hcut
      clear hz hmf hzl hN3 hN hNb N
      have hlen := digs_len (b := B) (m := m) (by omega) (by have := hm'.out; omega)
      have hlen' := Lib.hid hlen
      have hm0 := Lib.hid hArr.2
      clear hlen
      go_wp2_with fail
      go_loopw [9] (fun u wr => ∃ L K : Nat, ∃ ds ys : List Int, u = .int .u64 (L : Int) ∧ L ≤ m ∧ K + ds.length = 65 ∧ digs B m = digs B L ++ ds ∧ At wr (w.heap.size + 1) K ∧ Arr wr w.heap.size ys ∧ ys.drop K = ds.map fig ∧ Below w.heap.size w wr) (fun u _ => (intOf u).toNat)
      case atStart => exact ⟨m, 65, [], zs, rfl, by omega, rfl, by simp, hAt, hArr, by rw [List.drop_eq_nil_of_le (by have := hm0.out; omega)]; rfl, hBel⟩
      case round =>
        obtain ⟨L, K, ds, ys, rfl, hLm, hK, hdg, hAt, hArr, hdr, hBl⟩ := hrel
        have hm2 := hm'.out
        have hll : (digs B L).length + ds.length ≤ 64 := by
          have h1 := hlen'.out.2
          rw [hdg, List.length_append] at h1
          omega
        have hl1 : 1 ≤ (digs B L).length := by rw [digs]; simp
        obtain ⟨k, rfl⟩ : ∃ k, K = k + 1 := ⟨K - 1, by omega⟩
        have hyl := hArr.2
        have e1 : (((k + 1 : Nat)) : Int) = (k : Int) + 1 := by omega
        rw [e1] at hAt
        replace hAt := Lib.hid hAt
        replace hArr := Lib.hid hArr
        replace hBl := Lib.hid hBl
        have hk64 : 1 ≤ k ∧ k < 65 := by omega
        have hLb : (L : Int) ≤ 9223372036854775808 := by omega
        have hB0 : ((B : Int) == 0) = false := by simp; omega
        have hB1 : ¬ (B : Int) = 0 := by omega
        clear hm2 e1 hll hl1
        by_cases hge : B ≤ L
        · have hd2 := digs_big (b := B) (m := L) (by omega) hge
          obtain ⟨r, hr⟩ : ∃ r, r = L % B := ⟨_, rfl⟩
          obtain ⟨q, hq⟩ : ∃ q, q = L / B := ⟨_, rfl⟩
          have hr1 : (L : Int) % (B : Int) = (r : Int) := by rw [hr]; rfl
          have hq1 : (L : Int) / (B : Int) = (q : Int) := by rw [hq]; rfl
          have hrb : r < B := by rw [hr]; exact Nat.mod_lt _ (by omega)
          have hqb : q < L := by rw [hq]; exact Nat.div_lt_self (by omega) (by omega)
          rw [← hr, ← hq] at hd2
          have hix := fun w => figs_at (r := r) (by omega) w
          have hcb0 := fig_bd (d := (r : Int)) (by omega)
          obtain ⟨c, hc⟩ : ∃ c, c = fig (r : Int) := ⟨_, rfl⟩
          rw [← hc] at hix hcb0
          have hcb : 0 ≤ c ∧ c ≤ 255 := by omega
          have hdr2 : Hid ((ys.set k c).drop k = ((r : Int) :: ds).map fig) := by
            show (ys.set k c).drop k = _
            rw [set_drop (by omega), hdr, List.map_cons, hc]
          have hdg2 : Hid (digs B m = digs B q ++ ((r : Int) :: ds)) := by
            show digs B m = _
            rw [hdg, hd2, List.append_assoc]
            rfl
          have hkd := Lib.hid hK
          have hge' : (B : Int) ≤ (L : Int) := by omega
          have hqb' := Lib.hid hqb
          have hqs : 0 ≤ (q : Int) ∧ (q : Int) ≤ 9223372036854775808 := by omega
          clear hr hq hc hd2 hdr hdg hcb0 hK hge hyl hqb
          go_wp2_with (go_at_call 14; (with_reducible refine (lay_any c k ys (w.heap.size + 1) w.heap.size w.heap.size _ (by omega) (Nat.le_refl _) (by omega) (Hid.out (by assumption)) (Hid.out (by assumption)) (by omega) hcb).mono ?_); rintro e w2 ⟨rfl, hAt2, hArr2, hb2⟩; replace hb2 := Lib.hid (Below.trans hBl.out hb2); replace hAt2 := Lib.hid hAt2; replace hArr2 := Lib.hid hArr2)
          refine ⟨⟨q, k, (r : Int) :: ds, ys.set k c, rfl, by have := hqb'.out; omega, by have := hkd.out; simp; omega, hdg2.out, hAt2.out, hArr2.out, hdr2.out, hb2.out⟩, by have := hqb'.out; simp only [intOf]; omega⟩
        · have hd2 : digs B L = [(L : Int)] := digs_small (by omega)
          have hix := fun w => figs_at (r := L) (by omega) w
          have hcb0 := fig_bd (d := (L : Int)) (by omega)
          obtain ⟨c, hc⟩ : ∃ c, c = fig (L : Int) := ⟨_, rfl⟩
          rw [← hc] at hix hcb0
          have hcb : 0 ≤ c ∧ c ≤ 255 := by omega
          have hdr2 : Hid ((ys.set k c).drop k = (digs B m).map fig) := by
            show (ys.set k c).drop k = _
            rw [set_drop (by omega), hdr, hdg, hd2, List.map_append, hc]
            rfl
          have hlt' : (L : Int) < (B : Int) := by omega
          clear hc hd2 hdr hdg hcb0 hge hyl hK
          by_cases hneg : n < 0
          · obtain ⟨k2, rfl⟩ : ∃ k2, k = k2 + 1 := ⟨k - 1, by omega⟩
            obtain ⟨zs2, hz2⟩ : ∃ zs2, zs2 = ys.set (k2 + 1) c := ⟨_, rfl⟩
            have hz3 := Lib.hid hz2
            have hput : Hid (putL n B = (zs2.set k2 45).drop k2) := by
              show putL n B = _
              have hzl : zs2.length = 65 := by rw [hz2, List.length_set]; exact hArr.out.2
              rw [set_drop (by omega), hz2, hpl.out, if_pos hneg, hdr2.out, hm'.out]
              rfl
            have e2 : Hid (((k2 + 1 : Nat) : Int) = (k2 : Int) + 1) := by show ((k2 + 1 : Nat) : Int) = _; omega
            have hsl := cut65 w.heap.size k2 (by omega)
            obtain ⟨s, hs⟩ : ∃ s, s = 65 - k2 := ⟨_, rfl⟩
            rw [← hs] at hsl
            replace hs := Lib.hid hs
            clear hdr2 hz2
            go_wp2_with (first | (go_at_call 14; (with_reducible refine (lay_any c (k2 + 1) ys (w.heap.size + 1) w.heap.size w.heap.size _ (by omega) (Nat.le_refl _) (by omega) (Hid.out (by assumption)) (Hid.out (by assumption)) (by omega) hcb).mono ?_); rintro e w2 ⟨rfl, hAt2, hArr2, hb2⟩; replace hb2 := Lib.hid (Below.trans hBl.out hb2); rw [e2.out] at hAt2; replace hAt2 := Lib.hid hAt2; rw [← hz3.out] at hArr2; replace hArr2 := Lib.hid hArr2) | (go_at_call 14; (with_reducible refine (lay_any 45 k2 zs2 (w.heap.size + 1) w.heap.size w.heap.size _ (by omega) (Nat.le_refl _) (by omega) (Hid.out (by assumption)) (Hid.out (by assumption)) (by omega) (by decide)).mono ?_); rintro e w3 ⟨rfl, hAt3, hArr3, hb3⟩; replace hb3 := Lib.hid (Below.trans hb2.out hb3); have hca := cell_of_one hAt3; have hcv := arr_cut hArr3 (K := k2) (by omega) w3 rfl; rw [← hs.out, ← hput.out] at hcv; replace hAt3 := Lib.hid hAt3; replace hArr3 := Lib.hid hArr3))
            go_ret2
            exact ⟨rfl, hb3.out⟩
          · have hput : Hid (putL n B = (ys.set k c).drop k) := by
              show putL n B = _
              rw [hpl.out, if_neg hneg, hdr2.out, hm'.out]
              rfl
            have hsl := cut65 w.heap.size k (by omega)
            obtain ⟨s, hs⟩ : ∃ s, s = 65 - k := ⟨_, rfl⟩
            rw [← hs] at hsl
            replace hs := Lib.hid hs
            clear hdr2
            go_wp2_with (go_at_call 14; (with_reducible refine (lay_any c k ys (w.heap.size + 1) w.heap.size w.heap.size _ (by omega) (Nat.le_refl _) (by omega) (Hid.out (by assumption)) (Hid.out (by assumption)) (by omega) hcb).mono ?_); rintro e w2 ⟨rfl, hAt2, hArr2, hb2⟩; replace hb2 := Lib.hid (Below.trans hBl.out hb2); have hca := cell_of_one hAt2; have hcv := arr_cut hArr2 (K := k) (by omega) w2 rfl; rw [← hs.out, ← hput.out] at hcv; replace hAt2 := Lib.hid hAt2; replace hArr2 := Lib.hid hArr2)
            go_ret2
            exact ⟨rfl, hb2.out⟩
end Go.Proofs.Ytjlnfconolndoaa
