/- Contracts of the document's SetCell, SetByte, Bytes. -/
import Derived.Test.YtcjbfokindoicaaDoorMemSet
namespace Go.Proofs.YtcjbfokindoicaaDoor.Me
set_option maxRecDepth 100000
open Go.ChangeShapes Go.WideShapes Go.ChangeAt Go.RowKit
set_option linter.unusedVariables false

/-- an append whose run is known -/
theorem wpList_append_run {P : Program} {w w2 : World} {ops : Array Oper} {rest : List Oper} {o : Oper} {a : Act} {Q : Exit → Act → World → Prop} (hgd : o.guard = none) (s x : Operand) (t : TypeId)
    (ho : o.op = .call { callee := .builtin .append, args := #[s, x], argTypes := #[t, t] }) (vs vx v : Value) (hs : a.eval s = vs) (hx : a.eval x = vx)
    (hrun : (Builtin.append_ #[t, t] o.type #[vs, vx]).run P w = .ok v w2) (h : wpList P ops Q rest (a.put o.dst v) w2) : wpList P ops Q (o :: rest) a w := by
  refine wpList_plain hgd fun K hK => ?_
  unfold Oper.wp execOp
  simp only [ho, resolve, invoke, builtin, Sem.run_bind, Sem.run_pure, Result.andThen_ok, List.map_toArray, List.map_cons, List.map_nil, hs, hx, hrun]
  exact hK _ _ h

/-- all of it is appended to no byte -/
theorem app_u8 {a : Option Addr} {n c : Nat} {xs : List Int} {w : World} (h : Mem w a n c xs) (hn : n ≤ 140737488355328) :
    ∃ g cap w2, (Builtin.append_ #[22, 22] 22 #[.slice (some ⟨w.heap.size, 0, none⟩) 0 0, .slice a n c]).run Tryd.prog (w.alloc (.cells #[] 5)) = .ok (.slice (some ⟨g, 0, none⟩) n cap) w2 ∧
      Own w2 w.heap.size g n cap xs ∧ Below w.heap.size w w2 := by
  have hl := h.len
  obtain ⟨i, hi, hz0, hz1, hz2⟩ := info_parts u8info
  have hb0 : Below w.heap.size w (w.alloc (.cells #[] 5)) := (Below.refl _ _).alloc (Nat.le_refl _) _
  have hown : (w.alloc (.cells #[] 5)).ownsRow w.heap.size 5 1 (.slice (some ⟨w.heap.size, 0, none⟩) 0 0) 0 [] := World.ownsRow_made w #[] 0 (Nat.le_refl _) (Nat.zero_le _) rfl
  cases a with
  | none =>
    have hc0 := h.isnil rfl
    have hn0 : n = 0 := by have := h.cap; omega
    subst hc0; subst hn0
    obtain rfl : xs = [] := List.eq_nil_of_length_eq_zero hl
    exact ⟨_, _, _, run_append_owned_none (P := Tryd.prog) _ w.heap.size 22 22 5 i 1 Tryd.underlying22 hi _ 0 [] hown, hown, hb0⟩
  | some ad =>
    obtain ⟨v', w2, hrun, ho, hg, hne⟩ := run_append_own (P := Tryd.prog) (w.alloc (.cells #[] 5)) w.heap.size 22 22 5 i (.int .u8 0) 1 1 Tryd.underlying22 hi hz0 hz1 hz2 rfl (by decide) _ 0 [] hown ad n c (u8s xs) (by rw [u8s_len]; omega) (fun j v hj => by
      have hjl : j < xs.length := by
        have := (List.getElem?_eq_some_iff.1 hj).1
        rwa [u8s_len] at this
      obtain ⟨b, o, hab, hc⟩ := h.cells (by omega)
      obtain rfl := Option.some.inj hab
      rw [u8s_get hjl] at hj
      rw [add_plain, ← Option.some.inj hj]
      have := hc j (by omega)
      rw [World.cell?_alloc_lt]
      · exact this
      · exact World.block_lt_of_cell? _ _ this) (u8s_one xs) (by unfold maxLen; omega) (by omega) (by simp)
    rw [Nat.zero_add, List.nil_append] at ho
    have hb2 : Below w.heap.size w w2 := hb0.grown hg (by simp) (fun k hk => by simp only [Value.ownBlock, Option.some.injEq] at hk; omega)
    obtain ⟨g, cap, rfl⟩ : ∃ g cap, v' = .slice (some ⟨g, 0, none⟩) n cap := by
      rcases ho.2 with ⟨hv, _⟩ | ⟨g, cap, cur, hv, _⟩
      · have := (hne.1 hv).1
        simp at this
      · exact ⟨g, cap, hv⟩
    exact ⟨g, cap, w2, hrun, ho, hb2⟩

/-- what is left of a cell behind k bytes -/
def xsN (v : Int) (k : Nat) : Int := v % 18446744073709551616 / 256 ^ k
theorem xsN_bd (v : Int) (k : Nat) : 0 ≤ xsN v k ∧ xsN v k ≤ 18446744073709551615 := by
  unfold xsN
  have h0 : 0 ≤ v % 18446744073709551616 := by omega
  have hp : (0 : Int) < 256 ^ k := Int.pow_pos (by decide)
  have h1 := Int.ediv_nonneg h0 (Int.le_of_lt hp)
  have h2 := Int.ediv_le_self (256 ^ k) h0
  omega
theorem xsN_next (v : Int) (k : Nat) : xsN v k / 256 = xsN v (k + 1) := by
  unfold xsN
  rw [Int.pow_succ, Int.ediv_ediv_of_nonneg (Int.le_of_lt (Int.pow_pos (by decide)))]
theorem xsN_byte (v : Int) (k : Nat) (hk : k < 8) : xsN v k % 256 = byteA v k := by
  unfold xsN byteA
  match k, hk with
  | 0, _ => omega
  | 1, _ => omega
  | 2, _ => omega
  | 3, _ => omega
  | 4, _ => omega
  | 5, _ => omega
  | 6, _ => omega
  | 7, _ => omega

set_option maxHeartbeats 400000 in
theorem rsetCell_any (a : Option Addr) (n c : Nat) (xs : List Int) (p v : Int) (w : World) (h : Mem w a n c xs) (hn : n ≤ 140737488355328) (hp : -9223372036854775808 ≤ p ∧ p ≤ 9223372036854775807) (hv : -9223372036854775808 ≤ v ∧ v ≤ 9223372036854775807) :
    Calls Tryd.prog 50 #[.slice a n c, .int .i64 p, .int .i64 v] w fun e w' => Told w w' e (setC xs p v) (tC n p) := by
  have hb := h.bd.1
  have hcel := Lib.hid (rcell_any a n c xs p w h hp)
  by_cases h1 : tC n p = 0
  · have t0 : (tC n p != 0) = false := by rw [h1]; rfl
    obtain ⟨q1, q2, _⟩ := tC_in h1
    obtain ⟨q, rfl⟩ := Int.eq_ofNat_of_zero_le q1
    have hq : q + 8 ≤ n := by omega
    obtain ⟨g, cap, w2, happ, hO, hb2⟩ := app_u8 h hn
    have e2 : Hid (setC xs (q : Int) v = putN xs q v 8 ∧ tC n (q : Int) = 0 ∧ byteOk (putN xs q v 8)) := ⟨by unfold setC; rw [h.len, if_pos h1]; rfl, h1, putN_ok h.ok q v 8⟩
    have hx0 : IntKind.u64.wrap v = xsN v 0 := by
      unfold xsN
      simp [IntKind.wrap, IntKind.bits, IntKind.signed]
    obtain ⟨x0, hx0'⟩ : ∃ x, x = xsN v 0 := ⟨_, rfl⟩
    rw [← hx0'] at hx0
    have hx0'' := Lib.hid hx0'
    have happ' := Lib.hid happ
    have hO' := Lib.hid hO
    clear h1 h hO happ hx0'
    go_enter Tryd.func50, Tryd.ntmps50
    go_wp2_with (first | (go_at_call 65; (with_reducible refine (hcel.out).mono ?_); rintro e w' ⟨rfl, rfl⟩) | (at_builtin; refine wpList_append_run rfl (.tmp 22) (.tmp 23) 22 rfl _ _ _ rfl rfl happ'.out ?_))
    go_loopw [11, 12] (fun x i wr => ∃ k : Nat, k ≤ 8 ∧ i = .int .i64 k ∧ x = .int .u64 (xsN v k) ∧ Own wr w.heap.size g n cap (putN xs q v k) ∧ Below w.heap.size w wr) (fun _ i _ => 8 - (intOf i).toNat)
    case atStart => exact ⟨0, by omega, rfl, congrArg (Value.int .u64) hx0''.out, hO'.out, hb2⟩
    case round =>
      obtain ⟨k, hk, rfl, hxv, hO, hbk⟩ := hrel
      by_cases hk8 : k < 8
      · obtain ⟨hc, hf⟩ := hO.at (show q + k < n by omega)
        obtain ⟨x1, x2⟩ := xsN_bd v k
        have hs := xsN_byte v k hk8
        have hnx := xsN_next v k
        have hB := hO.base.1
        have hy := byteA_bd v k
        obtain ⟨y, hy'⟩ : ∃ y, y = byteA v k := ⟨_, rfl⟩
        obtain ⟨x, hx'⟩ : ∃ x, x = xsN v k := ⟨_, rfl⟩
        obtain ⟨z, hz'⟩ : ∃ x, x = xsN v (k + 1) := ⟨_, rfl⟩
        rw [← hx', ← hy'] at hs
        rw [← hx', ← hz'] at hnx
        rw [← hx'] at hxv x1 x2
        rw [← hy'] at hy
        subst hxv
        have hs8 : IntKind.u8.wrap y = y := by rw [uw8]; omega
        have hO2 := Lib.hid (hO.put (q + k) y)
        have hb2 := Lib.hid (hbk.setCell (p := ⟨g, q + k, none⟩) hB (.int .u8 y))
        have hyy := Lib.hid hy'
        have hzz := Lib.hid hz'
        clear hO hbk hy' hx' hz'
        go_wp2
        refine ⟨⟨k + 1, by omega, by go_num, congrArg (Value.int .u64) (hnx.trans hzz.out), ?_, hb2.out⟩, by simp only [intOf]; omega⟩
        have hO3 := hO2.out
        rw [hyy.out] at hO3 ⊢
        exact hO3
      · obtain rfl : k = 8 := by omega
        have hO2 := Lib.hid hO
        have hb2 := Lib.hid hbk
        generalize xsN v 8 = x at *
        subst hxv
        clear hO hbk
        go_wp2
        go_ret2
        rw [e2.out.1, e2.out.2.1]
        exact told rfl (Own.mem (B := w.heap.size) hO2.out e2.out.2.2) hb2.out
  · have t0 : (tC n p != 0) = true := by simpa using h1
    have e2 : Hid (setC xs p v = []) := by show setC xs p v = []; unfold setC; rw [h.len, if_neg h1]
    clear h1
    go_enter Tryd.func50, Tryd.ntmps50
    go_wp2_with (go_at_call 65; (with_reducible refine (hcel.out).mono ?_); rintro e w' ⟨rfl, rfl⟩)
    go_ret2
    rw [e2.out]
    exact told rfl (Mem.zero _) (Below.refl _ _)
end Go.Proofs.YtcjbfokindoicaaDoor.Me
