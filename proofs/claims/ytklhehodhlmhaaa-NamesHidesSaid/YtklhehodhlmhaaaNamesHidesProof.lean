/- NamesHides: for every input the law returns true, and each argument reads behind the call as it read before. No condition. -/
import Derived.Test.YtklhehodhlmhaaaRows
import Derived.WalkKit
import Derived.ProofKit
import Derived.OpenShut
import Derived.ShutString
import Derived.ChangeOld
import Derived.Below
import Derived.Test.YtklhehodhlmhaaaBelow
import Derived.Test.YtklhehodhlmhaaaNamAwake
import Derived.Test.YtklhehodhlmhaaaNamOpen
namespace Go.Proofs.Ytklhehodhlmhaaa.namesHides
open Go.ChangeShapes Go.WideShapes Go.ChangeAt Go.RowKit
open Go.ChangeMaps (open_string shut_string)
set_option linter.unusedVariables false

theorem own : ownKnob Try.prog.godebug = none := by kernel_rfl
theorem laidOut : laidOutB Try.prog = true := by kernel_rfl

/-! ### the walk: the Go text returns true -/
theorem Sz.grown {w w' : World} {s b o n c : Nat} {vs : List Value} {row : Option Nat} (h : Sz w s (some ⟨b, o, none⟩) n c vs) (hg : w.grownBy w' row) (hb : b < w.heap.size) (hne : some b ≠ row) : Sz w' s (some ⟨b, o, none⟩) n c vs :=
  ⟨h.len, h.cap, h.big, h.isnil, fun hn => by
    obtain ⟨b', o', he, hc⟩ := h.cells hn
    obtain ⟨rfl, rfl⟩ : b' = b ∧ o' = o := by simp at he; exact ⟨he.1.symm, he.2.symm⟩
    refine ⟨b', o', rfl, fun i v hi => ?_⟩
    exact hg.cell (hc i v hi) hne⟩
theorem wdinfo3 : (Try.prog.info? 31).map (fun i => (i.zero, i.size, i.bytes)) = some (some (.agg #[.string ByteArray.empty, .int .i64 0, .bool false, .bool false]), 4, 32) := by kernel_rfl
theorem grown_undrew {w w' : World} {row : Option Nat} (h : w.drew.grownBy w' row) : w.grownBy w' row := ⟨h.os, h.tape, h.output, h.size, h.block⟩
/-- words are appended, at a step of a region that draws its order -/
theorem step_words {w : World} {ops : Array Oper} {o : Oper} {a : Act} {K : Act → World → Prop} {Q : Exit → Act → World → Prop} {E : Prop} (hgd : o.guard = none) (s x : Operand)
    (ho : o.op = .call { callee := .builtin .append, args := #[s, x], argTypes := #[26, 26] })
    {B n cap m c : Nat} {A A2 : Option Addr} {vs us : List Wd} (hs : a.eval s = .slice A n cap) (hx : a.eval x = .slice A2 m c) (hown : Oz w B 31 4 A n cap (wcells vs)) (hr : Ws w A2 m c us) (k : Nat) (hk : n + m = k) (hn : k ≤ 1000) (hB : B ≤ w.heap.size)
    (h : ∀ A' cap' w', Oz w' B 31 4 A' k cap' (wcells (vs ++ us)) → w.grownBy w' (Value.slice A n cap).ownBlock → Below B w w' → K (a.put o.dst (.slice A' k cap')) w') :
    if Region.wanted o (yielded ops a.tmps) = true then Oper.wp Try.prog o a w K Q else E := by
  have hw : Region.wanted o (yielded ops a.tmps) = true := by simp [Region.wanted, hgd]
  subst hk
  rw [if_pos hw]
  obtain ⟨i, hi, hz0, hz1, hz2⟩ := info_parts wdinfo3
  have hrun : ∃ A' cap' w2, (Builtin.append_ #[26, 26] o.type #[.slice A n cap, .slice A2 m c]).run Try.prog w = .ok (.slice A' (n + m) cap') w2 ∧ Oz w2 B 31 4 A' (n + m) cap' (wcells (vs ++ us)) ∧ w.grownBy w2 (Value.slice A n cap).ownBlock ∧ Below B w w2 := by
    have hl := Sz.len hr
    rw [wcells_app]
    cases A2 with
    | none =>
      have hc0 := hr.isnil rfl
      have hn0 : m = 0 := by have := hr.cap; omega
      subst hc0; subst hn0
      have e0 : wcells us = [] := List.eq_nil_of_length_eq_zero (by simpa using hl)
      rw [e0, List.append_nil]
      exact ⟨A, cap, w, run_append_owned_none (P := Try.prog) w B 26 o.type 31 i 4 Try.underlying26 hi _ n _ hown, hown, World.grownBy.refl _ _, Below.refl _ _⟩
    | some ad =>
      obtain ⟨v', w2, hrun, h2, hg, hne⟩ := run_append_own (P := Try.prog) w B 26 o.type 31 i _ 4 32 Try.underlying26 hi hz0 hz1 hz2 rfl (by decide) _ n _ hown ad m c (wcells us) hl (fun j v hj => by
        have hm0 : 0 < m := by
          rcases Nat.eq_zero_or_pos m with h0 | h0
          · subst h0
            have e0 : wcells us = [] := List.eq_nil_of_length_eq_zero (by simpa using hl)
            rw [e0] at hj
            simp at hj
          · exact h0
        obtain ⟨b, o, hab, hc⟩ := hr.cells hm0
        obtain rfl := Option.some.inj hab
        rw [add_plain]
        exact hc j v hj) (wcells_one us) (by unfold maxLen; omega) (by omega) hB
      obtain ⟨a', cap', rfl⟩ : ∃ a' cap', v' = .slice a' (n + m) cap' := by
        rcases h2.2 with ⟨hv, h0⟩ | ⟨g, cap, cur, hv, _⟩
        · exact ⟨none, 0, by rw [hv, h0]⟩
        · exact ⟨_, cap, hv⟩
      exact ⟨a', cap', w2, hrun, h2, hg, (Below.refl B w).grown hg hB (fun k hk => (World.ownsRow.lt hown k hk).1)⟩
  obtain ⟨A', cap', w2, hrun, h2, h3, h4⟩ := hrun
  unfold Oper.wp execOp
  simp only [ho, resolve, invoke, builtin, Sem.run_bind, Sem.run_pure, Result.andThen_ok, List.map_toArray, List.map_cons, List.map_nil, hs, hx, hrun]
  exact h A' cap' w2 h2 h3 h4
set_option maxRecDepth 100000 in
set_option maxHeartbeats 2000000 in
theorem walk (a0 : Option Addr) (len0 cap0 : Nat) (z0 : List Wd) (x1 : Wd) (a2 : ByteArray) (w : World) (w0 : WsIn w a0 len0 cap0 z0) (w1 : x1.came) (w2 : a2.size ≤ maxLen) :
    Calls Try.prog 5 #[.slice a0 len0 cap0, .agg #[.string (strOfNums x1.nm), .int .i64 x1.code, .bool x1.now, .bool x1.hid], .string a2] w fun e w' => e = .returned (.bool true) ∧ Below w.heap.size w w' := by
  obtain ⟨xs, hx, rfl⟩ : ∃ xs, bytesOk xs ∧ a2 = strOfNums xs := ⟨bytesOf a2, bytesOf_ok a2, (str_of a2).symm⟩
  obtain ⟨hS, hC⟩ := w0
  obtain ⟨hx1, hx2, hx3⟩ := w1
  obtain ⟨ys, cd, nw, hd⟩ := x1
  dsimp only at hx1 hx2 hx3 ⊢
  have hs := str_size xs
  have hs2 := str_size ys
  have hb := Sz.bd hS
  have hBx := Lib.hid ((Below.refl w.heap.size w).alloc (Nat.le_refl _) (.cells #[.string (strOfNums ys), .int .i64 cd, .bool nw, .bool hd] 31))
  have hlt : w.heap.size < (w.alloc (.cells #[.string (strOfNums ys), .int .i64 cd, .bool nw, .bool hd] 31)).heap.size := by simp
  have hBox := Lib.hid (fun (V : World) (h : Hid (Below (w.alloc (.cells #[.string (strOfNums ys), .int .i64 cd, .bool nw, .bool hd] 31)).heap.size (w.alloc (.cells #[.string (strOfNums ys), .int .i64 cd, .bool nw, .bool hd] 31)) V)) =>
    show V.cell? ⟨w.heap.size, 0, none⟩ = some (.string (strOfNums ys)) ∧ V.cell? ⟨w.heap.size, 1, none⟩ = some (.int .i64 cd) ∧ V.cell? ⟨w.heap.size, 2, none⟩ = some (.bool nw) ∧ V.cell? ⟨w.heap.size, 3, none⟩ = some (.bool hd) by
      have hg := heap_alloc_new w (.cells #[.string (strOfNums ys), .int .i64 cd, .bool nw, .bool hd] 31)
      refine ⟨?_, ?_, ?_, ?_⟩
      all_goals rw [h.out.cell (by exact hlt), cell_of_row _ _ _ _ _ _ hg]; rfl)
  have hWl := Lib.hid (fun (V : World) (h : Hid (Below (w.alloc (.cells #[.string (strOfNums ys), .int .i64 cd, .bool nw, .bool hd] 31)).heap.size (w.alloc (.cells #[.string (strOfNums ys), .int .i64 cd, .bool nw, .bool hd] 31)) V)) =>
    show Ws V a0 len0 cap0 z0 from hS.below (hBx.out.trans (h.out.mono hBx.out.size)))
  have hFew := Lib.hid (fun (V : World) (h : Hid (Below (w.alloc (.cells #[.string (strOfNums ys), .int .i64 cd, .bool nw, .bool hd] 31)).heap.size (w.alloc (.cells #[.string (strOfNums ys), .int .i64 cd, .bool nw, .bool hd] 31)) V)) => few_any a0 len0 cap0 z0 V (hWl.out V h))
  clear w2 hlt
  cases hf : fewB z0 with
  | false =>
    rw [hf] at hFew
    clear hf hS hC hBox hWl
    generalize strOfNums xs = s at *
    generalize strOfNums ys = t at *
    go_enter Try.func5, Try.ntmps5
    go_wp2_with (first | (go_at_call 8; (with_reducible refine (awake_any _).mono ?_); rintro e w1 ⟨rfl, hb1⟩) | (go_at_call 13; (with_reducible refine (hFew.out _ (by assumption)).mono ?_); rintro e w2 ⟨rfl, rfl⟩))
    go_ret
    exact ⟨rfl, hBx.out.trans (hb1.out.mono hBx.out.size)⟩
  | true =>
    rw [hf] at hFew
    obtain ⟨hn, hle⟩ := fewB_yes hf
    have hlen := hS.len
    rw [hlen] at hn
    have hok : ∀ x ∈ z0, x.ok 1000 := fun x hx => ⟨(hC x hx).1, by have := hle x hx; omega⟩
    clear hf
    by_cases hl : 60 < xs.length
    · clear hS hC hok hle hBox hWl
      generalize strOfNums xs = s at *
      generalize strOfNums ys = t at *
      go_enter Try.func5, Try.ntmps5
      go_wp2_with (first | (go_at_call 8; (with_reducible refine (awake_any _).mono ?_); rintro e w1 ⟨rfl, hb1⟩) | (go_at_call 13; (with_reducible refine (hFew.out _ (by assumption)).mono ?_); rintro e w2 ⟨rfl, rfl⟩))
      go_ret
      exact ⟨rfl, hBx.out.trans (hb1.out.mono hBx.out.size)⟩
    by_cases hl2 : 60 < ys.length
    · clear hS hC hok hle hWl
      generalize strOfNums xs = s at *
      generalize strOfNums ys = t at *
      go_enter Try.func5, Try.ntmps5
      go_wp2_with (first | (go_at_call 8; (with_reducible refine (awake_any _).mono ?_); rintro e w1 ⟨rfl, hb1⟩; obtain ⟨c0, c1, c2, c3⟩ := hBox.out _ hb1) | (go_at_call 13; (with_reducible refine (hFew.out _ (by assumption)).mono ?_); rintro e w2 ⟨rfl, rfl⟩))
      go_ret
      exact ⟨rfl, hBx.out.trans (hb1.out.mono hBx.out.size)⟩
    generalize hsx : strOfNums xs = s at *
    generalize hsy : strOfNums ys = t at *
    go_enter Try.func5, Try.ntmps5
    go_wp2_with (first | (go_at_call 8; (with_reducible refine (awake_any _).mono ?_); rintro e w1 ⟨rfl, hb1⟩; obtain ⟨c0, c1, c2, c3⟩ := hBox.out _ hb1) | (go_at_call 13; (with_reducible refine (hFew.out _ (by assumption)).mono ?_); rintro e w2 ⟨rfl, rfl⟩))
    have hlt : w.heap.size < w1.heap.size := by have := hb1.out.size; simp at this; omega
    have hcells := Lib.hid (fun (V : World) (h : Below w1.heap.size w1 V) => show V.cell? ⟨w.heap.size, 0, none⟩ = some (.string t) ∧ V.cell? ⟨w.heap.size, 1, none⟩ = some (.int .i64 cd) ∧ V.cell? ⟨w.heap.size, 2, none⟩ = some (.bool nw) ∧ V.cell? ⟨w.heap.size, 3, none⟩ = some (.bool hd) from ⟨(h.cell (p := ⟨_, 0, none⟩) hlt).trans c0, (h.cell (p := ⟨_, 1, none⟩) hlt).trans c1, (h.cell (p := ⟨_, 2, none⟩) hlt).trans c2, (h.cell (p := ⟨_, 3, none⟩) hlt).trans c3⟩)
    have hW1 := Lib.hid (fun (V : World) (h : Below w1.heap.size w1 V) => hWl.out V (Lib.hid (hb1.out.trans (h.mono hb1.out.size))))
    have hrow : Hid (∀ (V : World) (g : Nat), V.heap.size = g → Ws (V.alloc (.cells #[.string t, .int .i64 cd, .bool nw, .bool hd] 31)) (some ⟨g, 0, none⟩) 1 1 [⟨ys, cd, nw, hd⟩]) := Lib.hid fun V g hg => by
      subst hg
      exact (ws_made V V.heap.size (Nat.le_refl _) [⟨ys, cd, nw, hd⟩] 1 rfl (by decide) #[.string t, .int .i64 cd, .bool nw, .bool hd] (by rw [← hsy]; rfl)).sz
    have hnew : Hid (∀ (V : World) (g : Nat), V.heap.size = g → w1.heap.size ≤ g → Oz (V.alloc (.cells #[] 31)) w1.heap.size 31 4 (some ⟨g, 0, none⟩) 0 0 (wcells [])) := Lib.hid fun V g hg hle => by
      subst hg
      exact Oz.made V _ _ _ hle #[] 0 (by decide) rfl
    clear hBox hFew hWl hS
    clear c0 c1 c2 c3
    replace hok := Lib.hid hok
    replace hsx := Lib.hid hsx
    replace hsy := Lib.hid hsy
    clear hC hle hs hs2
    go_region_held3 (fun V => V.cell? ⟨w.heap.size, 0, none⟩ = some (.string t) ∧ V.cell? ⟨w.heap.size, 1, none⟩ = some (.int .i64 cd) ∧ V.cell? ⟨w.heap.size, 2, none⟩ = some (.bool nw) ∧ V.cell? ⟨w.heap.size, 3, none⟩ = some (.bool hd))
      (first
        | exact hcells.out _ hV6
        | exact hcells.out _ hV5
        | exact hcells.out _ (hV5.alloc hV5.size _)
        | exact hcells.out _ (Below.refl _ _).drew
        | exact hcells.out _ (((Below.refl _ _).drew).alloc (Nat.le_refl _) _)
        | exact hcells.out _ (((((Below.refl _ _).drew).alloc (Nat.le_refl _) _)).alloc (Nat.le_succ_of_le (Nat.le_refl _)) _)
        | exact hcells.out _ (((Below.refl _ _).alloc (Nat.le_refl _) _).drew)
        | exact hcells.out _ (((((Below.refl _ _).alloc (Nat.le_refl _) _)).alloc (by simp) _).drew)
        | trace_state)
      (first
        | (refine step_words (by rfl) (.tmp 27) (.tmp 28) (by rfl) (B := w1.heap.size) (vs := []) (us := z0) (by rfl) (by rfl) ?_ ?_ len0 (by omega) (by omega) ?_ ?_
           · first
               | exact hnew.out _ _ (by simp) (by omega)
               | exact (hnew.out _ _ (by simp) (by omega)).alloc _
           · refine hW1.out _ ?_
             repeat (first | exact Below.refl _ _ | apply Below.drew | (refine Below.alloc ?_ (by simp) _))
           · simp <;> omega
           intro A5 cap5 V5 hO5 hg5 hB5
           replace hg5 := grown_undrew hg5
           have hV5 : Below w1.heap.size w1 V5 := by
             refine Below.trans ?_ hB5
             repeat (first | exact Below.refl _ _ | apply Below.drew | (refine Below.alloc ?_ (by simp) _)))
        | (refine step_words (by rfl) (.tmp 29) (.tmp 31) (by rfl) (B := w1.heap.size) (vs := z0) (us := [⟨ys, cd, nw, hd⟩]) (by rfl) (by rfl) ?_ ?_ (len0 + 1) (by omega) (by omega) ?_ ?_
           · first
               | exact hO5
               | exact hO5.alloc _
           · first
               | exact hrow.out _ _ rfl
               | (refine Sz.grown (hrow.out _ _ ?_) hg5 ?_ ?_ <;> simp [Value.ownBlock])
               | (refine Sz.grown (Sz.below (hrow.out _ _ ?_) ((Below.refl _ _).alloc (Nat.le_refl _) _)) hg5 ?_ ?_ <;> simp [Value.ownBlock] <;> omega)
           · first
               | exact hV5.size
               | (have := hV5.size; simp; omega)
           intro A6 cap6 V6 hO6 hg6 hB6
           have hV6 : Below w1.heap.size w1 V6 := by
             refine Below.trans ?_ hB6
             repeat (first | exact hV5 | apply Below.drew | (refine Below.alloc ?_ hV5.size _))))
    all_goals
      obtain ⟨c0, c1, c2, c3⟩ := hcells.out _ hV6
      have h6 := Lib.hid (Below.refl V6.heap.size V6)
      have hM := Lib.hid (fun (V : World) (h : Hid (Below V6.heap.size V6 V)) => show Ws V A6 (len0 + 1) cap6 (z0 ++ [⟨ys, cd, nw, hd⟩]) from Sz.below hO6.sz h.out)
      have hL := Lib.hid (fun (V : World) (h : Hid (Below V6.heap.size V6 V)) => show Ws V a0 len0 cap0 z0 from hW1.out V (hV6.trans (h.out.mono hV6.size)))
      have hD := Lib.hid (fun (V : World) (h : Hid (Below V6.heap.size V6 V)) => find_from A6 (len0 + 1) cap6 (z0 ++ [⟨ys, cd, nw, hd⟩]) xs h (hM.out V h) (fun x hx' => by
        rcases List.mem_append.1 hx' with h1 | h1
        · exact hok.out x h1
        · obtain rfl : x = ⟨ys, cd, nw, hd⟩ := by simpa using h1
          exact ⟨hx1, by show ys.length ≤ 1000; omega⟩) (by omega) hx (by omega))
      have hD2 := Lib.hid (fun (V : World) (h : Hid (Below V6.heap.size V6 V)) => find_from a0 len0 cap0 z0 xs h (hL.out V h) hok.out (by omega) hx (by omega))
      have hFy := Lib.hid (fun (V : World) (h : Hid (Below V6.heap.size V6 V)) => fold_from ys h hx1 (by omega))
      have hFx := Lib.hid (fun (V : World) (h : Hid (Below V6.heap.size V6 V)) => fold_from xs h hx (by omega))
      rw [hsx.out] at hD hD2 hFx
      rw [hsy.out] at hFy
      have hend := Lib.hid (fun (V : World) (h : Hid (Below V6.heap.size V6 V)) => hBx.out.trans ((hb1.out.trans ((hV6.trans (h.out.mono hV6.size)).mono hb1.out.size)).mono hBx.out.size))
      have hbe := str_beq (fold_ok hx1) (fold_ok hx)
      have hcase : Hid ((hd = true ∧ fnd (z0 ++ [⟨ys, cd, nw, hd⟩]) xs = fnd z0 xs) ∨ (hd = false ∧ ((strOfNums (fold ys)).toList == (strOfNums (fold xs)).toList) = true ∧ fnd (z0 ++ [⟨ys, cd, nw, hd⟩]) xs = len0) ∨ (hd = false ∧ ((strOfNums (fold ys)).toList == (strOfNums (fold xs)).toList) = false ∧ fnd (z0 ++ [⟨ys, cd, nw, hd⟩]) xs = fnd z0 xs)) := by
        apply Lib.hid
        rw [hbe, fnd_snoc, hlen]
        cases hd with
        | true => exact .inl ⟨rfl, rfl⟩
        | false =>
          by_cases hq : fold ys = fold xs
          · exact .inr (.inl ⟨rfl, decide_eq_true hq, by simp [hit, hq]⟩)
          · exact .inr (.inr ⟨rfl, decide_eq_false hq, by simp [hit, hq]⟩)
      clear hbe hM hL hx hx1 hx2 hx3 hO6 hB6 hg6 hB5 hg5 hO5 hV5 hV6 hok hsx hsy hcells hrow hnew hW1 hlen
      generalize strOfNums (fold ys) = zy at *
      generalize strOfNums (fold xs) = zx at *
      rcases hcase.out with ⟨rfl, h1⟩ | ⟨rfl, hp, h1⟩ | ⟨rfl, hp, h1⟩
      all_goals
        rw [h1] at hD
        clear h1 hcase
        try generalize fnd z0 xs = v at *
        go_wp2_with (first | (go_at_call 9; (with_reducible refine (hFy.out _ (by assumption)).mono ?_); rintro e w7 ⟨rfl, hb7⟩) | (go_at_call 9; (with_reducible refine (hFx.out _ (by assumption)).mono ?_); rintro e w8 ⟨rfl, hb8⟩) | (go_at_call 14; (with_reducible refine (hD.out _ (by assumption)).mono ?_); rintro e w9 ⟨rfl, hb9⟩) | (go_at_call 14; (with_reducible refine (hD2.out _ (by assumption)).mono ?_); rintro e w10 ⟨rfl, hb10⟩))
        go_ret
        first
          | exact ⟨rfl, hend.out _ hb10⟩
          | exact ⟨rfl, hend.out _ hb9⟩

/-! ### the row's step -/
set_option maxRecDepth 100000 in
theorem lifted (os : Os) (started : os.Started) (H : Type) (enc : TypeId × Value → H) :
    ReturnsInHanded {} Try.checked os 5 .any (Rows.namesHidesSpec.pre6 enc Try.prog Try.f5 Rows.namesHidesRow.domain false) (Rows.namesHidesSpec.post enc Try.prog Try.f5 false true false false) := by
  refine returnsInHanded_of_change (C := Try.checked) own started (by kernel_rfl) Try.func5
    (ChangeSpec.witness6 (enc := enc) (C := Try.checked) false ⟨#[], #[.slice none 0 0, .agg #[.string ByteArray.empty, .int .i64 0, .bool false, .bool false], .string ByteArray.empty], []⟩ 8 (by kernel_rfl) (by kernel_rfl) (by kernel_rfl) (by kernel_rfl)) ?_
  intro W base args ds gs before hval0 hW hcnd _
  have hval : ∀ (j : Nat) t v, Try.f5.params[j]? = some t → args[j]? = some v → Value.okWide Try.prog W .any base t v := hval0
  have hW' := hW
  obtain ⟨p, q, hA0, hV, rfl, hfz, hnd⟩ := hW
  have hA : DataW.TrodAll enc Try.prog W 0 (fun _ => true) true Try.f5.params.toList args.toList ds p := hA0
  rw [Try.params5] at hA hval
  obtain ⟨v0, vs0, d0, ds0, p0, q0, hargs, rfl, rfl, h0, r0⟩ := trodAll_cons hA
  obtain ⟨v1, vs1, d1, ds1, p1, q1, rfl, rfl, rfl, h1, r1⟩ := trodAll_cons r0
  obtain ⟨v2, vs2, d2, ds2, p2, q2, rfl, rfl, rfl, h2, r2⟩ := trodAll_cons r1
  obtain ⟨rfl, rfl, rfl⟩ := trodAll_nil r2
  obtain rfl : args = #[v0, v1, v2] := by cases args; simp_all
  obtain ⟨rfl, rfl⟩ := trodVars_none hV
  have k0 := h0
  have lt0 : ∀ x ∈ p0, x.block < W.heap.size := by obtain ⟨m, hm⟩ := k0; exact DataW.trod_lt m _ _ _ hm
  obtain ⟨a0, len0, cap0, z0, rfl, w0⟩ := open_words (hval 0 26 v0 rfl rfl) h0
  have k1 := h1
  have lt1 : ∀ x ∈ p1, x.block < W.heap.size := by obtain ⟨m, hm⟩ := k1; exact DataW.trod_lt m _ _ _ hm
  obtain ⟨x1, rfl, w1⟩ := open_word (hval 1 31 v1 rfl rfl) h1
  obtain ⟨a2, rfl, rfl, rfl, w2⟩ := open_string Try.underlying9 (hval 2 9 v2 rfl rfl) h2
  clear hA0 hval0
  refine (walk a0 len0 cap0 z0 x1 a2 W w0 w1 w2).mono fun e W' ⟨he, bel⟩ => ?_
  subst he
  exact ⟨_, rfl, _, _, _, [], _, [], hW', trodAll_mk1 (shut_bool Try.underlying4 _), (trodAll_cons_mk (Below.trod laidOut (by kernel_rfl) (of_decide_eq_true (by kernel_rfl)) k0 bel lt0) (trodAll_cons_mk (Below.trod laidOut (by kernel_rfl) (of_decide_eq_true (by kernel_rfl)) k1 bel lt1) (trodAll_cons_mk (shut_string Try.underlying9 w2) trodAll_mk0))), rfl, bel.frame _, fun h => by cases h⟩

theorem over : Rows.namesHidesRow.holds Try.pinned (OpenSpec.ofChange Rows.namesHidesSpec) :=
  OpenClaim.holds_of_wide 5 Try.f5 rfl rfl rfl rfl rfl rfl rfl ⟨rfl, rfl, rfl, rfl, rfl⟩ rfl rfl rfl rfl rfl (by kernel_rfl) Try.func5 (by kernel_rfl)
    (of_decide_eq_true (by kernel_rfl)) (by unfold Func.isWrapper; first | (rw [if_pos (by decide +kernel)]; kernel_rfl) | (rw [if_neg (by decide +kernel)]; exact ⟨rfl, rfl⟩))
    (fun os started H enc _ => lifted os started H enc)

/-- the statement -/
theorem proved : Rows.NamesHidesSaid := over
#print axioms proved
end Go.Proofs.Ytklhehodhlmhaaa.namesHides
