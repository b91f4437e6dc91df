/- SourceAll: for every input the law returns true, and each argument reads behind the call as it read before. No condition. -/
import Derived.Test.YtcjdhajnaonpcaaRows
import Derived.WalkKit
import Derived.ProofKit
import Derived.OpenShut
import Derived.Test.YtcjdhajnaonpcaaBelow
import Derived.Test.YtcjdhajnaonpcaaSrcLaw
import Derived.ShutString
namespace Go.Proofs.Ytcjdhajnaonpcaa.sourceAll
open Go.ChangeShapes Go.WideShapes Go.ChangeAt Go.RowKit
open Go.ChangeMaps (open_string shut_string)
set_option linter.unusedVariables false      -- a walk need not use every 'w<i>' (that an integer argument fits its kind)

theorem own : ownKnob Try.prog.godebug = none := by kernel_rfl

/-! ### the walk: the Go text returns true -/
set_option maxRecDepth 100000 in
set_option maxHeartbeats 2000000 in
theorem walk (a0 : ByteArray) (w0 : a0.size ≤ maxLen) (w : World) :
    Calls Try.prog 6 #[.string a0] w fun e w' => e = .returned (.bool true) ∧ Below w.heap.size w w' := by
  obtain ⟨xs, hx, rfl⟩ : ∃ xs, bytesOk xs ∧ a0 = strOfNums xs := ⟨bytesOf a0, bytesOf_ok a0, (str_of a0).symm⟩
  have hs := str_size xs
  rw [hs] at w0
  unfold maxLen at w0
  obtain ⟨n, hn⟩ : ∃ n, n = xs.length := ⟨_, rfl⟩
  rw [← hn] at hs w0
  have hn' := Lib.hid hn
  have hx' := Lib.hid hx
  clear hn hx
  by_cases hl : 200 < n
  · go_enter Try.func6, Try.ntmps6
    go_wp2_with (go_at_call 8; (with_reducible refine (awake_any _).mono ?_); rintro e w1 ⟨rfl, hb1⟩)
    go_ret
    exact ⟨rfl, hb1.out⟩
  have hl1 : xs.length ≤ 1000 := by have := hn'.out; omega
  have hl' := Lib.hid hl1
  clear hl1
  have hT := Lib.hid (fun (k : Nat) (hk : k ≤ xs.length) W h => tok_from (w0 := w) (W := W) xs (k : Int) h hx'.out hl'.out (by have := hl'.out; omega))
  have hat := Lib.hid (fun k (hk : k < xs.length) => str_at hx'.out hk)
  have hcut := Lib.hid (fun (a b : Nat) (hab : a ≤ b) (hb : b ≤ xs.length) => run_cut xs hab hb)
  generalize strOfNums xs = s at *
  go_enter Try.func6, Try.ntmps6
  go_wp2_with (go_at_call 8; (with_reducible refine (awake_any _).mono ?_); rintro e w1 ⟨rfl, hb1⟩)
  go_loopw [4, 5] (fun a i wr => ∃ k m : Nat, m ≤ k ∧ k ≤ n ∧ a = .int .i64 k ∧ i = .int .i64 m ∧ Hid (Below w.heap.size w wr)) (fun a _ _ => n - (intOf a).toNat)
  case atStart => exact ⟨0, 0, Nat.le_refl _, Nat.zero_le _, rfl, rfl, hb1⟩
  case round =>
    obtain ⟨k, m, hmk, hkn, rfl, rfl, hbw⟩ := hrel
    clear hb1
    have hkx : k ≤ xs.length := by have := hn'.out; omega
    have hTk := hT.out k hkx
    rw [bdN_in hkx] at hTk
    unfold tokL at hTk
    have hb1 := bg_ge xs k
    have hb2 := bg_le hkx
    have hin1 := Lib.hid (fun i => bg_in xs _ k i rfl)
    have hfar : Hid (bg xs k < xs.length → bg xs k < en xs (bg xs k)) := Lib.hid en_far
    have hend : Hid (bg xs k = xs.length → en xs (bg xs k) = xs.length) := Lib.hid (fun h => by rw [h, en_end])
    generalize bg xs k = b at *
    have he1 := en_ge xs b
    have he2 := en_le hb2
    have hin2 := Lib.hid (fun i => en_in xs _ b i rfl)
    generalize en xs b = e at *
    have hc := hcut.out b e he1 he2
    have hz1 : b < e → ((strOfNums (cutN xs b e)).toList == []) = false := fun h => tok_some hx'.out h he2
    have hz2 : b = e → ((strOfNums (cutN xs b e)).toList == []) = true := fun h => by rw [h]; exact tok_none xs e
    generalize strOfNums (cutN xs b e) = z at *
    have hz : Hid ((b < e ∧ (z.toList == []) = false) ∨ (b = n ∧ e = n ∧ (z.toList == []) = true)) := by
      apply Lib.hid
      have h1 := hn'.out
      have h2 := hfar.out
      have h3 := hend.out
      by_cases h : b < e
      · exact .inl ⟨h, hz1 h⟩
      · have h4 : b = xs.length := by
          by_cases h5 : b < xs.length
          · exact absurd (h2 h5) h
          · omega
        have h6 := h3 h4
        exact .inr ⟨by omega, by omega, hz2 (by omega)⟩
    have g1 : decide (b < k) = false := by simp; omega
    have g2 : decide (e < b) = false := by simp; omega
    have g3 : decide (n < e) = false := by have := hn'.out; simp; omega
    have hen : e ≤ n := by have := hn'.out; omega
    replace hTk := Lib.hid hTk
    clear hz1 hz2 hfar hend hkx hb2 he2
    go_wp2_with (go_at_call 9; (with_reducible refine (hTk.out _ hbw).mono ?_); rintro e w2 ⟨rfl, hb2⟩)
    go_loop [9] (fun i => ∃ j : Nat, k ≤ j ∧ j ≤ b ∧ i = .int .i64 j) (fun i => b - (intOf i).toNat)
    case atStart => exact ⟨k, Nat.le_refl _, hb1, rfl⟩
    case round =>
      obtain ⟨j, hj1, hj2, rfl⟩ := hrel
      by_cases hjb : j < b
      · have hjx : j < xs.length := by have := hn'.out; omega
        have hy := hx'.out.get j
        have hat1 := hat.out j hjx
        have hi := hin1.out j hj1 hjb hjx
        clear hjx
        generalize xs.getD j 0 = y at *
        go_wp2
        exact ⟨⟨j + 1, by omega, by omega, by go_num⟩, by simp only [intOf]; omega⟩
      · obtain rfl : j = b := by omega
        go_wp2
        go_loop [10] (fun i => ∃ j2 : Nat, j ≤ j2 ∧ j2 ≤ e ∧ i = .int .i64 j2) (fun i => e - (intOf i).toNat)
        case atStart => exact ⟨j, Nat.le_refl _, he1, rfl⟩
        case round =>
          obtain ⟨j2, hj3, hj4, rfl⟩ := hrel
          by_cases hje : j2 < e
          · have hjx : j2 < xs.length := by have := hn'.out; omega
            have hy := hx'.out.get j2
            have hat1 := hat.out j2 hjx
            have hi := hin2.out j2 hj3 hje hjx
            clear hjx
            generalize xs.getD j2 0 = y at *
            go_wp2
            exact ⟨⟨j2 + 1, by omega, by omega, by go_num⟩, by simp only [intOf]; omega⟩
          · obtain rfl : j2 = e := by omega
            rcases hz.out with ⟨h1, h2⟩ | ⟨rfl, h1, h2⟩
            · go_wp2
              exact ⟨⟨j2, m + 1, by omega, hen, rfl, by go_num, hb2⟩, by simp only [intOf]; omega⟩
            · have h3 : ((j2 : Int) == (j : Int)) = true := by simp; omega
              clear h1
              go_wp2
              go_ret
              exact ⟨rfl, hb2.out⟩

/-! ### THE ROW's STEP: WRITTEN OUT: LEAVE IT -/
set_option maxRecDepth 100000 in
theorem lifted (os : Os) (started : os.Started) (H : Type) (enc : TypeId × Value → H) :
    ReturnsInHanded {} Try.checked os 6 .any (Rows.sourceAllSpec.pre6 enc Try.prog Try.f6 Rows.sourceAllRow.domain false) (Rows.sourceAllSpec.post enc Try.prog Try.f6 false true false false) := by
  refine returnsInHanded_of_change (C := Try.checked) own started (by kernel_rfl) Try.func6
    (ChangeSpec.witness6 (enc := enc) (C := Try.checked) false ⟨#[], #[.string ByteArray.empty], []⟩ 8 (by kernel_rfl) (by kernel_rfl) (by kernel_rfl) (by kernel_rfl)) ?_
  intro W base args ds gs before hval0 hW hcnd _
  have hval : ∀ (j : Nat) t v, Try.f6.params[j]? = some t → args[j]? = some v → Value.okWide Try.prog W .any base t v := hval0
  have hW' := hW
  obtain ⟨p, q, hA0, hV, rfl, hfz, hnd⟩ := hW
  have hA : DataW.TrodAll enc Try.prog W 0 (fun _ => true) true Try.f6.params.toList args.toList ds p := hA0
  rw [Try.params6] at hA hval
  obtain ⟨v0, vs0, d0, ds0, p0, q0, hargs, rfl, rfl, h0, r0⟩ := trodAll_cons hA
  obtain ⟨rfl, rfl, rfl⟩ := trodAll_nil r0
  obtain rfl : args = #[v0] := by cases args; simp_all
  obtain ⟨rfl, rfl⟩ := trodVars_none hV
  obtain ⟨a0, rfl, rfl, rfl, w0⟩ := open_string Try.underlying9 (hval 0 9 v0 rfl rfl) h0
  clear hA0 hval0
  simp only [List.append_nil] at hW'
  refine (walk a0 w0 W).mono fun e W' ⟨he, hg⟩ => ?_
  subst he
  exact ⟨_, rfl, post_of_below (pa := []) (pv := []) hW' (fun _ _ _ => (trodAll_cons_mk (shut_bool Try.underlying4 _) trodAll_mk0)) (fun sp _ => (trodAll_cons_mk (shut_string Try.underlying9 w0) trodAll_mk0)) (fun _ _ => rfl) rfl
    hg (ok_one (by kernel_rfl) rfl (okWide_bool_mk Try.underlying4 _))⟩

theorem over : Rows.sourceAllRow.holds Try.pinned (OpenSpec.ofChange Rows.sourceAllSpec) :=
  OpenClaim.holds_of_wide 6 Try.f6 rfl rfl rfl rfl rfl rfl rfl ⟨rfl, rfl, rfl, rfl, rfl⟩ rfl rfl rfl rfl rfl (by kernel_rfl) Try.func6 (by kernel_rfl)
    (of_decide_eq_true (by kernel_rfl)) (by unfold Func.isWrapper; first | (rw [if_pos (by decide +kernel)]; kernel_rfl) | (rw [if_neg (by decide +kernel)]; exact ⟨rfl, rfl⟩))
    (fun os started H enc _ => lifted os started H enc)

/-- ████ THE STATEMENT ████ -/
theorem proved : Rows.SourceAllSaid :=
  over
#print axioms proved
end Go.Proofs.Ytcjdhajnaonpcaa.sourceAll
