/- The contract of the document's Take. -/
import Derived.Test.YtjlnfconolndoaaNumTake
namespace Go.Proofs.Ytjlnfconolndoaa
open Go.ChangeShapes Go.WideShapes Go.ChangeAt Go.RowKit
set_option linter.unusedVariables false

theorem isC_drop {xs : List Int} {a : Nat} {c : Int} (h : a < xs.length) : isC (xs.drop a) c = (xs.getD a 0 == c) := by
  rw [drop_cons h]
  rfl
theorem isC_past {xs : List Int} {a : Nat} {c : Int} (h : xs.length ≤ a) : isC (xs.drop a) c = false := by
  rw [List.drop_eq_nil_of_le h]
  rfl
theorem signL_empty : signL [] = 0 := rfl
theorem signL_in (xs : List Int) : signL xs = 0 ∨ signL xs = 10 ∨ signL xs = 16 ∨ signL xs = 2 := by unfold signL; (repeat' split) <;> simp
theorem signL_len {xs : List Int} (h : 0 < signL xs) : 1 ≤ xs.length := by
  cases xs with
  | nil => exact absurd h (by decide)
  | cons x xs => simp

theorem un0 (m : Bool) : ((if m = true then wrap64 (-((0 : Int), false).1) else ((0 : Int), false).1), ((0 : Int), false).2) = ((0 : Int), false) := by
  have h : wrap64 (-0) = 0 := by unfold wrap64; decide
  cases m
  · rfl
  · simp only [if_true, h]
theorem unm (m : Bool) (b : Bool) (v : Int) : ((if m = true then wrap64 (-(v, b).1) else (v, b).1), (v, b).2) = ((if m = true then wrap64 (-v) else v), b) := rfl

set_option maxHeartbeats 2000000 in
theorem rtake_any (xs : List Int) (b : Int) (w : World) (hx : bytesOk xs) (hn : xs.length ≤ 1000) (hb : -9223372036854775808 ≤ b ∧ b ≤ 9223372036854775807) :
    Calls Try.prog 12 #[.string (strOfNums xs), .int .i64 b] w fun e w' => e = .returned (.tuple #[.int .i64 (takeL xs b).1, .bool (takeL xs b).2]) ∧ w = w' := by
  have hs := str_size xs
  have hqc : (xs.length = 3 ∧ xs.getD 0 0 = 39 ∧ xs.getD 2 0 = 39 ∧ quoL xs = true) ∨ (quoL xs = false ∧ ((xs.length ≠ 3) ∨ (xs.length = 3 ∧ (xs.getD 0 0 == 39) = false) ∨ (xs.length = 3 ∧ xs.getD 0 0 = 39 ∧ (xs.getD 2 0 == 39) = false))) := by
    unfold quoL
    by_cases q1 : xs.length = 3 <;> by_cases q2 : xs.getD 0 0 = 39 <;> by_cases q3 : xs.getD 2 0 = 39 <;> simp_all
  rcases hqc with ⟨q1, q2, q3, q4⟩ | ⟨q0, q⟩
  · have h0 : ∀ w, (Instr.index 9 (.string (strOfNums xs)) (.int .i64 0)).run Try.prog w = .ok (.int .u8 (xs.getD 0 0)) w := fun w => str_at hx (k := 0) (by omega) w
    have h1 : ∀ w, (Instr.index 9 (.string (strOfNums xs)) (.int .i64 1)).run Try.prog w = .ok (.int .u8 (xs.getD 1 0)) w := fun w => str_at hx (k := 1) (by omega) w
    have h2 : ∀ w, (Instr.index 9 (.string (strOfNums xs)) (.int .i64 2)).run Try.prog w = .ok (.int .u8 (xs.getD 2 0)) w := fun w => str_at hx (k := 2) (by omega) w
    have x1 := hx.get 1
    have e : Hid (takeL xs b = (xs.getD 1 0, true)) := by show takeL xs b = _; rw [takeL, if_pos q4]
    rw [e.out]
    rw [q2] at h0
    rw [q3] at h2
    rw [q1] at hs
    generalize xs.getD 1 0 = x at *
    clear q1 q2 q3 q4 hx hn
    generalize strOfNums xs = s at *
    go_enter Try.func12, Try.ntmps12
    go_wp2
    go_ret2
    exact ⟨rfl, rfl⟩
  · have hat : ∀ k : Nat, k < xs.length → ∀ w, (Instr.index 9 (.string (strOfNums xs)) (.int .i64 (k : Int))).run Try.prog w = .ok (.int .u8 (xs.getD k 0)) w := fun k hk w => str_at hx hk w
    have hg : ∃ u1 u2 : Int, (0 ≤ u1 ∧ u1 ≤ 255) ∧ (0 ≤ u2 ∧ u2 ≤ 255) ∧ ((((xs.length : Int) == 3) = false) ∨ (((xs.length : Int) == 3) = true ∧ (u1 == 39) = false ∧ (∀ w, (Instr.index 9 (.string (strOfNums xs)) (.int .i64 0)).run Try.prog w = .ok (.int .u8 u1) w)) ∨
        (((xs.length : Int) == 3) = true ∧ (u1 == 39) = true ∧ (u2 == 39) = false ∧ (∀ w, (Instr.index 9 (.string (strOfNums xs)) (.int .i64 0)).run Try.prog w = .ok (.int .u8 u1) w) ∧ (∀ w, (Instr.index 9 (.string (strOfNums xs)) (.int .i64 2)).run Try.prog w = .ok (.int .u8 u2) w))) := by
      refine ⟨xs.getD 0 0, xs.getD 2 0, hx.get 0, hx.get 2, ?_⟩
      rcases q with q | ⟨q, r⟩ | ⟨q, r, s⟩
      · exact .inl (by simpa using fun h => q (by omega))
      · exact .inr (.inl ⟨by simp [q], r, hat 0 (by omega)⟩)
      · exact .inr (.inr ⟨by simp [q], by rw [r]; rfl, s, hat 0 (by omega), hat 2 (by omega)⟩)
    obtain ⟨u1, u2, hu1, hu2, hg⟩ := hg
    have hg' := Lib.hid hg
    have hat' := Lib.hid hat
    have hx' := Lib.hid hx
    have htk : Hid (takeL xs b = unL (sgnL xs) (if 0 < signL xs then signL xs else b)) := by show takeL xs b = _; rw [takeL, if_neg (by simp [q0])]
    have hsig := Lib.hid (fun w => signed_any xs w hx hn)
    have hsl := signL_in xs
    have hsn : 0 < signL xs → 1 ≤ xs.length := signL_len
    obtain ⟨n, hn'⟩ : ∃ n, n = xs.length := ⟨_, rfl⟩
    rw [← hn'] at hs hn hg' hsn
    have hnn := Lib.hid hn'
    have hE : ∃ a0 : Nat, ∃ b2 : Int, ∃ gg : Bool, (-9223372036854775808 ≤ b2 ∧ b2 ≤ 9223372036854775807) ∧ (a0 ≤ 1 ∧ a0 ≤ n) ∧ takeL xs b = unL (xs.drop a0) b2 ∧ ((∃ sg, signL xs = sg ∧ 0 < sg ∧ sg ≤ 16 ∧ b2 = sg ∧ a0 = 1 ∧ gg = true) ∨ (signL xs = 0 ∧ b2 = b ∧ a0 = 0 ∧ gg = false)) := by
      by_cases h : 0 < signL xs
      · refine ⟨1, signL xs, true, by omega, ⟨by omega, hsn h⟩, ?_, .inl ⟨_, rfl, h, by omega, rfl, rfl, rfl⟩⟩
        rw [htk.out, sgnL, if_pos h, if_pos h, List.drop_one]
      · refine ⟨0, b, false, hb, by omega, ?_, .inr ⟨by omega, rfl, rfl, rfl⟩⟩
        rw [htk.out, sgnL, if_neg h, if_neg h, List.drop_zero]
    obtain ⟨a0, b2, gg, hb2, ha0, htk2, hE⟩ := hE
    have hE' := Lib.hid hE
    have hM : ∃ m : Bool, ∃ a1 : Nat, (a1 ≤ 2 ∧ a1 ≤ n) ∧ takeL xs b = ((if m = true then wrap64 (-(wholeL (xs.drop a1) b2).1) else (wholeL (xs.drop a1) b2).1), (wholeL (xs.drop a1) b2).2) ∧ ((n ≤ a0 ∧ m = false ∧ a1 = a0) ∨ (a0 < n ∧ ∃ u, (0 ≤ u ∧ u ≤ 255) ∧ (∀ w, (Instr.index 9 (.string (strOfNums xs)) (.int .i64 (a0 : Int))).run Try.prog w = .ok (.int .u8 u) w) ∧ (((u == 45) = false ∧ m = false ∧ a1 = a0) ∨ ((u == 45) = true ∧ m = true ∧ a1 = a0 + 1)))) := by
      by_cases h : a0 < n
      · have e := isC_drop (xs := xs) (a := a0) (c := 45) (by omega)
        cases hu : (xs.getD a0 0 == 45)
        · refine ⟨false, a0, ⟨by omega, by omega⟩, ?_, .inr ⟨h, _, hx.get a0, hat a0 (by omega), .inl ⟨hu, rfl, rfl⟩⟩⟩
          rw [htk2, unL, cutL_no (e.trans hu), e, hu]
        · refine ⟨true, a0 + 1, ⟨by omega, by omega⟩, ?_, .inr ⟨h, _, hx.get a0, hat a0 (by omega), .inr ⟨hu, rfl, rfl⟩⟩⟩
          rw [htk2, unL, cutL_yes (e.trans hu), e, hu, List.tail_drop]
      · have e := isC_past (xs := xs) (a := a0) (c := 45) (by omega)
        refine ⟨false, a0, ⟨by omega, by omega⟩, ?_, .inl ⟨by omega, rfl, rfl⟩⟩
        rw [htk2, unL, cutL_no e, e]
    obtain ⟨m, a1, ha1, htk3, hM⟩ := hM
    have hM' := Lib.hid hM
    have hT := Lib.hid htk3
    have ha01 : a0 ≤ a1 := by rcases hM with ⟨_, _, h⟩ | ⟨_, _, _, _, ⟨_, _, h⟩ | ⟨_, _, h⟩⟩ <;> omega
    clear hM htk3 htk2 hE htk q0 q hsl hsn hn' hg hat hx
    generalize strOfNums xs = s at *
    go_enter Try.func12, Try.ntmps12
    go_upto_region 1 with fail
    go_cut [23] from 11 to 23 (fun g wx => g = .bool false ∧ w = wx)
    case first =>
      clear hat' hx' hsig hM' hE' hT hnn
      rcases hg'.out with g | ⟨g, g2, g3⟩ | ⟨g, g2, g3, g4, g5⟩
      all_goals clear hg'
      all_goals go_wp2_with fail
      all_goals go_meet
      all_goals exact ⟨rfl, rfl⟩
    case rest =>
      obtain ⟨rfl, rfl⟩ := hcut
      clear hg' hu1 hu2
      go_upto_region 4 with fail
      go_cut [29] from 27 to 29 (fun g wx => g = .bool gg ∧ w = wx)
      case first =>
        clear hat' hx' hM' hT hnn hb2 ha01 ha1 ha0
        rcases hE'.out with ⟨sg, h1, h2, h3, rfl, rfl, rfl⟩ | ⟨h1, rfl, rfl, rfl⟩
        all_goals have hs2 := hsig.out
        all_goals rw [h1] at hs2
        all_goals replace hs2 := Lib.hid hs2
        all_goals clear hE' h1 hsig
        all_goals go_wp2_with (go_at_call 18; (with_reducible refine (hs2.out _).mono ?_); rintro e w' ⟨rfl, rfl⟩)
        all_goals go_meet
        all_goals exact ⟨rfl, rfl⟩
      case rest =>
      obtain ⟨rfl, rfl⟩ := hcut
      go_upto_if 29 with fail
      go_cut [1, 6] from 30 to 31 (fun c a wx => c = .int .i64 b2 ∧ a = .int .i64 (a0 : Int) ∧ w = wx)
      case first =>
        clear hat' hx' hM' hT hnn hb2 ha01 ha1 ha0
        rcases hE'.out with ⟨sg, h1, h2, h3, rfl, rfl, rfl⟩ | ⟨h1, rfl, rfl, rfl⟩
        · have hs2 := hsig.out
          rw [h1] at hs2
          replace hs2 := Lib.hid hs2
          clear hE' h1 hsig
          go_wp2_with (go_at_call 18; (with_reducible refine (hs2.out _).mono ?_); rintro e w' ⟨rfl, rfl⟩)
          go_meet
          exact ⟨rfl, rfl, rfl⟩
        · clear hE' h1 hsig
          go_wp2_with fail
          go_meet
          exact ⟨rfl, rfl, rfl⟩
      case rest =>
        obtain ⟨rfl, rfl, rfl⟩ := hcut
        clear hsig hE'
        go_upto_region 7 with fail
        go_cut [7] from 32 to 41 (fun g wx => g = .bool m ∧ w = wx)
        case first =>
          clear hat' hx' hT hnn ha01 ha1
          rcases hM'.out with ⟨h1, rfl, h2⟩ | ⟨h1, u, hu, hix, ⟨g, rfl, h2⟩ | ⟨g, rfl, h2⟩⟩
          all_goals clear hM' h2
          all_goals go_wp2_with fail
          all_goals go_meet
          all_goals exact ⟨rfl, rfl⟩
        case rest =>
          obtain ⟨rfl, rfl⟩ := hcut
          have hma : Hid ((m = false ∧ a1 = a0) ∨ (m = true ∧ a1 = a0 + 1)) := by
            rcases hM'.out with ⟨_, h, h2⟩ | ⟨_, _, _, _, ⟨_, h, h2⟩ | ⟨_, h, h2⟩⟩
            · exact .inl ⟨h, h2⟩
            · exact .inl ⟨h, h2⟩
            · exact .inr ⟨h, h2⟩
          clear hM'
          go_upto_if 42 with fail
          go_cut [6] from 42 to 44 (fun a wx => a = .int .i64 (a1 : Int) ∧ w = wx)
          case first =>
            clear hat' hx' hT hnn ha01
            rcases hma.out with ⟨rfl, rfl⟩ | ⟨rfl, rfl⟩
            · clear hma
              go_wp2_with fail
              go_meet
              exact ⟨rfl, rfl⟩
            · clear hma
              go_wp2_with fail
              go_meet
              exact ⟨congrArg (Value.int .i64) (by omega), rfl⟩
          case rest =>
            obtain ⟨rfl, rfl⟩ := hcut
            clear hma ha01 ha0 hb
            by_cases h1 : b2 < 2
            · have e : Hid (takeL xs b = (0, false)) := by
                show takeL xs b = _
                have hw : wholeL (xs.drop a1) b2 = (0, false) := by rw [wholeL, if_pos (.inr (isB_no (by omega)))]
                rw [hT.out, hw]
                exact un0 m
              go_wp2
              go_ret2
              rw [e.out]
              exact ⟨rfl, rfl⟩
            · by_cases h2 : 36 < b2
              · have e : Hid (takeL xs b = (0, false)) := by
                  show takeL xs b = _
                  have hw : wholeL (xs.drop a1) b2 = (0, false) := by rw [wholeL, if_pos (.inr (isB_no (by omega)))]
                  rw [hT.out, hw]
                  exact un0 m
                go_wp2
                go_ret2
                rw [e.out]
                exact ⟨rfl, rfl⟩
              · by_cases h3 : a1 = n
                · have e : Hid (takeL xs b = (0, false)) := by
                    show takeL xs b = _
                    have hw : wholeL (xs.drop a1) b2 = (0, false) := by rw [wholeL, if_pos (.inl (List.drop_eq_nil_of_le (by have := hnn.out; omega)))]
                    rw [hT.out, hw]
                    exact un0 m
                  have h4 : ((a1 : Int) == (n : Int)) = true := by simp [h3]
                  clear h3
                  go_wp2
                  go_ret2
                  rw [e.out]
                  exact ⟨rfl, rfl⟩
                · have h4 : ((a1 : Int) == (n : Int)) = false := by simp; omega
                  have hw : Hid (wholeL (xs.drop a1) b2 = rd b2 0 (xs.drop a1)) := by
                    show wholeL (xs.drop a1) b2 = _
                    have h5 := hnn.out
                    rw [wholeL, if_neg]
                    simp [isB_yes (show 2 ≤ b2 ∧ b2 ≤ 36 by omega)]
                    omega
                  clear h3
                  go_wp2_with fail
                  go_loop [8, 9] (fun u i => ∃ k : Nat, ∃ v : Int, k ≤ n ∧ i = .int .i64 k ∧ u = .int .i64 v ∧ (-9223372036854775808 ≤ v ∧ v ≤ 9223372036854775807) ∧ rd b2 0 (xs.drop a1) = rd b2 v (xs.drop k)) (fun _ i => n - (intOf i).toNat)
                  case atStart => exact ⟨a1, 0, by omega, rfl, rfl, by decide, rfl⟩
                  case round =>
                    obtain ⟨k, v, hk, rfl, rfl, hv, hrd⟩ := hrel
                    by_cases hkn : k < n
                    · have hkx : k < xs.length := by have := hnn.out; omega
                      have hxk := hx'.out.get k
                      have hat1 := hat'.out k hkx
                      rw [drop_cons hkx] at hrd
                      generalize xs.getD k 0 = x at *
                      have hfI := figI_bd x
                      have hfR := figR_eq x
                      obtain ⟨d, hd⟩ : ∃ d, d = figR x := ⟨_, rfl⟩
                      have hfig := Lib.hid (fun w => rfigure_any x w hxk)
                      rw [← hd] at hfig hfR
                      by_cases hdb : d < 0 ∨ b2 ≤ d
                      · rw [rd_no (by omega)] at hrd
                        have e : Hid (takeL xs b = (0, false)) := by
                          show takeL xs b = _
                          rw [hT.out, hw.out, hrd]
                          exact un0 m
                        clear hrd hd hkx hfR hfI
                        rcases hdb with hdb | hdb
                        · go_wp2_with (go_at_call 19; (with_reducible refine (hfig.out _).mono ?_); rintro e w' ⟨rfl, rfl⟩)
                          go_ret2
                          rw [e.out]
                          exact ⟨rfl, rfl⟩
                        · have hd0 : ¬ d < 0 := by omega
                          go_wp2_with (go_at_call 19; (with_reducible refine (hfig.out _).mono ?_); rintro e w' ⟨rfl, rfl⟩)
                          go_ret2
                          rw [e.out]
                          exact ⟨rfl, rfl⟩
                      · have hdI : figI x = d := by omega
                        have hd0 : ¬ d < 0 := by omega
                        have hd1 : d < b2 := by omega
                        rw [rd_on (by omega), hdI] at hrd
                        have hrd' := Lib.hid hrd
                        clear hrd hd hkx hfR hfI hdI hdb
                        go_wp2_with (go_at_call 19; (with_reducible refine (hfig.out _).mono ?_); rintro e w' ⟨rfl, rfl⟩)
                        exact ⟨⟨k + 1, _, by omega, by go_num, rfl, wbd _, hrd'.out⟩, by simp only [intOf]; omega⟩
                    · obtain rfl : k = n := by omega
                      rw [hnn.out, List.drop_length, rd_end] at hrd
                      have hr := hT.out
                      rw [hw.out, hrd] at hr
                      have hr' := Lib.hid hr
                      clear hrd hr
                      cases m
                      · go_wp2
                        go_ret2
                        rw [hr'.out]
                        exact ⟨rfl, rfl⟩
                      · go_wp2
                        go_ret2
                        rw [hr'.out]
                        exact ⟨rfl, rfl⟩
end Go.Proofs.Ytjlnfconolndoaa
