/- The contract of the document's Put. -/
import Derived.Test.YtjlnfconolndoaaNumLay
import Derived.Laws.BytesArg
namespace Go.Proofs.Ytjlnfconolndoaa
open Go.ChangeShapes Go.WideShapes Go.ChangeAt Go.RowKit
set_option linter.unusedVariables false

theorem one_slice (c : Int) (W : World) : (Instr.buildSlice 35 1 #[(0, .int .u8 c)]).run Try.prog W = .ok (.slice (some ⟨W.heap.size, 0, none⟩) 1 1) (W.alloc (.cells #[.int .u8 c] 5)) := by kernel_rfl
theorem one_string (c : Int) (W : World) : (Go.convert 35 9 (.slice (some ⟨W.heap.size, 0, none⟩) 1 1)).run Try.prog (W.alloc (.cells #[.int .u8 c] 5)) = .ok (.string (strOfNums [c])) (W.alloc (.cells #[.int .u8 c] 5)) := by
  refine run_convert_bytes_arg (P := Try.prog) _ 35 5 Try.underlying35 Try.underlying5 _ 0 1 1 [c] rfl (fun i hi => ?_) 9 Try.underlying9
  obtain rfl : i = 0 := by omega
  exact cell_of_one (heap_alloc_new W _)
theorem add_strs (xs ys : List Int) (h : xs.length + ys.length ≤ 1000) (W : World) : (Op.stringOp .add (strOfNums xs) (strOfNums ys)).run Try.prog W = .ok (.string (strOfNums (xs ++ ys))) W := by
  rw [run_string_add_sum W _ _ (by rw [str_size, str_size]; omega), str_app]
theorem add_minus (ys : List Int) (h : ys.length ≤ 900) (W : World) : (Op.stringOp .add ⟨#[45]⟩ (strOfNums ys)).run Try.prog W = .ok (.string (strOfNums (45 :: ys))) W := by
  have e : (⟨#[45]⟩ : ByteArray) = strOfNums [45] := by decide +kernel
  rw [e]
  exact add_strs [45] ys (by simp; omega) W

theorem tmod_abs (x : Int) (B : Nat) : (x.tmod (B : Int)).natAbs = x.natAbs % B := by
  rw [Int.natAbs_tmod]
  rfl
theorem tdiv_abs (x : Int) (B : Nat) : (x.tdiv (B : Int)).natAbs = x.natAbs / B := by
  rw [Int.natAbs_tdiv]
  rfl

set_option maxHeartbeats 1000000 in
theorem rput_any (n b : Int) (w : World) (hn : -9223372036854775808 ≤ n ∧ n ≤ 9223372036854775807) (hb : -9223372036854775808 ≤ b ∧ b ≤ 9223372036854775807) :
    Calls Try.prog 10 #[.int .i64 n, .int .i64 b] w fun e w' => e = .returned (.tuple #[.string (strOfNums (putL n b)), .bool (isB b)]) ∧ Below w.heap.size w w' := by
  by_cases hlo : b < 2
  · have e : Hid (putL n b = []) := putL_no (by omega)
    have e2 : Hid (isB b = false) := isB_no (by omega)
    rw [e.out, e2.out]
    go_enter Try.func10, Try.ntmps10
    go_wp2
    go_ret2
    exact ⟨rfl, Below.refl _ _⟩
  · by_cases hhi : 36 < b
    · have e : Hid (putL n b = []) := putL_no (by omega)
      have e2 : Hid (isB b = false) := isB_no (by omega)
      rw [e.out, e2.out]
      go_enter Try.func10, Try.ntmps10
      go_wp2
      go_ret2
      exact ⟨rfl, Below.refl _ _⟩
    · obtain ⟨B, rfl⟩ : ∃ B : Nat, b = B := ⟨b.toNat, by omega⟩
      have hbb : 2 ≤ B ∧ B ≤ 36 := by omega
      have e2 : Hid (isB (B : Int) = true) := isB_yes (by omega)
      rw [e2.out]
      have hpl : Hid (putL n B = (if n < 0 then [45] else []) ++ (digs B n.natAbs).map fig) := by show putL n B = _; rw [putL, if_pos (by omega)]; simp
      have hB0 : ((B : Int) == 0) = false := by simp; omega
      have hB1 : ¬ (B : Int) = 0 := by omega
      have hlen' := Lib.hid (digs_len (b := B) (m := n.natAbs) (by omega) (by omega))
      have es : Hid ((⟨#[]⟩ : ByteArray) = strOfNums []) := rfl
      go_enter Try.func10, Try.ntmps10
      go_wp2
      go_loopw [6, 7] (fun o l wr => ∃ x : Int, ∃ ds : List Int, l = .int .i64 x ∧ o = .string (strOfNums (ds.map fig)) ∧ (-9223372036854775808 ≤ x ∧ x ≤ 9223372036854775807) ∧ ds.length ≤ 64 ∧ ((ds = [] ∧ x = n) ∨ (ds ≠ [] ∧ digs B n.natAbs = pre B x.natAbs ++ ds)) ∧ Below w.heap.size w wr) (fun o l _ => (intOf l).natAbs + (match o with | .string s => 1 - s.size | _ => 0))
      case atStart => exact ⟨n, [], rfl, congrArg Value.string es.out, hn, by simp, .inl ⟨rfl, rfl⟩, Below.refl _ _⟩
      case round =>
        obtain ⟨x, ds, rfl, rfl, hx, hdl, hrel2, hBl⟩ := hrel
        have hBl' := Lib.hid hBl
        by_cases hend : x = 0 ∧ ds ≠ []
        · obtain ⟨rfl, hne⟩ := hend
          have hE : ((strOfNums (ds.map fig)).toList == []) = false := by
            cases ds with
            | nil => exact absurd rfl hne
            | cons d ds => rw [str_list]; rfl
          have hd : digs B n.natAbs = ds := by
            rcases hrel2 with ⟨h, _⟩ | ⟨_, h⟩
            · exact absurd h hne
            · rw [h, Int.natAbs_zero, pre_zero]
              rfl
          have hd' := Lib.hid hd
          clear hd hne hrel2 hBl
          by_cases hneg : n < 0
          · have hadd := add_minus (ds.map fig) (by simp; omega)
            have hput : Hid (putL n B = 45 :: ds.map fig) := by
              show putL n B = _
              rw [hpl.out, if_pos hneg, hd'.out]
              rfl
            go_wp2
            go_ret2
            rw [hput.out]
            exact ⟨rfl, hBl'.out⟩
          · have hput : Hid (putL n B = ds.map fig) := by
              show putL n B = _
              rw [hpl.out, if_neg hneg, hd'.out]
              rfl
            go_wp2
            go_ret2
            rw [hput.out]
            exact ⟨rfl, hBl'.out⟩
        · have hm1 := tmod_abs x B
          have hm2 := tdiv_abs x B
          obtain ⟨d0, hd0⟩ : ∃ d0, x.tmod (B : Int) = d0 := ⟨_, rfl⟩
          obtain ⟨x2, hx2⟩ : ∃ x2, x.tdiv (B : Int) = x2 := ⟨_, rfl⟩
          rw [hd0] at hm1
          rw [hx2] at hm2
          have hrb : x.natAbs % B < B := Nat.mod_lt _ (by omega)
          have hle : x2.natAbs ≤ x.natAbs := by rw [hm2]; exact Nat.div_le_self _ _
          have hls : x ≠ 0 → x2.natAbs < x.natAbs := fun h => by rw [hm2]; exact Nat.div_lt_self (by omega) (by omega)
          have hd0b : -36 < d0 ∧ d0 < 36 := by omega
          have hx2b : -9223372036854775808 ≤ x2 ∧ x2 ≤ 9223372036854775807 := by
            by_cases h : x = 0
            · omega
            · have := hls h
              omega
          obtain ⟨r, hr⟩ : ∃ r : Int, r = ((x.natAbs % B : Nat) : Int) := ⟨_, rfl⟩
          have hr0 : 0 ≤ r ∧ r < 36 := by omega
          have hrel3 : (r :: ds).length ≤ 64 ∧ digs B n.natAbs = pre B x2.natAbs ++ (r :: ds) := by
            have h2 : digs B n.natAbs = pre B x2.natAbs ++ (r :: ds) := by
              rcases hrel2 with ⟨rfl, rfl⟩ | ⟨hne, h⟩
              · rw [digs, hm2, hr]
              · rw [h, pre_pos hbb.1 (by intro h0; exact hend ⟨by omega, hne⟩), hm2, hr, List.append_assoc]
                rfl
            have h3 := hlen'.out.2
            rw [h2, List.length_append] at h3
            exact ⟨by omega, h2⟩
          have hrel3' := Lib.hid hrel3
          have hmeas : Hid (x2.natAbs + 0 < x.natAbs + (1 - (strOfNums (ds.map fig)).size)) := by
            show x2.natAbs + 0 < _
            rw [str_size]
            by_cases h : x = 0
            · have : ds = [] := by
                by_cases h2 : ds = []
                · exact h2
                · exact absurd ⟨h, h2⟩ hend
              subst this
              simp
              omega
            · have := hls h
              omega
          have hos := one_slice (fig r)
          have hoc := one_string (fig r)
          have hadd := add_strs [fig r] (ds.map fig) (by simp; omega)
          have hlet := Lib.hid (fun w => letter_any r w hr0)
          have hfb := fig_bd hr0
          have hab : Hid (r = d0 ∨ (d0 < 0 ∧ 0 - d0 = r)) := by show r = d0 ∨ _; omega
          have hsz : Hid (1 - (strOfNums (fig r :: ds.map fig)).size = 0) := by show 1 - (strOfNums (fig r :: ds.map fig)).size = 0; rw [str_size]; simp
          have hgo : Hid ((x != 0) = true ∨ ((x != 0) = false ∧ ((strOfNums (ds.map fig)).toList == []) = true)) := by
            show (x != 0) = true ∨ _
            by_cases h : x = 0
            · right
              have : ds = [] := by
                by_cases h2 : ds = []
                · exact h2
                · exact absurd ⟨h, h2⟩ hend
              subst this
              exact ⟨by simp [h], by rw [str_list]; rfl⟩
            · left
              simpa using h
          have hdl' := Lib.hid hdl
          clear hrel2 hrel3 hBl hend hls hle hrb hm1 hm2 hr hdl
          generalize hys : ds.map fig = ys at *
          have hys' := Lib.hid hys
          clear hys
          rcases hgo.out with g | ⟨g, hE⟩ <;> rcases hab.out with hd1 | ⟨hd1, hd2⟩
          all_goals (try subst hd1)
          all_goals clear hgo hab
          all_goals go_wp2_with (go_at_call 15; (with_reducible refine (hlet.out _).mono ?_); rintro e w' ⟨rfl, rfl⟩)
          all_goals refine ⟨⟨x2, r :: ds, rfl, by rw [List.map_cons, hys'.out], hx2b, hrel3'.out.1, .inr ⟨by simp, hrel3'.out.2⟩, hBl'.out.alloc (hBl'.out.size) _⟩, ?_⟩
          all_goals show x2.natAbs + (1 - (strOfNums (fig r :: ys)).size) < x.natAbs + (1 - (strOfNums ys).size)
          all_goals rw [hsz.out]
          all_goals exact hmeas.out
end Go.Proofs.Ytjlnfconolndoaa
