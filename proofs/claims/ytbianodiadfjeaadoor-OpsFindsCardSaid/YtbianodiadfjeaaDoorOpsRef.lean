/- Contracts of the document's Name and Find. -/
import Derived.Test.YtbianodiadfjeaaDoorOpsRkind
namespace Go.Proofs.YtbianodiadfjeaaDoor
open Go.ChangeShapes Go.WideShapes Go.RowKit
set_option linter.unusedVariables false

set_option maxRecDepth 100000 in
theorem big_eq : ({ data := (((([69, 88, 73, 84, 32, 40, 76, 73, 84, 41, 32, 40, 66, 82, 65, 78, 67, 72, 41, 32, 40, 48, 66, 82, 65, 78, 67, 72, 41, 32, 40, 68, 79, 41, 32, 40, 76, 79, 79, 80].append [41, 32, 40, 43, 76, 79, 79, 80, 41, 32, 40, 86, 65, 82, 41, 32, 40, 68, 79, 69, 83, 41, 32, 40, 84, 69, 88, 84, 41, 32, 40, 77, 65, 82, 75, 41, 32, 67, 79, 77, 80]).append ([73, 76, 69, 44, 32, 68, 85, 80, 32, 68, 82, 79, 80, 32, 83, 87, 65, 80, 32, 79, 86, 69, 82, 32, 82, 79, 84, 32, 78, 73, 80, 32, 84, 85, 67, 75, 32, 63, 68, 85, 80].append [32, 50, 68, 85, 80, 32, 50, 68, 82, 79, 80, 32, 50, 83, 87, 65, 80, 32, 50, 79, 86, 69, 82, 32, 80, 73, 67, 75, 32, 82, 79, 76, 76, 32, 68, 69, 80, 84, 72, 32, 43])).append (([32, 45, 32, 42, 32, 47, 32, 77, 79, 68, 32, 47, 77, 79, 68, 32, 42, 47, 32, 42, 47, 77, 79, 68, 32, 49, 43, 32, 49, 45, 32, 50, 42, 32, 50, 47, 32, 78, 69, 71].append [65, 84, 69, 32, 65, 66, 83, 32, 77, 73, 78, 32, 77, 65, 88, 32, 65, 78, 68, 32, 79, 82, 32, 88, 79, 82, 32, 73, 78, 86, 69, 82, 84, 32, 76, 83, 72, 73, 70, 84, 32]).append ([82, 83, 72, 73, 70, 84, 32, 61, 32, 60, 62, 32, 60, 32, 62, 32, 85, 60, 32, 48, 61, 32, 48, 60, 32, 48, 60, 62, 32, 48, 62, 32, 87, 73, 84, 72, 73, 78, 32, 84, 82].append [85, 69, 32, 70, 65, 76, 83, 69, 32, 67, 69, 76, 76, 83, 32, 67, 69, 76, 76, 43, 32, 70, 43, 32, 70, 45, 32, 70, 42, 32, 70, 47, 32, 70, 77, 73, 78, 32, 70, 77, 65]))).append ((([88, 32, 70, 78, 69, 71, 65, 84, 69, 32, 70, 65, 66, 83, 32, 70, 83, 81, 82, 84, 32, 70, 76, 79, 79, 82, 32, 70, 60, 32, 70, 61, 32, 83, 62, 70, 32, 70, 62, 83].append [32, 64, 32, 33, 32, 43, 33, 32, 67, 64, 32, 67, 33, 32, 72, 69, 82, 69, 32, 65, 76, 76, 79, 84, 32, 44, 32, 67, 44, 32, 65, 76, 73, 71, 78, 32, 66, 65, 83, 69, 32]).append ([68, 69, 67, 73, 77, 65, 76, 32, 72, 69, 88, 32, 62, 82, 32, 82, 62, 32, 82, 64, 32, 73, 32, 74, 32, 85, 78, 76, 79, 79, 80, 32, 76, 69, 65, 86, 69, 32, 73, 70, 32].append [69, 76, 83, 69, 32, 84, 72, 69, 78, 32, 66, 69, 71, 73, 78, 32, 65, 71, 65, 73, 78, 32, 85, 78, 84, 73, 76, 32, 87, 72, 73, 76, 69, 32, 82, 69, 80, 69, 65, 84, 32])).append (([68, 79, 32, 76, 79, 79, 80, 32, 43, 76, 79, 79, 80, 32, 82, 69, 67, 85, 82, 83, 69, 32, 58, 32, 59, 32, 73, 77, 77, 69, 68, 73, 65, 84, 69, 32, 67, 79, 78, 83, 84].append [65, 78, 84, 32, 86, 65, 82, 73, 65, 66, 76, 69, 32, 67, 82, 69, 65, 84, 69, 32, 68, 79, 69, 83, 62, 32, 77, 65, 82, 75, 69, 82, 32, 39, 32, 91, 39, 93, 32, 76, 73]).append ([84, 69, 82, 65, 76, 32, 80, 79, 83, 84, 80, 79, 78, 69, 32, 91, 32, 93, 32, 69, 88, 69, 67, 85, 84, 69, 32, 67, 72, 65, 82, 32, 91, 67, 72, 65, 82, 93, 32, 40, 32].append [92, 32, 46, 34, 32, 69, 77, 73, 84, 32, 67, 82, 32, 83, 80, 65, 67, 69, 32, 46, 32, 84, 89, 80, 69, 32, 75, 69, 89, 32, 84, 72, 82, 79, 87, 32, 65, 66, 79, 82, 84])))).toArray } : ByteArray) = strOfNums txt := by kernel_rfl
/-- the byte at a place of the text, and a name cut out of it, as the walk meets them -/
theorem big_at {i : Nat} (h : i < 653) (w : World) : (Instr.index 9 (.string (strOfNums txt)) (.int .i64 (i : Int))).run Tryd.prog w = .ok (.int .u8 (txt.getD i 0)) w :=
  str_at txt_ok (by rw [txt_len]; exact h) w
theorem big_cut {m : Nat} (h : m < 137) (w : World) : (Instr.sliceAt 9 (.string (strOfNums txt)) (some (.int .i64 (off m : Nat))) (some (.int .i64 ((off m + (nmN m).length : Nat) : Int))) none).run Tryd.prog w = .ok (.string (strOfNums (nmN m))) w := by
  have hb := off_bd h
  rw [run_cut txt (by omega) (by rw [txt_len]; omega), txt_cut h]

/-- where a word begins and where a place of it lies -/
structure Pl (m j p q : Nat) : Prop where
  le : m ≤ 137
  at_ : p = off m
  pl : q = off m + j
  inn : m < 137 → j ≤ (nmN m).length
  fin : m = 137 → j = 0
theorem Pl.zero : Pl 0 0 0 0 := ⟨by decide, rfl, rfl, fun _ => Nat.zero_le _, fun h => by cases h⟩
theorem Pl.on {m j p q : Nat} (h : Pl m j p q) (hm : m < 137) (hj : j < (nmN m).length) : Pl m (j + 1) p (q + 1) :=
  ⟨h.le, h.at_, by rw [h.pl]; omega, fun _ => hj, fun e => by omega⟩
theorem Pl.next {m j p q : Nat} (h : Pl m j p q) (hm : m < 137) (hj : ¬ j < (nmN m).length) : Pl (m + 1) 0 (q + 1) (q + 1) := by
  have h1 := h.inn hm
  have h2 := off_next hm
  have h3 := h.pl
  exact ⟨by omega, by omega, by omega, fun _ => Nat.zero_le _, fun _ => rfl⟩
theorem Pl.bd {m j p q : Nat} (h : Pl m j p q) : q ≤ 654 ∧ (m < 137 → q ≤ 653) ∧ (m = 137 → q = 654) := by
  have h3 := h.pl
  rcases Nat.lt_or_ge m 137 with hm | hm
  · have h1 := h.inn hm
    have h2 := off_bd hm
    omega
  · have e : m = 137 := by have := h.le; omega
    subst e
    rw [h.fin rfl, off_end] at h3
    omega
theorem Pl.byte {m j p q : Nat} (h : Pl m j p q) (hm : m < 137) (hj : j < (nmN m).length) : q < 653 ∧ (txt.getD q 0 == 32) = false := by
  rw [h.pl]
  exact txt_in hm hj
theorem Pl.blank {m j p q : Nat} (h : Pl m j p q) (hm : m < 137) (hj : ¬ j < (nmN m).length) (hq : q < 653) : (txt.getD q 0 == 32) = true := by
  have h1 := h.inn hm
  have e : j = (nmN m).length := by omega
  have h3 := h.pl
  rw [e] at h3
  rw [h3] at hq ⊢
  exact txt_end hm hq
theorem Pl.cut {m j p q : Nat} (h : Pl m j p q) (hm : m < 137) (hj : ¬ j < (nmN m).length) (w : World) :
    (Instr.sliceAt 9 (.string (strOfNums txt)) (some (.int .i64 (p : Int))) (some (.int .i64 (q : Int))) none).run Tryd.prog w = .ok (.string (strOfNums (nmN m))) w := by
  have h1 := h.inn hm
  have e : j = (nmN m).length := by omega
  have h3 := h.pl
  rw [e] at h3
  rw [h.at_, h3]
  exact big_cut hm w

set_option maxRecDepth 100000 in
theorem rname_any (op : Int) (w : World) (hb : -9223372036854775808 ≤ op ∧ op ≤ 9223372036854775807) :
    Calls Tryd.prog 10 #[.int .i64 op] w fun e w' => e = .returned (.string (strOfNums (nm op))) ∧ w = w' := by
  have hat := Lib.hid (fun (i : Nat) (h : i < 653) => big_at h)
  have hcut := Lib.hid (fun (m j p q : Nat) (h : Pl m j p q) (hm : m < 137) hj => h.cut hm hj)
  have hbk := Lib.hid (fun (i : Nat) => txt_ok.get i)
  go_enter Tryd.func10, Tryd.ntmps10
  rw [big_eq]
  generalize strOfNums txt = S at *
  go_wp2
  go_loop [3, 4, 5] (fun a n i => ∃ m j p q : Nat, m ≤ 137 ∧ q ≤ 654 ∧ a = .int .i64 (p : Int) ∧ n = .int .i64 ((m : Int) + 1) ∧ i = .int .i64 (q : Int) ∧ Hid (Pl m j p q) ∧ Hid (¬ (1 ≤ op ∧ op ≤ (m : Int)))) (fun _ _ i => 655 - (intOf i).toNat)
  case atStart => exact ⟨0, 0, 0, 0, by decide, by decide, rfl, rfl, rfl, Lib.hid Pl.zero, Lib.hid (by omega)⟩
  case round =>
    obtain ⟨m, j, p, q, hm, hq, rfl, rfl, rfl, hP, hN⟩ := hrel
    by_cases hm1 : m < 137
    · by_cases hj : j < (nmN m).length
      · obtain ⟨hq1, hc⟩ := hP.out.byte hm1 hj
        have hP2 := Lib.hid (hP.out.on hm1 hj)
        have hc1 := hat.out q hq1
        have hbq := hbk.out q
        have hq2 : ((q : Int) == 653) = false := by simp; omega
        clear hj
        generalize txt.getD q 0 = c at *
        go_wp2
        exact ⟨⟨m, j + 1, p, q + 1, hm, by omega, rfl, rfl, by go_num, hP2, hN⟩, by simp only [intOf]; omega⟩
      · have hqb := hP.out.bd.2.1 hm1
        have hP2 := Lib.hid (hP.out.next hm1 hj)
        have hcu := hcut.out m j p q hP.out hm1 hj
        have hbl := Lib.hid (fun h => hP.out.blank hm1 hj h)
        have hnm : Hid (op = (m : Int) + 1 → strOfNums (nm op) = strOfNums (nmN m)) := Lib.hid (fun h => by rw [h, nm_at hm1])
        have hbq := hbk.out q
        clear hj
        generalize strOfNums (nmN m) = s at *
        by_cases hq1 : q < 653
        · have hc := hbl.out hq1
          have hc1 := hat.out q hq1
          have hq2 : ((q : Int) == 653) = false := by simp; omega
          clear hbl
          generalize txt.getD q 0 = c at *
          by_cases hop : op = (m : Int) + 1
          · have hne : ((m : Int) + 1 == op) = true := by simp [hop]
            have hres := Lib.hid (hnm.out hop)
            clear hop
            go_wp2
            go_ret
            rw [hres.out]
            exact ⟨rfl, rfl⟩
          · have hne : ((m : Int) + 1 == op) = false := by simp; omega
            have hN2 : Hid (¬ (1 ≤ op ∧ op ≤ ((m + 1 : Nat) : Int))) := Lib.hid (by have := hN.out; omega)
            clear hop
            go_wp2
            exact ⟨⟨m + 1, 0, q + 1, q + 1, by omega, by omega, by go_num, by go_num, by go_num, hP2, hN2⟩, by simp only [intOf]; omega⟩
        · have hq2 : ((q : Int) == 653) = true := by simp; omega
          clear hbl
          by_cases hop : op = (m : Int) + 1
          · have hne : ((m : Int) + 1 == op) = true := by simp [hop]
            have hres := Lib.hid (hnm.out hop)
            clear hop
            go_wp2
            go_ret
            rw [hres.out]
            exact ⟨rfl, rfl⟩
          · have hne : ((m : Int) + 1 == op) = false := by simp; omega
            have hN2 : Hid (¬ (1 ≤ op ∧ op ≤ ((m + 1 : Nat) : Int))) := Lib.hid (by have := hN.out; omega)
            clear hop
            go_wp2
            exact ⟨⟨m + 1, 0, q + 1, q + 1, by omega, by omega, by go_num, by go_num, by go_num, hP2, hN2⟩, by simp only [intOf]; omega⟩
    · have hq1 := hP.out.bd.2.2 (by omega)
      have hq2 : ¬ (q : Int) ≤ 653 := by omega
      have hn : Hid (nm op = []) := Lib.hid (nm_out (by have := hN.out; omega))
      go_wp2
      go_ret
      rw [hn.out]
      exact ⟨rfl, rfl⟩

set_option maxRecDepth 100000 in
theorem rfind_any (xs : List Int) (w : World) (hx : bytesOk xs) (hn : xs.length ≤ 1000) :
    Calls Tryd.prog 22 #[.string (strOfNums xs)] w fun e w' => e = .returned (.int .i64 (fnO (fold xs))) ∧ Below w.heap.size w w' := by
  have hF := Lib.hid (rfold_any xs w hx hn)
  have hat := Lib.hid (fun (i : Nat) (h : i < 653) => big_at h)
  have hcut := Lib.hid (fun (m j p q : Nat) (h : Pl m j p q) (hm : m < 137) hj => h.cut hm hj)
  have hbk := Lib.hid (fun (i : Nat) => txt_ok.get i)
  have hfo := fold_ok hx
  have hbeq := Lib.hid (fun (m : Nat) (hm : m < 137) => str_beq (nmN_ok hm) hfo)
  have hI := Lib.hid (fun (m : Nat) (hm : m ≤ 137) W => rinn_any ((m : Int) + 1) W (by omega))
  generalize strOfNums xs = s at *
  generalize fold xs = f at *
  generalize strOfNums f = z at *
  clear hx hn hfo
  go_enter Tryd.func22, Tryd.ntmps22
  rw [big_eq]
  generalize strOfNums txt = S at *
  go_wp2_with (go_at_call 23; (with_reducible refine hF.out.mono ?_); rintro e w1 ⟨rfl, hb1⟩)
  replace hb1 := Lib.hid hb1
  go_loop [4, 5, 6] (fun a n i => ∃ m j p q : Nat, m ≤ 137 ∧ q ≤ 654 ∧ a = .int .i64 (p : Int) ∧ n = .int .i64 ((m : Int) + 1) ∧ i = .int .i64 (q : Int) ∧ Hid (Pl m j p q) ∧ Hid (∀ k : Nat, k < m → ¬ (inn ((k : Int) + 1) = false ∧ nmN k = f))) (fun _ _ i => 655 - (intOf i).toNat)
  case atStart => exact ⟨0, 0, 0, 0, by decide, by decide, rfl, rfl, rfl, Lib.hid Pl.zero, Lib.hid (fun k hk => absurd hk (Nat.not_lt_zero k))⟩
  case round =>
    obtain ⟨m, j, p, q, hm, hq, rfl, rfl, rfl, hP, hN⟩ := hrel
    by_cases hm1 : m < 137
    · by_cases hj : j < (nmN m).length
      · obtain ⟨hq1, hc⟩ := hP.out.byte hm1 hj
        have hP2 := Lib.hid (hP.out.on hm1 hj)
        have hc1 := hat.out q hq1
        have hbq := hbk.out q
        have hc2 : (txt.getD q 0 != 32) = true := by unfold bne; rw [hc]; rfl
        clear hj
        generalize txt.getD q 0 = c at *
        go_wp2
        exact ⟨⟨m, j + 1, p, q + 1, hm, by omega, rfl, rfl, by go_num, hP2, hN⟩, by simp only [intOf]; omega⟩
      · have hqb := hP.out.bd.2.1 hm1
        have hP2 := Lib.hid (hP.out.next hm1 hj)
        have hcu := hcut.out m j p q hP.out hm1 hj
        have hbl := Lib.hid (fun h => hP.out.blank hm1 hj h)
        have hbq := hbk.out q
        have hIm := Lib.hid (hI.out m (by omega))
        have hbe := hbeq.out m hm1
        clear hj
        have hnx : Hid (¬ (inn ((m : Int) + 1) = false ∧ nmN m = f) → ∀ k : Nat, k < m + 1 → ¬ (inn ((k : Int) + 1) = false ∧ nmN k = f)) := Lib.hid fun h k hk => by
          by_cases e : k = m
          · subst e; exact h
          · exact hN.out k (by omega)
        have hyes : Hid (inn ((m : Int) + 1) = false → nmN m = f → fnO f = (m : Int) + 1) := Lib.hid fun h1 h2 => fnO_hit hm1 h1 h2
        generalize strOfNums (nmN m) = s at *
        generalize nmN m = g at *
        cases hin : inn ((m : Int) + 1)
        · rw [hin] at hIm hnx hyes
          clear hin
          by_cases hgf : g = f
          · rw [decide_eq_true hgf] at hbe
            have hres := Lib.hid (hyes.out rfl hgf)
            clear hnx hyes hgf
            by_cases hq1 : q < 653
            · have hc := hbl.out hq1
              have hc1 := hat.out q hq1
              have hc2 : (txt.getD q 0 != 32) = false := by unfold bne; rw [hc]; rfl
              clear hbl
              generalize txt.getD q 0 = c at *
              go_wp2_with (go_at_call 14; (with_reducible refine (hIm.out _).mono ?_); rintro e w' ⟨rfl, rfl⟩)
              go_ret
              rw [hres.out]
              exact ⟨rfl, hb1.out⟩
            · have hq2 : ¬ (q : Int) < 653 := by omega
              clear hbl
              go_wp2_with (go_at_call 14; (with_reducible refine (hIm.out _).mono ?_); rintro e w' ⟨rfl, rfl⟩)
              go_ret
              rw [hres.out]
              exact ⟨rfl, hb1.out⟩
          · rw [decide_eq_false hgf] at hbe
            have hN2 := Lib.hid (hnx.out (fun h => hgf h.2))
            clear hnx hyes hgf
            by_cases hq1 : q < 653
            · have hc := hbl.out hq1
              have hc1 := hat.out q hq1
              have hc2 : (txt.getD q 0 != 32) = false := by unfold bne; rw [hc]; rfl
              clear hbl
              generalize txt.getD q 0 = c at *
              go_wp2_with (go_at_call 14; (with_reducible refine (hIm.out _).mono ?_); rintro e w' ⟨rfl, rfl⟩)
              exact ⟨⟨m + 1, 0, q + 1, q + 1, by omega, by omega, by go_num, by go_num, by go_num, hP2, hN2⟩, by simp only [intOf]; omega⟩
            · have hq2 : ¬ (q : Int) < 653 := by omega
              clear hbl
              go_wp2_with (go_at_call 14; (with_reducible refine (hIm.out _).mono ?_); rintro e w' ⟨rfl, rfl⟩)
              exact ⟨⟨m + 1, 0, q + 1, q + 1, by omega, by omega, by go_num, by go_num, by go_num, hP2, hN2⟩, by simp only [intOf]; omega⟩
        · rw [hin] at hIm hnx hyes
          clear hin
          have hN2 := Lib.hid (hnx.out (fun h => by cases h.1))
          clear hnx hyes hbe
          by_cases hq1 : q < 653
          · have hc := hbl.out hq1
            have hc1 := hat.out q hq1
            have hc2 : (txt.getD q 0 != 32) = false := by unfold bne; rw [hc]; rfl
            clear hbl
            generalize txt.getD q 0 = c at *
            go_wp2_with (go_at_call 14; (with_reducible refine (hIm.out _).mono ?_); rintro e w' ⟨rfl, rfl⟩)
            exact ⟨⟨m + 1, 0, q + 1, q + 1, by omega, by omega, by go_num, by go_num, by go_num, hP2, hN2⟩, by simp only [intOf]; omega⟩
          · have hq2 : ¬ (q : Int) < 653 := by omega
            clear hbl
            go_wp2_with (go_at_call 14; (with_reducible refine (hIm.out _).mono ?_); rintro e w' ⟨rfl, rfl⟩)
            exact ⟨⟨m + 1, 0, q + 1, q + 1, by omega, by omega, by go_num, by go_num, by go_num, hP2, hN2⟩, by simp only [intOf]; omega⟩
    · have hq1 := hP.out.bd.2.2 (by omega)
      have hq2 : ¬ (q : Int) ≤ 653 := by omega
      have he : m = 137 := by omega
      have hres : Hid (fnO f = 0) := Lib.hid (fnO_no (fun k hk => hN.out k (by omega)))
      clear he
      go_wp2
      go_ret
      rw [hres.out]
      exact ⟨rfl, hb1.out⟩
end Go.Proofs.YtbianodiadfjeaaDoor
