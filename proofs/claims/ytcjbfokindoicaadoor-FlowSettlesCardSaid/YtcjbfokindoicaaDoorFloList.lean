/- Lists of names, appended to; what FlowSettles asks, in plain mathematics. -/
import Derived.Test.YtcjbfokindoicaaDoorFloRuns
namespace Go.Proofs.YtcjbfokindoicaaDoor
set_option maxRecDepth 100000
open Go.ChangeShapes Go.WideShapes Go.ChangeAt Go.RowKit
open On (St Hs StIs cst Fl one C64 C8 Sc slc spc Sz bytesOk wpList_append_run)
set_option linter.unusedVariables false
set_option maxRecDepth 100000

theorem strinf : (Tryd.prog.info? 9).map (fun i => (i.zero, i.size, i.bytes)) = some (some (.string ByteArray.empty), 1, 16) := by kernel_rfl
theorem strs_one (l : List Int) : ∀ u ∈ strs l, u.oneCell' = true := fun u hu => by
  unfold strs at hu
  obtain ⟨x, _, rfl⟩ := List.mem_map.1 hu
  rfl
theorem strs_len (l : List Int) : (strs l).length = l.length := by unfold strs; simp
theorem strs_add (l l' : List Int) : strs l ++ strs l' = strs (l ++ l') := by unfold strs; simp
/-- an append goes into the row's own block, or into a new one -/
theorem row_blockS (W : World) {i : TypeInfo} {z : Value} (hi : Tryd.prog.info? 9 = some i) (hz0 : i.zero = some z) (hz1 : i.size = 1) (hz2 : i.bytes = 16) (ty : TypeId) {B n cap m c : Nat} {a : Option Addr} {vs : List Value} {l : List Int} {p : Addr} {v' : Value} {w2 : World}
    (ho : On.Oz W B 9 1 a n cap vs) (hl : l.length = m) (hnews : ∀ j u, (strs l)[j]? = some u → W.cell? (p.add j) = some u) (hn : n ≤ 1000) (hm : m ≤ 1000) (hm0 : 0 < m)
    (hrun : (Builtin.append_ #[36, 36] ty #[.slice a n cap, .slice (some p) m c]).run Tryd.prog W = .ok v' w2) :
    v'.ownBlock = (Value.slice a n cap).ownBlock ∨ ∃ k, v'.ownBlock = some k ∧ W.heap.size ≤ k := by
  have hls : (strs l).length = m * i.size := by rw [hz1, strs_len]; omega
  have hlen := ho.1
  rcases ho.2 with ⟨hv, h0⟩ | ⟨g, cap', cur, hv, hbg, hgg, hnc, hcm, hcs, htake⟩
  · simp only [Value.slice.injEq] at hv
    obtain ⟨rfl, rfl, rfl⟩ := hv
    have hr := run_append_nil (P := Tryd.prog) W 36 ty 9 i z Tryd.underlying36 hi hz0 p m c (strs l) hls hnews (by omega) (by omega) (by rw [hz2]; omega)
    rw [hr] at hrun
    simp only [Result.ok.injEq] at hrun
    obtain ⟨rfl, _⟩ := hrun
    exact .inr ⟨_, rfl, Nat.le_refl _⟩
  · simp only [Value.slice.injEq, true_and] at hv
    obtain ⟨rfl, rfl⟩ := hv
    by_cases hroom : n + m ≤ cap
    · have hr := run_append_room (P := Tryd.prog) W 36 ty 9 i Tryd.underlying36 hi g n cap cur hgg p m c (strs l) hls hnews (strs_one l) hroom (by rw [hz1, hcs, strs_len]; omega)
      rw [hr] at hrun
      simp only [Result.ok.injEq] at hrun
      obtain ⟨rfl, _⟩ := hrun
      exact .inl rfl
    · have hr := run_append_grow (P := Tryd.prog) W 36 ty 9 i z Tryd.underlying36 hi hz0 ⟨g, 0, none⟩ n cap vs (by rw [hz1]; exact hlen) (World.ownsRow.cells ho (g := g) rfl) p m c (strs l) hls hnews (by omega) (by omega) (growslice_fits (by omega) (by rw [hz2]; omega))
      rw [hr] at hrun
      simp only [Result.ok.injEq] at hrun
      obtain ⟨rfl, _⟩ := hrun
      exact .inr ⟨_, rfl, Nat.le_refl _⟩
theorem strs_app {w : World} {B n cap m c N : Nat} {a a2 : Option Addr} {l l2 : List Int} (h : On.Oz w B 9 1 a n cap (strs l)) (hs : Sz w 1 a2 m c (strs l2)) (hN : N = n + m) (hn : N ≤ 1000) (hB : B ≤ w.heap.size) :
    ∃ a' cap' w2, (Builtin.append_ #[36, 36] 36 #[.slice a n cap, .slice a2 m c]).run Tryd.prog w = .ok (.slice a' N cap') w2 ∧ On.Oz w2 B 9 1 a' N cap' (strs (l ++ l2)) ∧ Below B w w2 ∧
      w.grownBy w2 (Value.slice a n cap).ownBlock ∧ ((Value.slice a' N cap').ownBlock = (Value.slice a n cap).ownBlock ∨ ∃ k, (Value.slice a' N cap').ownBlock = some k ∧ w.heap.size ≤ k) := by
  subst hN
  obtain ⟨i, hi, hz0, hz1, hz2⟩ := info_parts strinf
  have hl2 : l2.length = m := by
    have := hs.len
    rw [strs_len] at this
    omega
  rw [← strs_add]
  rcases Nat.eq_zero_or_pos m with h0 | h0
  · subst h0
    obtain rfl : l2 = [] := List.eq_nil_of_length_eq_zero hl2
    have hnil : strs ([] : List Int) = [] := rfl
    rw [hnil, List.append_nil]
    cases a2 with
    | none =>
      have hc0 := hs.isnil rfl
      subst hc0
      exact ⟨a, cap, w, run_append_owned_none (P := Tryd.prog) w B 36 36 9 i 1 Tryd.underlying36 hi _ n _ h, h, Below.refl _ _, ⟨rfl, rfl, rfl, Nat.le_refl _, fun _ _ _ => rfl⟩, .inl rfl⟩
    | some ad =>
      obtain ⟨v', w2, hrun, ho, hg, hne⟩ := run_append_own (P := Tryd.prog) w B 36 36 9 i _ 1 16 Tryd.underlying36 hi hz0 hz1 hz2 rfl (by decide) _ n _ h ad 0 c [] rfl (fun j v hj => by simp at hj) (fun u hu => by cases hu) (by unfold maxLen; omega) (by omega) hB
      obtain ⟨a', cap', rfl⟩ : ∃ a' cap', v' = .slice a' (n + 0) cap' := by
        rcases ho.2 with ⟨hv, h0⟩ | ⟨g, cap, cur, hv, _⟩
        · exact ⟨none, 0, by rw [hv, h0]⟩
        · exact ⟨_, cap, hv⟩
      have hblk : (Value.slice a' (n + 0) cap').ownBlock = (Value.slice a n cap).ownBlock ∨ ∃ k, (Value.slice a' (n + 0) cap').ownBlock = some k ∧ w.heap.size ≤ k := by
        rcases h.2 with ⟨hv, h0⟩ | ⟨g, cap1, cur, hv, hbg, hgg, hnc, hcm, hcs, htake⟩
        · have e2 := (hne.2 ⟨hv, rfl⟩)
          rw [e2, hv]
          exact .inl rfl
        · simp only [Value.slice.injEq, true_and] at hv
          obtain ⟨rfl, rfl⟩ := hv
          have hr := run_append_room (P := Tryd.prog) w 36 36 9 i Tryd.underlying36 hi g n cap cur hgg ad 0 c [] (by simp) (fun j v hj => by simp at hj) (fun u hu => by cases hu) (by omega) (by rw [hz1, hcs]; simp; omega)
          rw [hr] at hrun
          simp only [Result.ok.injEq, Value.slice.injEq] at hrun
          obtain ⟨⟨rfl, _⟩, _⟩ := hrun
          exact .inl rfl
      rw [List.append_nil] at ho
      exact ⟨a', cap', w2, hrun, ho, (Below.refl B w).grown hg hB (fun k hk => (World.ownsRow.lt h k hk).1), hg, hblk⟩
  · obtain ⟨b, o, hab, hc⟩ := hs.cells h0
    subst hab
    have hnews : ∀ j u, (strs l2)[j]? = some u → w.cell? ((⟨b, o, none⟩ : Addr).add j) = some u := fun j u hj => by
      rw [add_plain]
      exact hc j u hj
    obtain ⟨v', w2, hrun, ho, hg, hne⟩ := run_append_own (P := Tryd.prog) w B 36 36 9 i _ 1 16 Tryd.underlying36 hi hz0 hz1 hz2 rfl (by decide) _ n _ h ⟨b, o, none⟩ m c (strs l2) (by rw [strs_len]; omega) hnews (strs_one l2) (by unfold maxLen; omega) (by omega) hB
    have hblk := row_blockS w hi hz0 hz1 hz2 36 h hl2 hnews (by omega) (by omega) h0 hrun
    obtain ⟨a', cap', rfl⟩ : ∃ a' cap', v' = .slice a' (n + m) cap' := by
      rcases ho.2 with ⟨hv, h0⟩ | ⟨g, cap, cur, hv, _⟩
      · exact ⟨none, 0, by rw [hv, h0]⟩
      · exact ⟨_, cap, hv⟩
    exact ⟨a', cap', w2, hrun, ho, (Below.refl B w).grown hg hB (fun k hk => (World.ownsRow.lt h k hk).1), hg, hblk⟩
/-- constants, made a row of their own -/
theorem strs_new (W : World) (B : Nat) (hB : B ≤ W.heap.size) (l : List Int) (cur : Array Value) (n : Nat) (hc : cur.toList = strs l) (hs : cur.size = n) (hn : n ≤ 1000) : On.Oz (W.alloc (.cells cur 9)) B 9 1 (some ⟨W.heap.size, 0, none⟩) n n (strs l) := by
  have h := On.Oz.full W B 9 1 hB cur n (by unfold maxLen; omega) (by omega)
  rw [hc] at h
  exact h
theorem two_apps {W : World} {ma : Option Addr} {mn mc N1 N2 : Nat} {l : List Int} {s0 s1 : ByteArray} (k0 k1 : Int) (h0 : s0 = bst k0) (h1 : s1 = bst k1) (hm : Sz W 1 ma mn mc (strs l)) (hn : mn ≤ 500) (hN1 : N1 = 1 + mn) (hN2 : N2 = N1 + 1) :
    ∃ a1 c1 w2 a2 c2 w3, (Builtin.append_ #[36, 36] 36 #[.slice (some ⟨W.heap.size, 0, none⟩) 1 1, .slice ma mn mc]).run Tryd.prog (W.alloc (.cells #[.string s0] 9)) = .ok (.slice a1 N1 c1) w2 ∧
      (Builtin.append_ #[36, 36] 36 #[.slice a1 N1 c1, .slice (some ⟨w2.heap.size, 0, none⟩) 1 1]).run Tryd.prog (w2.alloc (.cells #[.string s1] 9)) = .ok (.slice a2 N2 c2) w3 ∧ Sz w3 1 a2 N2 c2 (strs ([k0] ++ l ++ [k1])) ∧ Below W.heap.size W w3 := by
  subst h0; subst h1
  have hA : Below W.heap.size W (W.alloc (.cells #[.string (bst k0)] 9)) := (Below.refl _ _).alloc (Nat.le_refl _) _
  have o1 := strs_new W W.heap.size (Nat.le_refl _) [k0] #[.string (bst k0)] 1 rfl rfl (by decide)
  obtain ⟨a1, c1, w2, r1, o2, b2, _, _⟩ := strs_app o1 (hm.below hA) hN1 (by omega) hA.size
  have hb2 := hA.trans b2
  have hA2 : Below W.heap.size w2 (w2.alloc (.cells #[.string (bst k1)] 9)) := (Below.refl _ _).alloc hb2.size _
  have o3 := strs_new w2 w2.heap.size (Nat.le_refl _) [k1] #[.string (bst k1)] 1 rfl rfl (by decide)
  obtain ⟨a2, c2, w3, r2, o4, b4, _, _⟩ := strs_app (o2.alloc (.cells #[.string (bst k1)] 9)) o3.sz hN2 (by omega) (hb2.trans hA2).size
  exact ⟨a1, c1, w2, a2, c2, w3, r1, r2, o4.sz, (hb2.trans hA2).trans b4⟩

/-! ### the law on what is told -/
def moreL : Nat → List Int
  | 0 => []
  | j + 1 => moreL j ++ [101, 102]
theorem moreL_len (j : Nat) : (moreL j).length = 2 * j := by
  induction j with
  | zero => rfl
  | succ j ih => unfold moreL; rw [List.length_append, ih]; rfl
theorem moreL_ok (j : Nat) : ∀ k ∈ moreL j, okW k := by
  induction j with
  | zero => intro k hk; cases hk
  | succ j ih =>
    intro k hk
    unfold moreL at hk
    rcases List.mem_append.1 hk with hk | hk
    · exact ih k hk
    · simp at hk
      unfold okW
      omega
theorem goes_more {m : Nat} (hm : m ≤ 100000) (j : Nat) : ∀ {s : St} {h n r : Nat}, Rm m s h n r → 2 * j ≤ r → s.ctl.length ≤ 120 → ∃ s', Go_ (moreL j) s s' ∧ s'.ctl = s.ctl ∧ Rm m s' (h + 16 * j) (n + 2 * j) (r - 2 * j) := by
  induction j with
  | zero => intro s h n r H _ _; exact ⟨s, rfl, rfl, H⟩
  | succ j ih =>
    intro s h n r H hr hc
    obtain ⟨s1, g1, e1, R1⟩ := ih H (by omega) hc
    have d1 := do_begin (s := s1) (by rw [e1]; omega)
    have R2 : Rm m { s1 with ctl := s1.ctl ++ [2, s1.here] } (h + 16 * j) (n + 2 * j) (r - 2 * j - 2 + 2) := (R1.ctl _).cong rfl rfl (by omega)
    have d2 := do_goback (l := s1.ctl) 3 lk102 R2 hm rfl
    exact ⟨_, g1.app ⟨_, d1, _, d2, rfl⟩, e1, ((R2.ctl s1.ctl).lay 3 s1.here).2.cong (by omega) (by omega) (by omega)⟩
theorem runP_bz {q : Nat} : ∀ (l : List Int) {s : St} {p c : Nat}, Bz p c q (s, 0) → Bz (p + 2 * l.length) (c + 4 * l.length) q ((runP l s).1, 0)
  | [], _, _, _, h => h
  | k :: l, s, p, c, h => by
    rw [runP_cons]
    have hl : (k :: l).length = l.length + 1 := rfl
    split
    · exact h.le (by omega) (by omega)
    · have h1 := runP_bz l (floP_bz h k).1
      exact h1.le (by omega) (by omega)
def setI (f : Nat) : St := { On.St.zero with mem := List.replicate 400 0, here := (f : Int), tok := 0 }
theorem setS_bz {f : Nat} (hf : f ≤ 1000) : Bz 0 0 0 (setI f, 0) := ⟨aw_ok 400 (f : Int) 0 (by unfold C64; omega) c64_0, (show (List.replicate 400 (0 : Int)).length ≤ 1000000 by decide), Nat.zero_le _, Nat.zero_le _, Nat.zero_le _, c64_0⟩
theorem settles (j f : Nat) (hj : j ≤ 7) (h8 : f % 8 = 0) (hf : f ≤ 72) :
    ∃ s t : St, runP ([98] ++ moreL j ++ [100]) (setI f) = (s, 0) ∧ runP ([106] ++ moreL j ++ [107]) (setI f) = (t, 0) ∧ Me.celI s.mem ((f : Int) + 8) = s.here ∧ Me.celI t.mem ((f : Int) + 8) = t.here ∧ Me.celI t.mem (t.here - 8) = (f : Int) + 16 ∧ s.mem.length = 400 ∧ t.mem.length = 400 ∧ (0 ≤ s.here ∧ s.here ≤ 400) ∧ (8 ≤ t.here ∧ t.here ≤ 400) ∧ (∀ z ∈ s.mem, C8 z) ∧ (∀ z ∈ t.mem, C8 z) := by
  have b0 := setS_bz (f := f) (by omega)
  have R0 : Rm 400 (setI f) f 0 (39 + 2) := ⟨by show (List.replicate 400 (0 : Int)).length = 400; simp, rfl, h8, by omega, rfl, fun x hx => by cases hx⟩
  have dx := do_open 4 1 lk98 R0 (by decide) (Nat.zero_le _)
  have Rx : Rm 400 { lay2 (setI f) 4 0 with ctl := (setI f).ctl ++ [1, (f : Int) + 8] } (f + 16) 2 39 := ((R0.lay 4 0).2.ctl _).cong rfl rfl (Nat.le_refl _)
  obtain ⟨s2, gx, ex, Rx2⟩ := goes_more (by decide) j Rx (by omega) (show (([] : List Int) ++ [1, (f : Int) + 8]).length ≤ 120 by simp)
  have hx : s2.ctl = [] ++ [1, (f : Int) + 8] := ex
  have dx2 := do_then Rx2 hx (by omega) (by omega) (by omega)
  have gX : Go_ ([98] ++ moreL j ++ [100]) (setI f) _ := ((Go_.one dx).app gx).app (Go_.one dx2)
  have dy := do_open 5 3 lk106 R0 (by decide) (Nat.zero_le _)
  have Ry : Rm 400 { lay2 (setI f) 5 0 with ctl := (setI f).ctl ++ [3, (f : Int) + 8] } (f + 16) 2 39 := ((R0.lay 5 0).2.ctl _).cong rfl rfl (Nat.le_refl _)
  obtain ⟨t2, gy, ey, Ry2⟩ := goes_more (by decide) j Ry (by omega) (show (([] : List Int) ++ [3, (f : Int) + 8]).length ≤ 120 by simp)
  have hy : t2.ctl = [] ++ [3, (f : Int) + 8] := ey
  have Ry3 : Rm 400 t2 (f + 16 + 16 * j) (2 + 2 * j) (39 - 2 * j - 2 + 2) := Ry2.cong rfl rfl (by omega)
  have dy2 := do_loop 6 lk107 Ry3 (by decide) hy (by omega) (by omega) (by omega)
  have gY : Go_ ([106] ++ moreL j ++ [107]) (setI f) _ := ((Go_.one dy).app gy).app (Go_.one dy2)
  have ls := Rx2.mem
  have hs := Rx2.here
  have lt := Ry3.mem
  have ht := Ry3.here
  have okx := (runP_bz ([98] ++ moreL j ++ [100]) b0).ok.mem
  have oky := (runP_bz ([106] ++ moreL j ++ [107]) b0).ok.mem
  rw [gX.run] at okx
  rw [gY.run] at oky
  have l1 : (Me.setC t2.mem t2.here 6).length = 400 := by rw [setC_len _ (Me.tC_ok ⟨by omega, by rw [ht, lt]; omega⟩ (by omega)), lt]
  have l2 : (Me.setC (Me.setC t2.mem t2.here 6) (t2.here + 8) ((f : Int) + 8 + 8)).length = 400 := by rw [setC_len _ (Me.tC_ok ⟨by omega, by rw [l1, ht]; omega⟩ (by omega)), l1]
  refine ⟨_, _, gX.run, gY.run, ?_, ?_, ?_, ?_, ?_, ?_, ?_, okx, oky⟩
  · show Me.celI (Me.setC s2.mem ((f : Int) + 8) s2.here) ((f : Int) + 8) = s2.here
    exact cel_set _ (by omega) (by rw [ls]; omega) (by omega) (by unfold C64; omega)
  · show Me.celI (Me.setC (Me.setC (Me.setC t2.mem t2.here 6) (t2.here + 8) ((f : Int) + 8 + 8)) ((f : Int) + 8) (t2.here + 8 + 8)) ((f : Int) + 8) = t2.here + 8 + 8
    exact cel_set _ (by omega) (by rw [l2]; omega) (by omega) (by unfold C64; omega)
  · show Me.celI (Me.setC (Me.setC (Me.setC t2.mem t2.here 6) (t2.here + 8) ((f : Int) + 8 + 8)) ((f : Int) + 8) (t2.here + 8 + 8)) (t2.here + 8 + 8 - 8) = _
    rw [cel_other _ (by omega) (by rw [l2]; omega) (by omega) (by omega) (by rw [l2]; omega) (by omega), show t2.here + 8 + 8 - 8 = t2.here + 8 by omega, cel_set _ (by omega) (by rw [l1]; omega) (by omega) (by unfold C64; omega)]
    omega
  · show (Me.setC s2.mem ((f : Int) + 8) s2.here).length = 400
    rw [setC_len _ (Me.tC_ok ⟨by omega, by rw [ls]; omega⟩ (by omega)), ls]
  · show (Me.setC (Me.setC (Me.setC t2.mem t2.here 6) (t2.here + 8) ((f : Int) + 8 + 8)) ((f : Int) + 8) (t2.here + 8 + 8)).length = 400
    rw [setC_len _ (Me.tC_ok ⟨by omega, by rw [l2]; omega⟩ (by omega)), l2]
  · show 0 ≤ s2.here ∧ s2.here ≤ 400
    omega
  · show 8 ≤ t2.here + 8 + 8 ∧ t2.here + 8 + 8 ≤ 400
    omega
end Go.Proofs.YtcjbfokindoicaaDoor
