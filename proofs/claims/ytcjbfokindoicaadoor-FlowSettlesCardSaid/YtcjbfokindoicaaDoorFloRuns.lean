/- Rows of words that close what they open; what is told in their cells. -/
import Derived.Test.YtcjbfokindoicaaDoorFloSteps
namespace Go.Proofs.YtcjbfokindoicaaDoor
set_option maxRecDepth 100000
open Go.ChangeShapes Go.WideShapes Go.ChangeAt Go.RowKit
open On (St Hs StIs cst Fl one C64 C8 Sc slc spc Sz bytesOk)
set_option linter.unusedVariables false
set_option maxRecDepth 100000

/-- each word goes on -/
def Go_ : List Int → St → St → Prop
  | [], s, s' => s = s'
  | k :: l, s, s' => ∃ s1, floP s k = (0, true, s1) ∧ Go_ l s1 s'
theorem Go_.run : ∀ {l : List Int} {s s' : St}, Go_ l s s' → runP l s = (s', 0)
  | [], s, s', h => by obtain rfl : s = s' := h; rfl
  | k :: l, s, s', h => by
    obtain ⟨s1, h1, h2⟩ := h
    rw [runP_cons, h1, if_neg (by simp)]
    exact h2.run
theorem Go_.app : ∀ {l l' : List Int} {s s1 s' : St}, Go_ l s s1 → Go_ l' s1 s' → Go_ (l ++ l') s s'
  | [], _, _, _, _, h, h' => by obtain rfl := (h : _ = _); exact h'
  | k :: l, _, _, _, _, h, h' => by
    obtain ⟨s2, h1, h2⟩ := h
    exact ⟨s2, h1, h2.app h'⟩
theorem Go_.one {k : Int} {s s' : St} (h : floP s k = (0, true, s')) : Go_ [k] s s' := ⟨s', h, rfl⟩

section
variable {m : Nat} {s : St} {h n r : Nat} (H : Rm m s h n (r + 2)) (hm : m ≤ 100000)
theorem do_open {op : Int} (o k : Int) (hl : lkp tbF (On.nm op) = some (opeW o k)) (H : Rm m s h n (r + 2)) (hm : m ≤ 100000) (hc : s.ctl.length ≤ 126) :
    floP s op = (0, true, { lay2 s o 0 with ctl := s.ctl ++ [k, (h : Int) + 8] }) := by
  refine floP_go hl ?_
  unfold opeW
  rw [rooP_yes (m := 1) (by omega), layP_go H hm]
  rfl
theorem do_begin (hc : s.ctl.length ≤ 126) : floP s 101 = (0, true, { s with ctl := s.ctl ++ [2, s.here] }) := by
  refine floP_go lk101 ?_
  unfold begW
  rw [rooP_yes (m := 1) (by omega)]
  rfl
theorem do_else {l : List Int} {a : Int} (H : Rm m s h n (r + 2)) (hm : m ≤ 100000) (hc : s.ctl = l ++ [1, a]) (h0 : 0 ≤ a) (h1 : a + 8 ≤ m) (h8 : a % 8 = 0) :
    floP s 99 = (0, true, { set1 (lay2 { s with ctl := l } 3 0) a with ctl := l ++ [1, (h : Int) + 8] }) := by
  refine floP_go lk99 ?_
  have e := wan_yes1 hc
  have H1 := (H.ctl l)
  have e2 := (((H1.lay 3 0).2).set h0 h1 h8).1
  unfold elsW
  rw [e]
  show putP 1 (layP 3 0 ({ s with ctl := l }, 0)).1 (setP a (layP 3 0 ({ s with ctl := l }, 0)).2) = _
  rw [layP_go H1 hm]
  show putP 1 _ (setP a (lay2 { s with ctl := l } 3 0, 0)) = _
  rw [e2]
  rfl
theorem do_then {l : List Int} {a : Int} {r : Nat} (H : Rm m s h n r) (hc : s.ctl = l ++ [1, a]) (h0 : 0 ≤ a) (h1 : a + 8 ≤ m) (h8 : a % 8 = 0) :
    floP s 100 = (0, true, set1 { s with ctl := l } a) := by
  refine floP_go lk100 ?_
  unfold theW
  rw [wan_yes1 hc]
  exact ((H.ctl l).set h0 h1 h8).1
theorem do_goback {op : Int} (o : Int) (hl : lkp tbF (On.nm op) = some (gobW o)) {l : List Int} {a : Int} (H : Rm m s h n (r + 2)) (hm : m ≤ 100000) (hc : s.ctl = l ++ [2, a]) :
    floP s op = (0, true, lay2 { s with ctl := l } o a) := by
  refine floP_go hl ?_
  unfold gobW
  rw [wan_yes1 hc]
  show (layP o a ({ s with ctl := l }, 0)).2 = _
  rw [layP_go (H.ctl l) hm]
theorem do_while {l : List Int} {a : Int} (H : Rm m s h n (r + 2)) (hm : m ≤ 100000) (hc : s.ctl = l ++ [2, a]) (hl : l.length ≤ 124) :
    floP s 104 = (0, true, { lay2 { s with ctl := l } 4 0 with ctl := l ++ [1, (h : Int) + 8, 2, a] }) := by
  refine floP_go lk104 ?_
  unfold whiW
  rw [wan_yes1 hc]
  show putP 2 a (putP 1 (layP 4 0 (rooP 2 ({ s with ctl := l }, 0))).1 (layP 4 0 (rooP 2 ({ s with ctl := l }, 0))).2) = _
  rw [rooP_yes (s := { s with ctl := l }) (m := 2) (by show l.length + 4 ≤ 128; omega), layP_go (H.ctl l) hm]
  show (_, (0 : Int)) = (_, (0 : Int))
  congr 1
  show ({ lay2 { s with ctl := l } 4 0 with ctl := (l ++ [1, (h : Int) + 8]) ++ [2, a] } : St) = _
  rw [List.append_assoc]
  rfl
theorem do_repeat {l : List Int} {a b : Int} (H : Rm m s h n (r + 2)) (hm : m ≤ 100000) (hc : s.ctl = l ++ [1, b, 2, a]) (h0 : 0 ≤ b) (h1 : b + 8 ≤ m) (h8 : b % 8 = 0) :
    floP s 105 = (0, true, set1 (lay2 { s with ctl := l } 3 a) b) := by
  refine floP_go lk105 ?_
  unfold repW
  rw [wan_yes2 hc]
  show setP b (layP 3 a ({ s with ctl := l }, 0)).2 = _
  rw [layP_go (H.ctl l) hm]
  exact (((H.ctl l).lay 3 a).2.set h0 h1 h8).1
theorem do_loop {op : Int} (o : Int) (hl : lkp tbF (On.nm op) = some (cloW o)) {l : List Int} {a : Int} (H : Rm m s h n (r + 2)) (hm : m ≤ 100000) (hc : s.ctl = l ++ [3, a]) (h0 : 0 ≤ a) (h1 : a + 8 ≤ m) (h8 : a % 8 = 0) :
    floP s op = (0, true, set1 (lay2 { s with ctl := l } o (a + 8)) a) := by
  refine floP_go hl ?_
  unfold cloW
  rw [wan_yes1 hc]
  show setP a (layP o (wrap64 (a + 8)) ({ s with ctl := l }, 0)).2 = _
  rw [show wrap64 (a + 8) = a + 8 by unfold wrap64; omega, layP_go (H.ctl l) hm]
  exact (((H.ctl l).lay o (a + 8)).2.set h0 h1 h8).1
end

/-! ### what is opened, what is closed -/
def opnL (k : Int) : List Int := if k = 0 then [98] else if k = 1 then [98, 99] else if k = 2 then [101] else if k = 3 then [101, 104] else [106]
def clsL (k : Int) : List Int := if k = 0 then [100] else if k = 1 then [100] else if k = 2 then [103] else if k = 3 then [105] else [107]
def celN (k : Int) : Nat := if k = 0 then 2 else if k = 1 then 4 else if k = 2 then 2 else if k = 3 then 4 else 4
theorem Rm.cong {m : Nat} {s : St} {h h' n n' r r' : Nat} (H : Rm m s h n r) (e1 : h = h') (e2 : n = n') (e3 : r' ≤ r) : Rm m s h' n' r' := by subst e1; subst e2; exact H.less e3
theorem bracket {m : Nat} (hm : m ≤ 100000) (k : Int) (hk : 0 ≤ k ∧ k ≤ 4) {s : St} {h n r : Nat} (H : Rm m s h n r) (hr : celN k ≤ r) (hc : s.ctl.length ≤ 120) :
    ∃ (s1 : St) (P : List Int) (o c : Nat), o + c = celN k ∧ P.length ≤ 4 ∧ Go_ (opnL k) s s1 ∧ s1.ctl = s.ctl ++ P ∧ Rm m s1 (h + 8 * o) (n + o) (r - o) ∧
      ∀ (s2 : St) (h2 n2 r2 : Nat), Rm m s2 h2 n2 r2 → c ≤ r2 → s2.ctl = s.ctl ++ P → ∃ s3, Go_ (clsL k) s2 s3 ∧ s3.ctl = s.ctl ∧ Rm m s3 (h2 + 8 * c) (n2 + c) (r2 - c) := by
  have hroom := H.room
  have hmul := H.mul
  have hhere := H.here
  rcases (show k = 0 ∨ k = 1 ∨ k = 2 ∨ k = 3 ∨ k = 4 by omega) with rfl | rfl | rfl | rfl | rfl
  · have hr2 : 2 ≤ r := hr
    have H2 : Rm m s h n (r - 2 + 2) := H.cong rfl rfl (by omega)
    have d1 := do_open 4 1 lk98 H2 hm (by omega)
    refine ⟨_, [1, (h : Int) + 8], 2, 0, rfl, by simp, Go_.one d1, rfl, (((H2.lay 4 0).2).ctl _).cong (by omega) rfl (by omega), fun s2 h2 n2 r2 hR _ hs => ?_⟩
    have d2 := do_then hR hs (by omega) (by omega) (by omega)
    exact ⟨_, Go_.one d2, rfl, ((hR.ctl s.ctl).set (a := (h : Int) + 8) (by omega) (by omega) (by omega)).2⟩
  · have hr2 : 4 ≤ r := hr
    have H2 : Rm m s h n (r - 2 + 2) := H.cong rfl rfl (by omega)
    have d1 := do_open 4 1 lk98 H2 hm (by omega)
    have R1 : Rm m { lay2 s 4 0 with ctl := s.ctl ++ [1, (h : Int) + 8] } (h + 16) (n + 2) (r - 4 + 2) := (((H2.lay 4 0).2).ctl _).cong rfl rfl (by omega)
    have d2 := do_else (l := s.ctl) R1 hm rfl (by omega) (by omega) (by omega)
    have R2 := (((R1.ctl s.ctl).lay 3 0).2.set (a := (h : Int) + 8) (by omega) (by omega) (by omega)).2
    refine ⟨_, [1, ((h + 16 : Nat) : Int) + 8], 4, 0, rfl, by simp, ⟨_, d1, _, d2, rfl⟩, rfl, (R2.ctl _).cong (by omega) (by omega) (by omega), fun s2 h2 n2 r2 hR _ hs => ?_⟩
    have d3 := do_then hR hs (by omega) (by omega) (by omega)
    exact ⟨_, Go_.one d3, rfl, ((hR.ctl s.ctl).set (a := ((h + 16 : Nat) : Int) + 8) (by omega) (by omega) (by omega)).2⟩
  · have d1 := do_begin (s := s) (by omega)
    refine ⟨_, [2, s.here], 0, 2, rfl, by simp, Go_.one d1, rfl, (H.ctl _).cong (by omega) (by omega) (by omega), fun s2 h2 n2 r2 hR hc2 hs => ?_⟩
    have hR2 : Rm m s2 h2 n2 (r2 - 2 + 2) := hR.cong rfl rfl (by omega)
    have d3 := do_goback 4 lk103 hR2 hm hs
    exact ⟨_, Go_.one d3, rfl, ((hR2.ctl s.ctl).lay 4 s.here).2⟩
  · have hr2 : 4 ≤ r := hr
    have d1 := do_begin (s := s) (by omega)
    have R1 : Rm m { s with ctl := s.ctl ++ [2, s.here] } h n (r - 2 + 2) := (H.ctl _).cong rfl rfl (by omega)
    have d2 := do_while (l := s.ctl) R1 hm rfl (by omega)
    refine ⟨_, [1, (h : Int) + 8, 2, s.here], 2, 2, rfl, by simp, ⟨_, d1, _, d2, rfl⟩, rfl, ((((R1.ctl s.ctl).lay 4 0).2).ctl _).cong (by omega) (by omega) (by omega), fun s2 h2 n2 r2 hR hc2 hs => ?_⟩
    have hR2 : Rm m s2 h2 n2 (r2 - 2 + 2) := hR.cong rfl rfl (by omega)
    have d3 := do_repeat hR2 hm hs (by omega) (by omega) (by omega)
    exact ⟨_, Go_.one d3, rfl, (((hR2.ctl s.ctl).lay 3 s.here).2.set (a := (h : Int) + 8) (by omega) (by omega) (by omega)).2⟩
  · have hr2 : 4 ≤ r := hr
    have H2 : Rm m s h n (r - 2 + 2) := H.cong rfl rfl (by omega)
    have d1 := do_open 5 3 lk106 H2 hm (by omega)
    refine ⟨_, [3, (h : Int) + 8], 2, 2, rfl, by simp, Go_.one d1, rfl, (((H2.lay 5 0).2).ctl _).cong (by omega) rfl (by omega), fun s2 h2 n2 r2 hR hc2 hs => ?_⟩
    have hR2 : Rm m s2 h2 n2 (r2 - 2 + 2) := hR.cong rfl rfl (by omega)
    have d3 := do_loop 6 lk107 hR2 hm hs (by omega) (by omega) (by omega)
    exact ⟨_, Go_.one d3, rfl, (((hR2.ctl s.ctl).lay 6 ((h : Int) + 8 + 8)).2.set (a := (h : Int) + 8) (by omega) (by omega) (by omega)).2⟩
def begL (ks : List Int) : List Int := ks.flatMap opnL
def endL : List Int → List Int
  | [] => []
  | k :: ks => endL ks ++ clsL k
def tot (ks : List Int) : Nat := (ks.map celN).sum
theorem endL_snoc (ks : List Int) (k : Int) : endL (ks ++ [k]) = clsL k ++ endL ks := by
  induction ks with
  | nil => simp [endL]
  | cons j ks ih => simp only [List.cons_append, endL, ih, List.append_assoc]
theorem begL_snoc (ks : List Int) (k : Int) : begL (ks ++ [k]) = begL ks ++ opnL k := by unfold begL; simp
theorem tot_snoc (ks : List Int) (k : Int) : tot (ks ++ [k]) = tot ks + celN k := by unfold tot; simp
theorem celN_le (k : Int) : celN k ≤ 4 := by unfold celN; (repeat' split) <;> omega
theorem tot_le (ks : List Int) : tot ks ≤ 4 * ks.length := by
  induction ks with
  | nil => exact Nat.le_refl _
  | cons k ks ih =>
    have := celN_le k
    show celN k + (ks.map celN).sum ≤ 4 * (ks.length + 1)
    unfold tot at ih
    omega
theorem closes {m : Nat} (hm : m ≤ 100000) (ks : List Int) : ∀ {s : St} {h n r : Nat}, (∀ k ∈ ks, 0 ≤ k ∧ k ≤ 4) → Rm m s h n r → tot ks ≤ r → s.ctl.length + 4 * ks.length ≤ 120 →
    ∃ s', Go_ (begL ks ++ endL ks) s s' ∧ s'.ctl = s.ctl ∧ Rm m s' (h + 8 * tot ks) (n + tot ks) (r - tot ks) := by
  induction ks with
  | nil => intro s h n r _ H _ _; exact ⟨s, rfl, rfl, H⟩
  | cons k ks ih =>
    intro s h n r hk H hr hc
    have ht : tot (k :: ks) = celN k + tot ks := rfl
    have hlen : (k :: ks).length = ks.length + 1 := rfl
    obtain ⟨s1, P, o, c, hoc, hP, g1, e1, R1, hcl⟩ := bracket hm k (hk k (.head _)) H (by omega) (by omega)
    have hsl : s1.ctl.length = s.ctl.length + P.length := by rw [e1, List.length_append]
    obtain ⟨s2, g2, e2, R2⟩ := ih (fun j hj => hk j (.tail _ hj)) R1 (by omega) (by omega)
    obtain ⟨s3, g3, e3, R3⟩ := hcl s2 _ _ _ R2 (by omega) (e2.trans e1)
    refine ⟨s3, ?_, e3, R3.cong (by omega) (by omega) (by omega)⟩
    have : begL (k :: ks) ++ endL (k :: ks) = opnL k ++ (begL ks ++ endL ks) ++ clsL k := by
      show (opnL k ++ begL ks) ++ (endL ks ++ clsL k) = _
      simp only [List.append_assoc]
    rw [this]
    exact (g1.app g2).app g3

/-! ### what is told in the cells -/
theorem sum_apart (xs ys : List Int) (p : Nat) : ∀ k, (∀ i, i < k → xs.getD (p + i) 0 = ys.getD (p + i) 0) → Me.sumN xs p k = Me.sumN ys p k := by
  intro k
  induction k with
  | zero => intro _; rfl
  | succ k ih =>
    intro h
    unfold Me.sumN
    rw [ih fun i hi => h i (by omega), h k (by omega)]
theorem cel_set {xs : List Int} {p : Int} (v : Int) (h0 : 0 ≤ p) (h1 : p + 8 ≤ xs.length) (h8 : p % 8 = 0) (hv : C64 v) : Me.celI (Me.setC xs p v) p = v := by
  have ht : Me.tC xs.length p = 0 := Me.tC_ok ⟨h0, h1⟩ h8
  unfold Me.celI
  rw [setC_len _ ht, if_pos ht]
  unfold Me.setC
  rw [if_pos ht]
  exact Me.cell_put xs p.toNat v (by omega) hv
theorem cel_other {xs : List Int} {p q : Int} (v : Int) (h0 : 0 ≤ q) (h1 : q + 8 ≤ xs.length) (h8 : q % 8 = 0) (hp : 0 ≤ p) (hp1 : p + 8 ≤ xs.length) (hap : p + 8 ≤ q ∨ q + 8 ≤ p) : Me.celI (Me.setC xs q v) p = Me.celI xs p := by
  have ht : Me.tC xs.length q = 0 := Me.tC_ok ⟨h0, h1⟩ h8
  unfold Me.celI
  rw [setC_len _ ht]
  split
  · unfold Me.cellI
    congr 1
    refine sum_apart _ _ _ 8 fun i hi => ?_
    unfold Me.setC
    rw [if_pos ht, Me.putN_get xs q.toNat v (p.toNat + i) (by omega) 8, if_neg (by omega)]
  · rfl
end Go.Proofs.YtcjbfokindoicaaDoor
