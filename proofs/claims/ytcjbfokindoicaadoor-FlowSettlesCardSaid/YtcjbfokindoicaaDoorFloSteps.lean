/- What each word makes of a state that has room: what is laid, what is told, what is opened and closed. -/
import Derived.Test.YtcjbfokindoicaaDoorFloMis
import Derived.Test.YtcjbfokindoicaaDoorFloRun
namespace Go.Proofs.YtcjbfokindoicaaDoor
set_option maxRecDepth 100000
open Go.ChangeShapes Go.WideShapes Go.ChangeAt Go.RowKit
open On (St Hs StIs cst Fl one C64 C8 Sc slc spc Sz bytesOk)
set_option linter.unusedVariables false
set_option maxRecDepth 100000

/-- a state with m bytes whose next address is h, a multiple of 8, with n spots, each below it; room for r cells more -/
structure Rm (m : Nat) (s : St) (h n r : Nat) : Prop where
  mem : s.mem.length = m
  here : s.here = (h : Int)
  mul : h % 8 = 0
  room : h + 8 * r ≤ m
  spots : s.spots.length = n
  low : ∀ x ∈ s.spots, x.1 < (h : Int)
theorem keepS_all {h : Int} {l : List (Int × Int)} (H : ∀ x ∈ l, x.1 < h) : keepS h l = l := List.filter_eq_self.2 fun x hx => decide_eq_true (H x hx)
/-- the state behind two cells laid -/
def lay2 (s : St) (a b : Int) : St := { s with mem := Me.setC (Me.setC s.mem s.here a) (s.here + 8) b, here := s.here + 8 + 8, spots := s.spots ++ [(s.here, s.tok), (s.here + 8, s.tok)] }
theorem Rm.lay {m : Nat} {s : St} {h n r : Nat} (H : Rm m s h n (r + 2)) (a b : Int) : emitC s [a, b] = (0, lay2 s a b) ∧ Rm m (lay2 s a b) (h + 16) (n + 2) r := by
  have hh := H.here
  have hr := H.room
  have hm := H.mem
  have h8 := H.mul
  have e := emit2 (s := s) a b (by omega) (by rw [hh, hm]; omega) (by rw [hh]; omega)
  have hl0 : keepS s.here s.spots = s.spots := keepS_all fun x hx => by rw [hh]; exact H.low x hx
  have hl1 : keepS (s.here + 8) (s.spots ++ [(s.here, s.tok)]) = s.spots ++ [(s.here, s.tok)] := keepS_all fun x hx => by
    rcases List.mem_append.1 hx with hx | hx
    · have := H.low x hx; omega
    · obtain rfl := List.mem_singleton.1 hx
      show s.here < s.here + 8
      omega
  rw [hl0, hl1, List.append_assoc] at e
  refine ⟨e, ⟨?_, ?_, by omega, by omega, ?_, ?_⟩⟩
  · show (Me.setC (Me.setC s.mem s.here a) (s.here + 8) b).length = m
    have l1 : (Me.setC s.mem s.here a).length = s.mem.length := setC_len _ (Me.tC_ok ⟨by omega, by rw [hh, hm]; omega⟩ (by rw [hh]; omega))
    rw [setC_len _ (Me.tC_ok ⟨by omega, by rw [l1, hh, hm]; omega⟩ (by rw [hh]; omega)), l1, hm]
  · show s.here + 8 + 8 = _
    rw [hh]; omega
  · show (s.spots ++ [_, _]).length = _
    rw [List.length_append, H.spots]
    rfl
  · intro x hx
    rcases List.mem_append.1 hx with hx | hx
    · have := H.low x hx; omega
    · simp at hx
      rcases hx with rfl | rfl
      · show s.here < _; omega
      · show s.here + 8 < _; omega
/-- the state behind a cell told -/
def set1 (s : St) (a : Int) : St := { s with mem := Me.setC s.mem a s.here }
theorem Rm.set {m : Nat} {s : St} {h n r : Nat} (H : Rm m s h n r) {a : Int} (h0 : 0 ≤ a) (h1 : a + 8 ≤ m) (h8 : a % 8 = 0) : setP a (s, 0) = (set1 s a, 0) ∧ Rm m (set1 s a) h n r := by
  have ht : Me.tC s.mem.length a = 0 := Me.tC_ok ⟨h0, by rw [H.mem]; omega⟩ h8
  refine ⟨?_, ⟨?_, H.here, H.mul, H.room, H.spots, H.low⟩⟩
  · unfold setP patC
    rw [if_pos rfl, if_neg (by simpa using ht)]
    rfl
  · show (Me.setC s.mem a s.here).length = m
    rw [setC_len _ ht, H.mem]
theorem layP_go {m : Nat} {s : St} {h n r : Nat} (H : Rm m s h n (r + 2)) (hb : m ≤ 100000) (a b : Int) : layP a b (s, 0) = ((h : Int) + 8, lay2 s a b, 0) := by
  have e := (H.lay a b).1
  unfold layP emiP
  rw [if_pos rfl, e]
  have hh := H.here
  have hr := H.room
  have : (lay2 s a b).here = (h : Int) + 8 + 8 := by show s.here + 8 + 8 = _; rw [hh]
  show (wrap64 ((lay2 s a b).here - 8), _) = _
  rw [this]
  have : wrap64 ((h : Int) + 8 + 8 - 8) = (h : Int) + 8 := by unfold wrap64; omega
  rw [this]
/-- pairs on top -/
theorem getD_app (l : List Int) (a b : Int) : (l ++ [a, b]).getD ((l ++ [a, b]).length - 2) 0 = a ∧ (l ++ [a, b]).getD ((l ++ [a, b]).length - 1) 0 = b ∧ (l ++ [a, b]).take ((l ++ [a, b]).length - 2) = l := by
  have hl : (l ++ [a, b]).length = l.length + 2 := by simp
  refine ⟨?_, ?_, ?_⟩
  · simp [List.getD]
  · rw [hl]; simp [List.getD]
  · rw [hl]; simp
theorem offP_yes {s : St} {l : List Int} {k a : Int} (h : s.ctl = l ++ [k, a]) : offP k s = (a, true, { s with ctl := l }) := by
  obtain ⟨h1, h2, h3⟩ := getD_app l k a
  unfold offP
  rw [h, h1, h2, h3, if_neg (by simp), if_neg (by simp)]
theorem wan_yes1 {s : St} {l : List Int} {k a : Int} (h : s.ctl = l ++ [k, a]) : wanP [k] (s, 0) = ([a], { s with ctl := l }, 0) := by
  unfold wanP
  rw [takP_cons, offP_yes h]
  rfl
theorem wan_yes2 {s : St} {l : List Int} {j b k a : Int} (h : s.ctl = l ++ [j, b, k, a]) : wanP [k, j] (s, 0) = ([a, b], { s with ctl := l }, 0) := by
  have h1 : s.ctl = (l ++ [j, b]) ++ [k, a] := by rw [h]; simp
  unfold wanP
  rw [takP_cons, offP_yes h1]
  simp only [takP_cons, offP_yes (s := { s with ctl := l ++ [j, b] }) (l := l) (k := j) (a := b) rfl]
  rfl
theorem Rm.ctl {m : Nat} {s : St} {h n r : Nat} (H : Rm m s h n r) (l : List Int) : Rm m { s with ctl := l } h n r := ⟨H.mem, H.here, H.mul, H.room, H.spots, H.low⟩
theorem Rm.less {m : Nat} {s : St} {h n r r' : Nat} (H : Rm m s h n r) (hr : r' ≤ r) : Rm m s h n r' := ⟨H.mem, H.here, H.mul, by have := H.room; omega, H.spots, H.low⟩

end Go.Proofs.YtcjbfokindoicaaDoor
