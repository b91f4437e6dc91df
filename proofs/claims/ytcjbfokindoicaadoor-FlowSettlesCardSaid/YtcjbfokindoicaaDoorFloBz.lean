/- How much a word adds to a state; each word of the table; what Do comes to, on cells that are a state. -/
import Derived.Test.YtcjbfokindoicaaDoorFloDo
import Derived.Test.YtcjbfokindoicaaDoorAsmAwake
namespace Go.Proofs.YtcjbfokindoicaaDoor
set_option maxRecDepth 100000
open Go.ChangeShapes Go.WideShapes Go.ChangeAt Go.RowKit
open On (St Hs StIs cst Fl one C64 C8 Sc slc spc Sz bytesOk)
set_option linter.unusedVariables false
set_option maxRecDepth 100000

structure Bz (p c q : Nat) (x : WkS) : Prop where
  ok : x.1.ok
  mem : x.1.mem.length ≤ 1000000
  spots : x.1.spots.length ≤ p
  ctl : x.1.ctl.length ≤ c
  words : x.1.words.length ≤ q
  thr : C64 x.2
theorem Bz.bd {p c q : Nat} {x : WkS} (h : Bz p c q x) (n : Nat) (hp : p ≤ 40000 + n) (hc : c ≤ 40000 + n) : Bd n x := ⟨h.ok, h.mem, Nat.le_trans h.spots hp, Nat.le_trans h.ctl hc, h.thr⟩
theorem Bz.le {p c q p' c' : Nat} {x : WkS} (h : Bz p c q x) (hp : p ≤ p') (hc : c ≤ c') : Bz p' c' q x := ⟨h.ok, h.mem, Nat.le_trans h.spots hp, Nat.le_trans h.ctl hc, h.words, h.thr⟩
theorem c64_0 : C64 0 := by unfold C64; omega
theorem offP_bz {p c q : Nat} {s : St} {t : Int} (k : Int) (h : Bz p c q (s, t)) : Bz p c q ((offP k s).2.2, t) ∧ C64 (offP k s).1 := by
  unfold offP
  split
  · exact ⟨h, c64_0⟩
  · split
    · exact ⟨h, c64_0⟩
    · refine ⟨⟨{ h.ok with ctl := fun z hz => h.ok.ctl z (List.mem_of_mem_take hz) }, h.mem, h.spots, ?_, h.words, h.thr⟩, getD_c64 h.ok.ctl _⟩
      have := h.ctl
      show (s.ctl.take _).length ≤ _
      rw [List.length_take]
      exact Nat.le_trans (Nat.min_le_right _ _) this
theorem takP_bz {p c q : Nat} {t : Int} (ks : List Int) : ∀ s : St, Bz p c q (s, t) → Bz p c q ((takP ks s).2.2, t) ∧ ∀ z ∈ (takP ks s).1, C64 z := by
  induction ks with
  | nil => intro s h; exact ⟨h, fun z hz => by cases hz⟩
  | cons k ks ih =>
    intro s h
    have h1 := offP_bz k h
    rw [takP_cons]
    split
    · obtain ⟨h2, h3⟩ := ih _ h1.1
      refine ⟨h2, fun z hz => ?_⟩
      rcases List.mem_cons.1 hz with rfl | hz
      · exact h1.2
      · exact h3 z hz
    · exact ⟨h1.1, fun z hz => by cases hz⟩
theorem Bz.wan {p c q : Nat} {x : WkS} (h : Bz p c q x) (ks : List Int) : Bz p c q (wanP ks x).2 ∧ ∀ z ∈ (wanP ks x).1, C64 z := by
  obtain ⟨h1, h2⟩ := takP_bz ks x.1 h
  refine ⟨⟨h1.ok, h1.mem, h1.spots, h1.ctl, h1.words, holP_c64 (by unfold C64; omega) h.thr⟩, ?_⟩
  unfold wanP
  dsimp only
  split
  · exact h2
  · intro z hz; cases hz
theorem Bz.roo {p c q : Nat} {x : WkS} (h : Bz p c q x) (m : Nat) : Bz p c q (rooP m x) := ⟨h.ok, h.mem, h.spots, h.ctl, h.words, holP_c64 (by unfold C64; omega) h.thr⟩
theorem Bz.put {p c q : Nat} {x : WkS} (h : Bz p c q x) {k a : Int} (hk : C64 k) (ha : C64 a) : Bz p (c + 2) q (putP k a x) := by
  refine ⟨{ h.ok with ctl := fun z hz => ?_ }, h.mem, h.spots, ?_, h.words, h.thr⟩
  · rcases List.mem_append.1 hz with hz | hz
    · exact h.ok.ctl z hz
    · simp at hz
      rcases hz with rfl | rfl <;> assumption
  · have := h.ctl
    show (x.1.ctl ++ [k, a]).length ≤ _
    simp
    omega
theorem emitC_words (vs : List Int) : ∀ s : St, (emitC s vs).2.words = s.words ∨ (emitC s vs).2.words = [] := by
  induction vs with
  | nil => intro s; exact .inl rfl
  | cons v vs ih =>
    intro s
    rw [emitC]
    split
    · exact .inr rfl
    · exact ih (emiS s v)
theorem Bz.emi {p c q : Nat} {x : WkS} (h : Bz p c q x) {vs : List Int} (hl : vs.length ≤ 2) : Bz (p + 2) c q (emiP vs x) := by
  unfold emiP
  split
  · obtain ⟨h1, h2, h3, h4⟩ := emitC_more vs x.1 h.ok h.mem
    have h5 := emitC_words vs x.1
    have := h.mem; have := h.spots; have := h.ctl; have := h.words
    refine ⟨emitC_ok vs _ h.ok h.mem, by show (emitC x.1 vs).2.mem.length ≤ _; omega, by show (emitC x.1 vs).2.spots.length ≤ _; omega, ?_, ?_, h4⟩
    · show (emitC x.1 vs).2.ctl.length ≤ _
      rcases h3 with h3 | h3
      · rw [h3]; omega
      · rw [h3]; exact Nat.zero_le _
    · show (emitC x.1 vs).2.words.length ≤ _
      rcases h5 with h5 | h5
      · rw [h5]; omega
      · rw [h5]; exact Nat.zero_le _
  · exact h.le (by omega) (Nat.le_refl _)
theorem Bz.lay {p c q : Nat} {x : WkS} (h : Bz p c q x) (op a : Int) : Bz (p + 2) c q (layP op a x).2 ∧ C64 (layP op a x).1 := ⟨h.emi (Nat.le_refl 2), wrap_c64 _⟩
theorem patC_set' {s : St} (hk : s.ok) {a v : Int} : ({ s with mem := Me.setC s.mem a v } : St).ok := { hk with mem := setC_ok _ _ hk.mem }
theorem Bz.set {p c q : Nat} {x : WkS} (h : Bz p c q x) (a : Int) : Bz p c q (setP a x) := by
  unfold setP
  split
  · unfold patC
    split
    · exact ⟨zero_ok, Nat.zero_le _, Nat.zero_le _, Nat.zero_le _, Nat.zero_le _, tC_c64 _ _⟩
    · rename_i ht
      refine ⟨patC_set' h.ok, ?_, h.spots, h.ctl, h.words, c64_0⟩
      show (Me.setC x.1.mem a x.1.here).length ≤ _
      rw [setC_len _ (by simpa using ht)]
      exact h.mem
  · exact h
theorem Bz.own {p c q : Nat} {x : WkS} (h : Bz p c q x) : Bz p c q (ownP x).2 ∧ C64 (ownP x).1 := by
  have h1 := (Bd.own (n := p + c) ⟨h.ok, h.mem, by have := h.spots; omega, by have := h.ctl; omega, h.thr⟩)
  refine ⟨?_, h1.2⟩
  have h2 := h1.1.thr
  unfold ownP at h2 ⊢
  split
  · exact h
  · rename_i hh
    rw [if_neg hh] at h2
    exact ⟨h.ok, h.mem, h.spots, h.ctl, h.words, h2⟩
theorem lit (n : Int) (h : (decide (-9223372036854775808 ≤ n) && decide (n ≤ 9223372036854775807)) = true) : C64 n := c64_lit h
/-- the words of the table -/
theorem word_bz {p c q : Nat} {x : WkS} (h : Bz p c q x) {f : List Int} {φ : Phi} (hl : lkp tbF f = some φ) : Bz (p + 2) (c + 4) q (φ x) := by
  have hm : ∀ l : Tbl, lkp l f = some φ → φ ∈ l.map (·.2) := by
    intro l
    induction l with
    | nil => intro h; cases h
    | cons a l ih =>
      intro h
      obtain ⟨k, ψ⟩ := a
      have h' : (if k = f then some ψ else lkp l f) = some φ := h
      split at h'
      · injection h' with h'
        rw [h']; exact .head _
      · exact .tail _ (ih h')
  have hφ := hm _ hl
  have hO : ∀ op k : Int, C64 k → Bz (p + 2) (c + 4) q (opeW op k x) := fun op k hk => by
    have a := ((h.roo 1).lay op 0)
    exact (a.1.put hk a.2).le (Nat.le_refl _) (by omega)
  have hG : ∀ op : Int, Bz (p + 2) (c + 4) q (gobW op x) := fun op => (((h.wan [2]).1.lay op _).1).le (Nat.le_refl _) (by omega)
  have hC : ∀ op : Int, Bz (p + 2) (c + 4) q (cloW op x) := fun op => ((((h.wan [3]).1.lay op _).1).set _).le (Nat.le_refl _) (by omega)
  simp only [tbF, List.map_cons, List.map_nil, List.mem_cons, List.not_mem_nil, or_false] at hφ
  rcases hφ with rfl | rfl | rfl | rfl | rfl | rfl | rfl | rfl | rfl | rfl | rfl | rfl
  · exact hO 4 1 (lit _ rfl)
  · have a := (h.wan [1]).1.lay 3 0
    exact ((a.1.set _).put (lit _ rfl) a.2).le (Nat.le_refl _) (by omega)
  · exact ((h.wan [1]).1.set _).le (by omega) (by omega)
  · exact ((h.roo 1).put (lit _ rfl) (h.roo 1).ok.here).le (by omega) (by omega)
  · exact hG 3
  · exact hG 4
  · have a := ((h.wan [2]).1.roo 2).lay 4 0
    exact ((a.1.put (lit _ rfl) a.2).put (lit _ rfl) (getD_c64 (h.wan [2]).2 0)).le (Nat.le_refl _) (by omega)
  · exact (((h.wan [2, 1]).1.lay 3 _).1.set _).le (Nat.le_refl _) (by omega)
  · exact hO 5 3 (lit _ rfl)
  · exact hC 6
  · exact hC 7
  · exact ((h.own.1).emi (vs := [(ownP x).1]) (Nat.le_succ 1)).le (Nat.le_refl _) (by omega)
theorem zero_bz {p c q : Nat} {t : Int} (ht : C64 t) : Bz p c q (On.St.zero, t) := ⟨zero_ok, Nat.zero_le _, Nat.zero_le _, Nat.zero_le _, Nat.zero_le _, ht⟩
theorem floP_bz {p c q : Nat} {s : St} (h : Bz p c q (s, 0)) (op : Int) : Bz (p + 2) (c + 4) q ((floP s op).2.2, 0) ∧ C64 (floP s op).1 := by
  cases hn : lkp tbF (On.nm op) with
  | none => rw [floP_none hn]; exact ⟨zero_bz c64_0, c64_0⟩
  | some φ =>
    rw [floP_some hn]
    have hw := word_bz h hn
    split
    · exact ⟨⟨hw.ok, hw.mem, hw.spots, hw.ctl, hw.words, c64_0⟩, c64_0⟩
    · exact ⟨zero_bz c64_0, hw.thr⟩
/-- a state that a run may go on from -/
structure Goes (s : St) : Prop where
  bz : Bz 30000 30000 100000 (s, 0)
/-- the cells Z are the state s -/
def Zis (V : World) (Z : Array Value) (s : St) : Prop := ∃ h', Z = cst h' s ∧ StIs V h' s
theorem Zis.stz {V : World} {Z : Array Value} {s : St} (h : Zis V Z s) : StZ Z := by
  obtain ⟨h', rfl, _⟩ := h
  exact StZ.cst _ _
theorem Zis.below {V W : World} {Z : Array Value} {s : St} (h : Zis V Z s) (hb : Below V.heap.size V W) : Zis W Z s := by
  obtain ⟨h', rfl, g⟩ := h
  exact ⟨h', rfl, g.below hb⟩
theorem do_z {V : World} {h' : Hs} {s : St} (hS : StIs V h' s) (op : Int) (hL : On.Laid V) (hop : C64 op) (hg : Goes s) {t : Int} {b : Bool} {s' : St} (he : floP s op = (t, b, s')) :
    Calls Tryd.prog 10 #[.agg (cst h' s), .int .i64 op] V fun e w => ∃ Z, e = .returned (.tuple #[.agg Z, .int .i64 t, .bool b]) ∧ Hid (StZ Z) ∧ Hid (Zis w Z s') ∧ Below V.heap.size V w := by
  have h := do_any h' s op V hL hop hS (hg.bz.bd 0 (by decide) (by decide)) hg.bz.words (fun φ hφ => (word_bz hg.bz hφ).thr)
  rw [he] at h
  refine h.mono fun e w hh => ?_
  obtain ⟨h2, g1, g2, g3, g4⟩ := hh
  exact ⟨_, g1, Lib.hid (StZ.cst _ _), Lib.hid ⟨h2, rfl, g2⟩, g3⟩
end Go.Proofs.YtcjbfokindoicaaDoor
