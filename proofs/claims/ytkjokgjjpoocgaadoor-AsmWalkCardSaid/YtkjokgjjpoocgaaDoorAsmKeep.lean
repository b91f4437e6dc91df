/- A state in a variable of a loop, and a row of integers beside it. -/
import Derived.Test.YtkjokgjjpoocgaaDoorAsmLoop
namespace Go.Proofs.YtkjokgjjpoocgaaDoor
set_option maxRecDepth 100000
open Go.ChangeShapes Go.WideShapes Go.ChangeAt Go.RowKit
open On (St Hs StIs cst Fl one C64 C8 Sc slc spc Sz wpList_append_run)
set_option linter.unusedVariables false
set_option maxRecDepth 100000

/-- the slice lies in no block of these two: the variable's own, and the row's -/
def Off (x : Sc) (g : Nat) (r : Option Nat) : Prop := ∀ b o, x.a = some ⟨b, o, none⟩ → 0 < x.n → b ≠ g ∧ some b ≠ r
/-- all other slices are empty -/
def Bare (s : St) : Prop := s.data = [] ∧ s.ret = [] ∧ s.ctl = [] ∧ s.words = [] ∧ s.out = []
/-- the variable g holds the state, whose slices lie neither there nor in the row r -/
structure Lp (V : World) (g : Nat) (r : Option Nat) (h' : Hs) (s' : St) : Prop where
  b : Bx V g 28 (cst h' s')
  st : StIs V h' s'
  om : Off h'.mem g r
  os : Off h'.spots g r
  bare : Bare s'
theorem Lp.below {V W : World} {g : Nat} {r : Option Nat} {h' : Hs} {s' : St} (H : Lp V g r h' s') (hb : Below V.heap.size V W) : Lp W g r h' s' := ⟨H.b.below hb H.b.lt, H.st.below hb, H.om, H.os, H.bare⟩
theorem fl_other {α : Type} {f : α → List Value} {z : Nat} {V W : World} {x : Sc} {l : List α} (h : Fl f z V x l) (hne : ∀ b o, x.a = some ⟨b, o, none⟩ → 0 < x.n → W.heap[b]? = V.heap[b]?) : Fl f z W x l := by
  refine ⟨Sz.len h, Sz.cap h, Sz.big h, Sz.isnil h, fun hn => ?_⟩
  obtain ⟨b, o, ha, hr⟩ := Sz.cells h hn
  refine ⟨b, o, ha, fun i v hv => ?_⟩
  have := hr i v hv
  unfold World.cell? at this ⊢
  simp only [hne b o ha hn]
  exact this
theorem fl_nil {α : Type} {f : α → List Value} {z : Nat} {V W : World} {x : Sc} (h : Fl f z V x ([] : List α)) (hz : 0 < z) : Fl f z W x ([] : List α) := by
  have h0 : x.n = 0 := by
    have h1 : x.n * z = 0 := by
      have := Sz.len h
      simpa using this.symm
    rcases Nat.mul_eq_zero.1 h1 with h2 | h2
    · exact h2
    · omega
  exact fl_other h (fun b o _ hn => by omega)
theorem bare_other {V W : World} {h' : Hs} {s' : St} (hS : StIs V h' s') (hB : Bare s') (hm : Fl (one .u8) 1 W h'.mem s'.mem) (hs : Fl spc 2 W h'.spots s'.spots) : StIs W h' s' := by
  obtain ⟨e1, e2, e3, e4, e5⟩ := hB
  have d := hS.data; have q := hS.ret; have c := hS.ctl; have ww := hS.words; have o := hS.out
  rw [e1] at d; rw [e2] at q; rw [e3] at c; rw [e4] at ww; rw [e5] at o
  refine ⟨hm, ?_, ?_, ?_, ?_, hs, ?_⟩
  · rw [e1]; exact fl_nil d (by decide)
  · rw [e2]; exact fl_nil q (by decide)
  · rw [e3]; exact fl_nil c (by decide)
  · rw [e4]; exact fl_nil ww (by decide)
  · rw [e5]; exact fl_nil o (by decide)
/-- what is appended to the row leaves the state as it was -/
theorem Lp.grown {V W : World} {g : Nat} {r r' : Option Nat} {h' : Hs} {s' : St} (H : Lp V g r h' s') (hg : V.grownBy W r) (hr : r' = r ∨ ∃ k, r' = some k ∧ V.heap.size ≤ k) (hgr : some g ≠ r) : Lp W g r' h' s' := by
  have hoff : ∀ {x : Sc}, Off x g r → (∀ b o, x.a = some ⟨b, o, none⟩ → 0 < x.n → b < V.heap.size) → Off x g r' := fun ho hl b o ha hn => by
    refine ⟨(ho b o ha hn).1, ?_⟩
    rcases hr with rfl | ⟨k, rfl, hk⟩
    · exact (ho b o ha hn).2
    · have := hl b o ha hn
      intro hc
      have := Option.some.inj hc
      omega
  have hlm : ∀ b o, h'.mem.a = some ⟨b, o, none⟩ → 0 < h'.mem.n → b < V.heap.size := fun b o ha hn => by
    obtain ⟨b', o', ha', hr'⟩ := Sz.cells H.st.mem hn
    rw [ha] at ha'
    obtain ⟨rfl, rfl⟩ : b = b' ∧ o = o' := by simpa using ha'
    exact On.range_lt hr' (fun hc => by have := Sz.len H.st.mem; rw [hc] at this; simp at this; omega)
  have hls : ∀ b o, h'.spots.a = some ⟨b, o, none⟩ → 0 < h'.spots.n → b < V.heap.size := fun b o ha hn => by
    obtain ⟨b', o', ha', hr'⟩ := Sz.cells H.st.spots hn
    rw [ha] at ha'
    obtain ⟨rfl, rfl⟩ : b = b' ∧ o = o' := by simpa using ha'
    exact On.range_lt hr' (fun hc => by have := Sz.len H.st.spots; rw [hc] at this; simp at this; omega)
  have hblk : ∀ k, k < V.heap.size → some k ≠ r → W.heap[k]? = V.heap[k]? := fun k hk hne => hg.block k hk hne
  exact ⟨(hblk g H.b.lt hgr).trans H.b, bare_other H.st H.bare (fl_other H.st.mem fun b o ha hn => hblk b (hlm b o ha hn) (H.om b o ha hn).2) (fl_other H.st.spots fun b o ha hn => hblk b (hls b o ha hn) (H.os b o ha hn).2), hoff H.om hlm, hoff H.os hls, H.bare⟩
/-- what Emit leaves, and its being stored in the variable -/
structure Out (V w5 : World) (g : Nat) (r : Option Nat) (Z : Array Value) (s2 : St) : Prop where
  stz : StZ Z
  new : (storeCells ⟨w5.heap.size, 0, none⟩ Z.toList).run Tryd.prog (w5.alloc (.cells zst 28)) = .ok () ((w5.alloc (.cells zst 28)).setRow w5.heap.size Z)
  load : Bx ((w5.alloc (.cells zst 28)).setRow w5.heap.size Z) w5.heap.size 28 Z
  old : ∃ cs, Bx ((w5.alloc (.cells zst 28)).setRow w5.heap.size Z) g 28 cs ∧ cs.size = 15
  lp : ∃ h2, Z = cst h2 s2 ∧ Lp (((w5.alloc (.cells zst 28)).setRow w5.heap.size Z).setRow g Z) g r h2 s2
  bel : Below V.heap.size V ((w5.alloc (.cells zst 28)).setRow w5.heap.size Z)
theorem lp_emit {V : World} {g : Nat} {r : Option Nat} {h' : Hs} {s' s2 : St} (L : Lp V g r h' s') (hr : ∀ k, r = some k → k < V.heap.size) (x : Sc) (vs : List Int) (hx : Fl (one .i64) 1 V x vs) (hv : ∀ z ∈ vs, C64 z) (hl : vs.length ≤ 1000) (hk : s'.ok) (hm : s'.mem.length ≤ 600) (hsp : s'.spots.length ≤ 100) (he : emitC s' vs = (0, s2)) (hB2 : Bare s2) :
    Calls Tryd.prog 12 #[.agg (cst h' s'), .slice x.a x.n x.c] V fun e w5 => ∃ Z, e = .returned (.tuple #[.agg Z, .int .i64 0]) ∧ Hid (Out V w5 g r Z s2) := by
  have h := emit_where h' s' x vs V L.st hk hm hsp hx hv hl
  rw [he] at h
  refine h.mono fun e w5 hh => ?_
  obtain ⟨h2, e1, e2, e3, e4, e5⟩ := hh
  have hb5 : Below V.heap.size V ((w5.alloc (.cells zst 28)).setRow w5.heap.size (cst h2 s2)) := aw_up1 (StZ.cst h2 s2) e3
  have hw5 : Below w5.heap.size w5 ((w5.alloc (.cells zst 28)).setRow w5.heap.size (cst h2 s2)) := aw_up1 (StZ.cst h2 s2) (Below.refl _ _)
  have hBg := L.b.below hb5 L.b.lt
  have hfr : ∀ {y y' : Sc}, (y' = y ∨ ∀ a, y'.a = some a → V.heap.size ≤ a.block) → Off y g r → Off y' g r := fun hc ho => by
    rcases hc with rfl | hc
    · exact ho
    · intro b o ha hn
      have h1 := hc _ ha
      dsimp only at h1
      have h2 := L.b.lt
      refine ⟨by omega, fun hc => ?_⟩
      have := hr b hc.symm
      omega
  have om := hfr e5 L.om
  have os := hfr e4 L.os
  refine ⟨_, e1, Lib.hid ⟨StZ.cst h2 s2, cells_at (Bx.new w5 28 zst) rfl (cst_one _ _), (Bx.new w5 28 zst).row _, ⟨_, hBg, rfl⟩, ⟨h2, rfl, ?_⟩, hb5⟩⟩
  have hS5 := e2.below hw5
  exact ⟨hBg.row _, bare_other hS5 hB2 (fl_other hS5.mem fun b o ha hn => setRow_other _ g b _ (om b o ha hn).1) (fl_other hS5.spots fun b o ha hn => setRow_other _ g b _ (os b o ha hn).1), om, os, hB2⟩
theorem stk_bare {wth : Int} {xs : List Int} (hw : C64 wth) (hx : ∀ x ∈ xs, 0 ≤ x ∧ x ≤ 255) {k : Nat} (hk : k ≤ 20) : Bare (stk wth xs k) := by
  have h := (stk_run hw hx hk).2.rest
  unfold Bare
  rw [h]
  exact ⟨rfl, rfl, rfl, rfl, rfl⟩

/-! ### a row of integers of the call's own -/
theorem intinf : (Tryd.prog.info? 3).map (fun i => (i.zero, i.size, i.bytes)) = some (some (.int .i64 0), 1, 8) := by kernel_rfl
/-- an append goes into the row's own block, or into a new one -/
theorem row_block (W : World) {i : TypeInfo} {z : Value} (hi : Tryd.prog.info? 3 = some i) (hz0 : i.zero = some z) (hz1 : i.size = 1) (hz2 : i.bytes = 8) (ty : TypeId) {B n cap : Nat} {a : Option Addr} {vs : List Value} {x : Int} {p : Addr} {v' : Value} {w2 : World}
    (ho : On.Oz W B 3 1 a n cap vs) (hnews : ∀ j u, [Value.int .i64 x][j]? = some u → W.cell? (p.add j) = some u) (hn : n ≤ 100000)
    (hrun : (Builtin.append_ #[23, 23] ty #[.slice a n cap, .slice (some p) 1 1]).run Tryd.prog W = .ok v' w2) :
    v'.ownBlock = (Value.slice a n cap).ownBlock ∨ ∃ k, v'.ownBlock = some k ∧ W.heap.size ≤ k := by
  have hl : [Value.int .i64 x].length = 1 * i.size := by rw [hz1]; rfl
  have hlen := ho.1
  rcases ho.2 with ⟨hv, h0⟩ | ⟨g, cap', cur, hv, hbg, hgg, hnc, hcm, hcs, htake⟩
  · simp only [Value.slice.injEq] at hv
    obtain ⟨rfl, rfl, rfl⟩ := hv
    have hr := run_append_nil (P := Tryd.prog) W 23 ty 3 i z Tryd.underlying23 hi hz0 p 1 1 [.int .i64 x] hl hnews (by omega) (by omega) (by rw [hz2]; omega)
    rw [hr] at hrun
    simp only [Result.ok.injEq] at hrun
    obtain ⟨rfl, _⟩ := hrun
    exact .inr ⟨_, rfl, Nat.le_refl _⟩
  · simp only [Value.slice.injEq, true_and] at hv
    obtain ⟨rfl, rfl⟩ := hv
    by_cases hroom : n + 1 ≤ cap
    · have hr := run_append_room (P := Tryd.prog) W 23 ty 3 i Tryd.underlying23 hi g n cap cur hgg p 1 1 [.int .i64 x] hl hnews (fun u hu => by obtain rfl := List.mem_singleton.1 hu; rfl) hroom (by rw [hz1, hcs]; simp; omega)
      rw [hr] at hrun
      simp only [Result.ok.injEq] at hrun
      obtain ⟨rfl, _⟩ := hrun
      exact .inl rfl
    · have hr := run_append_grow (P := Tryd.prog) W 23 ty 3 i z Tryd.underlying23 hi hz0 ⟨g, 0, none⟩ n cap vs (by rw [hz1]; exact hlen) (World.ownsRow.cells ho (g := g) rfl) p 1 1 [.int .i64 x] hl hnews (by omega) (by omega) (growslice_fits (by omega) (by rw [hz2]; omega))
      rw [hr] at hrun
      simp only [Result.ok.injEq] at hrun
      obtain ⟨rfl, _⟩ := hrun
      exact .inr ⟨_, rfl, Nat.le_refl _⟩
/-- an integer is appended: the row, and what else stays -/
theorem int_app {w : World} {B n cap : Nat} {a : Option Addr} {vs : List Value} (x : Int) (h : On.Oz w B 3 1 a n cap vs) (hn : n ≤ 100000) (hB : B ≤ w.heap.size) (ty : TypeId) :
    ∃ a' cap' w2, (Builtin.append_ #[23, 23] ty #[.slice a n cap, .slice (some ⟨w.heap.size, 0, none⟩) 1 1]).run Tryd.prog (w.alloc (.cells #[.int .i64 x] 3)) = .ok (.slice a' (n + 1) cap') w2 ∧ On.Oz w2 B 3 1 a' (n + 1) cap' (vs ++ [.int .i64 x]) ∧
      (w.alloc (.cells #[.int .i64 x] 3)).grownBy w2 (Value.slice a n cap).ownBlock ∧ Below B w w2 ∧ ((Value.slice a' (n + 1) cap').ownBlock = (Value.slice a n cap).ownBlock ∨ ∃ k, (Value.slice a' (n + 1) cap').ownBlock = some k ∧ (w.alloc (.cells #[.int .i64 x] 3)).heap.size ≤ k) := by
  obtain ⟨i, hi, hz0, hz1, hz2⟩ := info_parts intinf
  have ho := h.alloc (.cells #[.int .i64 x] 3)
  have hs : Sz (w.alloc (.cells #[.int .i64 x] 3)) 1 (some ⟨w.heap.size, 0, none⟩) 1 1 [.int .i64 x] := (On.Oz.full w w.heap.size 3 1 (Nat.le_refl _) #[.int .i64 x] 1 (by decide) rfl).sz
  obtain ⟨v', w2, hrun, h2, hg, hne⟩ := run_append_own (P := Tryd.prog) (w.alloc (.cells #[.int .i64 x] 3)) B 23 ty 3 i _ 1 8 Tryd.underlying23 hi hz0 hz1 hz2 rfl (by decide) _ n _ ho ⟨w.heap.size, 0, none⟩ 1 1 [.int .i64 x] rfl (fun j v hj => by
    obtain ⟨b, o, hab, hc⟩ := hs.cells (by decide)
    have e := Option.some.inj hab
    rw [e, add_plain]
    exact hc j v hj) (fun u hu => by obtain rfl := List.mem_singleton.1 hu; rfl) (by unfold maxLen; omega) (by omega) (by simp; omega)
  have hblk := row_block (w.alloc (.cells #[.int .i64 x] 3)) hi hz0 hz1 hz2 ty ho (fun j u hj => by
    obtain ⟨b, o, hab, hc⟩ := hs.cells (by decide)
    have e := Option.some.inj hab
    rw [e, add_plain]
    exact hc j u hj) (by omega) hrun
  obtain ⟨a', cap', rfl⟩ : ∃ a' cap', v' = .slice a' (n + 1) cap' := by
    rcases h2.2 with ⟨hv, h0⟩ | ⟨g, cap, cur, hv, _⟩
    · exact ⟨none, 0, by rw [hv, h0]⟩
    · exact ⟨_, cap, hv⟩
  exact ⟨a', cap', w2, hrun, h2, hg, ((Below.refl B w).alloc hB _).trans ((Below.refl B _).grown hg (by simp; omega) (fun k hk => (World.ownsRow.lt ho k hk).1)), hblk⟩
/-- the row's values: where each word begins -/
def sts (wth : Int) (xs : List Int) (k : Nat) : List Value := (List.range k).map fun i => .int .i64 (stt wth xs i : Int)
theorem sts_next (wth : Int) (xs : List Int) (k : Nat) : sts wth xs (k + 1) = sts wth xs k ++ [.int .i64 (stt wth xs k : Int)] := by
  unfold sts; rw [List.range_succ, List.map_append]; rfl
theorem sts_get (wth : Int) (xs : List Int) {k j : Nat} (h : j < k) : (sts wth xs k)[j]? = some (.int .i64 (stt wth xs j : Int)) := by
  unfold sts; rw [List.getElem?_map, List.getElem?_range h]; rfl
theorem Oz.setRow {w : World} {B n cap z g : Nat} {e : TypeId} {a : Option Addr} {vs : List Value} (h : On.Oz w B e z a n cap vs) (hg : g < B) (cs : Array Value) : On.Oz (w.setRow g cs) B e z a n cap vs := by
  refine ⟨h.1, ?_⟩
  rcases h.2 with h0 | ⟨g', cap', cur, hv, hB, hg', hr⟩
  · exact .inl h0
  · exact .inr ⟨g', cap', cur, hv, hB, (setRow_other w g g' cs (by omega)).trans hg', hr⟩
theorem lp_first (w1 : World) (Z : Array Value) (hZ : Z = (Me.u8s (List.replicate 400 0)).toArray) (wth : Int) (xs : List Int) :
    Lp ((w1.alloc (.cells Z 5)).alloc (.cells #[.slice (some ⟨w1.heap.size, 0, none⟩) 400 400, .slice none 0 0, .slice none 0 0, .slice none 0 0, .slice none 0 0, .slice none 0 0, .slice none 0 0, .int .i64 0, .int .i64 0, .int .i64 0, .int .i64 0, .int .i64 0, .int .i64 0, .bool false, .bool false] 28)) (w1.heap.size + 1) none
      { Hs.zero with mem := ⟨some ⟨w1.heap.size, 0, none⟩, 400, 400⟩ } (stk wth xs 0) := by
  show Lp _ _ none _ (fresh 400 0 0)
  have hf := (aw_row w1 400 (by decide) Z hZ).below ((Below.refl _ _).alloc (Nat.le_refl _) (.cells #[.slice (some ⟨w1.heap.size, 0, none⟩) 400 400, .slice none 0 0, .slice none 0 0, .slice none 0 0, .slice none 0 0, .slice none 0 0, .slice none 0 0, .int .i64 0, .int .i64 0, .int .i64 0, .int .i64 0, .int .i64 0, .int .i64 0, .bool false, .bool false] 28))
  refine ⟨?_, aw_st _ 400 _ hf 0 0, fun b o ha _ => ?_, (fun b o ha _ => by cases ha), ⟨rfl, rfl, rfl, rfl, rfl⟩⟩
  · have h := Bx.new (w1.alloc (.cells Z 5)) 28 #[.slice (some ⟨w1.heap.size, 0, none⟩) 400 400, .slice none 0 0, .slice none 0 0, .slice none 0 0, .slice none 0 0, .slice none 0 0, .slice none 0 0, .int .i64 0, .int .i64 0, .int .i64 0, .int .i64 0, .int .i64 0, .int .i64 0, .bool false, .bool false]
    rw [show (w1.alloc (.cells Z 5)).heap.size = w1.heap.size + 1 by simp] at h
    exact h
  · obtain ⟨rfl, _⟩ : w1.heap.size = b ∧ 0 = o := by simpa using ha
    exact ⟨by omega, by simp⟩
theorem fl_lit (W : World) (vs : List Int) (cur : Array Value) (n : Nat) (hc : cur.toList = vs.flatMap (one .i64)) (hs : cur.size = n * 1) (hn : n ≤ 1000) : Fl (one .i64) 1 (W.alloc (.cells cur 3)) ⟨some ⟨W.heap.size, 0, none⟩, n, n⟩ vs := by
  have h := (On.Oz.full W W.heap.size 3 1 (Nat.le_refl _) cur n (by unfold maxLen; omega) hs).sz
  rw [hc] at h
  exact h
end Go.Proofs.YtkjokgjjpoocgaaDoor
