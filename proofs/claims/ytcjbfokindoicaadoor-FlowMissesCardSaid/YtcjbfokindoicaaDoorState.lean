/- A whole state (api.State) as lists and numbers: its headers, its cells, what its slices read as; opened where it came in. No function of the program is named here. -/
import Derived.Test.YtcjbfokindoicaaDoorFlat
import Derived.Test.YtcjbfokindoicaaDoorNamMath
namespace Go.Proofs.YtcjbfokindoicaaDoor.On
set_option maxRecDepth 100000
open Go.ChangeShapes Go.WideShapes Go.RowKit Go.Deep
set_option linter.unusedVariables false

def slc (x : Int × Bool) : List Value := [.int .i64 x.1, .bool x.2]
def spc (x : Int × Int) : List Value := [.int .i64 x.1, .int .i64 x.2]
theorem slc_len (x : Int × Bool) : (slc x).length = 2 := rfl
theorem spc_len (x : Int × Int) : (spc x).length = 2 := rfl
theorem wdc_len (x : Wd) : x.cells.length = 4 := rfl
theorem one_len (k : IntKind) (x : Int) : (one k x).length = 1 := rfl
structure St where
  mem : List Int
  data : List Int
  ret : List (Int × Bool)
  ctl : List Int
  words : List Wd
  spots : List (Int × Int)
  out : List Int
  ip : Int
  here : Int
  pos : Int
  tok : Int
  inn : Int
  err : Int
  comp : Bool
  halt : Bool
def St.zero : St := ⟨[], [], [], [], [], [], [], 0, 0, 0, 0, 0, 0, false, false⟩
/-- the headers of its slices -/
structure Hs where
  mem : Sc
  data : Sc
  ret : Sc
  ctl : Sc
  words : Sc
  spots : Sc
  out : Sc
def Hs.zero : Hs := ⟨Sc.none, Sc.none, Sc.none, Sc.none, Sc.none, Sc.none, Sc.none⟩
abbrev cst (h : Hs) (s : St) : Array Value := #[h.mem.val, h.data.val, h.ret.val, h.ctl.val, h.words.val, h.spots.val, h.out.val, .int .i64 s.ip, .int .i64 s.here, .int .i64 s.pos, .int .i64 s.tok, .int .i64 s.inn, .int .i64 s.err, .bool s.comp, .bool s.halt]
structure StIs (w : World) (h : Hs) (s : St) : Prop where
  mem : Fl (one .u8) 1 w h.mem s.mem
  data : Fl (one .i64) 1 w h.data s.data
  ret : Fl slc 2 w h.ret s.ret
  ctl : Fl (one .i64) 1 w h.ctl s.ctl
  words : Fl Wd.cells 4 w h.words s.words
  spots : Fl spc 2 w h.spots s.spots
  out : Fl (one .u8) 1 w h.out s.out
theorem StIs.below {w w' : World} {h : Hs} {s : St} (H : StIs w h s) (hb : Below w.heap.size w w') : StIs w' h s :=
  ⟨H.mem.below hb, H.data.below hb, H.ret.below hb, H.ctl.below hb, H.words.below hb, H.spots.below hb, H.out.below hb⟩
theorem StIs.zero (w : World) : StIs w Hs.zero St.zero :=
  ⟨Fl.zero _ _ w, Fl.zero _ _ w, Fl.zero _ _ w, Fl.zero _ _ w, Fl.zero _ _ w, Fl.zero _ _ w, Fl.zero _ _ w⟩
theorem StIs.with_mem {w : World} {h : Hs} {s : St} (H : StIs w h s) {x : Sc} {l : List Int} (hm : Fl (one .u8) 1 w x l) : StIs w { h with mem := x } { s with mem := l } := ⟨hm, H.data, H.ret, H.ctl, H.words, H.spots, H.out⟩
theorem StIs.with_spots {w : World} {h : Hs} {s : St} (H : StIs w h s) {x : Sc} {l : List (Int × Int)} (hm : Fl spc 2 w x l) : StIs w { h with spots := x } { s with spots := l } := ⟨H.mem, H.data, H.ret, H.ctl, H.words, hm, H.out⟩
def C64 (x : Int) : Prop := -9223372036854775808 ≤ x ∧ x ≤ 9223372036854775807
def C8 (x : Int) : Prop := 0 ≤ x ∧ x ≤ 255
/-- its numbers are cells and bytes, its names are bytes -/
structure St.ok (s : St) : Prop where
  mem : ∀ x ∈ s.mem, C8 x
  data : ∀ x ∈ s.data, C64 x
  ret : ∀ x ∈ s.ret, C64 x.1
  ctl : ∀ x ∈ s.ctl, C64 x
  words : ∀ x ∈ s.words, bytesOk x.nm ∧ (x.nm.length : Int) ≤ 9223372036854775807 ∧ C64 x.code
  spots : ∀ x ∈ s.spots, C64 x.1 ∧ C64 x.2
  out : ∀ x ∈ s.out, C8 x
  ip : C64 s.ip
  here : C64 s.here
  pos : C64 s.pos
  tok : C64 s.tok
  inn : C64 s.inn
  err : C64 s.err

section
variable {H : Type} {enc : TypeId × Value → H} {W : World} {base b0 : Nat} {sp : Nat → Bool} {held : Bool} {v : Value} {d : DataW H} {p : List MemPlace}
theorem open_slots {n : Nat} {u : Value} {y : DataW H × List MemPlace} (h : DataW.trod enc Tryd.prog W base sp held n 24 [u] = some y) : ∃ (x : Sc) (l : List (Int × Bool)), u = x.val ∧ Fl slc 2 W x l ∧ ∀ z ∈ l, C64 z.1 :=
  open_flat slc_len (fun z => C64 z.1) Tryd.underlying24 Tryd.underlying89 (by kernel_rfl) (by kernel_rfl) rfl (by decide) (fun a m hm => by
    obtain ⟨v0, y0, c0, t0⟩ := hm 0 _ rfl
    obtain ⟨v1, y1, c1, t1⟩ := hm 1 _ rfl
    obtain ⟨z, hz, _, hzw⟩ := DataW.trod_int Tryd.underlying3 t0
    obtain ⟨b, hb, _⟩ := DataW.trod_bool Tryd.underlying4 t1
    obtain rfl : v0 = .int .i64 z := by simpa using hz
    obtain rfl : v1 = .bool b := by simpa using hb
    refine ⟨(z, b), bd_i64 hzw, fun j u hu => ?_⟩
    match j, hu with
    | 0, hu => obtain rfl := Option.some.inj hu; exact c0
    | 1, hu => obtain rfl := Option.some.inj hu; exact c1) h
theorem open_spots {n : Nat} {u : Value} {y : DataW H × List MemPlace} (h : DataW.trod enc Tryd.prog W base sp held n 26 [u] = some y) : ∃ (x : Sc) (l : List (Int × Int)), u = x.val ∧ Fl spc 2 W x l ∧ ∀ z ∈ l, C64 z.1 ∧ C64 z.2 :=
  open_flat spc_len (fun z => C64 z.1 ∧ C64 z.2) Tryd.underlying26 Tryd.underlying85 (by kernel_rfl) (by kernel_rfl) rfl (by decide) (fun a m hm => by
    obtain ⟨v0, y0, c0, t0⟩ := hm 0 _ rfl
    obtain ⟨v1, y1, c1, t1⟩ := hm 1 _ rfl
    obtain ⟨z, hz, _, hzw⟩ := DataW.trod_int Tryd.underlying3 t0
    obtain ⟨z', hz', _, hzw'⟩ := DataW.trod_int Tryd.underlying3 t1
    obtain rfl : v0 = .int .i64 z := by simpa using hz
    obtain rfl : v1 = .int .i64 z' := by simpa using hz'
    refine ⟨(z, z'), ⟨bd_i64 hzw, bd_i64 hzw'⟩, fun j u hu => ?_⟩
    match j, hu with
    | 0, hu => obtain rfl := Option.some.inj hu; exact c0
    | 1, hu => obtain rfl := Option.some.inj hu; exact c1) h
theorem open_wordl {n : Nat} {u : Value} {y : DataW H × List MemPlace} (h : DataW.trod enc Tryd.prog W base sp held n 25 [u] = some y) : ∃ (x : Sc) (l : List Wd), u = x.val ∧ Fl Wd.cells 4 W x l ∧ ∀ z ∈ l, bytesOk z.nm ∧ (z.nm.length : Int) ≤ 9223372036854775807 ∧ C64 z.code :=
  open_flat wdc_len (fun z => bytesOk z.nm ∧ (z.nm.length : Int) ≤ 9223372036854775807 ∧ C64 z.code) Tryd.underlying25 Tryd.underlying47 (by kernel_rfl) (by kernel_rfl) rfl (by decide) (fun a m hm => by
    obtain ⟨v0, y0, c0, t0⟩ := hm 0 _ rfl
    obtain ⟨v1, y1, c1, t1⟩ := hm 1 _ rfl
    obtain ⟨v2, y2, c2, t2⟩ := hm 2 _ rfl
    obtain ⟨v3, y3, c3, t3⟩ := hm 3 _ rfl
    obtain ⟨s, hs, _, hsz⟩ := DataW.trod_string Tryd.underlying9 t0
    obtain ⟨z, hz, _, hzw⟩ := DataW.trod_int Tryd.underlying3 t1
    obtain ⟨b, hb, _⟩ := DataW.trod_bool Tryd.underlying4 t2
    obtain ⟨b', hb', _⟩ := DataW.trod_bool Tryd.underlying4 t3
    obtain rfl : v0 = .string s := by simpa using hs
    obtain rfl : v1 = .int .i64 z := by simpa using hz
    obtain rfl : v2 = .bool b := by simpa using hb
    obtain rfl : v3 = .bool b' := by simpa using hb'
    refine ⟨⟨bytesOf s, z, b, b'⟩, ⟨bytesOf_ok s, ?_, bd_i64 hzw⟩, fun j u hu => ?_⟩
    · have e := str_size (bytesOf s)
      rw [str_of] at e
      unfold maxLen at hsz
      show ((bytesOf s).length : Int) ≤ _
      omega
    · have e : (⟨bytesOf s, z, b, b'⟩ : Wd).cells = [.string s, .int .i64 z, .bool b, .bool b'] := by simp [Wd.cells, str_of]
      rw [e] at hu
      match j, hu with
      | 0, hu => obtain rfl := Option.some.inj hu; exact c0
      | 1, hu => obtain rfl := Option.some.inj hu; exact c1
      | 2, hu => obtain rfl := Option.some.inj hu; exact c2
      | 3, hu => obtain rfl := Option.some.inj hu; exact c3) h
theorem open_state (hval : Value.okWide Tryd.prog W .any b0 28 v) (h : DataW.Trod enc Tryd.prog W base sp held 28 v d p) : ∃ (hs : Hs) (s : St), v = .agg (cst hs s) ∧ StIs W hs s ∧ s.ok := by
  obtain ⟨vs, rfl, hsz, hf⟩ := open_agg Tryd.underlying28 (by kernel_rfl) (by kernel_rfl) hval h
  obtain ⟨u0, y0, n0, e0, t0⟩ := hf 0 _ rfl
  obtain ⟨u1, y1, n1, e1, t1⟩ := hf 1 _ rfl
  obtain ⟨u2, y2, n2, e2, t2⟩ := hf 2 _ rfl
  obtain ⟨u3, y3, n3, e3, t3⟩ := hf 3 _ rfl
  obtain ⟨u4, y4, n4, e4, t4⟩ := hf 4 _ rfl
  obtain ⟨u5, y5, n5, e5, t5⟩ := hf 5 _ rfl
  obtain ⟨u6, y6, n6, e6, t6⟩ := hf 6 _ rfl
  obtain ⟨u7, y7, n7, e7, t7⟩ := hf 7 _ rfl
  obtain ⟨u8, y8, n8, e8, t8⟩ := hf 8 _ rfl
  obtain ⟨u9, y9, n9, e9, t9⟩ := hf 9 _ rfl
  obtain ⟨u10, y10, n10, e10, t10⟩ := hf 10 _ rfl
  obtain ⟨u11, y11, n11, e11, t11⟩ := hf 11 _ rfl
  obtain ⟨u12, y12, n12, e12, t12⟩ := hf 12 _ rfl
  obtain ⟨u13, y13, n13, e13, t13⟩ := hf 13 _ rfl
  obtain ⟨u14, y14, n14, e14, t14⟩ := hf 14 _ rfl
  obtain ⟨x0, l0, rfl, f0, g0⟩ := open_flat_ints Tryd.underlying22 Tryd.underlying5 (by kernel_rfl) t0
  obtain ⟨x1, l1, rfl, f1, g1⟩ := open_flat_ints Tryd.underlying23 Tryd.underlying3 (by kernel_rfl) t1
  obtain ⟨x2, l2, rfl, f2, g2⟩ := open_slots t2
  obtain ⟨x3, l3, rfl, f3, g3⟩ := open_flat_ints Tryd.underlying23 Tryd.underlying3 (by kernel_rfl) t3
  obtain ⟨x4, l4, rfl, f4, g4⟩ := open_wordl t4
  obtain ⟨x5, l5, rfl, f5, g5⟩ := open_spots t5
  obtain ⟨x6, l6, rfl, f6, g6⟩ := open_flat_ints Tryd.underlying22 Tryd.underlying5 (by kernel_rfl) t6
  obtain ⟨z7, k7, _, w7⟩ := DataW.trod_int Tryd.underlying3 t7
  obtain ⟨z8, k8, _, w8⟩ := DataW.trod_int Tryd.underlying3 t8
  obtain ⟨z9, k9, _, w9⟩ := DataW.trod_int Tryd.underlying3 t9
  obtain ⟨z10, k10, _, w10⟩ := DataW.trod_int Tryd.underlying3 t10
  obtain ⟨z11, k11, _, w11⟩ := DataW.trod_int Tryd.underlying3 t11
  obtain ⟨z12, k12, _, w12⟩ := DataW.trod_int Tryd.underlying3 t12
  obtain ⟨z13, k13, _⟩ := DataW.trod_bool Tryd.underlying4 t13
  obtain ⟨z14, k14, _⟩ := DataW.trod_bool Tryd.underlying4 t14
  obtain rfl : u7 = .int .i64 z7 := by simpa using k7
  obtain rfl : u8 = .int .i64 z8 := by simpa using k8
  obtain rfl : u9 = .int .i64 z9 := by simpa using k9
  obtain rfl : u10 = .int .i64 z10 := by simpa using k10
  obtain rfl : u11 = .int .i64 z11 := by simpa using k11
  obtain rfl : u12 = .int .i64 z12 := by simpa using k12
  obtain rfl : u13 = .bool z13 := by simpa using k13
  obtain rfl : u14 = .bool z14 := by simpa using k14
  refine ⟨⟨x0, x1, x2, x3, x4, x5, x6⟩, ⟨l0, l1, l2, l3, l4, l5, l6, z7, z8, z9, z10, z11, z12, z13, z14⟩, ?_, ⟨f0, f1, f2, f3, f4, f5, f6⟩,
    ⟨fun x hx => bd_u8 (g0 x hx), fun x hx => bd_i64 (g1 x hx), g2, fun x hx => bd_i64 (g3 x hx), g4, g5, fun x hx => bd_u8 (g6 x hx), bd_i64 w7, bd_i64 w8, bd_i64 w9, bd_i64 w10, bd_i64 w11, bd_i64 w12⟩⟩
  congr 1
  apply Array.ext_getElem?
  intro i
  match i with
  | 0 => exact e0
  | 1 => exact e1
  | 2 => exact e2
  | 3 => exact e3
  | 4 => exact e4
  | 5 => exact e5
  | 6 => exact e6
  | 7 => exact e7
  | 8 => exact e8
  | 9 => exact e9
  | 10 => exact e10
  | 11 => exact e11
  | 12 => exact e12
  | 13 => exact e13
  | 14 => exact e14
  | i + 15 =>
    have h15 : vs.size = 15 := hsz
    rw [Array.getElem?_eq_none (by omega), Array.getElem?_eq_none (by simp)]
end
end Go.Proofs.YtcjbfokindoicaaDoor.On
