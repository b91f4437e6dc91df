import Derived.Test.YtobijdfnafnodaaGreatDoorRows
import Derived.Test.YtobijdfnafnodaaGreatDoorBelow
import Derived.WalkKit
import Derived.ProofKit
import Derived.OpenShut
import Derived.Below
import Derived.Deep.DeepCutAuto
import Derived.Deep.CutBlock
import Derived.Laws.BytesArg
import Derived.Laws.Slices
import Derived.Laws.Strings3
import Derived.Laws.Concat
import Derived.OwnWalk
import Derived.OneCell
import Derived.WalkLawsBesides
import Derived.WalkSpells
import Derived.Outline
import Derived.Lib.Hide
import Derived.Deep.QuietTactic
import Derived.BigQuiet
import Derived.Laws.MakeOwn
import Derived.Laws.AppendOwnNone
import Derived.Deep.MidRow
import Derived.Laws.IdiomStrings
import Derived.WalkSmall
import Derived.Laws.Rows
import Derived.LaidMore
import Derived.Lib.LaidTab
import Derived.Carry
import Derived.MapKept
/- Strings as lists of bytes: no function of the program in it. -/
namespace Go.Proofs.YtobijdfnafnodaaGreatDoor.On
set_option maxRecDepth 100000
open Go.ChangeShapes Go.WideShapes Go.RowKit
set_option linter.unusedVariables false

def bytesOk (xs : List Int) : Prop := ∀ x ∈ xs, 0 ≤ x ∧ x ≤ 255
theorem str_size (xs : List Int) : (strOfNums xs).size = xs.length := by
  show (xs.map fun n => UInt8.ofNat n.toNat).toArray.size = _
  simp
theorem str_list (xs : List Int) : (strOfNums xs).toList = xs.map fun n => UInt8.ofNat n.toNat := by
  unfold strOfNums
  rw [ByteArray.toList_mk]
theorem byte_back {x : Int} (h : 0 ≤ x ∧ x ≤ 255) : ((UInt8.ofNat x.toNat).toNat : Int) = x := by
  simp [UInt8.toNat_ofNat']
  omega
theorem bytesOk.tail {xs : List Int} (h : bytesOk xs) : bytesOk xs.tail := fun x hx => h x (List.mem_of_mem_tail hx)
theorem bytesOk.drop {xs : List Int} (h : bytesOk xs) (k : Nat) : bytesOk (xs.drop k) := fun x hx => h x (List.mem_of_mem_drop hx)
theorem bytesOk.take {xs : List Int} (h : bytesOk xs) (k : Nat) : bytesOk (xs.take k) := fun x hx => h x (List.mem_of_mem_take hx)
theorem bytesOk.get {xs : List Int} (h : bytesOk xs) (k : Nat) : 0 ≤ xs.getD k 0 ∧ xs.getD k 0 ≤ 255 := by
  by_cases hk : k < xs.length
  · have := h xs[k] (List.getElem_mem hk)
    simpa [List.getD, hk] using this
  · simp [List.getD, Nat.le_of_not_lt hk]
theorem str_get {xs : List Int} (hx : bytesOk xs) {k : Nat} (hk : k < xs.length) (h : k < (strOfNums xs).size) : (((strOfNums xs)[k]'h).toNat : Int) = xs.getD k 0 := by
  have e : (strOfNums xs)[k]'h = UInt8.ofNat (xs.getD k 0).toNat := by
    show (xs.map fun n => UInt8.ofNat n.toNat).toArray[k]'(by simpa using hk) = _
    simp [List.getD, hk]
  rw [e, byte_back (hx.get k)]
/-- s[k], as the walk meets it -/
theorem str_at {xs : List Int} (hx : bytesOk xs) {k : Nat} (hk : k < xs.length) (w : World) : (Instr.index 9 (.string (strOfNums xs)) (.int .i64 (k : Int))).run Tryz.prog w = .ok (.int .u8 (xs.getD k 0)) w := by
  rw [run_index_string (P := Tryz.prog) w 9 (strOfNums xs) .i64 k Tryz.underlying9, dif_pos (by rw [str_size]; omega)]
  simp only [Int.toNat_natCast]
  rw [str_get hx hk]
theorem str_from (xs : List Int) : (strOfNums xs).extract 1 xs.length = strOfNums xs.tail := by
  unfold strOfNums
  rw [ByteArray.extract_mk]
  congr 2
  cases xs with
  | nil => rfl
  | cons x xs => simp [List.take_of_length_le]
theorem str_app (xs ys : List Int) : strOfNums xs ++ strOfNums ys = strOfNums (xs ++ ys) := by
  unfold strOfNums
  rw [ByteArray.mk_append_mk, List.map_append]
theorem str_inj {xs ys : List Int} (hx : bytesOk xs) (hy : bytesOk ys) (h : (strOfNums xs).toList = (strOfNums ys).toList) : xs = ys := by
  rw [str_list, str_list] at h
  have e : ∀ zs : List Int, bytesOk zs → (zs.map fun n => UInt8.ofNat n.toNat).map (fun c => (c.toNat : Int)) = zs := by
    intro zs hz
    rw [List.map_map]
    conv => rhs; rw [← List.map_id zs]
    exact List.map_congr_left fun x h => byte_back (hz x h)
  rw [← e xs hx, ← e ys hy, h]
theorem str_beq {xs ys : List Int} (hx : bytesOk xs) (hy : bytesOk ys) : ((strOfNums xs).toList == (strOfNums ys).toList) = decide (xs = ys) := by
  by_cases h : xs = ys
  · subst h
    simp
  · have : ¬ (strOfNums xs).toList = (strOfNums ys).toList := fun hh => h (str_inj hx hy hh)
    simp [h, this]
/-- any string is the list of its bytes -/
def bytesOf (s : ByteArray) : List Int := s.data.toList.map fun c => (c.toNat : Int)
theorem bytesOf_ok (s : ByteArray) : bytesOk (bytesOf s) := by
  intro x hx
  obtain ⟨c, _, rfl⟩ := List.mem_map.1 hx
  have := c.toNat_lt
  omega
theorem str_of (s : ByteArray) : strOfNums (bytesOf s) = s := by
  obtain ⟨⟨l⟩⟩ := s
  unfold strOfNums bytesOf
  simp [List.map_map, Function.comp_def]
theorem drop_cons {xs : List Int} {k : Nat} (h : k < xs.length) : xs.drop k = xs.getD k 0 :: xs.drop (k + 1) := by
  rw [List.drop_eq_getElem_cons h]
  simp [List.getD, h]
theorem take_snoc {xs : List Int} {k : Nat} (h : k < xs.length) : xs.take (k + 1) = xs.take k ++ [xs.getD k 0] := by
  rw [List.take_succ_eq_append_getElem h]
  simp [List.getD, h]

/-! ### a part of a string -/
def cutN (xs : List Int) (a b : Nat) : List Int := (xs.drop a).take (b - a)
theorem cutN_ok {xs : List Int} (h : bytesOk xs) (a b : Nat) : bytesOk (cutN xs a b) := (h.drop a).take (b - a)
theorem cutN_len {xs : List Int} {a b : Nat} (hab : a ≤ b) (hb : b ≤ xs.length) : (cutN xs a b).length = b - a := by
  simp [cutN]
  omega
theorem cutN_end (xs : List Int) (a : Nat) : cutN xs a xs.length = xs.drop a := by
  rw [cutN, List.take_of_length_le (by simp)]
theorem cutN_start (xs : List Int) (b : Nat) : cutN xs 0 b = xs.take b := by simp [cutN]
theorem str_cut (xs : List Int) (a b : Nat) : (strOfNums xs).extract a b = strOfNums (cutN xs a b) := by
  unfold strOfNums cutN
  rw [ByteArray.extract_mk]
  simp [List.map_take, List.map_drop]
/-- s[a:b], s[a:], s[:b], as the walk meets them -/
theorem run_cut (xs : List Int) {a b : Nat} (hab : a ≤ b) (hb : b ≤ xs.length) (w : World) :
    (Instr.sliceAt 9 (.string (strOfNums xs)) (some (.int .i64 (a : Int))) (some (.int .i64 (b : Int))) none).run Tryz.prog w = .ok (.string (strOfNums (cutN xs a b))) w := by
  have hs := str_size xs
  rw [run_sliceAt_string (P := Tryz.prog) w _ _ _ _ _ Tryz.underlying9]
  simp [Instr.slice, run_underlying (P := Tryz.prog) Tryz.underlying9, Instr.sliceBounds, hs, run_sliceBound, show (b : Int) ≤ xs.length by omega, hab, str_cut, Result.andThen]
theorem run_cutFrom (xs : List Int) {a : Nat} (ha : a ≤ xs.length) (w : World) :
    (Instr.sliceAt 9 (.string (strOfNums xs)) (some (.int .i64 (a : Int))) none none).run Tryz.prog w = .ok (.string (strOfNums (cutN xs a xs.length))) w := by
  have hs := str_size xs
  rw [run_sliceAt_string (P := Tryz.prog) w _ _ _ _ _ Tryz.underlying9]
  simp [Instr.slice, run_underlying (P := Tryz.prog) Tryz.underlying9, Instr.sliceBounds, hs, run_sliceBound, ha, str_cut, Result.andThen]
theorem run_cutTo (xs : List Int) {b : Nat} (hb : b ≤ xs.length) (w : World) :
    (Instr.sliceAt 9 (.string (strOfNums xs)) none (some (.int .i64 (b : Int))) none).run Tryz.prog w = .ok (.string (strOfNums (cutN xs 0 b))) w := by
  have hs := str_size xs
  rw [run_sliceAt_string (P := Tryz.prog) w _ _ _ _ _ Tryz.underlying9]
  simp [Instr.slice, run_underlying (P := Tryz.prog) Tryz.underlying9, Instr.sliceBounds, hs, run_sliceBound, hb, str_cut, Result.andThen]
theorem mkf (fn : Fn) (first cap : Array Value) (w : World) : (Instr.makeFunc fn first cap).run Tryz.prog w = .ok (.func fn first cap) w := rfl
end Go.Proofs.YtobijdfnafnodaaGreatDoor.On

/- Slices whose elements take s cells each, as lists of cells, wherever they lie: they stay so where nothing below the heap's size has turned; cut; rows of a call's own that are appended to. No program is named here. -/
namespace Go.Proofs.YtobijdfnafnodaaGreatDoor.On
set_option maxRecDepth 100000
open Go.ChangeShapes Go.WideShapes Go.ChangeAt Go.RowKit

theorem range_below {w w' : World} {b o B : Nat} {cs : List Value} (h : w.rangeAt b o cs) (hb : Below B w w') (hB : b < B) : w'.rangeAt b o cs := fun j v hv => by
  rw [hb.cell (p := ⟨b, o + j, none⟩) hB]
  exact h j v hv
theorem range_lt {w : World} {b o : Nat} {cs : List Value} (h : w.rangeAt b o cs) (hn : cs ≠ []) : b < w.heap.size := by
  cases cs with
  | nil => exact absurd rfl hn
  | cons v cs => exact World.block_lt_of_cell? _ _ (h 0 v rfl)
theorem range_part {w : World} {b o : Nat} {cs : List Value} (h : w.rangeAt b o cs) (k m : Nat) : w.rangeAt b (o + k) ((cs.drop k).take m) := fun j v hv => by
  have hj : j < m := by
    have := (List.getElem?_eq_some_iff.1 hv).1
    simp at this
    omega
  rw [List.getElem?_take_of_lt hj, List.getElem?_drop] at hv
  rw [Nat.add_assoc]
  exact h (k + j) v hv

/-- the slice reads as the cells vs, s of them an element -/
structure Sz (w : World) (s : Nat) (a : Option Addr) (n c : Nat) (vs : List Value) : Prop where
  len : vs.length = n * s
  cap : n ≤ c
  big : c ≤ maxLen
  isnil : a = none → c = 0
  cells : 0 < n → ∃ b o, a = some ⟨b, o, none⟩ ∧ w.rangeAt b o vs

theorem Sz.below {w w' : World} {s : Nat} {a : Option Addr} {n c : Nat} {vs : List Value} (h : Sz w s a n c vs) (hb : Below w.heap.size w w') : Sz w' s a n c vs :=
  ⟨h.len, h.cap, h.big, h.isnil, fun hn => by
    obtain ⟨b, o, rfl, hc⟩ := h.cells hn
    refine ⟨b, o, rfl, fun i v hi => ?_⟩
    have hlt := World.block_lt_of_cell? _ _ (hc i v hi)
    rw [hb.cell (p := ⟨b, o + i, none⟩) hlt]
    exact hc i v hi⟩
theorem Sz.zero (w : World) (s : Nat) : Sz w s none 0 0 [] :=
  ⟨by simp, Nat.le_refl _, Nat.zero_le _, fun _ => rfl, fun h => absurd h (Nat.lt_irrefl _)⟩
theorem Sz.bd {w : World} {s : Nat} {a : Option Addr} {n c : Nat} {vs : List Value} (h : Sz w s a n c vs) : (n : Int) ≤ 9223372036854775807 ∧ (c : Int) ≤ 9223372036854775807 ∧ n ≤ c := by
  have h1 := h.cap
  have h2 := h.big
  unfold maxLen at h2
  omega
/-- one element's cells -/
theorem Sz.at {w : World} {s : Nat} {a : Option Addr} {n c : Nat} {vs : List Value} (h : Sz w s a n c vs) {i : Nat} (hi : i < n) : ∃ b o, a = some ⟨b, o, none⟩ ∧ w.rangeAt b (o + i * s) ((vs.drop (i * s)).take s) := by
  obtain ⟨b, o, rfl, hc⟩ := h.cells (by omega)
  exact ⟨b, o, rfl, range_part hc _ _⟩
theorem Sz.cutTo {P : Program} {w : World} {s : Nat} {a : Option Addr} {n c : Nat} {vs : List Value} (h : Sz w s a n c vs) (t e : TypeId) (ht : P.underlying t = some (.slice e)) (hz : ∀ w, (Go.sizeOf e).run P w = .ok s w) (m : Nat) (hm : m ≤ n) :
    ∃ a', (∀ W, (Instr.slice t (.slice a n c) none (some (.int .i64 (m : Int))) none).run P W = .ok (.slice a' m c) W) ∧ Sz w s a' m c (vs.take (m * s)) := by
  have hnc := h.cap
  refine ⟨if c = 0 then a else a.map (·.add (0 * s)), fun W => ?_, ?_⟩
  · have ht' : P.underlying t = some (.slice (P.elem t)) := by simp [Program.elem, ht]
    have he : P.elem t = e := by simp [Program.elem, ht]
    rw [run_slice_h W t _ _ _ ht' .i64 _ (by omega) (by omega), he, hz]
    simp only [Result.andThen, sliced, Int.toNat_natCast, Nat.sub_zero]
  · have hl := h.len
    have hms : m * s ≤ n * s := Nat.mul_le_mul_right s hm
    refine ⟨by rw [List.length_take]; omega, by omega, h.big, fun ha => ?_, fun hm0 => ?_⟩
    · split at ha
      · assumption
      · have : a = none := by cases a <;> simp_all
        exact h.isnil this
    · obtain ⟨b, o, rfl, hc⟩ := h.cells (by omega)
      rw [if_neg (by omega)]
      refine ⟨b, o, by simp [add_plain], fun i v hi => ?_⟩
      have hik : i < m * s := by
        have := (List.getElem?_eq_some_iff.1 hi).1
        simp at this
        omega
      rw [List.getElem?_take_of_lt hik] at hi
      exact hc i v hi

/-- a row of the call's own, from block B on: vs in its first n elements -/
def Oz (w : World) (B : Nat) (e : TypeId) (s : Nat) (a : Option Addr) (n cap : Nat) (vs : List Value) : Prop := w.ownsRow B e s (.slice a n cap) n vs

theorem Oz.len {w : World} {B n cap s : Nat} {e : TypeId} {a : Option Addr} {vs : List Value} (h : Oz w B e s a n cap vs) : vs.length = n * s := h.1
theorem Oz.nil (w : World) (B : Nat) (e : TypeId) (s : Nat) : Oz w B e s none 0 0 [] := World.ownsRow_nil w B e s
theorem Oz.made (w : World) (B : Nat) (e : TypeId) (s : Nat) (hB : B ≤ w.heap.size) (cur : Array Value) (cap : Nat) (hm : cap ≤ maxLen) (hs : cur.size = cap * s) : Oz (w.alloc (.cells cur e)) B e s (some ⟨w.heap.size, 0, none⟩) 0 cap [] :=
  World.ownsRow_made w cur cap hB hm hs
theorem Oz.full (w : World) (B : Nat) (e : TypeId) (s : Nat) (hB : B ≤ w.heap.size) (cur : Array Value) (n : Nat) (hm : n ≤ maxLen) (hs : cur.size = n * s) : Oz (w.alloc (.cells cur e)) B e s (some ⟨w.heap.size, 0, none⟩) n n cur.toList :=
  ⟨by simp [hs], .inr ⟨w.heap.size, n, cur, rfl, hB, heap_alloc_new w _, Nat.le_refl _, hm, by omega, by exact List.take_of_length_le (by simp [hs])⟩⟩
theorem Oz.sz {w : World} {B n cap s : Nat} {e : TypeId} {a : Option Addr} {vs : List Value} (h : Oz w B e s a n cap vs) : Sz w s a n cap vs := by
  have hl := h.len
  rcases h.2 with ⟨hv, h0⟩ | ⟨g, cap', cur, hv, hB, hg, hnc, hcm, hsz, ht⟩
  · simp only [Value.slice.injEq] at hv
    obtain ⟨rfl, rfl, rfl⟩ := hv
    obtain rfl : vs = [] := List.eq_nil_of_length_eq_zero (by simpa using hl)
    exact Sz.zero w s
  · simp only [Value.slice.injEq, true_and] at hv
    obtain ⟨rfl, rfl⟩ := hv
    refine ⟨hl, hnc, hcm, fun hn => (by cases hn), fun _ => ⟨g, 0, rfl, fun i v hi => ?_⟩⟩
    have hi' : i < n * s := by
      have := (List.getElem?_eq_some_iff.1 hi).1
      omega
    rw [Nat.zero_add]
    have := World.ownsRow.cellAt h i hi'
    rw [this]
    exact hi
theorem Oz.lt {w : World} {B n cap s : Nat} {e : TypeId} {x : Addr} {vs : List Value} (h : Oz w B e s (some x) n cap vs) : B ≤ x.block ∧ x.block < w.heap.size := World.ownsRow.lt h x.block rfl
theorem Oz.alloc {w : World} {B n cap s : Nat} {e : TypeId} {a : Option Addr} {vs : List Value} (h : Oz w B e s a n cap vs) (o : Obj) : Oz (w.alloc o) B e s a n cap vs := World.ownsRow.alloc h o

/-- a slice is appended to a row of the call's own -/
theorem Oz.app {P : Program} {w : World} {B n cap m c by_ s : Nat} {t e ty : TypeId} {i : TypeInfo} {z : Value} {a a2 : Option Addr} {vs us : List Value}
    (ht : P.underlying t = some (.slice e)) (hi : P.info? e = some i) (hz0 : i.zero = some z) (hz1 : i.size = s) (hz2 : i.bytes = by_) (hzc : z.cells.size = s) (hs0 : 0 < s)
    (h : Oz w B e s a n cap vs) (hs : Sz w s a2 m c us) (h1 : ∀ u ∈ us, u.oneCell' = true) (hm : n + m ≤ 9223372036854775807) (hby : (n + m) * by_ ≤ 140737488355328) (hB : B ≤ w.heap.size) :
    ∃ a' cap' w2, (Builtin.append_ #[t, t] ty #[.slice a n cap, .slice a2 m c]).run P w = .ok (.slice a' (n + m) cap') w2 ∧ Oz w2 B e s a' (n + m) cap' (vs ++ us) ∧ Below B w w2 := by
  have hl := hs.len
  cases a2 with
  | none =>
    have hc0 := hs.isnil rfl
    have hn0 : m = 0 := by have := hs.cap; omega
    subst hc0; subst hn0
    obtain rfl : us = [] := List.eq_nil_of_length_eq_zero (by simpa using hl)
    refine ⟨a, cap, w, run_append_owned_none (P := P) w B t ty e i s ht hi _ n vs h, ?_, Below.refl _ _⟩
    rw [List.append_nil]
    exact h
  | some ad =>
    obtain ⟨v', w2, hrun, ho, hg, hne⟩ := run_append_own (P := P) w B t ty e i z s by_ ht hi hz0 hz1 hz2 hzc hs0 _ n vs h ad m c us hl (fun j v hj => by
      have hm0 : 0 < m := by
        rcases Nat.eq_zero_or_pos m with h0 | h0
        · subst h0
          obtain rfl : us = [] := List.eq_nil_of_length_eq_zero (by simpa using hl)
          simp at hj
        · exact h0
      obtain ⟨b, o, hab, hc⟩ := hs.cells hm0
      obtain rfl := Option.some.inj hab
      rw [add_plain]
      exact hc j v hj) h1 (by unfold maxLen; omega) hby hB
    have hb2 : Below B w w2 := (Below.refl B w).grown hg hB (fun k hk => (World.ownsRow.lt h k hk).1)
    obtain ⟨a', cap', rfl⟩ : ∃ a' cap', v' = .slice a' (n + m) cap' := by
      rcases ho.2 with ⟨hv, h0⟩ | ⟨g, cap, cur, hv, _⟩
      · exact ⟨none, 0, by rw [hv, h0]⟩
      · exact ⟨_, cap, hv⟩
    exact ⟨a', cap', w2, hrun, ho, hb2⟩

/-- an append whose run is known, as an arm of the walk -/
theorem wpList_append_run {P : Program} {w w2 : World} {ops : Array Oper} {rest : List Oper} {o : Oper} {a : Act} {Q : Exit → Act → World → Prop} (hgd : o.guard = none) (s x : Operand) (t : TypeId)
    (ho : o.op = .call { callee := .builtin .append, args := #[s, x], argTypes := #[t, t] }) (vs vx v : Value) (hs : a.eval s = vs) (hx : a.eval x = vx)
    (hrun : (Builtin.append_ #[t, t] o.type #[vs, vx]).run P w = .ok v w2) (h : wpList P ops Q rest (a.put o.dst v) w2) : wpList P ops Q (o :: rest) a w := by
  refine wpList_plain hgd fun K hK => ?_
  unfold Oper.wp execOp
  simp only [ho, resolve, invoke, builtin, Sem.run_bind, Sem.run_pure, Result.andThen_ok, List.map_toArray, List.map_cons, List.map_nil, hs, hx, hrun]
  exact hK _ _ h
end Go.Proofs.YtobijdfnafnodaaGreatDoor.On

/- Names in capital letters, and the newest word of a name: lists alone, no function of the program. -/
namespace Go.Proofs.YtobijdfnafnodaaGreatDoor.On
set_option maxRecDepth 100000
open Go.ChangeShapes Go.WideShapes Go.RowKit
set_option linter.unusedVariables false

def cap1 (c : Int) : Int := if 97 ≤ c ∧ c ≤ 122 then c - 32 else c
theorem cap1_yes {c : Int} (h : 97 ≤ c ∧ c ≤ 122) : cap1 c = c - 32 := if_pos h
theorem cap1_no {c : Int} (h : ¬ (97 ≤ c ∧ c ≤ 122)) : cap1 c = c := if_neg h
theorem cap1_cap1 (c : Int) : cap1 (cap1 c) = cap1 c := by
  by_cases h : 97 ≤ c ∧ c ≤ 122
  · rw [cap1_yes h, cap1_no (by omega)]
  · rw [cap1_no h, cap1_no h]
theorem cap1_bd {c : Int} (h : 0 ≤ c ∧ c ≤ 255) : 0 ≤ cap1 c ∧ cap1 c ≤ 255 := by
  unfold cap1
  split <;> omega
def fold (xs : List Int) : List Int := xs.map cap1
theorem fold_len (xs : List Int) : (fold xs).length = xs.length := by simp [fold]
theorem fold_fold (xs : List Int) : fold (fold xs) = fold xs := by
  simp [fold, cap1_cap1]
theorem fold_ok {xs : List Int} (h : bytesOk xs) : bytesOk (fold xs) := by
  intro x hx
  obtain ⟨y, hy, rfl⟩ := List.mem_map.1 hx
  exact cap1_bd (h y hy)
/-- the first k are turned -/
def foldK (xs : List Int) (k : Nat) : List Int := fold (xs.take k) ++ xs.drop k
theorem foldK_0 (xs : List Int) : foldK xs 0 = xs := by simp [foldK, fold]
theorem foldK_all (xs : List Int) : foldK xs xs.length = fold xs := by simp [foldK]
theorem foldK_len (xs : List Int) (k : Nat) : (foldK xs k).length = xs.length := by
  simp [foldK, fold]
  omega
theorem foldK_at {xs : List Int} {k : Nat} (h : k < xs.length) : (foldK xs k).getD k 0 = xs.getD k 0 := by
  have hl : (fold (xs.take k)).length = k := by simp [fold]; omega
  rw [foldK, List.getD, List.getElem?_append_right (by omega), hl, Nat.sub_self, List.getElem?_drop]
  simp [List.getD]
theorem foldK_next {xs : List Int} {k : Nat} (h : k < xs.length) : foldK xs (k + 1) = (foldK xs k).set k (cap1 (xs.getD k 0)) := by
  have hl : (fold (xs.take k)).length = k := by simp [fold]; omega
  rw [foldK, foldK, List.set_append_right _ _ (by omega), hl, Nat.sub_self, take_snoc h, drop_cons h]
  simp [fold]
theorem foldK_same {xs : List Int} {k : Nat} (h : k < xs.length) (hc : cap1 (xs.getD k 0) = xs.getD k 0) : foldK xs (k + 1) = foldK xs k := by
  rw [foldK_next h, hc, ← foldK_at h]
  have hk : k < (foldK xs k).length := by rw [foldK_len]; exact h
  simp [List.getD, hk]
theorem fold_take {xs : List Int} {k : Nat} (h : k < xs.length) : fold (xs.take (k + 1)) = fold (xs.take k) ++ [cap1 (xs.getD k 0)] := by
  rw [take_snoc h]
  simp [fold]

/-- what is thrown of a name -/
def mayN (n : Nat) : Int := if n = 0 then -16 else if 31 < n then -19 else 0

/-! ### words -/
structure Wd where
  nm : List Int
  code : Int
  now : Bool
  hid : Bool
def Wd.cells (x : Wd) : List Value := [.string (strOfNums x.nm), .int .i64 x.code, .bool x.now, .bool x.hid]
def Wd.ok (x : Wd) (m : Nat) : Prop := bytesOk x.nm ∧ x.nm.length ≤ m
instance : Inhabited Wd := ⟨⟨[], 0, false, false⟩⟩
/-- is it that word, by a name in capital letters? -/
def hit (x : Wd) (f : List Int) : Bool := !x.hid && decide (fold x.nm = f)
/-- the newest of the first k -/
def fndK (ws : List Wd) (f : List Int) : Nat → Int
  | 0 => -1
  | k + 1 => if hit (ws.getD k default) f then (k : Int) else fndK ws f k
def fnd (ws : List Wd) (nm : List Int) : Int := fndK ws (fold nm) ws.length
theorem fndK_yes {ws : List Wd} {f : List Int} {k : Nat} (h : hit (ws.getD k default) f = true) : fndK ws f (k + 1) = k := by rw [fndK, if_pos h]
theorem fndK_no {ws : List Wd} {f : List Int} {k : Nat} (h : hit (ws.getD k default) f = false) : fndK ws f (k + 1) = fndK ws f k := by rw [fndK, if_neg (by rw [h]; decide)]
theorem fndK_bd (ws : List Wd) (f : List Int) : ∀ k : Nat, -1 ≤ fndK ws f k ∧ fndK ws f k < k
  | 0 => by simp [fndK]
  | k + 1 => by
    have := fndK_bd ws f k
    rw [fndK]
    split <;> omega
theorem fnd_bd (ws : List Wd) (nm : List Int) : -1 ≤ fnd ws nm ∧ fnd ws nm < ws.length := fndK_bd ws (fold nm) ws.length
theorem fnd_fold (ws : List Wd) (nm : List Int) : fnd ws (fold nm) = fnd ws nm := by rw [fnd, fold_fold]; rfl
theorem fndK_congr {ws vs : List Wd} {f : List Int} : ∀ k : Nat, (∀ i, i < k → ws.getD i default = vs.getD i default) → fndK ws f k = fndK vs f k
  | 0, _ => rfl
  | k + 1, h => by rw [fndK, fndK, h k (by omega), fndK_congr k (fun i hi => h i (by omega))]
theorem fndK_is {ws : List Wd} {f : List Int} : ∀ k : Nat, 0 ≤ fndK ws f k → hit (ws.getD (fndK ws f k).toNat default) f = true
  | 0, h => by simp [fndK] at h
  | k + 1, h => by
    rw [fndK] at h ⊢
    by_cases hh : hit (ws.getD k default) f = true
    · rw [if_pos hh, Int.toNat_natCast]
      exact hh
    · rw [if_neg hh] at h ⊢
      exact fndK_is k h
/-- a word behind others -/
theorem fnd_snoc (ws : List Wd) (x : Wd) (nm : List Int) : fnd (ws ++ [x]) nm = if hit x (fold nm) then (ws.length : Int) else fnd ws nm := by
  have e1 : (ws ++ [x]).getD ws.length default = x := by simp [List.getD]
  have e2 : fndK (ws ++ [x]) (fold nm) ws.length = fndK ws (fold nm) ws.length := fndK_congr _ fun i hi => by simp [List.getD, List.getElem?_append_left hi]
  rw [fnd, List.length_append, List.length_singleton, fndK, e1, e2]
  rfl
theorem fnd_take (ws : List Wd) (nm : List Int) {k : Nat} (h : k ≤ ws.length) : fnd (ws.take k) nm = fndK ws (fold nm) k := by
  rw [fnd, List.length_take, Nat.min_eq_left h]
  exact fndK_congr k fun i hi => by simp [List.getD, hi]
/-- without the words from the place on -/
theorem fnd_less {ws : List Wd} {nm : List Int} {i : Nat} (h : fnd ws nm = i) : i < ws.length ∧ hit (ws.getD i default) (fold nm) = true ∧ fnd (ws.take (i + 1)) nm = i ∧ fnd (ws.take i) nm < i := by
  have hb := fnd_bd ws nm
  have hi : i < ws.length := by omega
  have hh : hit (ws.getD i default) (fold nm) = true := by
    have := fndK_is (ws := ws) (f := fold nm) ws.length (by show 0 ≤ fnd ws nm; omega)
    have e : fndK ws (fold nm) ws.length = i := h
    rw [e, Int.toNat_natCast] at this
    exact this
  refine ⟨hi, hh, ?_, ?_⟩
  · rw [fnd_take ws nm (by omega), fndK_yes hh]
  · rw [fnd_take ws nm (by omega)]
    exact (fndK_bd ws (fold nm) i).2
theorem hit_parts {x : Wd} {f : List Int} (h : hit x f = true) : x.hid = false ∧ fold x.nm = f := by
  simpa [hit] using h
end Go.Proofs.YtobijdfnafnodaaGreatDoor.On

/- Contracts of Fold and its closure, of the document's Fold, of May. -/
namespace Go.Proofs.YtobijdfnafnodaaGreatDoor.On
set_option maxRecDepth 100000
open Go.ChangeShapes Go.WideShapes Go.RowKit
set_option linter.unusedVariables false

theorem u8info : (Tryz.prog.info? 5).map (fun i => (i.zero, i.size, i.bytes)) = some (some (.int .u8 0), 1, 1) := by kernel_rfl
def u8s (xs : List Int) : List Value := xs.map (Value.int .u8)
theorem u8s_len (xs : List Int) : (u8s xs).length = xs.length := by simp [u8s]
theorem u8s_one (xs : List Int) : ∀ v ∈ u8s xs, v.oneCell' = true := by
  intro v hv
  obtain ⟨x, _, rfl⟩ := List.mem_map.1 hv
  rfl
theorem u8s_get {xs : List Int} {i : Nat} (h : i < xs.length) : (u8s xs)[i]? = some (.int .u8 (xs.getD i 0)) := by
  simp [u8s, List.getD, h]
theorem u8s_app (xs ys : List Int) : u8s (xs ++ ys) = u8s xs ++ u8s ys := by simp [u8s]

theorem uw8 (x : Int) : IntKind.u8.wrap x = x % 256 := by simp [IntKind.wrap, IntKind.bits, IntKind.signed]

/-- bytes that may be turned, cell by cell -/
def Raw (w : World) (g n : Nat) (xs : List Int) : Prop := xs.length = n ∧ g < w.heap.size ∧ ∀ i, i < n → w.cell? ⟨g, i, none⟩ = some (.int .u8 (xs.getD i 0)) ∧ w.frozen? ⟨g, i, none⟩ = false
theorem Raw.put {w : World} {g n : Nat} {xs : List Int} (h : Raw w g n xs) {k : Nat} (hk : k < n) (c : Int) : Raw (w.setCell ⟨g, k, none⟩ (.int .u8 c)) g n (xs.set k c) := by
  obtain ⟨hl, hg, hc⟩ := h
  refine ⟨by simp [hl], by simpa [World.setCell] using hg, fun i hi => ?_⟩
  rw [World.frozen?_setCell]
  refine ⟨?_, (hc i hi).2⟩
  by_cases e : k = i
  · subst e
    rw [World.cell?_setCell_same _ _ _ (hc k hk).1]
    simp [List.getD, hl, hk]
  · rw [World.cell?_setCell_other _ _ _ _ (by intro h; injection h; omega), (hc i hi).1]
    simp [List.getD, e]
theorem Raw.below {w w' : World} {g n : Nat} {xs : List Int} (h : Raw w g n xs) (hb : Below w.heap.size w w') : Raw w' g n xs :=
  ⟨h.1, Nat.lt_of_lt_of_le h.2.1 hb.size, fun i hi => by
    rw [hb.cell (p := ⟨g, i, none⟩) h.2.1, hb.frozen (p := ⟨g, i, none⟩) h.2.1]
    exact h.2.2 i hi⟩

/-- []byte(s) -/
theorem bytes_any (xs : List Int) (hx : bytesOk xs) (w : World) :
    ∃ C w1, (Go.convert 9 71 (.string (strOfNums xs))).run Tryz.prog w = .ok (.slice (some ⟨w.heap.size, 0, none⟩) xs.length C) w1 ∧ Raw w1 w.heap.size xs.length xs ∧ Below w.heap.size w w1 ∧ w1.heap.size = w.heap.size + 1 := by
  have hr := run_bytes_of_string (P := Tryz.prog) w 9 71 5 (strOfNums xs) Tryz.underlying9 Tryz.underlying71 Tryz.underlying5
  rw [str_size] at hr
  refine ⟨_, _, hr, ⟨rfl, by simp, fun i hi => ?_⟩, ((Below.refl _ _).drew).alloc (Nat.le_refl _) _, by simp⟩
  have hb : (bytesRow (strOfNums xs) (grownCap w xs.length 0 5))[i]? = some (.int .u8 (xs.getD i 0)) := by
    unfold bytesRow strOfNums
    rw [Array.getElem?_append_left (by simpa using hi)]
    have := byte_back (hx.get i)
    simp [List.getD, hi] at this ⊢
    omega
  have hz : i < (bytesRow (strOfNums xs) (grownCap w xs.length 0 5)).size := (Array.getElem?_eq_some_iff.1 hb).1
  refine ⟨?_, ?_⟩
  · rw [← hb]
    exact World.cell?_alloc_mark w.drew _ _ _ i
  · have := World.frozen?_alloc_mark w.drew (bytesRow (strOfNums xs) (grownCap w xs.length 0 5)) 5 (bytesRow (strOfNums xs) (grownCap w xs.length 0 5)).size ((bytesRow (strOfNums xs) (grownCap w xs.length 0 5)).size + 1) i
    rw [show w.heap.size = w.drew.heap.size from rfl, this]
    simp
    omega
/-- string(b) -/
theorem Raw.str {w : World} {g n c : Nat} {xs : List Int} (h : Raw w g n xs) : (Go.convert 71 9 (.slice (some ⟨g, 0, none⟩) n c)).run Tryz.prog w = .ok (.string (strOfNums xs)) w :=
  run_convert_bytes_arg (P := Tryz.prog) w 71 5 Tryz.underlying71 Tryz.underlying5 g 0 n c xs h.1 (fun i hi => by rw [Nat.zero_add]; exact (h.2.2 i hi).1) 9 Tryz.underlying9
theorem Sz.str {w : World} {a : Option Addr} {n c : Nat} {xs : List Int} (h : Sz w 1 a n c (u8s xs)) : (Go.convert 71 9 (.slice a n c)).run Tryz.prog w = .ok (.string (strOfNums xs)) w := by
  have hl : xs.length = n := by have := h.len; rw [u8s_len] at this; omega
  by_cases hn : 0 < n
  · obtain ⟨b, o, rfl, hc⟩ := h.cells hn
    exact run_convert_bytes_arg (P := Tryz.prog) w 71 5 Tryz.underlying71 Tryz.underlying5 b o n c xs hl (fun i hi => hc i _ (u8s_get (by omega))) 9 Tryz.underlying9
  · have h0 : n = 0 := by omega
    subst h0
    obtain rfl : xs = [] := List.eq_nil_of_length_eq_zero hl
    rw [run_convert_bytes_string w 71 9 5 _ 0 c Tryz.underlying71 Tryz.underlying5 Tryz.underlying9]
    cases a <;> simp [Conv.bytesToString, loadCells, strOfNums]
    all_goals rfl

/-- the closure turns one byte -/
theorem turn_any (k : Nat) (xs : List Int) (S g n C B : Nat) (w : World) (hS : w.cell? ⟨S, 0, none⟩ = some (.slice (some ⟨g, 0, none⟩) n C)) (hR : Raw w g n (foldK xs k)) (hne : g ≠ S) (hk : k < n) (hn : n ≤ 1000) (hB : B ≤ g) (hx : bytesOk xs) (hl : xs.length = n) :
    Calls Tryz.prog 46 #[.int .i64 (k : Int), .pointer (some ⟨S, 0, none⟩)] w fun e w' => e = .returned (.tuple #[]) ∧ Raw w' g n (foldK xs (k + 1)) ∧ w'.cell? ⟨S, 0, none⟩ = some (.slice (some ⟨g, 0, none⟩) n C) ∧ Below B w w' := by
  have hkx : k < xs.length := by omega
  obtain ⟨c1, c2⟩ := hR.2.2 k hk
  rw [foldK_at hkx] at c1
  have hb := hx.get k
  by_cases hc : 97 ≤ xs.getD k 0 ∧ xs.getD k 0 ≤ 122
  · have hp := Lib.hid (hR.put hk (cap1 (xs.getD k 0)))
    rw [← foldK_next hkx, cap1_yes hc] at hp
    have hS2 : Hid ((w.setCell ⟨g, k, none⟩ (.int .u8 (xs.getD k 0 - 32))).cell? ⟨S, 0, none⟩ = some (.slice (some ⟨g, 0, none⟩) n C)) := by
      show _ = _
      rw [World.cell?_setCell_other _ _ _ _ (by intro h; injection h; omega)]
      exact hS
    have hB' := Lib.hid ((Below.refl B w).setCell (p := ⟨g, k, none⟩) hB (.int .u8 (xs.getD k 0 - 32)))
    obtain ⟨hc1, hc2⟩ := hc
    clear hR hkx
    generalize xs.getD k 0 = x at *
    have e1 : IntKind.u8.wrap (x - 97) = x - 97 := by rw [uw8]; omega
    have e2 : x - 97 + 65 = x - 32 := by omega
    have e3 : IntKind.u8.wrap (x - 97 + 65) = x - 32 := by rw [uw8]; omega
    go_enter Tryz.func46, Tryz.ntmps46
    go_wp2
    go_end0
    exact ⟨rfl, hp.out, hS2.out, hB'.out⟩
  · have hp := Lib.hid hR
    rw [← foldK_same hkx (cap1_no hc)] at hp
    have hS2 := Lib.hid hS
    clear hR hkx
    generalize xs.getD k 0 = x at *
    by_cases hc1 : 97 ≤ x
    · have hc2 : ¬ x ≤ 122 := by omega
      clear hc
      go_enter Tryz.func46, Tryz.ntmps46
      go_wp2
      go_end0
      exact ⟨rfl, hp.out, hS2.out, Below.refl _ _⟩
    · clear hc
      go_enter Tryz.func46, Tryz.ntmps46
      go_wp2
      go_end0
      exact ⟨rfl, hp.out, hS2.out, Below.refl _ _⟩
end Go.Proofs.YtobijdfnafnodaaGreatDoor.On

/- Contracts of Fold, the program's and the document's. -/
namespace Go.Proofs.YtobijdfnafnodaaGreatDoor.On
set_option maxRecDepth 100000
open Go.ChangeShapes Go.WideShapes Go.RowKit
set_option linter.unusedVariables false

theorem fold_any (xs : List Int) (w : World) (hx : bytesOk xs) (hn : xs.length ≤ 1000) :
    Calls Tryz.prog 27 #[.string (strOfNums xs)] w fun e w' => e = .returned (.string (strOfNums (fold xs))) ∧ Below w.heap.size w w' := by
  have hmf := mkf
  obtain ⟨C, w1, hcv, hR, hB, hz⟩ := bytes_any xs hx w
  obtain ⟨n, hn'⟩ : ∃ n, n = xs.length := ⟨_, rfl⟩
  rw [← hn'] at hcv hR hn
  have hT := Lib.hid (fun (k S B : Nat) W hS hR hne hk hB => turn_any k xs S w.heap.size n C B W hS hR hne hk hn hB hx hn'.symm)
  have hb1 := (Below.refl w1.heap.size w1).alloc (Nat.le_refl _) (.cells #[.slice (some ⟨w.heap.size, 0, none⟩) n C] 71)
  have hR1 := Lib.hid (hR.below hb1)
  have hB1 := Lib.hid (hB.trans (hb1.mono hB.size))
  have hne' : Hid (w.heap.size ≠ w1.heap.size) := Lib.hid (by omega)
  have hS0 : Hid ((w1.alloc (.cells #[.slice (some ⟨w.heap.size, 0, none⟩) n C] 71)).cell? ⟨w1.heap.size, 0, none⟩ = some (.slice (some ⟨w.heap.size, 0, none⟩) n C)) := Lib.hid (cell_of_one (heap_alloc_new w1 _))
  have hfa : Hid (foldK xs n = fold xs) := Lib.hid (by rw [hn', foldK_all])
  rw [← foldK_0 xs] at hR1
  clear hn' hR hb1 hB hz
  go_enter Tryz.func27, Tryz.ntmps27
  go_wp2
  go_loopw [11] (fun i wr => ∃ k : Nat, k ≤ n ∧ i = .int .i64 k ∧ Hid (Raw wr w.heap.size n (foldK xs k)) ∧ Hid (wr.cell? ⟨w1.heap.size, 0, none⟩ = some (.slice (some ⟨w.heap.size, 0, none⟩) n C)) ∧ Hid (Below w.heap.size w wr)) (fun i _ => n - (intOf i).toNat)
  case atStart => exact ⟨0, Nat.zero_le _, rfl, hR1, hS0, hB1⟩
  case round =>
    obtain ⟨k, hk, rfl, hR, hS, hB⟩ := hrel
    by_cases hkn : k < n
    · go_wp2_with (go_at_call 46; (with_reducible refine (hT.out k _ w.heap.size _ hS.out hR.out hne'.out hkn (Nat.le_refl _)).mono ?_); rintro e w2 ⟨rfl, hR2, hS2, hB2⟩; replace hR2 := Lib.hid hR2; replace hS2 := Lib.hid hS2; replace hB2 := Lib.hid (hB.out.trans hB2))
      exact ⟨⟨k + 1, by omega, by go_num, hR2, hS2, hB2⟩, by simp only [intOf]; omega⟩
    · obtain rfl : k = n := by omega
      have hst := hR.out.str (c := C)
      rw [hfa.out] at hst
      have hS1 := hS.out
      go_wp2
      go_ret
      exact ⟨rfl, hB.out⟩

/-- a byte in a slice of its own -/
theorem one_slice (c : Int) (W : World) : (Instr.buildSlice 71 1 #[(0, .int .u8 c)]).run Tryz.prog W = .ok (.slice (some ⟨W.heap.size, 0, none⟩) 1 1) (W.alloc (.cells #[.int .u8 c] 5)) := by kernel_rfl
theorem app_one {w : World} {B n cap : Nat} {ty : TypeId} {a : Option Addr} {xs : List Int} (c : Int) (h : Oz w B 5 1 a n cap (u8s xs)) (hn : n ≤ 1000) (hB : B ≤ w.heap.size) :
    ∃ a' cap' w2, (Builtin.append_ #[71, 71] ty #[.slice a n cap, .slice (some ⟨w.heap.size, 0, none⟩) 1 1]).run Tryz.prog (w.alloc (.cells #[.int .u8 c] 5)) = .ok (.slice a' (n + 1) cap') w2 ∧ Oz w2 B 5 1 a' (n + 1) cap' (u8s (xs ++ [c])) ∧ Below B w w2 := by
  obtain ⟨i, hi, hz0, hz1, hz2⟩ := info_parts u8info
  have hb0 : Below B w (w.alloc (.cells #[.int .u8 c] 5)) := (Below.refl _ _).alloc hB _
  have hS := (Oz.full w w.heap.size 5 1 (Nat.le_refl _) #[.int .u8 c] 1 (by decide) rfl).sz
  obtain ⟨a', cap', w2, h1, h2, h3⟩ := (h.alloc (.cells #[.int .u8 c] 5)).app (P := Tryz.prog) (ty := ty) Tryz.underlying71 hi hz0 hz1 hz2 rfl (by decide) hS (by intro u hu; simp at hu; subst hu; rfl) (by omega) (by omega) (by have := hb0.size; omega)
  refine ⟨a', cap', w2, h1, ?_, hb0.trans h3⟩
  rw [u8s_app]
  exact h2

end Go.Proofs.YtobijdfnafnodaaGreatDoor.On

/- The words' names, in the order of their numbers, and their kinds: lists alone, no function of the program. -/
namespace Go.Proofs.YtobijdfnafnodaaGreatDoor.On
set_option maxRecDepth 100000
open Go.ChangeShapes Go.WideShapes Go.RowKit
set_option linter.unusedVariables false
set_option maxRecDepth 100000

def nms : List (List Int) := [
  [69, 88, 73, 84], [40, 76, 73, 84, 41], [40, 66, 82, 65, 78, 67, 72, 41], [40, 48, 66, 82, 65, 78, 67, 72, 41], [40, 68, 79, 41], [40, 76, 79, 79, 80, 41], [40, 43, 76, 79, 79, 80, 41], [40, 86, 65, 82, 41],
  [40, 68, 79, 69, 83, 41], [40, 84, 69, 88, 84, 41], [40, 77, 65, 82, 75, 41], [67, 79, 77, 80, 73, 76, 69, 44], [68, 85, 80], [68, 82, 79, 80], [83, 87, 65, 80], [79, 86, 69, 82],
  [82, 79, 84], [78, 73, 80], [84, 85, 67, 75], [63, 68, 85, 80], [50, 68, 85, 80], [50, 68, 82, 79, 80], [50, 83, 87, 65, 80], [50, 79, 86, 69, 82],
  [80, 73, 67, 75], [82, 79, 76, 76], [68, 69, 80, 84, 72], [43], [45], [42], [47], [77, 79, 68],
  [47, 77, 79, 68], [42, 47], [42, 47, 77, 79, 68], [49, 43], [49, 45], [50, 42], [50, 47], [78, 69, 71, 65, 84, 69],
  [65, 66, 83], [77, 73, 78], [77, 65, 88], [65, 78, 68], [79, 82], [88, 79, 82], [73, 78, 86, 69, 82, 84], [76, 83, 72, 73, 70, 84],
  [82, 83, 72, 73, 70, 84], [61], [60, 62], [60], [62], [85, 60], [48, 61], [48, 60],
  [48, 60, 62], [48, 62], [87, 73, 84, 72, 73, 78], [84, 82, 85, 69], [70, 65, 76, 83, 69], [67, 69, 76, 76, 83], [67, 69, 76, 76, 43], [70, 43],
  [70, 45], [70, 42], [70, 47], [70, 77, 73, 78], [70, 77, 65, 88], [70, 78, 69, 71, 65, 84, 69], [70, 65, 66, 83], [70, 83, 81, 82, 84],
  [70, 76, 79, 79, 82], [70, 60], [70, 61], [83, 62, 70], [70, 62, 83], [64], [33], [43, 33],
  [67, 64], [67, 33], [72, 69, 82, 69], [65, 76, 76, 79, 84], [44], [67, 44], [65, 76, 73, 71, 78], [66, 65, 83, 69],
  [68, 69, 67, 73, 77, 65, 76], [72, 69, 88], [62, 82], [82, 62], [82, 64], [73], [74], [85, 78, 76, 79, 79, 80],
  [76, 69, 65, 86, 69], [73, 70], [69, 76, 83, 69], [84, 72, 69, 78], [66, 69, 71, 73, 78], [65, 71, 65, 73, 78], [85, 78, 84, 73, 76], [87, 72, 73, 76, 69],
  [82, 69, 80, 69, 65, 84], [68, 79], [76, 79, 79, 80], [43, 76, 79, 79, 80], [82, 69, 67, 85, 82, 83, 69], [58], [59], [73, 77, 77, 69, 68, 73, 65, 84, 69],
  [67, 79, 78, 83, 84, 65, 78, 84], [86, 65, 82, 73, 65, 66, 76, 69], [67, 82, 69, 65, 84, 69], [68, 79, 69, 83, 62], [77, 65, 82, 75, 69, 82], [39], [91, 39, 93], [76, 73, 84, 69, 82, 65, 76],
  [80, 79, 83, 84, 80, 79, 78, 69], [91], [93], [69, 88, 69, 67, 85, 84, 69], [67, 72, 65, 82], [91, 67, 72, 65, 82, 93], [40], [92],
  [46, 34], [69, 77, 73, 84], [67, 82], [83, 80, 65, 67, 69], [46], [84, 89, 80, 69], [75, 69, 89], [84, 72, 82, 79, 87],
  [65, 66, 79, 82, 84]]
theorem nms_len : nms.length = 137 := by decide +kernel
def nmN (m : Nat) : List Int := nms.getD m []
def nm (op : Int) : List Int := if 1 ≤ op ∧ op ≤ 137 then nmN (op - 1).toNat else []
theorem nm_at {m : Nat} (h : m < 137) : nm ((m : Int) + 1) = nmN m := by
  rw [nm, if_pos (by omega)]
  congr 1
  omega
theorem nm_out {op : Int} (h : ¬ (1 ≤ op ∧ op ≤ 137)) : nm op = [] := if_neg h
theorem in_at {op : Int} (h : 1 ≤ op ∧ op ≤ 137) : ∃ m : Nat, m < 137 ∧ op = (m : Int) + 1 := ⟨(op - 1).toNat, by omega, by omega⟩
/-- every name: bytes, none of them a blank, no small letter, not empty, few -/
def goodName (x : List Int) : Bool := x.all (fun c => decide (33 ≤ c) && decide (c ≤ 255) && !(decide (97 ≤ c) && decide (c ≤ 122))) && decide (1 ≤ x.length) && decide (x.length ≤ 60)
theorem nms_good : nms.all goodName = true := by decide +kernel
theorem nmN_mem {m : Nat} (h : m < 137) : nmN m ∈ nms := by
  have : m < nms.length := by rw [nms_len]; exact h
  unfold nmN
  simp [List.getD, this]
theorem nmN_good {m : Nat} (h : m < 137) : (∀ c ∈ nmN m, 33 ≤ c ∧ c ≤ 255 ∧ ¬ (97 ≤ c ∧ c ≤ 122)) ∧ 1 ≤ (nmN m).length ∧ (nmN m).length ≤ 60 := by
  have := List.all_eq_true.1 nms_good _ (nmN_mem h)
  simp only [goodName, Bool.and_eq_true, List.all_eq_true, decide_eq_true_eq, Bool.not_eq_true', Bool.and_eq_false_iff, decide_eq_false_iff_not] at this
  obtain ⟨⟨h1, h2⟩, h3⟩ := this
  refine ⟨fun c hc => ?_, h2, h3⟩
  have := h1 c hc
  omega
theorem nmN_ok {m : Nat} (h : m < 137) : bytesOk (nmN m) := fun c hc => by
  have := (nmN_good h).1 c hc
  omega
theorem nm_ok (op : Int) : bytesOk (nm op) := by
  unfold nm
  split
  · exact nmN_ok (by omega)
  · intro c hc
    cases hc
theorem nm_len (op : Int) : (nm op).length ≤ 60 := by
  unfold nm
  split
  · exact (nmN_good (by omega)).2.2
  · simp
theorem nm_fold (op : Int) : fold (nm op) = nm op := by
  unfold nm
  split
  · have := (nmN_good (m := (op - 1).toNat) (by omega)).1
    unfold fold
    conv => rhs; rw [← List.map_id (nmN (op - 1).toNat)]
    exact List.map_congr_left fun c hc => cap1_no (this c hc).2.2
  · rfl
theorem nm_nil (op : Int) : nm op = [] ↔ ¬ (1 ≤ op ∧ op ≤ 137) := by
  constructor
  · intro h hb
    obtain ⟨m, hm, rfl⟩ := in_at hb
    rw [nm_at hm] at h
    have := (nmN_good hm).2.1
    rw [h] at this
    simp at this
  · exact nm_out

/-! ### the number of a name -/
def ix (f : List Int) : Int := if nms.idxOf f < 137 then (nms.idxOf f : Int) + 1 else 0
theorem ix_names : ∀ m < 137, nms.idxOf (nmN m) = m := by decide +kernel
theorem ix_at {m : Nat} (h : m < 137) : ix (nmN m) = (m : Int) + 1 := by
  unfold ix
  rw [ix_names m h, if_pos h]
theorem nmN_inj {m k : Nat} (h : m < 137) (hk : k < 137) (e : nmN m = nmN k) : m = k := by
  have := ix_at h
  rw [e, ix_at hk] at this
  omega
theorem ix_cases (f : List Int) : (ix f = 0 ∧ ∀ m < 137, nmN m ≠ f) ∨ ∃ m : Nat, m < 137 ∧ f = nmN m ∧ ix f = (m : Int) + 1 := by
  by_cases h : nms.idxOf f < 137
  · refine .inr ⟨nms.idxOf f, h, ?_, if_pos h⟩
    have hl : nms.idxOf f < nms.length := by rw [nms_len]; exact h
    have := List.getElem_idxOf hl
    unfold nmN
    simp [List.getD, hl, this]
  · refine .inl ⟨if_neg h, fun m hm e => ?_⟩
    rw [← e, ix_names m hm] at h
    exact h hm

/-! ### kinds -/
def isw (op : Int) : Bool := decide (1 ≤ op) && decide (op ≤ 137)
def inn (op : Int) : Bool := decide (2 ≤ op) && decide (op ≤ 11)
def now (op : Int) : Bool := decide (98 ≤ op) && decide (op ≤ 109) || decide (op = 111) || decide (op = 116) || decide (119 ≤ op) && decide (op ≤ 122) || decide (126 ≤ op) && decide (op ≤ 129)
def onl (op : Int) : Bool := decide (op = 1) || decide (91 ≤ op) && decide (op ≤ 109) || decide (op = 111) || decide (op = 116) || decide (119 ≤ op) && decide (op ≤ 121) || decide (op = 126)
def wid (op : Int) : Bool := decide (2 ≤ op) && decide (op ≤ 8) || decide (10 ≤ op) && decide (op ≤ 11)
def innK : List (List Int) := [[40, 76, 73, 84, 41], [40, 66, 82, 65, 78, 67, 72, 41], [40, 48, 66, 82, 65, 78, 67, 72, 41], [40, 68, 79, 41], [40, 76, 79, 79, 80, 41], [40, 43, 76, 79, 79, 80, 41], [40, 86, 65, 82, 41], [40, 68, 79, 69, 83, 41], [40, 84, 69, 88, 84, 41], [40, 77, 65, 82, 75, 41]]
theorem innK_ok : ∀ k ∈ innK, bytesOk k := by
  have : innK.all (fun k => k.all fun c => decide (0 ≤ c) && decide (c ≤ 255)) = true := by decide +kernel
  intro k hk c hc
  have := List.all_eq_true.1 (List.all_eq_true.1 this k hk) c hc
  simpa using this
theorem innK_in : ∀ m < 137, decide (nmN m ∈ innK) = inn ((m : Int) + 1) := by decide +kernel
theorem innK_nil : decide ([] ∈ innK) = false := by decide +kernel
theorem innK_is (op : Int) : decide (nm op ∈ innK) = inn op := by
  by_cases h : 1 ≤ op ∧ op ≤ 137
  · obtain ⟨m, hm, rfl⟩ := in_at h
    rw [nm_at hm]
    exact innK_in m hm
  · rw [nm_out h, innK_nil]
    have : inn op = false := by
      unfold inn
      simp only [Bool.and_eq_false_iff, decide_eq_false_iff_not]
      omega
    exact this.symm
def nowK : List (List Int) := [[73, 70], [69, 76, 83, 69], [84, 72, 69, 78], [66, 69, 71, 73, 78], [65, 71, 65, 73, 78], [85, 78, 84, 73, 76], [87, 72, 73, 76, 69], [82, 69, 80, 69, 65, 84], [68, 79], [76, 79, 79, 80], [43, 76, 79, 79, 80], [82, 69, 67, 85, 82, 83, 69], [59], [68, 79, 69, 83, 62], [91, 39, 93], [76, 73, 84, 69, 82, 65, 76], [80, 79, 83, 84, 80, 79, 78, 69], [91], [91, 67, 72, 65, 82, 93], [40], [92], [46, 34]]
theorem nowK_ok : ∀ k ∈ nowK, bytesOk k := by
  have : nowK.all (fun k => k.all fun c => decide (0 ≤ c) && decide (c ≤ 255)) = true := by decide +kernel
  intro k hk c hc
  have := List.all_eq_true.1 (List.all_eq_true.1 this k hk) c hc
  simpa using this
theorem nowK_in : ∀ m < 137, decide (nmN m ∈ nowK) = now ((m : Int) + 1) := by decide +kernel
theorem nowK_nil : decide ([] ∈ nowK) = false := by decide +kernel
theorem nowK_is (op : Int) : decide (nm op ∈ nowK) = now op := by
  by_cases h : 1 ≤ op ∧ op ≤ 137
  · obtain ⟨m, hm, rfl⟩ := in_at h
    rw [nm_at hm]
    exact nowK_in m hm
  · rw [nm_out h, nowK_nil]
    have : now op = false := by
      unfold now
      simp only [Bool.or_eq_false_iff, Bool.and_eq_false_iff, decide_eq_false_iff_not]
      omega
    exact this.symm
def onlK : List (List Int) := [[69, 88, 73, 84], [62, 82], [82, 62], [82, 64], [73], [74], [85, 78, 76, 79, 79, 80], [76, 69, 65, 86, 69], [73, 70], [69, 76, 83, 69], [84, 72, 69, 78], [66, 69, 71, 73, 78], [65, 71, 65, 73, 78], [85, 78, 84, 73, 76], [87, 72, 73, 76, 69], [82, 69, 80, 69, 65, 84], [68, 79], [76, 79, 79, 80], [43, 76, 79, 79, 80], [82, 69, 67, 85, 82, 83, 69], [59], [68, 79, 69, 83, 62], [91, 39, 93], [76, 73, 84, 69, 82, 65, 76], [80, 79, 83, 84, 80, 79, 78, 69], [91, 67, 72, 65, 82, 93]]
theorem onlK_ok : ∀ k ∈ onlK, bytesOk k := by
  have : onlK.all (fun k => k.all fun c => decide (0 ≤ c) && decide (c ≤ 255)) = true := by decide +kernel
  intro k hk c hc
  have := List.all_eq_true.1 (List.all_eq_true.1 this k hk) c hc
  simpa using this
theorem onlK_in : ∀ m < 137, decide (nmN m ∈ onlK) = onl ((m : Int) + 1) := by decide +kernel
theorem onlK_nil : decide ([] ∈ onlK) = false := by decide +kernel
theorem onlK_is (op : Int) : decide (nm op ∈ onlK) = onl op := by
  by_cases h : 1 ≤ op ∧ op ≤ 137
  · obtain ⟨m, hm, rfl⟩ := in_at h
    rw [nm_at hm]
    exact onlK_in m hm
  · rw [nm_out h, onlK_nil]
    have : onl op = false := by
      unfold onl
      simp only [Bool.or_eq_false_iff, Bool.and_eq_false_iff, decide_eq_false_iff_not]
      omega
    exact this.symm
def widK : List (List Int) := [[40, 76, 73, 84, 41], [40, 66, 82, 65, 78, 67, 72, 41], [40, 48, 66, 82, 65, 78, 67, 72, 41], [40, 68, 79, 41], [40, 76, 79, 79, 80, 41], [40, 43, 76, 79, 79, 80, 41], [40, 86, 65, 82, 41], [40, 84, 69, 88, 84, 41], [40, 77, 65, 82, 75, 41]]
theorem widK_ok : ∀ k ∈ widK, bytesOk k := by
  have : widK.all (fun k => k.all fun c => decide (0 ≤ c) && decide (c ≤ 255)) = true := by decide +kernel
  intro k hk c hc
  have := List.all_eq_true.1 (List.all_eq_true.1 this k hk) c hc
  simpa using this
theorem widK_in : ∀ m < 137, decide (nmN m ∈ widK) = wid ((m : Int) + 1) := by decide +kernel
theorem widK_nil : decide ([] ∈ widK) = false := by decide +kernel
theorem widK_is (op : Int) : decide (nm op ∈ widK) = wid op := by
  by_cases h : 1 ≤ op ∧ op ≤ 137
  · obtain ⟨m, hm, rfl⟩ := in_at h
    rw [nm_at hm]
    exact widK_in m hm
  · rw [nm_out h, widK_nil]
    have : wid op = false := by
      unfold wid
      simp only [Bool.or_eq_false_iff, Bool.and_eq_false_iff, decide_eq_false_iff_not]
      omega
    exact this.symm

/-! ### the word of a name -/
def fnO (f : List Int) : Int := if inn (ix f) then 0 else ix f
theorem fnO_hit {m : Nat} {f : List Int} (h : m < 137) (hi : inn ((m : Int) + 1) = false) (he : nmN m = f) : fnO f = (m : Int) + 1 := by
  subst he
  unfold fnO
  rw [ix_at h, hi]
  rfl
theorem fnO_no {f : List Int} (h : ∀ m : Nat, m < 137 → ¬ (inn ((m : Int) + 1) = false ∧ nmN m = f)) : fnO f = 0 := by
  unfold fnO
  rcases ix_cases f with ⟨h0, _⟩ | ⟨m, hm, rfl, he⟩
  · rw [h0]
    rfl
  · rw [he]
    have : inn ((m : Int) + 1) = true := by
      cases hi : inn ((m : Int) + 1) with
      | true => rfl
      | false => exact absurd ⟨hi, rfl⟩ (h m hm)
    rw [this]
    rfl
theorem fnO_cases (f : List Int) : fnO f = 0 ∨ (1 ≤ fnO f ∧ fnO f ≤ 137 ∧ inn (fnO f) = false ∧ nm (fnO f) = f) := by
  unfold fnO
  rcases ix_cases f with ⟨h0, _⟩ | ⟨m, hm, rfl, he⟩
  · rw [h0]
    exact .inl rfl
  · rw [he]
    cases hi : inn ((m : Int) + 1) with
    | true => exact .inl rfl
    | false => exact .inr ⟨by simp; omega, by simp; omega, by simpa using hi, by simpa using nm_at hm⟩
theorem fnO_bd (f : List Int) : 0 ≤ fnO f ∧ fnO f ≤ 137 := by
  rcases fnO_cases f with h | ⟨h1, h2, _⟩ <;> omega
theorem fnO_nm (op : Int) : fnO (nm op) = if isw op && !inn op then op else 0 := by
  by_cases h : 1 ≤ op ∧ op ≤ 137
  · obtain ⟨m, hm, rfl⟩ := in_at h
    rw [nm_at hm]
    unfold fnO
    rw [ix_at hm]
    have : isw ((m : Int) + 1) = true := by simp [isw]; omega
    rw [this]
    cases inn ((m : Int) + 1) <;> rfl
  · have : isw op = false := by
      simp [isw]
      omega
    have e : fnO [] = 0 := by decide +kernel
    rw [this, nm_out h, e]
    rfl

/-! ### all names in one text, a blank behind each -/
def flat (l : List (List Int)) : List Int := (l.map (· ++ [32])).flatten
def offs (l : List (List Int)) (m : Nat) : Nat := ((l.take m).map fun x => x.length + 1).sum
theorem flat_drop : ∀ (l : List (List Int)) (m : Nat), m ≤ l.length → (flat l).drop (offs l m) = flat (l.drop m)
  | l, 0, _ => by simp [offs]
  | [], m + 1, h => by simp at h
  | x :: l, m + 1, h => by
    have ih := flat_drop l m (by simpa using h)
    have e : offs (x :: l) (m + 1) = (x ++ [32]).length + offs l m := by simp [offs]
    have e2 : flat (x :: l) = (x ++ [32]) ++ flat l := by simp [flat]
    rw [e, e2, ← List.drop_drop, List.drop_left, ih]
    rfl
def allB : List Int := flat nms
def off (m : Nat) : Nat := offs nms m
theorem allB_len : allB.length = 654 := by decide +kernel
theorem off_0 : off 0 = 0 := rfl
theorem off_end : off 137 = 654 := by decide +kernel
theorem off_next {m : Nat} (h : m < 137) : off (m + 1) = off m + (nmN m).length + 1 := by
  have hl : m < nms.length := by rw [nms_len]; exact h
  have g : nms.getD m [] = nms[m] := by simp [List.getD, hl]
  unfold off offs nmN
  rw [g, List.take_succ_eq_append_getElem hl]
  simp only [List.map_append, List.sum_append, List.map_cons, List.map_nil, List.sum_cons, List.sum_nil]
  omega
theorem off_le {m : Nat} (h : m ≤ 137) : ∀ k, m + k ≤ 137 → off m ≤ off (m + k)
  | 0, _ => Nat.le_refl _
  | k + 1, hk => by
    have := off_le h k (by omega)
    have h2 := off_next (m := m + k) (by omega)
    rw [show m + (k + 1) = m + k + 1 by omega]
    omega
theorem off_bd {m : Nat} (h : m < 137) : off m + (nmN m).length ≤ 653 := by
  have h1 := off_next h
  have h2 := off_le (m := m + 1) (by omega) (137 - (m + 1)) (by omega)
  rw [show m + 1 + (137 - (m + 1)) = 137 by omega, off_end] at h2
  omega
theorem all_drop {m : Nat} (h : m < 137) : ∃ r, allB.drop (off m) = nmN m ++ 32 :: r := by
  have hl : m < nms.length := by rw [nms_len]; exact h
  have := flat_drop nms m (by omega)
  refine ⟨flat (nms.drop (m + 1)), ?_⟩
  show (flat nms).drop (offs nms m) = _
  have e2 : ∀ (x : List Int) (l : List (List Int)), flat (x :: l) = x ++ 32 :: flat l := fun x l => by simp [flat]
  have g : nmN m = nms[m] := by simp [nmN, List.getD, hl]
  rw [this, List.drop_eq_getElem_cons hl, e2, g]
theorem all_get {m j : Nat} (h : m < 137) : allB.getD (off m + j) 0 = (allB.drop (off m)).getD j 0 := by
  simp [List.getD]
/-- the text without its last blank -/
def txt : List Int := allB.take 653
theorem txt_len : txt.length = 653 := by simp [txt, allB_len]
theorem txt_ok : bytesOk txt := by
  have : txt.all (fun c => decide (0 ≤ c) && decide (c ≤ 255)) = true := by decide +kernel
  intro c hc
  have := List.all_eq_true.1 this c hc
  simpa using this
theorem txt_get {i : Nat} (h : i < 653) : txt.getD i 0 = allB.getD i 0 := by
  simp [txt, List.getD, h]
/-- inside a name -/
theorem txt_in {m j : Nat} (h : m < 137) (hj : j < (nmN m).length) : off m + j < 653 ∧ (txt.getD (off m + j) 0 == 32) = false := by
  have hb := off_bd h
  refine ⟨by omega, ?_⟩
  obtain ⟨r, hr⟩ := all_drop h
  rw [txt_get (by omega), all_get h, hr]
  have e : (nmN m ++ 32 :: r).getD j 0 = (nmN m)[j] := by simp [List.getD, List.getElem?_append_left hj, hj]
  rw [e]
  have := (nmN_good h).1 _ (List.getElem_mem hj)
  simp
  omega
/-- behind a name -/
theorem txt_end {m : Nat} (h : m < 137) (hj : off m + (nmN m).length < 653) : (txt.getD (off m + (nmN m).length) 0 == 32) = true := by
  obtain ⟨r, hr⟩ := all_drop h
  rw [txt_get (by omega), all_get h, hr]
  simp [List.getD]
theorem txt_cut {m : Nat} (h : m < 137) : cutN txt (off m) (off m + (nmN m).length) = nmN m := by
  have hb := off_bd h
  obtain ⟨r, hr⟩ := all_drop h
  unfold cutN txt
  rw [List.drop_take, hr, List.take_take]
  have : min (off m + (nmN m).length - off m) (653 - off m) = (nmN m).length := by omega
  rw [this, List.take_left]
end Go.Proofs.YtobijdfnafnodaaGreatDoor.On

/- The table of names, as it lies in its variable; contracts of Is, Name and isOneOf. -/
namespace Go.Proofs.YtobijdfnafnodaaGreatDoor.On
set_option maxRecDepth 100000
open Go.ChangeShapes Go.WideShapes Go.RowKit
set_option linter.unusedVariables false

/-! ### the table -/
def WA : Array Value := (nms.map fun x => Value.string (strOfNums x)).toArray
def Laid (w : World) : Prop := ∃ t fr, w.heap[0]? = some (.cells WA t fr)
theorem WA_get {m : Nat} (h : m < 137) : WA[m]? = some (.string (strOfNums (nmN m))) := by
  have hl : m < nms.length := by rw [nms_len]; exact h
  simp [WA, nmN, List.getD, hl]
theorem Laid.lt {w : World} (h : Laid w) : 0 < w.heap.size := by
  obtain ⟨t, fr, h⟩ := h
  exact (Array.getElem?_eq_some_iff.1 h).1
theorem Laid.below {w w' : World} {B : Nat} (h : Laid w) (hb : Below B w w') (hB : w.heap.size ≤ B) : Laid w' := by
  have hl := h.lt
  obtain ⟨t, fr, h⟩ := h
  exact ⟨t, fr, (hb.block _ (by omega)).trans h⟩
theorem Laid.from {w w' : World} (h : Laid w) (hb : Hid (Below w.heap.size w w')) : Laid w' := h.below hb.out (Nat.le_refl _)
theorem Laid.alloc {w : World} (h : Laid w) (o : Obj) : Laid (w.alloc o) := h.below ((Below.refl w.heap.size w).alloc (Nat.le_refl _) o) (Nat.le_refl _)
theorem Laid.at {w : World} (h : Laid w) {m : Nat} (hm : m < 137) : w.cell? ⟨0, m, none⟩ = some (.string (strOfNums (nmN m))) := by
  obtain ⟨t, fr, h⟩ := h
  rw [cell_of_row w _ m WA t fr h, WA_get hm]

theorem cells_of_strs {H : Type} {enc : TypeId × Value → H} {P : Program} {w : World} {base : Nat} {sp : Nat → Bool} {held : Bool} {fuel : Nat} {t e : TypeId} {n : Nat} {cs : List Value} {zs : List (List UInt8)} {p : List MemPlace}
    (ht : P.underlying t = some (.array n e)) (he : P.underlying e = some .string) (hce : P.cellsOf e = 1) (hct : P.cellsOf t = n)
    (h : DataW.trod enc P w base sp held fuel t cs = some (.agg (zs.map fun z => .lit (.string z)), p)) : cs = zs.map fun z => Value.string ⟨z.toArray⟩ := by
  obtain ⟨xs, m, rfl, hx, hlen, hn, hel⟩ := DataW.trod_array ht h
  simp only [Prod.mk.injEq, DataW.agg.injEq] at hx
  have hxs : xs.map (·.1) = zs.map fun z => (DataW.lit (.string z) : DataW H) := hx.1.symm
  have hzl : zs.length = n := by
    have := congrArg List.length hxs
    simp at this
    omega
  apply List.ext_getElem?
  intro i
  by_cases hi : i < n
  · have h1 := hel i hi
    have hxi : i < xs.length := by omega
    rw [List.getElem?_eq_getElem hxi] at h1
    obtain ⟨s, hc, hd, _⟩ := DataW.trod_string he h1
    rw [hce] at hc
    have h2 : cs[i]? = some (.string s) := by
      have := congrArg (·[0]?) hc
      simpa [List.getElem?_take, List.getElem?_drop] using this
    have h3 : (xs.map (·.1))[i]? = some (DataW.lit (.string s.data.toList) : DataW H) := by
      rw [List.getElem?_map, List.getElem?_eq_getElem hxi, hd]
      rfl
    rw [hxs] at h3
    simp only [List.getElem?_map, Option.map_eq_some_iff, DataW.lit.injEq, Lit.string.injEq] at h3
    obtain ⟨z, hz, rfl⟩ := h3
    rw [h2, List.getElem?_map, hz]
    rfl
  · rw [List.getElem?_eq_none (by omega), List.getElem?_eq_none (by simp; omega)]

def nmsU : List (List UInt8) := nms.map fun x => x.map fun n => UInt8.ofNat n.toNat
theorem laid_data : (Rows.laid_nostos_ops_words : DataW Unit) = .agg (nmsU.map fun z => .lit (.string z)) := by kernel_rfl
theorem gWords : Tryz.prog.globalNamed "nostos/ops.words" = some 0 := by kernel_rfl
theorem tWords : (Tryz.prog.globals[0]?).map (·.type) = some 52 := by kernel_rfl
theorem laid_of {W : World} (h : laidMetH Tryz.prog [("nostos/ops.words", Rows.laid_nostos_ops_words)] W) : Laid W := by
  rw [MakeChecks.laidMetH_plain _ _ _ (by kernel_rfl)] at h
  obtain ⟨ps, ⟨g0, t0, cs0, f0, p0, q0, hg0, ht0, hv0, hd0, _⟩, _⟩ := h
  obtain rfl := Option.some.inj (gWords.symm.trans hg0)
  obtain rfl := Option.some.inj (tWords.symm.trans ht0)
  rw [laid_data] at hd0
  have hc := cells_of_strs Tryz.underlying52 Tryz.underlying9 (by kernel_rfl) (by kernel_rfl) hd0
  have hcs : cs0 = WA := by
    apply Array.toList_inj.1
    rw [hc]
    simp [nmsU, WA, strOfNums]
  unfold World.var? at hv0
  rw [hg0] at hv0
  simp only [Option.bind_some] at hv0
  split at hv0
  · rename_i c t fr he
    obtain rfl := Option.some.inj hv0
    rw [hcs] at he
    exact ⟨t, fr, he⟩
  · cases hv0

/-! ### Is, Name -/
theorem is_any (op : Int) (w : World) (hb : -9223372036854775808 ≤ op ∧ op ≤ 9223372036854775807) :
    Calls Tryz.prog 25 #[.int .i64 op] w fun e w' => e = .returned (.bool (isw op)) ∧ w = w' := by
  by_cases h1 : 1 ≤ op
  · by_cases h2 : op ≤ 137
    · have e : Hid (isw op = true) := Lib.hid (by simp [isw, h1, h2])
      go_enter Tryz.func25, Tryz.ntmps25
      go_wp2
      go_ret
      rw [e.out]
      exact ⟨rfl, rfl⟩
    · have e : Hid (isw op = false) := Lib.hid (by simp [isw, h2])
      go_enter Tryz.func25, Tryz.ntmps25
      go_wp2
      go_ret
      rw [e.out]
      exact ⟨rfl, rfl⟩
  · have e : Hid (isw op = false) := Lib.hid (by simp [isw, h1])
    go_enter Tryz.func25, Tryz.ntmps25
    go_wp2
    go_ret
    rw [e.out]
    exact ⟨rfl, rfl⟩

theorem str_nil : strOfNums [] = ⟨#[]⟩ := rfl
theorem name_any (op : Int) (w : World) (hL : Laid w) (hb : -9223372036854775808 ≤ op ∧ op ≤ 9223372036854775807) :
    Calls Tryz.prog 12 #[.int .i64 op] w fun e w' => e = .returned (.string (strOfNums (nm op))) ∧ w = w' := by
  have hI := is_any op w hb
  by_cases h : 1 ≤ op ∧ op ≤ 137
  · have e : isw op = true := by simp [isw, h.1, h.2]
    rw [e] at hI
    obtain ⟨m, hm, hop⟩ := in_at h
    have e1 : op - 1 = (m : Int) := by omega
    have hc := hL.at hm
    have hn : Hid (strOfNums (nm op) = strOfNums (nmN m)) := Lib.hid (by rw [hop, nm_at hm])
    replace hI := Lib.hid hI
    obtain ⟨h1, h2⟩ := h
    clear e hL hop
    generalize strOfNums (nmN m) = s at *
    go_enter Tryz.func12, Tryz.ntmps12
    go_wp2_with (go_at_call 25; (with_reducible refine hI.out.mono ?_); rintro e w' ⟨rfl, rfl⟩)
    go_ret
    rw [hn.out]
    exact ⟨rfl, rfl⟩
  · have e : isw op = false := by simp [isw]; omega
    rw [e] at hI
    have hn : Hid (nm op = []) := Lib.hid (nm_out h)
    replace hI := Lib.hid hI
    clear e hL h
    go_enter Tryz.func12, Tryz.ntmps12
    go_wp2_with (go_at_call 25; (with_reducible refine hI.out.mono ?_); rintro e w' ⟨rfl, rfl⟩)
    go_ret
    rw [hn.out]
    exact ⟨rfl, rfl⟩
end Go.Proofs.YtobijdfnafnodaaGreatDoor.On

/- Contracts of isOneOf, and of the four kinds that ask it. -/
namespace Go.Proofs.YtobijdfnafnodaaGreatDoor.On
set_option maxRecDepth 100000
open Go.ChangeShapes Go.WideShapes Go.RowKit
set_option linter.unusedVariables false

def strs (ks : List (List Int)) : List Value := ks.map fun k => .string (strOfNums k)
theorem strs_len (ks : List (List Int)) : (strs ks).length = ks.length := by simp [strs]
/-- a string in a slice of strings -/
theorem strs_cell {w : World} {a : Option Addr} {n c : Nat} {ks : List (List Int)} (h : Sz w 1 a n c (strs ks)) {i : Nat} (hi : i < n) : ∃ x, a = some x ∧ w.cell? (x.add i) = some (.string (strOfNums (ks.getD i []))) := by
  obtain ⟨b, o, rfl, hc⟩ := h.cells (by omega)
  have hl := h.len
  rw [strs_len] at hl
  refine ⟨_, rfl, ?_⟩
  rw [add_plain]
  have hik : i < ks.length := by omega
  have := hc i (.string (strOfNums (ks.getD i []))) (by simp [strs, List.getD, hik])
  exact this
theorem row_strs (w : World) (cur : Array Value) (ks : List (List Int)) (n : Nat) (hc : cur.toList = strs ks) (hn : ks.length = n) (hm : n ≤ 1000) : Sz (w.alloc (.cells cur 9)) 1 (some ⟨w.heap.size, 0, none⟩) n n (strs ks) := by
  have hs : cur.size = n * 1 := by
    have := congrArg List.length hc
    rw [strs_len] at this
    simp at this
    omega
  have := (Oz.full w w.heap.size 9 1 (Nat.le_refl _) cur n (by unfold maxLen; omega) hs).sz
  rw [hc] at this
  exact this

theorem isone_any (op : Int) (a : Option Addr) (n c : Nat) (ks : List (List Int)) (w : World) (hL : Laid w) (hS : Sz w 1 a n c (strs ks)) (hk : ∀ k ∈ ks, bytesOk k) (hn : n ≤ 1000) (hb : -9223372036854775808 ≤ op ∧ op ≤ 9223372036854775807) :
    Calls Tryz.prog 47 #[.int .i64 op, .slice a n c] w fun e w' => e = .returned (.bool (decide (nm op ∈ ks))) ∧ w = w' := by
  have hN := Lib.hid (name_any op w hL hb)
  have hl : ks.length = n := by have := hS.len; rw [strs_len] at this; omega
  have hcell := Lib.hid (fun (i : Nat) (hi : i < n) => strs_cell hS hi)
  have hok : Hid (∀ i, i < n → bytesOk (ks.getD i [])) := Lib.hid fun i hi => by
    have : i < ks.length := by omega
    have := hk ks[i] (List.getElem_mem this)
    simpa [List.getD, show i < ks.length by omega] using this
  have hnok := Lib.hid (nm_ok op)
  have hll := Lib.hid hl
  clear hL hS hk hl
  obtain ⟨f, hf⟩ : ∃ f, f = nm op := ⟨_, rfl⟩
  rw [← hf] at hN hnok ⊢
  have hsz := str_size f
  clear hf
  go_enter Tryz.func47, Tryz.ntmps47
  go_wp2_with (go_at_call 12; (with_reducible refine hN.out.mono ?_); rintro e w' ⟨rfl, rfl⟩)
  go_loop [7, 12] (fun x i => ∃ k : Nat, k ≤ n ∧ i = .int .i64 k ∧ Hid (f ∉ ks.take k)) (fun _ i => n - (intOf i).toNat)
  case atStart => exact ⟨0, Nat.zero_le _, rfl, Lib.hid (by simp)⟩
  case round =>
    obtain ⟨k, hk, rfl, hF⟩ := hrel
    by_cases hkn : k < n
    · obtain ⟨x, rfl, hc⟩ := hcell.out k hkn
      have hbq := str_beq hnok.out (hok.out k hkn)
      have hkl : k < ks.length := by have := hll.out; omega
      have hkk : ks[k] = ks.getD k [] := by simp [List.getD, hkl]
      by_cases he : f = ks.getD k []
      · have hres : Hid (decide (f ∈ ks) = true) := Lib.hid (by
          rw [decide_eq_true_eq, he, ← hkk]
          exact List.getElem_mem hkl)
        rw [decide_eq_true he] at hbq
        clear he hkl hkk
        generalize strOfNums (ks.getD k []) = s at *
        generalize strOfNums f = z at *
        go_wp2
        go_ret
        rw [hres.out]
        exact ⟨rfl, rfl⟩
      · have hF2 : Hid (f ∉ ks.take (k + 1)) := Lib.hid (by
          rw [List.take_succ_eq_append_getElem hkl, List.mem_append, hkk]
          simp only [List.mem_singleton]
          exact fun h => h.elim hF.out he)
        rw [decide_eq_false he] at hbq
        clear he hkl hkk
        generalize strOfNums (ks.getD k []) = s at *
        generalize strOfNums f = z at *
        go_wp2
        exact ⟨⟨k + 1, by omega, by go_num, hF2⟩, by simp only [intOf]; omega⟩
    · obtain rfl : k = n := by omega
      have hres : Hid (decide (f ∈ ks) = false) := Lib.hid (by
        have := hF.out
        rw [← hll.out, List.take_length] at this
        exact decide_eq_false this)
      go_wp2
      go_ret
      rw [hres.out]
      exact ⟨rfl, rfl⟩

theorem innK_row (w : World) : Sz (w.alloc (.cells #[.string ⟨#[40, 76, 73, 84, 41]⟩, .string ⟨#[40, 66, 82, 65, 78, 67, 72, 41]⟩, .string ⟨#[40, 48, 66, 82, 65, 78, 67, 72, 41]⟩, .string ⟨#[40, 68, 79, 41]⟩, .string ⟨#[40, 76, 79, 79, 80, 41]⟩, .string ⟨#[40, 43, 76, 79, 79, 80, 41]⟩, .string ⟨#[40, 86, 65, 82, 41]⟩, .string ⟨#[40, 68, 79, 69, 83, 41]⟩, .string ⟨#[40, 84, 69, 88, 84, 41]⟩, .string ⟨#[40, 77, 65, 82, 75, 41]⟩] 9)) 1 (some ⟨w.heap.size, 0, none⟩) 10 10 (strs innK) :=
  row_strs w _ innK 10 (by kernel_rfl) rfl (by decide)
theorem inn_any (op : Int) (w : World) (hL : Laid w) (hb : -9223372036854775808 ≤ op ∧ op ≤ 9223372036854775807) :
    Calls Tryz.prog 28 #[.int .i64 op] w fun e w' => e = .returned (.bool (inn op)) ∧ Below w.heap.size w w' := by
  have hI := Lib.hid (isone_any op _ 10 10 innK _ (hL.alloc _) (innK_row w) innK_ok (by decide) hb)
  rw [innK_is] at hI
  have hB := Lib.hid ((Below.refl w.heap.size w).alloc (Nat.le_refl _) (.cells #[.string ⟨#[40, 76, 73, 84, 41]⟩, .string ⟨#[40, 66, 82, 65, 78, 67, 72, 41]⟩, .string ⟨#[40, 48, 66, 82, 65, 78, 67, 72, 41]⟩, .string ⟨#[40, 68, 79, 41]⟩, .string ⟨#[40, 76, 79, 79, 80, 41]⟩, .string ⟨#[40, 43, 76, 79, 79, 80, 41]⟩, .string ⟨#[40, 86, 65, 82, 41]⟩, .string ⟨#[40, 68, 79, 69, 83, 41]⟩, .string ⟨#[40, 84, 69, 88, 84, 41]⟩, .string ⟨#[40, 77, 65, 82, 75, 41]⟩] 9))
  clear hL
  go_enter Tryz.func28, Tryz.ntmps28
  go_wp2_with (go_at_call 47; (with_reducible refine hI.out.mono ?_); rintro e w' ⟨rfl, rfl⟩)
  go_ret
  exact ⟨rfl, hB.out⟩

theorem nowK_row (w : World) : Sz (w.alloc (.cells #[.string ⟨#[73, 70]⟩, .string ⟨#[69, 76, 83, 69]⟩, .string ⟨#[84, 72, 69, 78]⟩, .string ⟨#[66, 69, 71, 73, 78]⟩, .string ⟨#[65, 71, 65, 73, 78]⟩, .string ⟨#[85, 78, 84, 73, 76]⟩, .string ⟨#[87, 72, 73, 76, 69]⟩, .string ⟨#[82, 69, 80, 69, 65, 84]⟩, .string ⟨#[68, 79]⟩, .string ⟨#[76, 79, 79, 80]⟩, .string ⟨#[43, 76, 79, 79, 80]⟩, .string ⟨#[82, 69, 67, 85, 82, 83, 69]⟩, .string ⟨#[59]⟩, .string ⟨#[68, 79, 69, 83, 62]⟩, .string ⟨#[91, 39, 93]⟩, .string ⟨#[76, 73, 84, 69, 82, 65, 76]⟩, .string ⟨#[80, 79, 83, 84, 80, 79, 78, 69]⟩, .string ⟨#[91]⟩, .string ⟨#[91, 67, 72, 65, 82, 93]⟩, .string ⟨#[40]⟩, .string ⟨#[92]⟩, .string ⟨#[46, 34]⟩] 9)) 1 (some ⟨w.heap.size, 0, none⟩) 22 22 (strs nowK) :=
  row_strs w _ nowK 22 (by kernel_rfl) rfl (by decide)
theorem onlK_row (w : World) : Sz (w.alloc (.cells #[.string ⟨#[69, 88, 73, 84]⟩, .string ⟨#[62, 82]⟩, .string ⟨#[82, 62]⟩, .string ⟨#[82, 64]⟩, .string ⟨#[73]⟩, .string ⟨#[74]⟩, .string ⟨#[85, 78, 76, 79, 79, 80]⟩, .string ⟨#[76, 69, 65, 86, 69]⟩, .string ⟨#[73, 70]⟩, .string ⟨#[69, 76, 83, 69]⟩, .string ⟨#[84, 72, 69, 78]⟩, .string ⟨#[66, 69, 71, 73, 78]⟩, .string ⟨#[65, 71, 65, 73, 78]⟩, .string ⟨#[85, 78, 84, 73, 76]⟩, .string ⟨#[87, 72, 73, 76, 69]⟩, .string ⟨#[82, 69, 80, 69, 65, 84]⟩, .string ⟨#[68, 79]⟩, .string ⟨#[76, 79, 79, 80]⟩, .string ⟨#[43, 76, 79, 79, 80]⟩, .string ⟨#[82, 69, 67, 85, 82, 83, 69]⟩, .string ⟨#[59]⟩, .string ⟨#[68, 79, 69, 83, 62]⟩, .string ⟨#[91, 39, 93]⟩, .string ⟨#[76, 73, 84, 69, 82, 65, 76]⟩, .string ⟨#[80, 79, 83, 84, 80, 79, 78, 69]⟩, .string ⟨#[91, 67, 72, 65, 82, 93]⟩] 9)) 1 (some ⟨w.heap.size, 0, none⟩) 26 26 (strs onlK) :=
  row_strs w _ onlK 26 (by kernel_rfl) rfl (by decide)
theorem widK_row (w : World) : Sz (w.alloc (.cells #[.string ⟨#[40, 76, 73, 84, 41]⟩, .string ⟨#[40, 66, 82, 65, 78, 67, 72, 41]⟩, .string ⟨#[40, 48, 66, 82, 65, 78, 67, 72, 41]⟩, .string ⟨#[40, 68, 79, 41]⟩, .string ⟨#[40, 76, 79, 79, 80, 41]⟩, .string ⟨#[40, 43, 76, 79, 79, 80, 41]⟩, .string ⟨#[40, 86, 65, 82, 41]⟩, .string ⟨#[40, 84, 69, 88, 84, 41]⟩, .string ⟨#[40, 77, 65, 82, 75, 41]⟩] 9)) 1 (some ⟨w.heap.size, 0, none⟩) 9 9 (strs widK) :=
  row_strs w _ widK 9 (by kernel_rfl) rfl (by decide)
end Go.Proofs.YtobijdfnafnodaaGreatDoor.On

/- The map of all names and their numbers that ops.numbers makes; what ops.Find finds in it. -/
namespace Go.Proofs.YtobijdfnafnodaaGreatDoor.On
set_option maxRecDepth 100000
open Go.ChangeShapes Go.WideShapes Go.RowKit
set_option linter.unusedVariables false

/-- the first k names' entries -/
def ent (m : Nat) : MapEntry := { key := .string (strOfNums (nmN m)), val := .int .i64 ((m : Int) + 1), born := m }
def ents (k : Nat) : Array MapEntry := ((List.range k).map ent).toArray
theorem ents_next (k : Nat) : (ents k).push (ent k) = ents (k + 1) := by
  simp [ents, List.range_succ]
theorem ents_key (k : Nat) : ∀ x ∈ (ents k).toList, MapKept.IsKey .string x.key := by
  intro x hx
  simp only [ents, List.mem_map] at hx
  obtain ⟨m, _, rfl⟩ := hx
  trivial
theorem ents_get {k j : Nat} {e : MapEntry} (h : (ents k).toList[j]? = some e) : j < k ∧ e = ent j := by
  simp only [ents, List.getElem?_map, Option.map_eq_some_iff] at h
  obtain ⟨m, hm, rfl⟩ := h
  obtain ⟨hj, rfl⟩ := List.getElem?_eq_some_iff.1 hm
  simp at hj ⊢
  exact hj
theorem ents_find {f : List Int} (hf : bytesOk f) : ∃ r, Instr.findNow .string (.string (strOfNums f)) (ents 137).toList 0 = some r ∧ ((r = none ∧ ix f = 0) ∨ ∃ j, r = some (j, .int .i64 (ix f))) := by
  rcases MapKept.findNow_spec (d := .string) (k := .string (strOfNums f)) trivial (ents 137).toList 0 (ents_key 137) with ⟨h1, h2⟩ | ⟨j, e, h1, h2, h3⟩
  · refine ⟨_, h1, .inl ⟨rfl, ?_⟩⟩
    rcases ix_cases f with ⟨h0, _⟩ | ⟨m, hm, rfl, _⟩
    · exact h0
    · exact absurd rfl (h2 (ent m) (by simp only [ents, List.mem_map]; exact ⟨m, by simp [hm], rfl⟩))
  · obtain ⟨hj, rfl⟩ := ents_get h2
    refine ⟨_, h1, .inr ⟨0 + j, ?_⟩⟩
    have he : nmN j = f := str_inj (nmN_ok hj) hf (by
      have : strOfNums (nmN j) = strOfNums f := by injection h3
      rw [this])
    rw [← he, ix_at hj]
    rfl
theorem ents_fresh {k : Nat} (hk : k < 137) : Instr.findNow .string (.string (strOfNums (nmN k))) (ents k).toList 0 = some none := by
  rcases MapKept.findNow_spec (d := .string) (k := .string (strOfNums (nmN k))) trivial (ents k).toList 0 (ents_key k) with ⟨h1, h2⟩ | ⟨j, e, h1, h2, h3⟩
  · exact h1
  · exfalso
    obtain ⟨hj, rfl⟩ := ents_get h2
    have he : nmN j = nmN k := str_inj (nmN_ok (by omega)) (nmN_ok hk) (by
      have : strOfNums (nmN j) = strOfNums (nmN k) := by injection h3
      rw [this])
    have := nmN_inj (by omega) hk he
    omega

theorem set_last (w : World) (o p : Obj) : { (w.alloc o) with heap := (w.alloc o).heap.setIfInBounds w.heap.size p } = w.alloc p := by
  have e : (w.alloc o).heap = w.heap.push o := rfl
  have e2 : (w.heap.push o).setIfInBounds w.heap.size p = w.heap.push p := by
    apply Array.ext_getElem?
    intro i
    rw [Array.getElem?_setIfInBounds, Array.getElem?_push, Array.getElem?_push, Array.size_push]
    by_cases h : w.heap.size = i
    · subst h; simp
    · rw [if_neg h, if_neg (Ne.symm h), if_neg (Ne.symm h)]
  rw [e, e2]; rfl
theorem run_put {k : Nat} (hk : k < 137) (w : World) :
    (Instr.mapUpdate 53 (.map (some w.heap.size)) (.string (strOfNums (nmN k))) (.int .i64 ((k : Int) + 1))).run Tryz.prog (w.alloc (.map (ents k) k)) = .ok () (w.alloc (.map (ents (k + 1)) (k + 1))) := by
  have hb := (MapKept.heap_alloc w (.map (ents k) k)).1
  have hik : MapKept.IsKey .string (.string (strOfNums (nmN k))) := trivial
  have h2 := set_last w (.map (ents k) k) (.map ((ents k).push (ent k)) (k + 1))
  rw [← ents_next]
  simp [Instr.mapUpdate, run_underlying Tryz.underlying53, MapKept.run_getObj_map hb, MapKept.run_checkKey Tryz.underlying9 hik, MapKept.run_findKey Tryz.underlying9 (ents_fresh hk), MapKept.run_setObj_map _ hb, Result.andThen]
  exact h2
theorem run_get {f : List Int} (hf : bytesOk f) (b c : Nat) (w : World) (hb : w.heap[b]? = some (.map (ents 137) c)) :
    (Instr.lookup 53 (.map (some b)) (.string (strOfNums f)) false).run Tryz.prog w = .ok (.int .i64 (ix f)) w := by
  have hik : MapKept.IsKey .string (.string (strOfNums f)) := trivial
  have hz : (zeroValue 3).run Tryz.prog w = .ok (.int .i64 0) w := by kernel_rfl
  obtain ⟨r, hr, ⟨rfl, h0⟩ | ⟨j, rfl⟩⟩ := ents_find hf
  · rw [h0]
    simp [Instr.lookup, run_underlying Tryz.underlying53, MapKept.run_getObj_map hb, MapKept.run_checkKey Tryz.underlying9 hik, MapKept.run_findKey Tryz.underlying9 hr, hz, Result.andThen]
  · simp [Instr.lookup, run_underlying Tryz.underlying53, MapKept.run_getObj_map hb, MapKept.run_checkKey Tryz.underlying9 hik, MapKept.run_findKey Tryz.underlying9 hr, Result.andThen]
theorem make_map (w : World) : (Instr.makeMap 53 (some (.int .i64 137))).run Tryz.prog w = .ok (.map (some w.heap.size)) (w.alloc (.map #[] 0)) := by kernel_rfl
theorem index_words {m : Nat} (h : m < 137) (W : World) : (Instr.index 52 (.agg WA) (.int .i64 (m : Int))).run Tryz.prog W = .ok (.string (strOfNums (nmN m))) W := by
  have hz : (sizeOf 9).run Tryz.prog W = .ok 1 W := by kernel_rfl
  have ha : (isAgg 9).run Tryz.prog W = .ok false W := by kernel_rfl
  have hg := WA_get h
  simp [Instr.index, asIntOf, run_underlying Tryz.underlying52, hz, part, ha, hg, h, Result.andThen]

set_option maxRecDepth 100000 in
theorem numbers_any (w : World) (hL : Laid w) :
    Calls Tryz.prog 26 #[] w fun e w' => e = .returned (.map (some w.heap.size)) ∧ w.alloc (.map (ents 137) 137) = w' := by
  have hmm := make_map
  obtain ⟨tt, fr, hg⟩ := hL.alloc (.map #[] 0)
  clear hL
  have hix := Lib.hid (fun (m : Nat) (h : m < 137) => index_words h)
  have hput := Lib.hid (fun (m : Nat) (h : m < 137) => run_put h w)
  have hsz : (Tryz.prog.info? 52).map (·.size) = some WA.size := by kernel_rfl
  go_enter Tryz.func26, Tryz.ntmps26
  go_wp2_with (refine wpList_load_row rfl 52 _ rfl 0 rfl tt _ fr _ hg Tryz.underlying52 rfl hsz ?_)
  go_loopw [2, 3, 6] (fun _ _ i wr => ∃ k : Nat, k ≤ 137 ∧ i = .int .i64 k ∧ wr = w.alloc (.map (ents k) k)) (fun _ _ i _ => 137 - (intOf i).toNat)
  case atStart => exact ⟨0, by decide, rfl, rfl⟩
  case round =>
    obtain ⟨k, hk, rfl, rfl⟩ := hrel
    by_cases hkn : k < 137
    · have h1 := hix.out k hkn
      have h2 := hput.out k hkn
      generalize strOfNums (nmN k) = s at *
      go_wp2
      exact ⟨⟨k + 1, by omega, by go_num, rfl⟩, by simp only [intOf]; omega⟩
    · obtain rfl : k = 137 := by omega
      go_wp2
      go_ret
      exact ⟨rfl, rfl⟩

theorem find_any (xs : List Int) (w : World) (hL : Laid w) (hx : bytesOk xs) (hn : xs.length ≤ 1000) :
    Calls Tryz.prog 16 #[.string (strOfNums xs)] w fun e w' => e = .returned (.int .i64 (fnO (fold xs))) ∧ Below w.heap.size w w' := by
  have hM := Lib.hid (numbers_any w hL)
  have hF := Lib.hid (fold_any xs (w.alloc (.map (ents 137) 137)) hx hn)
  have hb0 : Below w.heap.size w (w.alloc (.map (ents 137) 137)) := (Below.refl w.heap.size w).alloc (Nat.le_refl _) _
  have hl0 := hL.alloc (.map (ents 137) 137)
  have hB0 : (w.alloc (.map (ents 137) 137)).heap[w.heap.size]? = some (.map (ents 137) 137) := (MapKept.heap_alloc w _).1
  have hlt : w.heap.size < (w.alloc (.map (ents 137) 137)).heap.size := (Array.getElem?_eq_some_iff.1 hB0).1
  generalize w.alloc (.map (ents 137) 137) = V at *
  have hG := Lib.hid (fun (W : World) (h : Below V.heap.size V W) => run_get (fold_ok hx) w.heap.size 137 W ((h.block _ hlt).trans hB0))
  have hbd : -9223372036854775808 ≤ ix (fold xs) ∧ ix (fold xs) ≤ 9223372036854775807 := by
    rcases ix_cases (fold xs) with ⟨h, _⟩ | ⟨m, hm, _, h⟩ <;> omega
  have hI := Lib.hid (fun (W : World) (h : Below V.heap.size V W) => inn_any (ix (fold xs)) W (hl0.below h (Nat.le_refl _)) hbd)
  have hE : Hid (fnO (fold xs) = if inn (ix (fold xs)) then 0 else ix (fold xs)) := Lib.hid rfl
  have hb0' := Lib.hid hb0
  have hBB := Lib.hid (fun (W U : World) (h : Below V.heap.size V W) (h2 : Below W.heap.size W U) => hb0.trans ((h.trans (h2.mono h.size)).mono hb0.size))
  clear hL hl0 hB0 hlt hb0 hx hn hbd
  generalize strOfNums (fold xs) = z at *
  generalize ix (fold xs) = k at *
  generalize strOfNums xs = s at *
  cases hin : inn k
  · rw [hin] at hI hE
    clear hin
    go_enter Tryz.func16, Tryz.ntmps16
    go_wp2_with (first | (go_at_call 26; (with_reducible refine hM.out.mono ?_); rintro e w1 ⟨rfl, rfl⟩) | (go_at_call 27; (with_reducible refine hF.out.mono ?_); rintro e w2 ⟨rfl, hb2⟩; have hg2 := hG.out _ hb2; replace hb2 := Lib.hid hb2) | (go_at_call 28; (with_reducible refine (hI.out _ hb2.out).mono ?_); rintro e w3 ⟨rfl, hb3⟩))
    go_ret
    rw [hE.out]
    exact ⟨rfl, hBB.out _ _ hb2.out hb3⟩
  · rw [hin] at hI hE
    clear hin
    go_enter Tryz.func16, Tryz.ntmps16
    go_wp2_with (first | (go_at_call 26; (with_reducible refine hM.out.mono ?_); rintro e w1 ⟨rfl, rfl⟩) | (go_at_call 27; (with_reducible refine hF.out.mono ?_); rintro e w2 ⟨rfl, hb2⟩; have hg2 := hG.out _ hb2; replace hb2 := Lib.hid hb2) | (go_at_call 28; (with_reducible refine (hI.out _ hb2.out).mono ?_); rintro e w3 ⟨rfl, hb3⟩))
    go_ret
    rw [hE.out]
    exact ⟨rfl, hBB.out _ _ hb2.out hb3⟩
end Go.Proofs.YtobijdfnafnodaaGreatDoor.On
