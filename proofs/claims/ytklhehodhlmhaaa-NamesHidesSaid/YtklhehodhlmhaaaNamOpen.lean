/- Words that came in: a slice of them, one by value. -/
import Derived.Test.YtklhehodhlmhaaaFields
import Derived.Test.YtklhehodhlmhaaaNamFind
import Derived.Deep.RegionHeld3
import Derived.Deep.AppendLies
namespace Go.Proofs.Ytklhehodhlmhaaa
open Go.ChangeShapes Go.WideShapes Go.RowKit Go.Deep

/-- a word that came in: its name is a list of bytes, of a length that a machine has -/
def Wd.came (x : Wd) : Prop := bytesOk x.nm ∧ (x.nm.length : Int) ≤ 9223372036854775807 ∧ (Lit.int .i64 x.code).wf = true
def WsIn (w : World) (a : Option Addr) (n c : Nat) (ws : List Wd) : Prop := Ws w a n c ws ∧ ∀ x ∈ ws, x.came

theorem wcells_range {w : World} {b o : Nat} {ws : List Wd} (h : ∀ i, i < ws.length → w.rangeAt b (o + i * 4) (ws.getD i default).cells) : w.rangeAt b o (wcells ws) := by
  intro j v hv
  have hj : j < ws.length * 4 := by
    have := (List.getElem?_eq_some_iff.1 hv).1
    rwa [wcells_len] at this
  have hi : j / 4 < ws.length := by omega
  have hr : j % 4 < 4 := by omega
  have e : ((wcells ws).drop (j / 4 * 4)).take 4 = (ws.getD (j / 4) default).cells := wcells_at hi
  have hv2 : (ws.getD (j / 4) default).cells[j % 4]? = some v := by
    rw [← e, List.getElem?_take_of_lt hr, List.getElem?_drop, show j / 4 * 4 + j % 4 = j by omega]
    exact hv
  have := h _ hi _ _ hv2
  rwa [show o + j / 4 * 4 + j % 4 = o + j by omega] at this

section
variable {H : Type} {enc : TypeId × Value → H} {W : World} {base b0 : Nat} {sp : Nat → Bool} {held : Bool} {v : Value} {d : DataW H} {p : List MemPlace}
theorem open_words (hval : Value.okWide Try.prog W .any b0 26 v) (h : DataW.Trod enc Try.prog W base sp held 26 v d p) : ∃ a n c ws, v = .slice a n c ∧ WsIn W a n c ws := by
  obtain ⟨a, n, c, rfl⟩ := okWide_slice Try.underlying26 hval
  obtain ⟨fuel, hf⟩ := h
  rcases open_rows Try.underlying26 Try.underlying31 (by kernel_rfl) (by kernel_rfl) hf with hcs | ⟨x, l, k, hcs, hl, hm, hi⟩
  · simp [Value.cells] at hcs
    obtain ⟨rfl, rfl, rfl⟩ := hcs
    exact ⟨none, 0, 0, [], rfl, Sz.zero W 4, by simp⟩
  · simp [Value.cells] at hcs
    obtain ⟨rfl, rfl, rfl⟩ := hcs
    have hx : ∀ i, i < n → ∃ y : Wd, y.came ∧ ∀ j u, y.cells[j]? = some u → W.cell? (x.add (i * 4 + j)) = some u := by
      intro i hin
      obtain ⟨m, hm⟩ := hi i hin
      obtain ⟨v0, y0, c0, t0⟩ := hm 0 _ rfl
      obtain ⟨v1, y1, c1, t1⟩ := hm 1 _ rfl
      obtain ⟨v2, y2, c2, t2⟩ := hm 2 _ rfl
      obtain ⟨v3, y3, c3, t3⟩ := hm 3 _ rfl
      obtain ⟨s, hs, _, hsz⟩ := DataW.trod_string Try.underlying9 t0
      obtain ⟨z, hz, _, hzw⟩ := DataW.trod_int Try.underlying3 t1
      obtain ⟨b, hb, _⟩ := DataW.trod_bool Try.underlying4 t2
      obtain ⟨b', hb', _⟩ := DataW.trod_bool Try.underlying4 t3
      obtain rfl : v0 = .string s := by simpa using hs
      obtain rfl : v1 = .int .i64 z := by simpa using hz
      obtain rfl : v2 = .bool b := by simpa using hb
      obtain rfl : v3 = .bool b' := by simpa using hb'
      refine ⟨⟨bytesOf s, z, b, b'⟩, ⟨bytesOf_ok s, ?_, hzw⟩, fun j u hu => ?_⟩
      · have e := str_size (bytesOf s)
        rw [str_of] at e
        unfold maxLen at hsz
        show ((bytesOf s).length : Int) ≤ _
        omega
      · have e : (⟨bytesOf s, z, b, b'⟩ : Wd).cells = [.string s, .int .i64 z, .bool b, .bool b'] := by simp [Wd.cells, str_of]
        rw [e] at hu
        match j, hu with
        | 0, hu => obtain rfl := Option.some.inj hu; exact c0
        | 1, hu => obtain rfl := Option.some.inj hu; exact c1
        | 2, hu => obtain rfl := Option.some.inj hu; exact c2
        | 3, hu => obtain rfl := Option.some.inj hu; exact c3
    obtain ⟨f, hf⟩ := choose_lt hx
    have hlen : ((List.range n).map f).length = n := by simp
    have hget : ∀ i, i < n → ((List.range n).map f).getD i default = f i := fun i hi => by simp [List.getD, hi]
    refine ⟨_, n, c, (List.range n).map f, rfl, ⟨by rw [wcells_len, hlen], hl, hm, fun h => (by cases h), fun hn => ?_⟩, fun y hy => ?_⟩
    · obtain ⟨bb, oo, ss⟩ := x
      have h0 := (hf 0 hn).2 0 _ rfl
      obtain rfl : ss = none := by simpa [Addr.add] using World.cell?_spot h0
      refine ⟨bb, oo, rfl, wcells_range fun i hi => ?_⟩
      rw [hlen] at hi
      rw [hget i hi]
      intro j u hu
      have := (hf i hi).2 j u hu
      rw [Addr.add_mid] at this
      rw [Nat.add_assoc]
      exact this
    · obtain ⟨i, hi, rfl⟩ := List.mem_map.1 hy
      exact (hf i (by simpa using hi)).1

theorem open_word (hval : Value.okWide Try.prog W .any b0 31 v) (h : DataW.Trod enc Try.prog W base sp held 31 v d p) :
    ∃ x : Wd, v = .agg #[.string (strOfNums x.nm), .int .i64 x.code, .bool x.now, .bool x.hid] ∧ x.came := by
  obtain ⟨v0, v1, v2, v3, y0, y1, y2, y3, n, rfl, _, _, t0, t1, t2, t3⟩ := Joins.open_agg4 Try.underlying31 (by kernel_rfl) (by kernel_rfl) hval h
  obtain ⟨s, hs, _, hsz⟩ := DataW.trod_string Try.underlying9 t0
  obtain ⟨z, hz, _, hzw⟩ := DataW.trod_int Try.underlying3 t1
  obtain ⟨b, hb, _⟩ := DataW.trod_bool Try.underlying4 t2
  obtain ⟨b', hb', _⟩ := DataW.trod_bool Try.underlying4 t3
  obtain rfl : v0 = .string s := by simpa using hs
  obtain rfl : v1 = .int .i64 z := by simpa using hz
  obtain rfl : v2 = .bool b := by simpa using hb
  obtain rfl : v3 = .bool b' := by simpa using hb'
  refine ⟨⟨bytesOf s, z, b, b'⟩, by rw [str_of], bytesOf_ok s, ?_, hzw⟩
  have e := str_size (bytesOf s)
  rw [str_of] at e
  unfold maxLen at hsz
  show ((bytesOf s).length : Int) ≤ _
  omega
end
end Go.Proofs.Ytklhehodhlmhaaa
