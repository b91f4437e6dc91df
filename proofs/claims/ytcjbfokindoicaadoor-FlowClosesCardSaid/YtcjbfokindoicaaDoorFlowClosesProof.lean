/- FlowCloses: for every input the law returns true, and each argument reads behind the call as it read before. Condition: the listed package-level variables (nostos/ops.words) start as the program's own text lays them, and the card ties that to the text. -/
import Derived.Test.YtcjbfokindoicaaDoorRows
import Derived.WalkKit
import Derived.ProofKit
import Derived.OpenShut
import Derived.ShutString
import Derived.ChangeOld
import Derived.Below
import Derived.Test.YtcjbfokindoicaaDoorTie
import Derived.Test.YtcjbfokindoicaaDoorCards
import Derived.Test.YtcjbfokindoicaaDoorBelow
import Derived.Test.YtcjbfokindoicaaDoorFloClo
import Derived.SevenTiedAt
import Derived.LaidMore
import Derived.Stop.Joined
namespace Go.Proofs.YtcjbfokindoicaaDoor.flowCloses
open Go.ChangeShapes Go.WideShapes Go.ChangeAt Go.RowKit
open Go.ChangeMaps (open_string shut_string)
set_option linter.unusedVariables false

theorem own : ownKnob Tryd.prog.godebug = none := by kernel_rfl
theorem laidOut : laidOutB Tryd.prog = true := by kernel_rfl

/-- a slice of integers that came in: nil, or a row of cap cells, the numbers zs, each fitting its kind -/
def IsRow (k : IntKind) (w : World) (a : Option Addr) (len cap : Nat) (zs : List Int) : Prop :=
  (a = none ∧ len = 0 ∧ cap = 0 ∧ zs = []) ∨
  ∃ x, a = some x ∧ len ≤ cap ∧ cap ≤ maxLen ∧ zs.length = cap ∧ (∀ i, i < zs.length → w.cell? (x.add i) = some (.int k (zs.getD i 0))) ∧ ∀ n ∈ zs, (Lit.int k n).wf = true

/-! ### the walk: the Go text returns true -/
/-- what came in, as a list of integers -/
theorem isRow_fl {w : World} {a : Option Addr} {len cap : Nat} {zs : List Int} (h : IsRow .i64 w a len cap zs) : On.Fl (On.one .i64) 1 w ⟨a, len, cap⟩ (zs.take len) ∧ ∀ z ∈ zs, On.C64 z := by
  rcases h with ⟨rfl, rfl, rfl, rfl⟩ | ⟨x, rfl, hl, hm, hz, hcell, hwz⟩
  · exact ⟨On.Fl.zero _ _ w, fun z hz => by cases hz⟩
  · refine ⟨⟨?_, hl, hm, fun h => (by cases h), fun hn => ?_⟩, fun z hz => bd_i64 (hwz z hz)⟩
    · rw [one_flat]; simp; omega
    · obtain ⟨b, o, s⟩ := x
      dsimp only at hn
      obtain rfl : s = none := by simpa [Addr.add] using World.cell?_spot (hcell 0 (by omega))
      refine ⟨b, o, rfl, fun i v hi => ?_⟩
      rw [one_flat, List.getElem?_map] at hi
      have hil : i < len ∧ i < zs.length := by
        rcases Nat.lt_or_ge i (zs.take len).length with h | h
        · simp at h; omega
        · rw [List.getElem?_eq_none h] at hi; cases hi
      have := hcell i hil.2
      rw [add_plain] at this
      rw [this, ← hi, List.getElem?_take_of_lt hil.1]
      simp [List.getD, hil.2]
theorem isRow_at {w : World} {a : Option Addr} {len cap : Nat} {zs : List Int} (h : IsRow .u8 w a len cap zs) {i : Nat} (hi : i < len) : ∃ b o, a = some ⟨b, o, none⟩ ∧ w.cell? ⟨b, o + i, none⟩ = some (.int .u8 (zs.getD i 0)) ∧ 0 ≤ zs.getD i 0 ∧ zs.getD i 0 ≤ 255 ∧ i < zs.length := by
  rcases h with ⟨rfl, rfl, rfl, rfl⟩ | ⟨x, rfl, hl, hm, hz, hcell, hwz⟩
  · omega
  · obtain ⟨b, o, s⟩ := x
    obtain rfl : s = none := by simpa [Addr.add] using World.cell?_spot (hcell 0 (by omega))
    have := hcell i (by omega)
    rw [add_plain] at this
    have hm2 : zs.getD i 0 ∈ zs := by
      simp only [List.getD, List.getElem?_eq_getElem (show i < zs.length by omega), Option.getD_some]
      exact List.getElem_mem _
    have hb := bd_u8 (hwz _ hm2)
    exact ⟨b, o, rfl, this, hb.1, hb.2, by omega⟩
theorem isRow_ks {w : World} {a : Option Addr} {len cap : Nat} {zs : List Int} (h : IsRow .u8 w a len cap zs) : ((zs.take len).map fun z => Int.tmod z 5).length = len ∧ ∀ k ∈ (zs.take len).map fun z => Int.tmod z 5, 0 ≤ k ∧ k ≤ 4 := by
  rcases h with ⟨rfl, rfl, rfl, rfl⟩ | ⟨x, rfl, hl, hm, hz, hcell, hwz⟩
  · exact ⟨rfl, fun k hk => by simp at hk⟩
  · refine ⟨by simp; omega, fun k hk => ?_⟩
    obtain ⟨z, hz1, rfl⟩ := List.mem_map.1 hk
    have hb := bd_u8 (hwz z (List.mem_of_mem_take hz1))
    have h1 := Int.tmod_nonneg 5 hb.1
    have h2 := Int.tmod_lt_of_pos z (show (0 : Int) < 5 by decide)
    omega

set_option maxRecDepth 100000 in
set_option maxHeartbeats 8000000 in
theorem walk (a0 : Option Addr) (len0 cap0 : Nat) (z0 : List Int) (a1 : Option Addr) (len1 cap1 : Nat) (z1 : List Int) (w : World) (hL : Laid w) (w0 : IsRow .i64 w a0 len0 cap0 z0) (w1 : IsRow .u8 w a1 len1 cap1 z1) :
    Calls Tryd.prog 5 #[.slice a0 len0 cap0, .slice a1 len1 cap1] w fun e w' => e = .returned (.bool true) ∧ Below w.heap.size w w' := by
  obtain ⟨hv, hvz⟩ := isRow_fl w0
  have hvn : (z0.take len0).length = len0 := On.Fl.len hv (fun _ => rfl) (by decide)
  have hvc : ∀ z ∈ z0.take len0, On.C64 z := fun z hz => hvz z (List.mem_of_mem_take hz)
  have hbd := hv.bd
  dsimp only at hbd
  obtain ⟨hkn, hkk⟩ := isRow_ks w1
  have hbd1 : (len1 : Int) ≤ 9223372036854775807 ∧ len1 ≤ cap1 := by
    rcases w1 with ⟨_, rfl, rfl, _⟩ | ⟨x, _, hl, hm, _⟩
    · exact ⟨by decide, Nat.le_refl _⟩
    · unfold maxLen at hm
      omega
  have hA := Lib.hid (faw_any w hL)
  by_cases hb0 : 60 < len0
  · clear hL w0 w1 hv hvz hvn hvc hkn hkk
    go_enter Tryd.func5, Tryd.ntmps5
    go_wp2_with (go_at_call 8; (with_reducible refine hA.out.mono ?_); rintro e w1 ⟨rfl, hb1⟩; replace hb1 := Lib.hid hb1)
    go_ret
    exact ⟨rfl, hb1.out⟩
  · by_cases hb8 : 8 < len1
    · clear hL w0 w1 hv hvz hvn hvc hkn hkk
      go_enter Tryd.func5, Tryd.ntmps5
      go_wp2_with (go_at_call 8; (with_reducible refine hA.out.mono ?_); rintro e w1 ⟨rfl, hb1⟩; replace hb1 := Lib.hid hb1)
      go_ret
      exact ⟨rfl, hb1.out⟩
    · obtain ⟨ks, hks⟩ : ∃ ks, ks = (z1.take len1).map fun z => Int.tmod z 5 := ⟨_, rfl⟩
      rw [← hks] at hkn hkk
      obtain ⟨s, es, ec1, eh, esp⟩ := clo_end (l := z0.take len0) (ks := ks) (by omega) hkk (by omega)
      obtain ⟨Zb, hZ, mk⟩ := aw_make 400 400 rfl (by decide)
      replace hZ := Lib.hid hZ
      have hL1 := Lib.hid hL
      have hrow := Lib.hid w1
      have hes := Lib.hid es
      have hec := Lib.hid ec1
      have heh := Lib.hid eh
      have hesp := Lib.hid esp
      have hkn2 := Lib.hid hkn
      have hks2 := Lib.hid hks
      have hl8 := Lib.hid (show len1 ≤ 8 by omega)
      have hl60 := Lib.hid (show (z0.take len0).length ≤ 60 by omega)
      have hv1 := Lib.hid hv
      have hvc1 := Lib.hid hvc
      have hlen1 : (len1 : Int) ≤ 8 := by omega
      clear hL w0 w1 hv hvz hvn hvc hkn hkk es ec1 eh esp hks
      generalize z0.take len0 = l0 at *
      go_enter Tryd.func5, Tryd.ntmps5
      go_wp2_with (go_at_call 8; (with_reducible refine hA.out.mono ?_); rintro e w1 ⟨rfl, hb1⟩; replace hb1 := Lib.hid hb1)
      go_loopw [6, 7, 8, 9] (fun bg ed ce i wr => ∃ (k : Nat) (ba : Option Addr) (bn bc : Nat) (ea : Option Addr) (en ec T : Nat), k ≤ len1 ∧ i = .int .i64 (k : Int) ∧ bg = .slice ba bn bc ∧ ed = .slice ea en ec ∧ ce = .int .i64 (T : Int) ∧ Hid (tot (ks.take k) = T) ∧ Hid (bn ≤ 2 * k) ∧ Hid (en ≤ k) ∧ Hid (On.Oz wr w1.heap.size 9 1 ba bn bc (strs (begL (ks.take k)))) ∧ Hid (On.Oz wr w1.heap.size 9 1 ea en ec (strs (endL (ks.take k)))) ∧ Hid ((Value.slice ea en ec).ownBlock = none ∨ (Value.slice ea en ec).ownBlock ≠ (Value.slice ba bn bc).ownBlock) ∧ Hid (Below w1.heap.size w1 wr)) (fun _ _ _ i _ => len1 - (intOf i).toNat)
      case atStart => exact ⟨0, none, 0, 0, none, 0, 0, 0, Nat.zero_le _, rfl, rfl, rfl, rfl, Lib.hid rfl, Lib.hid (Nat.le_refl _), Lib.hid (Nat.le_refl _), Lib.hid (On.Oz.nil _ _ _ _), Lib.hid (On.Oz.nil _ _ _ _), Lib.hid (.inl rfl), Lib.hid (Below.refl _ _)⟩
      case round =>
        obtain ⟨k, ba, bn, bc, ea, en, ec, T, hk, rfl, rfl, rfl, rfl, hT, hbn, hen, hOb, hOe, hne, hB⟩ := hrel
        have hTb : (0 : Int) ≤ (T : Int) ∧ (T : Int) ≤ 40 := by
          have h1 := tot_le (ks.take k)
          have h2 : (ks.take k).length ≤ 8 := by rw [List.length_take]; have := hl8.out; omega
          rw [hT.out] at h1
          omega
        by_cases h1 : k < len1
        · obtain ⟨kb, ko, ha, pk0, hz0, hz255, hzl⟩ := isRow_at hrow.out h1
          subst ha
          have hbw : Below w.heap.size w wr := since2 hb1.out hB.out
          have pk := (hbw.cell (p := ⟨kb, ko + k, none⟩) (World.block_lt_of_cell? _ _ pk0)).trans pk0
          have htk : Hid (ks.take (k + 1) = ks.take k ++ [Int.tmod (z1.getD k 0) 5]) := Lib.hid (by
            rw [hks2.out, kind_at (l := z1.take len1) (by rw [List.length_take]; omega)]
            simp [List.getD, h1])
          obtain ⟨c, hc⟩ : ∃ c, Int.tmod (z1.getD k 0) 5 = c := ⟨_, rfl⟩
          have hc4 : 0 ≤ c ∧ c ≤ 4 := by
            have h1 := Int.tmod_nonneg 5 hz0
            have h2 := Int.tmod_lt_of_pos (z1.getD k 0) (show (0 : Int) < 5 by decide)
            omega
          rw [hc] at htk
          generalize z1.getD k 0 = zz at *
          clear pk0 hbw hzl
          rcases (show c = 0 ∨ c = 1 ∨ c = 2 ∨ c = 3 ∨ c = 4 by omega) with rfl | rfl | rfl | rfl | rfl
          · obtain ⟨b', bc', v2, e', ec', v4, r1, r2, O1, O2, hne2, hB4⟩ := cl_step (m := 1) (Nb := bn + 1) (Ne := en + 1) (lo := [98]) (lc := [100]) (Cb := #[.string ⟨#[73, 70]⟩]) (Ce := #[.string ⟨#[84, 72, 69, 78]⟩]) hB.out hOb.out hOe.out hne.out rfl rfl rfl rfl rfl (Nat.add_comm _ _) (by have := hbn.out; have := hl8.out; omega) (by have := hen.out; have := hl8.out; omega)
            have hOb2 : Hid (On.Oz v4 w1.heap.size 9 1 b' (bn + 1) bc' (strs (begL (ks.take (k + 1))))) := Lib.hid (by rw [htk.out, begL_snoc]; exact O1)
            have hOe2 : Hid (On.Oz v4 w1.heap.size 9 1 e' (en + 1) ec' (strs (endL (ks.take (k + 1))))) := Lib.hid (by rw [htk.out, endL_snoc]; exact O2)
            have hT2 : Hid (tot (ks.take (k + 1)) = T + 2) := Lib.hid (by rw [htk.out, tot_snoc, hT.out]; rfl)
            have hbn2 : Hid (bn + 1 ≤ 2 * (k + 1)) := Lib.hid (by have := hbn.out; omega)
            have hen2 : Hid (en + 1 ≤ k + 1) := Lib.hid (by have := hen.out; omega)
            replace hne2 := Lib.hid hne2
            replace hB4 := Lib.hid hB4
            replace r1 := Lib.hid r1
            replace r2 := Lib.hid r2
            clear O1 O2
            go_wp2_with (first
              | (at_builtin; refine On.wpList_append_run rfl (.tmp 43) (.tmp 44) 36 rfl _ _ _ rfl rfl r1.out ?_)
              | (at_builtin; refine On.wpList_append_run rfl (.tmp 46) (.tmp 47) 36 rfl _ _ _ rfl rfl r2.out ?_))
            exact ⟨⟨k + 1, b', bn + 1, bc', e', en + 1, ec', T + 2, by omega, by go_num, rfl, rfl, by go_num, hT2, hbn2, hen2, hOb2, hOe2, hne2, hB4⟩, by simp only [intOf]; omega⟩
          · obtain ⟨b', bc', v2, e', ec', v4, r1, r2, O1, O2, hne2, hB4⟩ := cl_step (m := 2) (Nb := bn + 2) (Ne := en + 1) (lo := [98, 99]) (lc := [100]) (Cb := #[.string ⟨#[73, 70]⟩, .string ⟨#[69, 76, 83, 69]⟩]) (Ce := #[.string ⟨#[84, 72, 69, 78]⟩]) hB.out hOb.out hOe.out hne.out rfl rfl rfl rfl rfl (Nat.add_comm _ _) (by have := hbn.out; have := hl8.out; omega) (by have := hen.out; have := hl8.out; omega)
            have hOb2 : Hid (On.Oz v4 w1.heap.size 9 1 b' (bn + 2) bc' (strs (begL (ks.take (k + 1))))) := Lib.hid (by rw [htk.out, begL_snoc]; exact O1)
            have hOe2 : Hid (On.Oz v4 w1.heap.size 9 1 e' (en + 1) ec' (strs (endL (ks.take (k + 1))))) := Lib.hid (by rw [htk.out, endL_snoc]; exact O2)
            have hT2 : Hid (tot (ks.take (k + 1)) = T + 4) := Lib.hid (by rw [htk.out, tot_snoc, hT.out]; rfl)
            have hbn2 : Hid (bn + 2 ≤ 2 * (k + 1)) := Lib.hid (by have := hbn.out; omega)
            have hen2 : Hid (en + 1 ≤ k + 1) := Lib.hid (by have := hen.out; omega)
            replace hne2 := Lib.hid hne2
            replace hB4 := Lib.hid hB4
            replace r1 := Lib.hid r1
            replace r2 := Lib.hid r2
            clear O1 O2
            go_wp2_with (first
              | (at_builtin; refine On.wpList_append_run rfl (.tmp 53) (.tmp 54) 36 rfl _ _ _ rfl rfl r1.out ?_)
              | (at_builtin; refine On.wpList_append_run rfl (.tmp 56) (.tmp 57) 36 rfl _ _ _ rfl rfl r2.out ?_))
            exact ⟨⟨k + 1, b', bn + 2, bc', e', en + 1, ec', T + 4, by omega, by go_num, rfl, rfl, by go_num, hT2, hbn2, hen2, hOb2, hOe2, hne2, hB4⟩, by simp only [intOf]; omega⟩
          · obtain ⟨b', bc', v2, e', ec', v4, r1, r2, O1, O2, hne2, hB4⟩ := cl_step (m := 1) (Nb := bn + 1) (Ne := en + 1) (lo := [101]) (lc := [103]) (Cb := #[.string ⟨#[66, 69, 71, 73, 78]⟩]) (Ce := #[.string ⟨#[85, 78, 84, 73, 76]⟩]) hB.out hOb.out hOe.out hne.out rfl rfl rfl rfl rfl (Nat.add_comm _ _) (by have := hbn.out; have := hl8.out; omega) (by have := hen.out; have := hl8.out; omega)
            have hOb2 : Hid (On.Oz v4 w1.heap.size 9 1 b' (bn + 1) bc' (strs (begL (ks.take (k + 1))))) := Lib.hid (by rw [htk.out, begL_snoc]; exact O1)
            have hOe2 : Hid (On.Oz v4 w1.heap.size 9 1 e' (en + 1) ec' (strs (endL (ks.take (k + 1))))) := Lib.hid (by rw [htk.out, endL_snoc]; exact O2)
            have hT2 : Hid (tot (ks.take (k + 1)) = T + 2) := Lib.hid (by rw [htk.out, tot_snoc, hT.out]; rfl)
            have hbn2 : Hid (bn + 1 ≤ 2 * (k + 1)) := Lib.hid (by have := hbn.out; omega)
            have hen2 : Hid (en + 1 ≤ k + 1) := Lib.hid (by have := hen.out; omega)
            replace hne2 := Lib.hid hne2
            replace hB4 := Lib.hid hB4
            replace r1 := Lib.hid r1
            replace r2 := Lib.hid r2
            clear O1 O2
            go_wp2_with (first
              | (at_builtin; refine On.wpList_append_run rfl (.tmp 63) (.tmp 64) 36 rfl _ _ _ rfl rfl r1.out ?_)
              | (at_builtin; refine On.wpList_append_run rfl (.tmp 66) (.tmp 67) 36 rfl _ _ _ rfl rfl r2.out ?_))
            exact ⟨⟨k + 1, b', bn + 1, bc', e', en + 1, ec', T + 2, by omega, by go_num, rfl, rfl, by go_num, hT2, hbn2, hen2, hOb2, hOe2, hne2, hB4⟩, by simp only [intOf]; omega⟩
          · obtain ⟨b', bc', v2, e', ec', v4, r1, r2, O1, O2, hne2, hB4⟩ := cl_step (m := 2) (Nb := bn + 2) (Ne := en + 1) (lo := [101, 104]) (lc := [105]) (Cb := #[.string ⟨#[66, 69, 71, 73, 78]⟩, .string ⟨#[87, 72, 73, 76, 69]⟩]) (Ce := #[.string ⟨#[82, 69, 80, 69, 65, 84]⟩]) hB.out hOb.out hOe.out hne.out rfl rfl rfl rfl rfl (Nat.add_comm _ _) (by have := hbn.out; have := hl8.out; omega) (by have := hen.out; have := hl8.out; omega)
            have hOb2 : Hid (On.Oz v4 w1.heap.size 9 1 b' (bn + 2) bc' (strs (begL (ks.take (k + 1))))) := Lib.hid (by rw [htk.out, begL_snoc]; exact O1)
            have hOe2 : Hid (On.Oz v4 w1.heap.size 9 1 e' (en + 1) ec' (strs (endL (ks.take (k + 1))))) := Lib.hid (by rw [htk.out, endL_snoc]; exact O2)
            have hT2 : Hid (tot (ks.take (k + 1)) = T + 4) := Lib.hid (by rw [htk.out, tot_snoc, hT.out]; rfl)
            have hbn2 : Hid (bn + 2 ≤ 2 * (k + 1)) := Lib.hid (by have := hbn.out; omega)
            have hen2 : Hid (en + 1 ≤ k + 1) := Lib.hid (by have := hen.out; omega)
            replace hne2 := Lib.hid hne2
            replace hB4 := Lib.hid hB4
            replace r1 := Lib.hid r1
            replace r2 := Lib.hid r2
            clear O1 O2
            go_wp2_with (first
              | (at_builtin; refine On.wpList_append_run rfl (.tmp 73) (.tmp 74) 36 rfl _ _ _ rfl rfl r1.out ?_)
              | (at_builtin; refine On.wpList_append_run rfl (.tmp 76) (.tmp 77) 36 rfl _ _ _ rfl rfl r2.out ?_))
            exact ⟨⟨k + 1, b', bn + 2, bc', e', en + 1, ec', T + 4, by omega, by go_num, rfl, rfl, by go_num, hT2, hbn2, hen2, hOb2, hOe2, hne2, hB4⟩, by simp only [intOf]; omega⟩
          · obtain ⟨b', bc', v2, e', ec', v4, r1, r2, O1, O2, hne2, hB4⟩ := cl_step (m := 1) (Nb := bn + 1) (Ne := en + 1) (lo := [106]) (lc := [107]) (Cb := #[.string ⟨#[68, 79]⟩]) (Ce := #[.string ⟨#[76, 79, 79, 80]⟩]) hB.out hOb.out hOe.out hne.out rfl rfl rfl rfl rfl (Nat.add_comm _ _) (by have := hbn.out; have := hl8.out; omega) (by have := hen.out; have := hl8.out; omega)
            have hOb2 : Hid (On.Oz v4 w1.heap.size 9 1 b' (bn + 1) bc' (strs (begL (ks.take (k + 1))))) := Lib.hid (by rw [htk.out, begL_snoc]; exact O1)
            have hOe2 : Hid (On.Oz v4 w1.heap.size 9 1 e' (en + 1) ec' (strs (endL (ks.take (k + 1))))) := Lib.hid (by rw [htk.out, endL_snoc]; exact O2)
            have hT2 : Hid (tot (ks.take (k + 1)) = T + 4) := Lib.hid (by rw [htk.out, tot_snoc, hT.out]; rfl)
            have hbn2 : Hid (bn + 1 ≤ 2 * (k + 1)) := Lib.hid (by have := hbn.out; omega)
            have hen2 : Hid (en + 1 ≤ k + 1) := Lib.hid (by have := hen.out; omega)
            replace hne2 := Lib.hid hne2
            replace hB4 := Lib.hid hB4
            replace r1 := Lib.hid r1
            replace r2 := Lib.hid r2
            clear O1 O2
            go_wp2_with (first
              | (at_builtin; refine On.wpList_append_run rfl (.tmp 33) (.tmp 34) 36 rfl _ _ _ rfl rfl r1.out ?_)
              | (at_builtin; refine On.wpList_append_run rfl (.tmp 36) (.tmp 37) 36 rfl _ _ _ rfl rfl r2.out ?_))
            exact ⟨⟨k + 1, b', bn + 1, bc', e', en + 1, ec', T + 4, by omega, by go_num, rfl, rfl, by go_num, hT2, hbn2, hen2, hOb2, hOe2, hne2, hB4⟩, by simp only [intOf]; omega⟩
        · obtain rfl : len1 = k := by omega
          have htk : ks.take len1 = ks := List.take_of_length_le (by have := hkn2.out; omega)
          rw [htk] at hOb hOe hT
          obtain ⟨b', bc', v5, r5, z5, hB5⟩ := last_app (N := bn + en) hB.out hOb.out hOe.out rfl (by have := hbn.out; have := hen.out; have := hl8.out; omega)
          have hb5 : Hid (Below w.heap.size w v5) := Lib.hid (since2 hb1.out hB5)
          have hR := Lib.hid (clo_run hZ hL1.out hb5.out z5 (by have := hbn.out; have := hen.out; have := hl8.out; omega) (ends_ok (ks := ks)) hv1.out hvc1.out hl60.out hes.out)
          replace r5 := Lib.hid r5
          have heh2 : Hid (s.here = 8 * (T : Int)) := Lib.hid (by rw [heh.out, hT.out])
          have hesp2 : Hid (s.spots.length = T) := Lib.hid (by rw [hesp.out, hT.out])
          clear z5 hB5 htk
          go_wp2_with (first
            | (at_builtin; refine On.wpList_append_run rfl (.tmp 81) (.tmp 82) 36 rfl _ _ _ rfl rfl r5.out ?_)
            | (go_at_call 13
               (with_reducible refine hR.out.mono ?_)
               rintro e w6 ⟨Z1, rfl, hz1, hs1, hb6⟩
               have hW6 := Lib.hid (since2 hb5.out (new_row (Z := Z1) hb6))
               obtain ⟨sa, sc, ca, cn, cc, d8, d5, d3, hSm⟩ := clo_held (zis_held hz1.out) hec.out hesp2.out hvc1.out (hv1.out.below hW6.out)
               rw [heh2.out] at d8
               have q1 := hs1.out.1
               have kst1 := cells_at (ds := Z1) (Bx.new w6 28 zst) hs1.out.1.symm hs1.out.2)
            | (go_at_call 12; (with_reducible refine hSm.out.mono ?_); rintro e w8 ⟨rfl, hb8⟩; have hend := Lib.hid (since2 hW6.out hb8)))
          go_ret
          exact ⟨rfl, hend.out⟩

/-! ### the door's own heap meets the condition -/
theorem door_met (os : Os) (args : Array Value) : laidMetH Tryd.prog [("nostos/ops.words", Rows.laid_nostos_ops_words)] ((World.doorLaid Tryd.prog 14 os).forCall (fun _ _ => 0) ⟨#[], args, []⟩).memory :=
  laidMetH_of_parts3 (fuel := 8) (laidMet_of_run' 8 (by kernel_rfl) (by kernel_rfl)) (by kernel_rfl) (by kernel_rfl)

/-! ### the row's step -/
set_option maxRecDepth 100000 in
theorem lifted (os : Os) (started : os.Started) (H : Type) (enc : TypeId × Value → H) :
    ReturnsInHanded {} Tryd.checked os 5 .any (fun w args => (Rows.flowClosesSpec.pre enc Tryd.prog Tryd.f5 [] false w args ∧ laidMetH Tryd.prog [("nostos/ops.words", Rows.laid_nostos_ops_words)] w) ∧ sizedMet enc Tryd.prog Tryd.f5 (OpenSpec.ofChange Rows.flowClosesSpec) false w args)
      (Rows.flowClosesSpec.post enc Tryd.prog Tryd.f5 false true false false) := by
  refine returnsInHanded_of_change_and (C := Tryd.checked) (X := fun w _ => laidMetH Tryd.prog [("nostos/ops.words", Rows.laid_nostos_ops_words)] w) (fun _ _ _ hh h => h.of_heap hh) own started (by kernel_rfl) Tryd.func5
    (ChangeSpec.witness_shaped (enc := enc) (C := Tryd.checked) (os := os) (X := fun w _ => laidMetH Tryd.prog [("nostos/ops.words", Rows.laid_nostos_ops_words)] w) false (World.doorLaid Tryd.prog 14 os) #[.slice none 0 0, .slice none 0 0] 8 rfl (World.shaped_of_RefB (by kernel_rfl) (by kernel_rfl)) (by kernel_rfl) (by kernel_rfl) (by kernel_rfl) (door_met os _)) ?_
  intro W base args ds gs before hval0 hW _ _ hL0 _
  have hval : ∀ (j : Nat) t v, Tryd.f5.params[j]? = some t → args[j]? = some v → Value.okWide Tryd.prog W .any base t v := hval0
  have hW' := hW
  obtain ⟨p, q, hA0, hV, rfl, hfz, hnd⟩ := hW
  have hA : DataW.TrodAll enc Tryd.prog W 0 (fun _ => true) true Tryd.f5.params.toList args.toList ds p := hA0
  rw [Tryd.params5] at hA hval
  obtain ⟨v0, vs0, d0, ds0, p0, q0, hargs, rfl, rfl, h0, r0⟩ := trodAll_cons hA
  obtain ⟨v1, vs1, d1, ds1, p1, q1, rfl, rfl, rfl, h1, r1⟩ := trodAll_cons r0
  obtain ⟨rfl, rfl, rfl⟩ := trodAll_nil r1
  obtain rfl : args = #[v0, v1] := by cases args; simp_all
  obtain ⟨rfl, rfl⟩ := trodVars_none hV
  obtain ⟨a0, len0, cap0, rfl⟩ := okWide_slice Tryd.underlying23 (hval 0 23 v0 rfl rfl)
  have k0 := h0
  have lt0 : ∀ x ∈ p0, x.block < W.heap.size := by obtain ⟨m, hm⟩ := k0; exact DataW.trod_lt m _ _ _ hm
  obtain ⟨z0, w0⟩ : ∃ zs, IsRow .i64 W a0 len0 cap0 zs := by
    obtain ⟨fuel, hf⟩ := h0
    rcases open_ints Tryd.underlying23 Tryd.underlying3 (by kernel_rfl) hf with ⟨hcs, _⟩ | ⟨x, l, c, zs, hcs, _, hl, hm, hz, _, hcell, hwz⟩
    · simp [Value.cells] at hcs
      obtain ⟨rfl, rfl, rfl⟩ := hcs
      exact ⟨[], .inl ⟨rfl, rfl, rfl, rfl⟩⟩
    · simp [Value.cells] at hcs
      obtain ⟨rfl, rfl, rfl⟩ := hcs
      exact ⟨zs, .inr ⟨_, rfl, hl, hm, by simpa using hz, hcell, hwz⟩⟩
  obtain ⟨a1, len1, cap1, rfl⟩ := okWide_slice Tryd.underlying22 (hval 1 22 v1 rfl rfl)
  have k1 := h1
  have lt1 : ∀ x ∈ p1, x.block < W.heap.size := by obtain ⟨m, hm⟩ := k1; exact DataW.trod_lt m _ _ _ hm
  obtain ⟨z1, w1⟩ : ∃ zs, IsRow .u8 W a1 len1 cap1 zs := by
    obtain ⟨fuel, hf⟩ := h1
    rcases open_ints Tryd.underlying22 Tryd.underlying5 (by kernel_rfl) hf with ⟨hcs, _⟩ | ⟨x, l, c, zs, hcs, _, hl, hm, hz, _, hcell, hwz⟩
    · simp [Value.cells] at hcs
      obtain ⟨rfl, rfl, rfl⟩ := hcs
      exact ⟨[], .inl ⟨rfl, rfl, rfl, rfl⟩⟩
    · simp [Value.cells] at hcs
      obtain ⟨rfl, rfl, rfl⟩ := hcs
      exact ⟨zs, .inr ⟨_, rfl, hl, hm, by simpa using hz, hcell, hwz⟩⟩
  clear hA0 hval0
  refine (walk a0 len0 cap0 z0 a1 len1 cap1 z1 W (laid_of hL0) w0 w1).mono fun e W' ⟨he, bel⟩ => ?_
  subst he
  exact ⟨_, rfl, _, _, _, [], _, [], hW', trodAll_mk1 (shut_bool Tryd.underlying4 _), (trodAll_cons_mk (Below.trod laidOut (by kernel_rfl) (of_decide_eq_true (by kernel_rfl)) k0 bel lt0) (trodAll_cons_mk (Below.trod laidOut (by kernel_rfl) (of_decide_eq_true (by kernel_rfl)) k1 bel lt1) trodAll_mk0)), rfl, bel.frame _, fun h => by cases h⟩

theorem over : Rows.flowClosesRow.holds Tryd.pinned (OpenSpec.ofChange Rows.flowClosesSpec) :=
  OpenClaim.holds_of_wide 5 Tryd.f5 rfl rfl rfl rfl rfl rfl rfl ⟨rfl, rfl, rfl, rfl, rfl⟩ rfl rfl rfl rfl rfl (by kernel_rfl) Tryd.func5 (by kernel_rfl)
    (of_decide_eq_true (by kernel_rfl)) (by unfold Func.isWrapper; first | (rw [if_pos (by decide +kernel)]; kernel_rfl) | (rw [if_neg (by decide +kernel)]; exact ⟨rfl, rfl⟩))
    (fun os started H enc _ => lifted os started H enc)

/-- the statement -/
theorem proved : Rows.FlowClosesCardSaid := 
  Claim7.holds_tied_plain_at .later [] [.data] true (true, "f3f2b75b8fc397f3d2f26ea97f6eb4f70b7f640fd2b20bf7410f9139b8af2ab6") false
    over (fun _ h => by cases h) (by kernel_rfl) (fun _ h => by cases h) flowCloses_row_tie rfl ⟨rfl, rfl⟩ (by kernel_rfl) rfl
    (fun f fn hf hfn => by
      obtain rfl : f = 5 := Option.some.inj ((show Tryd.prog.funcNamed "nostos/nostoslaw11.FlowCloses" = some 5 by kernel_rfl).symm.trans hf) |>.symm
      obtain rfl : fn = Tryd.f5 := (Option.some.inj (Tryd.func5.symm.trans hfn)).symm
      exact ⟨by kernel_rfl, fun j t ht => by
        rw [Tryd.params5] at ht
        have hm : t ∈ [23, 22] := by simpa using Array.mem_of_getElem? ht
        have hall : ([23, 22].all fun u => !Tryd.prog.wantsStandIn u) = true := by kernel_rfl
        exact (show Tryd.prog.wantsStandIn t = false by simpa using List.all_eq_true.1 hall t hm)⟩)
    (by kernel_rfl)
#print axioms proved
end Go.Proofs.YtcjbfokindoicaaDoor.flowCloses
