/- The six maps of words: as tables, and their makers' contracts. Written by wip/gen/alumaps.py out of alu/words.go. -/
import Derived.Test.YtobijdfnafnodaaGreatDoorAluTab
namespace Go.Proofs.YtobijdfnafnodaaGreatDoor
set_option maxRecDepth 100000
open Go.ChangeShapes Go.WideShapes Go.ChangeAt Go.RowKit
open Sk (Sl ints Own)
set_option linter.unusedVariables false

abbrev layW (m : Nat) (ps : List Nat) : Phi := tk m (fun vs => .ok (cho ps vs))
abbrev oneW (h : Int → Except Int Int) : Phi := tk 1 (fun vs => lst (h (vs.getD 0 0)))
abbrev twoW (h : Int → Int → Int) : Phi := tk 2 (fun vs => .ok [h (vs.getD 0 0) (vs.getD 1 0)])
abbrev aoW (h : Int → Bool) : Phi := tk 1 (fun vs => .ok [Ce.flagI (h (vs.getD 0 0))])
abbrev atW (h : Int → Int → Bool) : Phi := tk 2 (fun vs => .ok [Ce.flagI (h (vs.getD 0 0) (vs.getD 1 0))])
abbrev asW (m : Nat) (h : List Int → Bool) : Phi := tk m (fun vs => .ok [Ce.flagI (h vs)])

theorem lays_new (W : World) (m : Nat) (ps : List Nat) (hl : ps.length ≤ 10) (hm : m ≤ 10) (hp : ∀ q ∈ ps, q < m) :
    Calls Tryz.prog 48 #[.int .i64 (m : Int), .slice (some ⟨W.heap.size, 0, none⟩) (nat ps).length (nat ps).length] (W.alloc (.cells (ints (nat ps)).toArray 3)) (Makes W (layW m ps)) := by
  obtain ⟨f1, f2⟩ := Sk.fresh W (nat ps) (by rw [nat_len]; omega)
  refine (lays_any _ m _ _ _ ps f1 (by rw [nat_len]; omega) hm hp).mono ?_
  rintro e w' ⟨G, rfl, hG, hb⟩
  exact ⟨G, rfl, hG, f2.trans (hb.mono f2.size)⟩
theorem lays_nil (W : World) (m : Nat) (hm : m ≤ 10) :
    Calls Tryz.prog 48 #[.int .i64 (m : Int), .slice none 0 0] W (Makes W (layW m [])) :=
  lays_any W m 0 0 none [] (Sl.zero W) (by decide) hm (by simp)
theorem divides_new (W : World) (ps : List Nat) (hl : ps.length ≤ 10) (hp : ∀ q ∈ ps, q < 2) :
    Calls Tryz.prog 75 #[.slice (some ⟨W.heap.size, 0, none⟩) (nat ps).length (nat ps).length] (W.alloc (.cells (ints (nat ps)).toArray 3)) (Makes W (tk 2 (divG ps))) := by
  obtain ⟨f1, f2⟩ := Sk.fresh W (nat ps) (by rw [nat_len]; omega)
  refine (divides_any _ _ _ _ ps f1 (by rw [nat_len]; omega) hp).mono ?_
  rintro e w' ⟨G, rfl, hG, hb⟩
  exact ⟨G, rfl, hG, f2.trans (hb.mono f2.size)⟩
theorem scales_new (W : World) (ps : List Nat) (hl : ps.length ≤ 10) (hp : ∀ q ∈ ps, q < 2) :
    Calls Tryz.prog 76 #[.slice (some ⟨W.heap.size, 0, none⟩) (nat ps).length (nat ps).length] (W.alloc (.cells (ints (nat ps)).toArray 3)) (Makes W (tk 3 (scaG ps))) := by
  obtain ⟨f1, f2⟩ := Sk.fresh W (nat ps) (by rw [nat_len]; omega)
  refine (scales_any _ _ _ _ ps f1 (by rw [nat_len]; omega) hp).mono ?_
  rintro e w' ⟨G, rfl, hG, hb⟩
  exact ⟨G, rfl, hG, f2.trans (hb.mono f2.size)⟩

theorem mk_0 (W : World) : Calls Tryz.prog 48 #[.int .i64 1, .slice (some ⟨W.heap.size, 0, none⟩) 2 2] (W.alloc (.cells #[.int .i64 0, .int .i64 0] 3)) (Makes W (layW 1 [0, 0])) := lays_new W 1 [0, 0] (by decide) (by decide) (by decide)
theorem mk_1 (W : World) : Calls Tryz.prog 48 #[.int .i64 1, .slice none 0 0] W (Makes W (layW 1 [])) := lays_nil W 1 (by decide)
theorem mk_2 (W : World) : Calls Tryz.prog 48 #[.int .i64 2, .slice (some ⟨W.heap.size, 0, none⟩) 2 2] (W.alloc (.cells #[.int .i64 1, .int .i64 0] 3)) (Makes W (layW 2 [1, 0])) := lays_new W 2 [1, 0] (by decide) (by decide) (by decide)
theorem mk_3 (W : World) : Calls Tryz.prog 48 #[.int .i64 2, .slice (some ⟨W.heap.size, 0, none⟩) 3 3] (W.alloc (.cells #[.int .i64 0, .int .i64 1, .int .i64 0] 3)) (Makes W (layW 2 [0, 1, 0])) := lays_new W 2 [0, 1, 0] (by decide) (by decide) (by decide)
theorem mk_4 (W : World) : Calls Tryz.prog 48 #[.int .i64 3, .slice (some ⟨W.heap.size, 0, none⟩) 3 3] (W.alloc (.cells #[.int .i64 1, .int .i64 2, .int .i64 0] 3)) (Makes W (layW 3 [1, 2, 0])) := lays_new W 3 [1, 2, 0] (by decide) (by decide) (by decide)
theorem mk_5 (W : World) : Calls Tryz.prog 48 #[.int .i64 2, .slice (some ⟨W.heap.size, 0, none⟩) 1 1] (W.alloc (.cells #[.int .i64 1] 3)) (Makes W (layW 2 [1])) := lays_new W 2 [1] (by decide) (by decide) (by decide)
theorem mk_6 (W : World) : Calls Tryz.prog 48 #[.int .i64 2, .slice (some ⟨W.heap.size, 0, none⟩) 3 3] (W.alloc (.cells #[.int .i64 1, .int .i64 0, .int .i64 1] 3)) (Makes W (layW 2 [1, 0, 1])) := lays_new W 2 [1, 0, 1] (by decide) (by decide) (by decide)
theorem mk_7 (W : World) : Calls Tryz.prog 49 #[.int .i64 1, .func (.func 50) #[] #[]] W (Makes W (tk 1 twiG)) := taking1_any W _ _ (twice_is W)
theorem mk_8 (W : World) : Calls Tryz.prog 48 #[.int .i64 2, .slice (some ⟨W.heap.size, 0, none⟩) 4 4] (W.alloc (.cells #[.int .i64 0, .int .i64 1, .int .i64 0, .int .i64 1] 3)) (Makes W (layW 2 [0, 1, 0, 1])) := lays_new W 2 [0, 1, 0, 1] (by decide) (by decide) (by decide)
theorem mk_9 (W : World) : Calls Tryz.prog 48 #[.int .i64 2, .slice none 0 0] W (Makes W (layW 2 [])) := lays_nil W 2 (by decide)
theorem mk_10 (W : World) : Calls Tryz.prog 48 #[.int .i64 4, .slice (some ⟨W.heap.size, 0, none⟩) 4 4] (W.alloc (.cells #[.int .i64 2, .int .i64 3, .int .i64 0, .int .i64 1] 3)) (Makes W (layW 4 [2, 3, 0, 1])) := lays_new W 4 [2, 3, 0, 1] (by decide) (by decide) (by decide)
theorem mk_11 (W : World) : Calls Tryz.prog 48 #[.int .i64 4, .slice (some ⟨W.heap.size, 0, none⟩) 6 6] (W.alloc (.cells #[.int .i64 0, .int .i64 1, .int .i64 2, .int .i64 3, .int .i64 0, .int .i64 1] 3)) (Makes W (layW 4 [0, 1, 2, 3, 0, 1])) := lays_new W 4 [0, 1, 2, 3, 0, 1] (by decide) (by decide) (by decide)
def tb0 : Tbl := [([68, 85, 80], layW 1 [0, 0]),
  ([68, 82, 79, 80], layW 1 []),
  ([83, 87, 65, 80], layW 2 [1, 0]),
  ([79, 86, 69, 82], layW 2 [0, 1, 0]),
  ([82, 79, 84], layW 3 [1, 2, 0]),
  ([78, 73, 80], layW 2 [1]),
  ([84, 85, 67, 75], layW 2 [1, 0, 1]),
  ([63, 68, 85, 80], tk 1 twiG),
  ([50, 68, 85, 80], layW 2 [0, 1, 0, 1]),
  ([50, 68, 82, 79, 80], layW 2 []),
  ([50, 83, 87, 65, 80], layW 4 [2, 3, 0, 1]),
  ([50, 79, 86, 69, 82], layW 4 [0, 1, 2, 3, 0, 1]),
  ([80, 73, 67, 75], pickF),
  ([82, 79, 76, 76], rollF),
  ([68, 69, 80, 84, 72], highF)]
set_option maxHeartbeats 2000000 in
theorem ofPlaces_any (w : World) : Calls Tryz.prog 29 #[] w fun e w' => ∃ B, e = .returned (.map (some B)) ∧ MapIs w' B tb0 ∧ Below w.heap.size w w' := by
  have hmm := make_map w
  have hT := Lib.hid (Tab.begin w)
  generalize w.alloc (.map #[] 0) = V0 at *
  go_enter Tryz.func29, Tryz.ntmps29
  go_wp2_with (first | (go_at_call 48; (with_reducible refine (mk_0 _).mono ?_); rintro e w0 ⟨G0, rfl, hG, hb⟩; obtain ⟨x0, r0, hT⟩ := hT.out.next hb hG ⟨#[68, 85, 80]⟩ [68, 85, 80] rfl rfl rfl; replace hT := Lib.hid hT; clear hG hb) | (go_at_call 48; (with_reducible refine (mk_1 _).mono ?_); rintro e w1 ⟨G1, rfl, hG, hb⟩; obtain ⟨x1, r1, hT⟩ := hT.out.next hb hG ⟨#[68, 82, 79, 80]⟩ [68, 82, 79, 80] rfl rfl rfl; replace hT := Lib.hid hT; clear hG hb) | (go_at_call 48; (with_reducible refine (mk_2 _).mono ?_); rintro e w2 ⟨G2, rfl, hG, hb⟩; obtain ⟨x2, r2, hT⟩ := hT.out.next hb hG ⟨#[83, 87, 65, 80]⟩ [83, 87, 65, 80] rfl rfl rfl; replace hT := Lib.hid hT; clear hG hb) | (go_at_call 48; (with_reducible refine (mk_3 _).mono ?_); rintro e w3 ⟨G3, rfl, hG, hb⟩; obtain ⟨x3, r3, hT⟩ := hT.out.next hb hG ⟨#[79, 86, 69, 82]⟩ [79, 86, 69, 82] rfl rfl rfl; replace hT := Lib.hid hT; clear hG hb) | (go_at_call 48; (with_reducible refine (mk_4 _).mono ?_); rintro e w4 ⟨G4, rfl, hG, hb⟩; obtain ⟨x4, r4, hT⟩ := hT.out.next hb hG ⟨#[82, 79, 84]⟩ [82, 79, 84] rfl rfl rfl; replace hT := Lib.hid hT; clear hG hb) | (go_at_call 48; (with_reducible refine (mk_5 _).mono ?_); rintro e w5 ⟨G5, rfl, hG, hb⟩; obtain ⟨x5, r5, hT⟩ := hT.out.next hb hG ⟨#[78, 73, 80]⟩ [78, 73, 80] rfl rfl rfl; replace hT := Lib.hid hT; clear hG hb) | (go_at_call 48; (with_reducible refine (mk_6 _).mono ?_); rintro e w6 ⟨G6, rfl, hG, hb⟩; obtain ⟨x6, r6, hT⟩ := hT.out.next hb hG ⟨#[84, 85, 67, 75]⟩ [84, 85, 67, 75] rfl rfl rfl; replace hT := Lib.hid hT; clear hG hb) | (go_at_call 49; (with_reducible refine (mk_7 _).mono ?_); rintro e w7 ⟨G7, rfl, hG, hb⟩; obtain ⟨x7, r7, hT⟩ := hT.out.next hb hG ⟨#[63, 68, 85, 80]⟩ [63, 68, 85, 80] rfl rfl rfl; replace hT := Lib.hid hT; clear hG hb) | (go_at_call 48; (with_reducible refine (mk_8 _).mono ?_); rintro e w8 ⟨G8, rfl, hG, hb⟩; obtain ⟨x8, r8, hT⟩ := hT.out.next hb hG ⟨#[50, 68, 85, 80]⟩ [50, 68, 85, 80] rfl rfl rfl; replace hT := Lib.hid hT; clear hG hb) | (go_at_call 48; (with_reducible refine (mk_9 _).mono ?_); rintro e w9 ⟨G9, rfl, hG, hb⟩; obtain ⟨x9, r9, hT⟩ := hT.out.next hb hG ⟨#[50, 68, 82, 79, 80]⟩ [50, 68, 82, 79, 80] rfl rfl rfl; replace hT := Lib.hid hT; clear hG hb) | (go_at_call 48; (with_reducible refine (mk_10 _).mono ?_); rintro e w10 ⟨G10, rfl, hG, hb⟩; obtain ⟨x10, r10, hT⟩ := hT.out.next hb hG ⟨#[50, 83, 87, 65, 80]⟩ [50, 83, 87, 65, 80] rfl rfl rfl; replace hT := Lib.hid hT; clear hG hb) | (go_at_call 48; (with_reducible refine (mk_11 _).mono ?_); rintro e w11 ⟨G11, rfl, hG, hb⟩; obtain ⟨x11, r11, hT⟩ := hT.out.next hb hG ⟨#[50, 79, 86, 69, 82]⟩ [50, 79, 86, 69, 82] rfl rfl rfl; replace hT := Lib.hid hT; clear hG hb; obtain ⟨x12, r12, hT⟩ := hT.out.next (Below.refl _ _) (pick_is _) ⟨#[80, 73, 67, 75]⟩ [80, 73, 67, 75] rfl rfl rfl; replace hT := Lib.hid hT; obtain ⟨x13, r13, hT⟩ := hT.out.next (Below.refl _ _) (roll_is _) ⟨#[82, 79, 76, 76]⟩ [82, 79, 76, 76] rfl rfl rfl; replace hT := Lib.hid hT; obtain ⟨x14, r14, hT⟩ := hT.out.next (Below.refl _ _) (height_is _) ⟨#[68, 69, 80, 84, 72]⟩ [68, 69, 80, 84, 72] rfl rfl rfl; replace hT := Lib.hid hT))
  go_ret
  exact ⟨_, rfl, hT.out.map, hT.out.below⟩

theorem mk_15 (W : World) : Calls Tryz.prog 54 #[.func (.func 55) #[] #[]] W (Makes W (oneW (fun x => .ok (wrap64 (x + 1))))) := one_any W _ _ (one_1 W)
theorem mk_16 (W : World) : Calls Tryz.prog 54 #[.func (.func 56) #[] #[]] W (Makes W (oneW (fun x => .ok (wrap64 (x - 1))))) := one_any W _ _ (one_2 W)
theorem mk_17 (W : World) : Calls Tryz.prog 54 #[.func (.func 57) #[] #[]] W (Makes W (oneW (fun x => .ok (wrap64 (x * 2))))) := one_any W _ _ (one_3 W)
theorem mk_18 (W : World) : Calls Tryz.prog 54 #[.func (.func 58) #[] #[]] W (Makes W (oneW (fun x => .ok (x / 2)))) := one_any W _ _ (one_4 W)
theorem mk_19 (W : World) : Calls Tryz.prog 54 #[.func (.func 59) #[] #[]] W (Makes W (oneW (fun x => .ok (wrap64 (-x))))) := one_any W _ _ (one_5 W)
theorem mk_20 (W : World) : Calls Tryz.prog 54 #[.func (.func 60) #[] #[]] W (Makes W (oneW (fun x => .ok (max x (wrap64 (-x)))))) := one_any W _ _ (one_6 W)
theorem mk_21 (W : World) : Calls Tryz.prog 54 #[.func (.func 61) #[] #[]] W (Makes W (oneW (fun x => .ok (-1 - x)))) := one_any W _ _ (one_7 W)
theorem mk_22 (W : World) : Calls Tryz.prog 54 #[.func (.func 62) #[] #[]] W (Makes W (oneW (fun x => .ok (wrap64 (x * 8))))) := one_any W _ _ (one_8 W)
theorem mk_23 (W : World) : Calls Tryz.prog 54 #[.func (.func 63) #[] #[]] W (Makes W (oneW (fun x => .ok (wrap64 (x + 8))))) := one_any W _ _ (one_9 W)
def tb1 : Tbl := [([49, 43], oneW (fun x => .ok (wrap64 (x + 1)))),
  ([49, 45], oneW (fun x => .ok (wrap64 (x - 1)))),
  ([50, 42], oneW (fun x => .ok (wrap64 (x * 2)))),
  ([50, 47], oneW (fun x => .ok (x / 2))),
  ([78, 69, 71, 65, 84, 69], oneW (fun x => .ok (wrap64 (-x)))),
  ([65, 66, 83], oneW (fun x => .ok (max x (wrap64 (-x))))),
  ([73, 78, 86, 69, 82, 84], oneW (fun x => .ok (-1 - x))),
  ([67, 69, 76, 76, 83], oneW (fun x => .ok (wrap64 (x * 8)))),
  ([67, 69, 76, 76, 43], oneW (fun x => .ok (wrap64 (x + 8))))]
set_option maxHeartbeats 2000000 in
theorem ofOne_any (w : World) : Calls Tryz.prog 30 #[] w fun e w' => ∃ B, e = .returned (.map (some B)) ∧ MapIs w' B tb1 ∧ Below w.heap.size w w' := by
  have hmm := make_map w
  have hT := Lib.hid (Tab.begin w)
  generalize w.alloc (.map #[] 0) = V0 at *
  go_enter Tryz.func30, Tryz.ntmps30
  go_wp2_with (first | (go_at_call 54; (with_reducible refine (mk_15 _).mono ?_); rintro e w15 ⟨G15, rfl, hG, hb⟩; obtain ⟨x15, r15, hT⟩ := hT.out.next hb hG ⟨#[49, 43]⟩ [49, 43] rfl rfl rfl; replace hT := Lib.hid hT; clear hG hb) | (go_at_call 54; (with_reducible refine (mk_16 _).mono ?_); rintro e w16 ⟨G16, rfl, hG, hb⟩; obtain ⟨x16, r16, hT⟩ := hT.out.next hb hG ⟨#[49, 45]⟩ [49, 45] rfl rfl rfl; replace hT := Lib.hid hT; clear hG hb) | (go_at_call 54; (with_reducible refine (mk_17 _).mono ?_); rintro e w17 ⟨G17, rfl, hG, hb⟩; obtain ⟨x17, r17, hT⟩ := hT.out.next hb hG ⟨#[50, 42]⟩ [50, 42] rfl rfl rfl; replace hT := Lib.hid hT; clear hG hb) | (go_at_call 54; (with_reducible refine (mk_18 _).mono ?_); rintro e w18 ⟨G18, rfl, hG, hb⟩; obtain ⟨x18, r18, hT⟩ := hT.out.next hb hG ⟨#[50, 47]⟩ [50, 47] rfl rfl rfl; replace hT := Lib.hid hT; clear hG hb) | (go_at_call 54; (with_reducible refine (mk_19 _).mono ?_); rintro e w19 ⟨G19, rfl, hG, hb⟩; obtain ⟨x19, r19, hT⟩ := hT.out.next hb hG ⟨#[78, 69, 71, 65, 84, 69]⟩ [78, 69, 71, 65, 84, 69] rfl rfl rfl; replace hT := Lib.hid hT; clear hG hb) | (go_at_call 54; (with_reducible refine (mk_20 _).mono ?_); rintro e w20 ⟨G20, rfl, hG, hb⟩; obtain ⟨x20, r20, hT⟩ := hT.out.next hb hG ⟨#[65, 66, 83]⟩ [65, 66, 83] rfl rfl rfl; replace hT := Lib.hid hT; clear hG hb) | (go_at_call 54; (with_reducible refine (mk_21 _).mono ?_); rintro e w21 ⟨G21, rfl, hG, hb⟩; obtain ⟨x21, r21, hT⟩ := hT.out.next hb hG ⟨#[73, 78, 86, 69, 82, 84]⟩ [73, 78, 86, 69, 82, 84] rfl rfl rfl; replace hT := Lib.hid hT; clear hG hb) | (go_at_call 54; (with_reducible refine (mk_22 _).mono ?_); rintro e w22 ⟨G22, rfl, hG, hb⟩; obtain ⟨x22, r22, hT⟩ := hT.out.next hb hG ⟨#[67, 69, 76, 76, 83]⟩ [67, 69, 76, 76, 83] rfl rfl rfl; replace hT := Lib.hid hT; clear hG hb) | (go_at_call 54; (with_reducible refine (mk_23 _).mono ?_); rintro e w23 ⟨G23, rfl, hG, hb⟩; obtain ⟨x23, r23, hT⟩ := hT.out.next hb hG ⟨#[67, 69, 76, 76, 43]⟩ [67, 69, 76, 76, 43] rfl rfl rfl; replace hT := Lib.hid hT; clear hG hb))
  go_ret
  exact ⟨_, rfl, hT.out.map, hT.out.below⟩

theorem mk_24 (W : World) : Calls Tryz.prog 64 #[.func (.func 65) #[] #[]] W (Makes W (twoW (fun x y => wrap64 (x + y)))) := two_any W _ _ (two_1 W)
theorem mk_25 (W : World) : Calls Tryz.prog 64 #[.func (.func 66) #[] #[]] W (Makes W (twoW (fun x y => wrap64 (x - y)))) := two_any W _ _ (two_2 W)
theorem mk_26 (W : World) : Calls Tryz.prog 64 #[.func (.func 67) #[] #[]] W (Makes W (twoW (fun x y => wrap64 (x * y)))) := two_any W _ _ (two_3 W)
theorem mk_27 (W : World) : Calls Tryz.prog 64 #[.func (.func 68) #[] #[]] W (Makes W (twoW (fun x y => min x y))) := two_any W _ _ (two_4 W)
theorem mk_28 (W : World) : Calls Tryz.prog 64 #[.func (.func 69) #[] #[]] W (Makes W (twoW (fun x y => max x y))) := two_any W _ _ (two_5 W)
theorem mk_29 (W : World) : Calls Tryz.prog 64 #[.func (.func 70) #[] #[]] W (Makes W (twoW (fun x y => bits .and .i64 x y))) := two_any W _ _ (two_6 W)
theorem mk_30 (W : World) : Calls Tryz.prog 64 #[.func (.func 71) #[] #[]] W (Makes W (twoW (fun x y => bits .or .i64 x y))) := two_any W _ _ (two_7 W)
theorem mk_31 (W : World) : Calls Tryz.prog 64 #[.func (.func 72) #[] #[]] W (Makes W (twoW (fun x y => bits .xor .i64 x y))) := two_any W _ _ (two_8 W)
theorem mk_32 (W : World) : Calls Tryz.prog 64 #[.func (.func 73) #[] #[]] W (Makes W (twoW Ce.lshI)) := two_any W _ _ (two_left W)
theorem mk_33 (W : World) : Calls Tryz.prog 64 #[.func (.func 74) #[] #[]] W (Makes W (twoW Ce.rshI)) := two_any W _ _ (two_right W)
def tb2 : Tbl := [([43], twoW (fun x y => wrap64 (x + y))),
  ([45], twoW (fun x y => wrap64 (x - y))),
  ([42], twoW (fun x y => wrap64 (x * y))),
  ([77, 73, 78], twoW (fun x y => min x y)),
  ([77, 65, 88], twoW (fun x y => max x y)),
  ([65, 78, 68], twoW (fun x y => bits .and .i64 x y)),
  ([79, 82], twoW (fun x y => bits .or .i64 x y)),
  ([88, 79, 82], twoW (fun x y => bits .xor .i64 x y)),
  ([76, 83, 72, 73, 70, 84], twoW Ce.lshI),
  ([82, 83, 72, 73, 70, 84], twoW Ce.rshI)]
set_option maxHeartbeats 2000000 in
theorem ofTwo_any (w : World) : Calls Tryz.prog 31 #[] w fun e w' => ∃ B, e = .returned (.map (some B)) ∧ MapIs w' B tb2 ∧ Below w.heap.size w w' := by
  have hmm := make_map w
  have hT := Lib.hid (Tab.begin w)
  generalize w.alloc (.map #[] 0) = V0 at *
  go_enter Tryz.func31, Tryz.ntmps31
  go_wp2_with (first | (go_at_call 64; (with_reducible refine (mk_24 _).mono ?_); rintro e w24 ⟨G24, rfl, hG, hb⟩; obtain ⟨x24, r24, hT⟩ := hT.out.next hb hG ⟨#[43]⟩ [43] rfl rfl rfl; replace hT := Lib.hid hT; clear hG hb) | (go_at_call 64; (with_reducible refine (mk_25 _).mono ?_); rintro e w25 ⟨G25, rfl, hG, hb⟩; obtain ⟨x25, r25, hT⟩ := hT.out.next hb hG ⟨#[45]⟩ [45] rfl rfl rfl; replace hT := Lib.hid hT; clear hG hb) | (go_at_call 64; (with_reducible refine (mk_26 _).mono ?_); rintro e w26 ⟨G26, rfl, hG, hb⟩; obtain ⟨x26, r26, hT⟩ := hT.out.next hb hG ⟨#[42]⟩ [42] rfl rfl rfl; replace hT := Lib.hid hT; clear hG hb) | (go_at_call 64; (with_reducible refine (mk_27 _).mono ?_); rintro e w27 ⟨G27, rfl, hG, hb⟩; obtain ⟨x27, r27, hT⟩ := hT.out.next hb hG ⟨#[77, 73, 78]⟩ [77, 73, 78] rfl rfl rfl; replace hT := Lib.hid hT; clear hG hb) | (go_at_call 64; (with_reducible refine (mk_28 _).mono ?_); rintro e w28 ⟨G28, rfl, hG, hb⟩; obtain ⟨x28, r28, hT⟩ := hT.out.next hb hG ⟨#[77, 65, 88]⟩ [77, 65, 88] rfl rfl rfl; replace hT := Lib.hid hT; clear hG hb) | (go_at_call 64; (with_reducible refine (mk_29 _).mono ?_); rintro e w29 ⟨G29, rfl, hG, hb⟩; obtain ⟨x29, r29, hT⟩ := hT.out.next hb hG ⟨#[65, 78, 68]⟩ [65, 78, 68] rfl rfl rfl; replace hT := Lib.hid hT; clear hG hb) | (go_at_call 64; (with_reducible refine (mk_30 _).mono ?_); rintro e w30 ⟨G30, rfl, hG, hb⟩; obtain ⟨x30, r30, hT⟩ := hT.out.next hb hG ⟨#[79, 82]⟩ [79, 82] rfl rfl rfl; replace hT := Lib.hid hT; clear hG hb) | (go_at_call 64; (with_reducible refine (mk_31 _).mono ?_); rintro e w31 ⟨G31, rfl, hG, hb⟩; obtain ⟨x31, r31, hT⟩ := hT.out.next hb hG ⟨#[88, 79, 82]⟩ [88, 79, 82] rfl rfl rfl; replace hT := Lib.hid hT; clear hG hb) | (go_at_call 64; (with_reducible refine (mk_32 _).mono ?_); rintro e w32 ⟨G32, rfl, hG, hb⟩; obtain ⟨x32, r32, hT⟩ := hT.out.next hb hG ⟨#[76, 83, 72, 73, 70, 84]⟩ [76, 83, 72, 73, 70, 84] rfl rfl rfl; replace hT := Lib.hid hT; clear hG hb) | (go_at_call 64; (with_reducible refine (mk_33 _).mono ?_); rintro e w33 ⟨G33, rfl, hG, hb⟩; obtain ⟨x33, r33, hT⟩ := hT.out.next hb hG ⟨#[82, 83, 72, 73, 70, 84]⟩ [82, 83, 72, 73, 70, 84] rfl rfl rfl; replace hT := Lib.hid hT; clear hG hb))
  go_ret
  exact ⟨_, rfl, hT.out.map, hT.out.below⟩

theorem mk_34 (W : World) : Calls Tryz.prog 75 #[.slice (some ⟨W.heap.size, 0, none⟩) 1 1] (W.alloc (.cells #[.int .i64 1] 3)) (Makes W (tk 2 (divG [1]))) := divides_new W [1] (by decide) (by decide)
theorem mk_35 (W : World) : Calls Tryz.prog 75 #[.slice (some ⟨W.heap.size, 0, none⟩) 1 1] (W.alloc (.cells #[.int .i64 0] 3)) (Makes W (tk 2 (divG [0]))) := divides_new W [0] (by decide) (by decide)
theorem mk_36 (W : World) : Calls Tryz.prog 75 #[.slice (some ⟨W.heap.size, 0, none⟩) 2 2] (W.alloc (.cells #[.int .i64 0, .int .i64 1] 3)) (Makes W (tk 2 (divG [0, 1]))) := divides_new W [0, 1] (by decide) (by decide)
theorem mk_37 (W : World) : Calls Tryz.prog 76 #[.slice (some ⟨W.heap.size, 0, none⟩) 1 1] (W.alloc (.cells #[.int .i64 1] 3)) (Makes W (tk 3 (scaG [1]))) := scales_new W [1] (by decide) (by decide)
theorem mk_38 (W : World) : Calls Tryz.prog 76 #[.slice (some ⟨W.heap.size, 0, none⟩) 2 2] (W.alloc (.cells #[.int .i64 0, .int .i64 1] 3)) (Makes W (tk 3 (scaG [0, 1]))) := scales_new W [0, 1] (by decide) (by decide)
def tb3 : Tbl := [([47], tk 2 (divG [1])),
  ([77, 79, 68], tk 2 (divG [0])),
  ([47, 77, 79, 68], tk 2 (divG [0, 1])),
  ([42, 47], tk 3 (scaG [1])),
  ([42, 47, 77, 79, 68], tk 3 (scaG [0, 1]))]
set_option maxHeartbeats 2000000 in
theorem ofQuotients_any (w : World) : Calls Tryz.prog 32 #[] w fun e w' => ∃ B, e = .returned (.map (some B)) ∧ MapIs w' B tb3 ∧ Below w.heap.size w w' := by
  have hmm := make_map w
  have hT := Lib.hid (Tab.begin w)
  generalize w.alloc (.map #[] 0) = V0 at *
  go_enter Tryz.func32, Tryz.ntmps32
  go_wp2_with (first | (go_at_call 75; (with_reducible refine (mk_34 _).mono ?_); rintro e w34 ⟨G34, rfl, hG, hb⟩; obtain ⟨x34, r34, hT⟩ := hT.out.next hb hG ⟨#[47]⟩ [47] rfl rfl rfl; replace hT := Lib.hid hT; clear hG hb) | (go_at_call 75; (with_reducible refine (mk_35 _).mono ?_); rintro e w35 ⟨G35, rfl, hG, hb⟩; obtain ⟨x35, r35, hT⟩ := hT.out.next hb hG ⟨#[77, 79, 68]⟩ [77, 79, 68] rfl rfl rfl; replace hT := Lib.hid hT; clear hG hb) | (go_at_call 75; (with_reducible refine (mk_36 _).mono ?_); rintro e w36 ⟨G36, rfl, hG, hb⟩; obtain ⟨x36, r36, hT⟩ := hT.out.next hb hG ⟨#[47, 77, 79, 68]⟩ [47, 77, 79, 68] rfl rfl rfl; replace hT := Lib.hid hT; clear hG hb) | (go_at_call 76; (with_reducible refine (mk_37 _).mono ?_); rintro e w37 ⟨G37, rfl, hG, hb⟩; obtain ⟨x37, r37, hT⟩ := hT.out.next hb hG ⟨#[42, 47]⟩ [42, 47] rfl rfl rfl; replace hT := Lib.hid hT; clear hG hb) | (go_at_call 76; (with_reducible refine (mk_38 _).mono ?_); rintro e w38 ⟨G38, rfl, hG, hb⟩; obtain ⟨x38, r38, hT⟩ := hT.out.next hb hG ⟨#[42, 47, 77, 79, 68]⟩ [42, 47, 77, 79, 68] rfl rfl rfl; replace hT := Lib.hid hT; clear hG hb))
  go_ret
  exact ⟨_, rfl, hT.out.map, hT.out.below⟩

theorem mk_39 (W : World) : Calls Tryz.prog 77 #[.func (.func 78) #[] #[]] W (Makes W (atW (fun x y => x == y))) := askstwo_any W _ _ (ask2_1 W)
theorem mk_40 (W : World) : Calls Tryz.prog 77 #[.func (.func 79) #[] #[]] W (Makes W (atW (fun x y => x != y))) := askstwo_any W _ _ (ask2_2 W)
theorem mk_41 (W : World) : Calls Tryz.prog 77 #[.func (.func 80) #[] #[]] W (Makes W (atW (fun x y => decide (x < y)))) := askstwo_any W _ _ (ask2_3 W)
theorem mk_42 (W : World) : Calls Tryz.prog 77 #[.func (.func 81) #[] #[]] W (Makes W (atW (fun x y => decide (y < x)))) := askstwo_any W _ _ (ask2_4 W)
theorem mk_43 (W : World) : Calls Tryz.prog 77 #[.func (.func 82) #[] #[]] W (Makes W (atW Ce.belB)) := askstwo_any W _ _ (ask2_below W)
theorem mk_44 (W : World) : Calls Tryz.prog 83 #[.func (.func 84) #[] #[]] W (Makes W (aoW (fun x => x == 0))) := asksone_any W _ _ (ask1_5 W)
theorem mk_45 (W : World) : Calls Tryz.prog 83 #[.func (.func 85) #[] #[]] W (Makes W (aoW (fun x => decide (x < 0)))) := asksone_any W _ _ (ask1_6 W)
theorem mk_46 (W : World) : Calls Tryz.prog 83 #[.func (.func 86) #[] #[]] W (Makes W (aoW (fun x => x != 0))) := asksone_any W _ _ (ask1_7 W)
theorem mk_47 (W : World) : Calls Tryz.prog 83 #[.func (.func 87) #[] #[]] W (Makes W (aoW (fun x => decide (0 < x)))) := asksone_any W _ _ (ask1_8 W)
theorem mk_48 (W : World) : Calls Tryz.prog 88 #[.int .i64 3, .func (.func 89) #[] #[]] W (Makes W (asW 3 witB)) := asks_any W _ 3 _ (within_is W) (by decide)
theorem mk_49 (W : World) : Calls Tryz.prog 88 #[.int .i64 0, .func (.func 91) #[] #[]] W (Makes W (asW 0 (fun _ => true))) := asks_any W _ 0 _ (true_is W) (by decide)
theorem mk_50 (W : World) : Calls Tryz.prog 88 #[.int .i64 0, .func (.func 92) #[] #[]] W (Makes W (asW 0 (fun _ => false))) := asks_any W _ 0 _ (false_is W) (by decide)
def tb4 : Tbl := [([61], atW (fun x y => x == y)),
  ([60, 62], atW (fun x y => x != y)),
  ([60], atW (fun x y => decide (x < y))),
  ([62], atW (fun x y => decide (y < x))),
  ([85, 60], atW Ce.belB),
  ([48, 61], aoW (fun x => x == 0)),
  ([48, 60], aoW (fun x => decide (x < 0))),
  ([48, 60, 62], aoW (fun x => x != 0)),
  ([48, 62], aoW (fun x => decide (0 < x))),
  ([87, 73, 84, 72, 73, 78], asW 3 witB),
  ([84, 82, 85, 69], asW 0 (fun _ => true)),
  ([70, 65, 76, 83, 69], asW 0 (fun _ => false))]
set_option maxHeartbeats 2000000 in
theorem ofQuestions_any (w : World) : Calls Tryz.prog 33 #[] w fun e w' => ∃ B, e = .returned (.map (some B)) ∧ MapIs w' B tb4 ∧ Below w.heap.size w w' := by
  have hmm := make_map w
  have hT := Lib.hid (Tab.begin w)
  generalize w.alloc (.map #[] 0) = V0 at *
  go_enter Tryz.func33, Tryz.ntmps33
  go_wp2_with (first | (go_at_call 77; (with_reducible refine (mk_39 _).mono ?_); rintro e w39 ⟨G39, rfl, hG, hb⟩; obtain ⟨x39, r39, hT⟩ := hT.out.next hb hG ⟨#[61]⟩ [61] rfl rfl rfl; replace hT := Lib.hid hT; clear hG hb) | (go_at_call 77; (with_reducible refine (mk_40 _).mono ?_); rintro e w40 ⟨G40, rfl, hG, hb⟩; obtain ⟨x40, r40, hT⟩ := hT.out.next hb hG ⟨#[60, 62]⟩ [60, 62] rfl rfl rfl; replace hT := Lib.hid hT; clear hG hb) | (go_at_call 77; (with_reducible refine (mk_41 _).mono ?_); rintro e w41 ⟨G41, rfl, hG, hb⟩; obtain ⟨x41, r41, hT⟩ := hT.out.next hb hG ⟨#[60]⟩ [60] rfl rfl rfl; replace hT := Lib.hid hT; clear hG hb) | (go_at_call 77; (with_reducible refine (mk_42 _).mono ?_); rintro e w42 ⟨G42, rfl, hG, hb⟩; obtain ⟨x42, r42, hT⟩ := hT.out.next hb hG ⟨#[62]⟩ [62] rfl rfl rfl; replace hT := Lib.hid hT; clear hG hb) | (go_at_call 77; (with_reducible refine (mk_43 _).mono ?_); rintro e w43 ⟨G43, rfl, hG, hb⟩; obtain ⟨x43, r43, hT⟩ := hT.out.next hb hG ⟨#[85, 60]⟩ [85, 60] rfl rfl rfl; replace hT := Lib.hid hT; clear hG hb) | (go_at_call 83; (with_reducible refine (mk_44 _).mono ?_); rintro e w44 ⟨G44, rfl, hG, hb⟩; obtain ⟨x44, r44, hT⟩ := hT.out.next hb hG ⟨#[48, 61]⟩ [48, 61] rfl rfl rfl; replace hT := Lib.hid hT; clear hG hb) | (go_at_call 83; (with_reducible refine (mk_45 _).mono ?_); rintro e w45 ⟨G45, rfl, hG, hb⟩; obtain ⟨x45, r45, hT⟩ := hT.out.next hb hG ⟨#[48, 60]⟩ [48, 60] rfl rfl rfl; replace hT := Lib.hid hT; clear hG hb) | (go_at_call 83; (with_reducible refine (mk_46 _).mono ?_); rintro e w46 ⟨G46, rfl, hG, hb⟩; obtain ⟨x46, r46, hT⟩ := hT.out.next hb hG ⟨#[48, 60, 62]⟩ [48, 60, 62] rfl rfl rfl; replace hT := Lib.hid hT; clear hG hb) | (go_at_call 83; (with_reducible refine (mk_47 _).mono ?_); rintro e w47 ⟨G47, rfl, hG, hb⟩; obtain ⟨x47, r47, hT⟩ := hT.out.next hb hG ⟨#[48, 62]⟩ [48, 62] rfl rfl rfl; replace hT := Lib.hid hT; clear hG hb) | (go_at_call 88; (with_reducible refine (mk_48 _).mono ?_); rintro e w48 ⟨G48, rfl, hG, hb⟩; obtain ⟨x48, r48, hT⟩ := hT.out.next hb hG ⟨#[87, 73, 84, 72, 73, 78]⟩ [87, 73, 84, 72, 73, 78] rfl rfl rfl; replace hT := Lib.hid hT; clear hG hb) | (go_at_call 88; (with_reducible refine (mk_49 _).mono ?_); rintro e w49 ⟨G49, rfl, hG, hb⟩; obtain ⟨x49, r49, hT⟩ := hT.out.next hb hG ⟨#[84, 82, 85, 69]⟩ [84, 82, 85, 69] rfl rfl rfl; replace hT := Lib.hid hT; clear hG hb) | (go_at_call 88; (with_reducible refine (mk_50 _).mono ?_); rintro e w50 ⟨G50, rfl, hG, hb⟩; obtain ⟨x50, r50, hT⟩ := hT.out.next hb hG ⟨#[70, 65, 76, 83, 69]⟩ [70, 65, 76, 83, 69] rfl rfl rfl; replace hT := Lib.hid hT; clear hG hb))
  go_ret
  exact ⟨_, rfl, hT.out.map, hT.out.below⟩

theorem mk_51 (W : World) : Calls Tryz.prog 93 #[.int .u8 43] W (Makes W (twoW (Fl.twI 43))) := floattwo_any W 43
theorem mk_52 (W : World) : Calls Tryz.prog 93 #[.int .u8 45] W (Makes W (twoW (Fl.twI 45))) := floattwo_any W 45
theorem mk_53 (W : World) : Calls Tryz.prog 93 #[.int .u8 42] W (Makes W (twoW (Fl.twI 42))) := floattwo_any W 42
theorem mk_54 (W : World) : Calls Tryz.prog 93 #[.int .u8 47] W (Makes W (twoW (Fl.twI 47))) := floattwo_any W 47
theorem mk_55 (W : World) : Calls Tryz.prog 93 #[.int .u8 109] W (Makes W (twoW (Fl.twI 109))) := floattwo_any W 109
theorem mk_56 (W : World) : Calls Tryz.prog 93 #[.int .u8 77] W (Makes W (twoW (Fl.twI 77))) := floattwo_any W 77
theorem mk_57 (W : World) : Calls Tryz.prog 94 #[.int .u8 110] W (Makes W (oneW (fun x => .ok (Fl.onI 110 x)))) := floatone_any W 110
theorem mk_58 (W : World) : Calls Tryz.prog 94 #[.int .u8 97] W (Makes W (oneW (fun x => .ok (Fl.onI 97 x)))) := floatone_any W 97
theorem mk_59 (W : World) : Calls Tryz.prog 94 #[.int .u8 115] W (Makes W (oneW (fun x => .ok (Fl.onI 115 x)))) := floatone_any W 115
theorem mk_60 (W : World) : Calls Tryz.prog 94 #[.int .u8 102] W (Makes W (oneW (fun x => .ok (Fl.onI 102 x)))) := floatone_any W 102
theorem mk_61 (W : World) : Calls Tryz.prog 77 #[.func (.func 95) #[] #[]] W (Makes W (atW (fun x y => Fl.ltB (Fl.cb x) (Fl.cb y)))) := askstwo_any W _ _ (ask2_less W)
theorem mk_62 (W : World) : Calls Tryz.prog 77 #[.func (.func 96) #[] #[]] W (Makes W (atW (fun x y => Fl.eqB (Fl.cb x) (Fl.cb y)))) := askstwo_any W _ _ (ask2_same W)
theorem mk_63 (W : World) : Calls Tryz.prog 54 #[.func (.func 97) #[] #[]] W (Makes W (oneW (fun x => .ok (Fl.puI x)))) := one_any W _ _ (one_put W)
theorem mk_64 (W : World) : Calls Tryz.prog 54 #[.func (.func 98) #[] #[]] W (Makes W (oneW takeE)) := one_any W _ _ (one_whole W)
def tb5 : Tbl := [([70, 43], twoW (Fl.twI 43)),
  ([70, 45], twoW (Fl.twI 45)),
  ([70, 42], twoW (Fl.twI 42)),
  ([70, 47], twoW (Fl.twI 47)),
  ([70, 77, 73, 78], twoW (Fl.twI 109)),
  ([70, 77, 65, 88], twoW (Fl.twI 77)),
  ([70, 78, 69, 71, 65, 84, 69], oneW (fun x => .ok (Fl.onI 110 x))),
  ([70, 65, 66, 83], oneW (fun x => .ok (Fl.onI 97 x))),
  ([70, 83, 81, 82, 84], oneW (fun x => .ok (Fl.onI 115 x))),
  ([70, 76, 79, 79, 82], oneW (fun x => .ok (Fl.onI 102 x))),
  ([70, 60], atW (fun x y => Fl.ltB (Fl.cb x) (Fl.cb y))),
  ([70, 61], atW (fun x y => Fl.eqB (Fl.cb x) (Fl.cb y))),
  ([83, 62, 70], oneW (fun x => .ok (Fl.puI x))),
  ([70, 62, 83], oneW takeE)]
set_option maxHeartbeats 2000000 in
theorem ofFloats_any (w : World) : Calls Tryz.prog 34 #[] w fun e w' => ∃ B, e = .returned (.map (some B)) ∧ MapIs w' B tb5 ∧ Below w.heap.size w w' := by
  have hmm := make_map w
  have hT := Lib.hid (Tab.begin w)
  generalize w.alloc (.map #[] 0) = V0 at *
  go_enter Tryz.func34, Tryz.ntmps34
  go_wp2_with (first | (go_at_call 93; (with_reducible refine (mk_51 _).mono ?_); rintro e w51 ⟨G51, rfl, hG, hb⟩; obtain ⟨x51, r51, hT⟩ := hT.out.next hb hG ⟨#[70, 43]⟩ [70, 43] rfl rfl rfl; replace hT := Lib.hid hT; clear hG hb) | (go_at_call 93; (with_reducible refine (mk_52 _).mono ?_); rintro e w52 ⟨G52, rfl, hG, hb⟩; obtain ⟨x52, r52, hT⟩ := hT.out.next hb hG ⟨#[70, 45]⟩ [70, 45] rfl rfl rfl; replace hT := Lib.hid hT; clear hG hb) | (go_at_call 93; (with_reducible refine (mk_53 _).mono ?_); rintro e w53 ⟨G53, rfl, hG, hb⟩; obtain ⟨x53, r53, hT⟩ := hT.out.next hb hG ⟨#[70, 42]⟩ [70, 42] rfl rfl rfl; replace hT := Lib.hid hT; clear hG hb) | (go_at_call 93; (with_reducible refine (mk_54 _).mono ?_); rintro e w54 ⟨G54, rfl, hG, hb⟩; obtain ⟨x54, r54, hT⟩ := hT.out.next hb hG ⟨#[70, 47]⟩ [70, 47] rfl rfl rfl; replace hT := Lib.hid hT; clear hG hb) | (go_at_call 93; (with_reducible refine (mk_55 _).mono ?_); rintro e w55 ⟨G55, rfl, hG, hb⟩; obtain ⟨x55, r55, hT⟩ := hT.out.next hb hG ⟨#[70, 77, 73, 78]⟩ [70, 77, 73, 78] rfl rfl rfl; replace hT := Lib.hid hT; clear hG hb) | (go_at_call 93; (with_reducible refine (mk_56 _).mono ?_); rintro e w56 ⟨G56, rfl, hG, hb⟩; obtain ⟨x56, r56, hT⟩ := hT.out.next hb hG ⟨#[70, 77, 65, 88]⟩ [70, 77, 65, 88] rfl rfl rfl; replace hT := Lib.hid hT; clear hG hb) | (go_at_call 94; (with_reducible refine (mk_57 _).mono ?_); rintro e w57 ⟨G57, rfl, hG, hb⟩; obtain ⟨x57, r57, hT⟩ := hT.out.next hb hG ⟨#[70, 78, 69, 71, 65, 84, 69]⟩ [70, 78, 69, 71, 65, 84, 69] rfl rfl rfl; replace hT := Lib.hid hT; clear hG hb) | (go_at_call 94; (with_reducible refine (mk_58 _).mono ?_); rintro e w58 ⟨G58, rfl, hG, hb⟩; obtain ⟨x58, r58, hT⟩ := hT.out.next hb hG ⟨#[70, 65, 66, 83]⟩ [70, 65, 66, 83] rfl rfl rfl; replace hT := Lib.hid hT; clear hG hb) | (go_at_call 94; (with_reducible refine (mk_59 _).mono ?_); rintro e w59 ⟨G59, rfl, hG, hb⟩; obtain ⟨x59, r59, hT⟩ := hT.out.next hb hG ⟨#[70, 83, 81, 82, 84]⟩ [70, 83, 81, 82, 84] rfl rfl rfl; replace hT := Lib.hid hT; clear hG hb) | (go_at_call 94; (with_reducible refine (mk_60 _).mono ?_); rintro e w60 ⟨G60, rfl, hG, hb⟩; obtain ⟨x60, r60, hT⟩ := hT.out.next hb hG ⟨#[70, 76, 79, 79, 82]⟩ [70, 76, 79, 79, 82] rfl rfl rfl; replace hT := Lib.hid hT; clear hG hb) | (go_at_call 77; (with_reducible refine (mk_61 _).mono ?_); rintro e w61 ⟨G61, rfl, hG, hb⟩; obtain ⟨x61, r61, hT⟩ := hT.out.next hb hG ⟨#[70, 60]⟩ [70, 60] rfl rfl rfl; replace hT := Lib.hid hT; clear hG hb) | (go_at_call 77; (with_reducible refine (mk_62 _).mono ?_); rintro e w62 ⟨G62, rfl, hG, hb⟩; obtain ⟨x62, r62, hT⟩ := hT.out.next hb hG ⟨#[70, 61]⟩ [70, 61] rfl rfl rfl; replace hT := Lib.hid hT; clear hG hb) | (go_at_call 54; (with_reducible refine (mk_63 _).mono ?_); rintro e w63 ⟨G63, rfl, hG, hb⟩; obtain ⟨x63, r63, hT⟩ := hT.out.next hb hG ⟨#[83, 62, 70]⟩ [83, 62, 70] rfl rfl rfl; replace hT := Lib.hid hT; clear hG hb) | (go_at_call 54; (with_reducible refine (mk_64 _).mono ?_); rintro e w64 ⟨G64, rfl, hG, hb⟩; obtain ⟨x64, r64, hT⟩ := hT.out.next hb hG ⟨#[70, 62, 83]⟩ [70, 62, 83] rfl rfl rfl; replace hT := Lib.hid hT; clear hG hb))
  go_ret
  exact ⟨_, rfl, hT.out.map, hT.out.below⟩

end Go.Proofs.YtobijdfnafnodaaGreatDoor
