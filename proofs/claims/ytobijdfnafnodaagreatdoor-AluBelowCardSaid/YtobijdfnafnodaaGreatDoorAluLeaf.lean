/- The small functions that words are made of. -/
import Derived.Test.YtobijdfnafnodaaGreatDoorAluMake
import Derived.Test.YtobijdfnafnodaaGreatDoorCellAwake
import Derived.Test.YtobijdfnafnodaaGreatDoorFloAwake
import Derived.Laws.BitsAllLaws
namespace Go.Proofs.YtobijdfnafnodaaGreatDoor
set_option maxRecDepth 100000
open Go.ChangeShapes Go.WideShapes Go.ChangeAt Go.RowKit
open Sk (Sl ints Own)
set_option linter.unusedVariables false

theorem one_leaf {W : World} {k : Nat} {h : Int → Except Int Int} (he : Ent k) (hc : ∀ (w : World) (x : Int), I64 x → Calls Tryz.prog k #[.int .i64 x] w (ValEnd w (h x))) : OneIs W (.func (.func k) #[] #[]) h := ⟨k, #[], rfl, he, fun w _ x hx => hc w x hx⟩
theorem two_leaf {W : World} {k : Nat} {h : Int → Int → Int} (he : Ent k) (hc : ∀ (w : World) (x y : Int), I64 x → I64 y → Calls Tryz.prog k #[.int .i64 x, .int .i64 y] w (ValEnd w (.ok (h x y)))) : TwoIs W (.func (.func k) #[] #[]) h := ⟨k, #[], rfl, he, fun w _ x y hx hy => hc w x y hx hy⟩
theorem ask1_leaf {W : World} {k : Nat} {h : Int → Bool} (he : Ent k) (hc : ∀ (w : World) (x : Int), I64 x → Calls Tryz.prog k #[.int .i64 x] w (BoolEnd w (h x))) : AskOne W (.func (.func k) #[] #[]) h := ⟨k, #[], rfl, he, fun w _ x hx => hc w x hx⟩
theorem ask2_leaf {W : World} {k : Nat} {h : Int → Int → Bool} (he : Ent k) (hc : ∀ (w : World) (x y : Int), I64 x → I64 y → Calls Tryz.prog k #[.int .i64 x, .int .i64 y] w (BoolEnd w (h x y))) : AskTwo W (.func (.func k) #[] #[]) h := ⟨k, #[], rfl, he, fun w _ x y hx hy => hc w x y hx hy⟩

theorem one_1 (W : World) : OneIs W (.func (.func 55) #[] #[]) (fun x => .ok (wrap64 (x + 1))) := one_leaf (fun _ _ => by kernel_rfl) fun w x hx => by
  clear hx
  go_enter Tryz.func55, Tryz.ntmps55
  go_wp2
  go_ret
  exact ⟨rfl, Below.refl _ _⟩
theorem one_2 (W : World) : OneIs W (.func (.func 56) #[] #[]) (fun x => .ok (wrap64 (x - 1))) := one_leaf (fun _ _ => by kernel_rfl) fun w x hx => by
  clear hx
  go_enter Tryz.func56, Tryz.ntmps56
  go_wp2
  go_ret
  exact ⟨rfl, Below.refl _ _⟩
theorem one_3 (W : World) : OneIs W (.func (.func 57) #[] #[]) (fun x => .ok (wrap64 (x * 2))) := one_leaf (fun _ _ => by kernel_rfl) fun w x hx => by
  clear hx
  go_enter Tryz.func57, Tryz.ntmps57
  go_wp2
  go_ret
  exact ⟨rfl, Below.refl _ _⟩
theorem one_4 (W : World) : OneIs W (.func (.func 58) #[] #[]) (fun x => .ok (x / 2)) := one_leaf (fun _ _ => by kernel_rfl) fun w x hx => by
  clear hx
  go_enter Tryz.func58, Tryz.ntmps58
  go_wp2
  go_ret
  exact ⟨rfl, Below.refl _ _⟩
theorem one_5 (W : World) : OneIs W (.func (.func 59) #[] #[]) (fun x => .ok (wrap64 (-x))) := one_leaf (fun _ _ => by kernel_rfl) fun w x hx => by
  clear hx
  go_enter Tryz.func59, Tryz.ntmps59
  go_wp2
  go_ret
  exact ⟨rfl, Below.refl _ _⟩
theorem one_6 (W : World) : OneIs W (.func (.func 60) #[] #[]) (fun x => .ok (max x (wrap64 (-x)))) := one_leaf (fun _ _ => by kernel_rfl) fun w x hx => by
  clear hx
  go_enter Tryz.func60, Tryz.ntmps60
  go_wp2
  go_ret
  exact ⟨rfl, Below.refl _ _⟩
theorem i64_inv (x : Int) (hx : I64 x) : bits .xor .i64 (-1) x = -1 - x := by
  show IntKind.i64.wrap ((BitVec.ofInt 64 (-1) ^^^ BitVec.ofInt 64 x).toNat : Int) = _
  have h1 : BitVec.ofInt 64 (-1) = BitVec.allOnes 64 := by decide
  obtain ⟨h2, h3⟩ := hx
  rw [h1, BitVec.allOnes_xor, BitVec.toNat_not, BitVec.toNat_ofInt]
  simp [IntKind.wrap, IntKind.bits, IntKind.signed]
  omega
theorem one_7 (W : World) : OneIs W (.func (.func 61) #[] #[]) (fun x => .ok (-1 - x)) := one_leaf (fun _ _ => by kernel_rfl) fun w x hx => by
  have hi := Lib.hid (i64_inv x hx)
  clear hx
  go_enter Tryz.func61, Tryz.ntmps61
  go_wp2
  go_ret
  refine ⟨?_, Below.refl _ _⟩
  rw [← hi.out]
  rfl
theorem one_8 (W : World) : OneIs W (.func (.func 62) #[] #[]) (fun x => .ok (wrap64 (x * 8))) := one_leaf (fun _ _ => by kernel_rfl) fun w x hx => by
  clear hx
  go_enter Tryz.func62, Tryz.ntmps62
  go_wp2
  go_ret
  exact ⟨rfl, Below.refl _ _⟩
theorem one_9 (W : World) : OneIs W (.func (.func 63) #[] #[]) (fun x => .ok (wrap64 (x + 8))) := one_leaf (fun _ _ => by kernel_rfl) fun w x hx => by
  clear hx
  go_enter Tryz.func63, Tryz.ntmps63
  go_wp2
  go_ret
  exact ⟨rfl, Below.refl _ _⟩
theorem two_1 (W : World) : TwoIs W (.func (.func 65) #[] #[]) (fun x y => wrap64 (x + y)) := two_leaf (fun _ _ => by kernel_rfl) fun w x y hx hy => by
  clear hx hy
  go_enter Tryz.func65, Tryz.ntmps65
  go_wp2
  go_ret
  exact ⟨rfl, Below.refl _ _⟩
theorem two_2 (W : World) : TwoIs W (.func (.func 66) #[] #[]) (fun x y => wrap64 (x - y)) := two_leaf (fun _ _ => by kernel_rfl) fun w x y hx hy => by
  clear hx hy
  go_enter Tryz.func66, Tryz.ntmps66
  go_wp2
  go_ret
  exact ⟨rfl, Below.refl _ _⟩
theorem two_3 (W : World) : TwoIs W (.func (.func 67) #[] #[]) (fun x y => wrap64 (x * y)) := two_leaf (fun _ _ => by kernel_rfl) fun w x y hx hy => by
  clear hx hy
  go_enter Tryz.func67, Tryz.ntmps67
  go_wp2
  go_ret
  exact ⟨rfl, Below.refl _ _⟩
theorem two_4 (W : World) : TwoIs W (.func (.func 68) #[] #[]) (fun x y => min x y) := two_leaf (fun _ _ => by kernel_rfl) fun w x y hx hy => by
  clear hx hy
  go_enter Tryz.func68, Tryz.ntmps68
  go_wp2
  go_ret
  exact ⟨rfl, Below.refl _ _⟩
theorem two_5 (W : World) : TwoIs W (.func (.func 69) #[] #[]) (fun x y => max x y) := two_leaf (fun _ _ => by kernel_rfl) fun w x y hx hy => by
  clear hx hy
  go_enter Tryz.func69, Tryz.ntmps69
  go_wp2
  go_ret
  exact ⟨rfl, Below.refl _ _⟩
theorem two_6 (W : World) : TwoIs W (.func (.func 70) #[] #[]) (fun x y => bits .and .i64 x y) := two_leaf (fun _ _ => by kernel_rfl) fun w x y hx hy => by
  clear hx hy
  go_enter Tryz.func70, Tryz.ntmps70
  go_wp2
  go_ret
  exact ⟨rfl, Below.refl _ _⟩
theorem two_7 (W : World) : TwoIs W (.func (.func 71) #[] #[]) (fun x y => bits .or .i64 x y) := two_leaf (fun _ _ => by kernel_rfl) fun w x y hx hy => by
  clear hx hy
  go_enter Tryz.func71, Tryz.ntmps71
  go_wp2
  go_ret
  exact ⟨rfl, Below.refl _ _⟩
theorem two_8 (W : World) : TwoIs W (.func (.func 72) #[] #[]) (fun x y => bits .xor .i64 x y) := two_leaf (fun _ _ => by kernel_rfl) fun w x y hx hy => by
  clear hx hy
  go_enter Tryz.func72, Tryz.ntmps72
  go_wp2
  go_ret
  exact ⟨rfl, Below.refl _ _⟩
theorem ask2_1 (W : World) : AskTwo W (.func (.func 78) #[] #[]) (fun x y => x == y) := ask2_leaf (fun _ _ => by kernel_rfl) fun w x y hx hy => by
  clear hx hy
  go_enter Tryz.func78, Tryz.ntmps78
  go_wp2
  go_ret
  exact ⟨rfl, Below.refl _ _⟩
theorem ask2_2 (W : World) : AskTwo W (.func (.func 79) #[] #[]) (fun x y => x != y) := ask2_leaf (fun _ _ => by kernel_rfl) fun w x y hx hy => by
  clear hx hy
  go_enter Tryz.func79, Tryz.ntmps79
  go_wp2
  go_ret
  exact ⟨rfl, Below.refl _ _⟩
theorem ask2_3 (W : World) : AskTwo W (.func (.func 80) #[] #[]) (fun x y => decide (x < y)) := ask2_leaf (fun _ _ => by kernel_rfl) fun w x y hx hy => by
  clear hx hy
  go_enter Tryz.func80, Tryz.ntmps80
  go_wp2
  go_ret
  exact ⟨rfl, Below.refl _ _⟩
theorem ask2_4 (W : World) : AskTwo W (.func (.func 81) #[] #[]) (fun x y => decide (y < x)) := ask2_leaf (fun _ _ => by kernel_rfl) fun w x y hx hy => by
  clear hx hy
  go_enter Tryz.func81, Tryz.ntmps81
  go_wp2
  go_ret
  exact ⟨rfl, Below.refl _ _⟩
theorem ask1_5 (W : World) : AskOne W (.func (.func 84) #[] #[]) (fun x => x == 0) := ask1_leaf (fun _ _ => by kernel_rfl) fun w x hx => by
  clear hx
  go_enter Tryz.func84, Tryz.ntmps84
  go_wp2
  go_ret
  exact ⟨rfl, Below.refl _ _⟩
theorem ask1_6 (W : World) : AskOne W (.func (.func 85) #[] #[]) (fun x => decide (x < 0)) := ask1_leaf (fun _ _ => by kernel_rfl) fun w x hx => by
  clear hx
  go_enter Tryz.func85, Tryz.ntmps85
  go_wp2
  go_ret
  exact ⟨rfl, Below.refl _ _⟩
theorem ask1_7 (W : World) : AskOne W (.func (.func 86) #[] #[]) (fun x => x != 0) := ask1_leaf (fun _ _ => by kernel_rfl) fun w x hx => by
  clear hx
  go_enter Tryz.func86, Tryz.ntmps86
  go_wp2
  go_ret
  exact ⟨rfl, Below.refl _ _⟩
theorem ask1_8 (W : World) : AskOne W (.func (.func 87) #[] #[]) (fun x => decide (0 < x)) := ask1_leaf (fun _ _ => by kernel_rfl) fun w x hx => by
  clear hx
  go_enter Tryz.func87, Tryz.ntmps87
  go_wp2
  go_ret
  exact ⟨rfl, Below.refl _ _⟩

theorem two_left (W : World) : TwoIs W (.func (.func 73) #[] #[]) Ce.lshI := two_leaf (fun _ _ => by kernel_rfl) fun w x y hx hy => by
  refine (Ce.left_any x y w).mono ?_
  rintro e w' ⟨rfl, rfl⟩
  exact ⟨rfl, Below.refl _ _⟩
theorem two_right (W : World) : TwoIs W (.func (.func 74) #[] #[]) Ce.rshI := two_leaf (fun _ _ => by kernel_rfl) fun w x y hx hy => by
  refine (Ce.right_any x y w).mono ?_
  rintro e w' ⟨rfl, rfl⟩
  exact ⟨rfl, Below.refl _ _⟩
theorem ask2_below (W : World) : AskTwo W (.func (.func 82) #[] #[]) Ce.belB := ask2_leaf (fun _ _ => by kernel_rfl) fun w x y hx hy => by
  refine (Ce.below_any x y w).mono ?_
  rintro e w' ⟨rfl, rfl⟩
  exact ⟨rfl, Below.refl _ _⟩
theorem ask2_less (W : World) : AskTwo W (.func (.func 95) #[] #[]) (fun x y => Fl.ltB (Fl.cb x) (Fl.cb y)) := ask2_leaf (fun _ _ => by kernel_rfl) fun w x y hx hy => by
  refine (Fl.less_any x y w).mono ?_
  rintro e w' ⟨rfl, rfl⟩
  exact ⟨rfl, Below.refl _ _⟩
theorem ask2_same (W : World) : AskTwo W (.func (.func 96) #[] #[]) (fun x y => Fl.eqB (Fl.cb x) (Fl.cb y)) := ask2_leaf (fun _ _ => by kernel_rfl) fun w x y hx hy => by
  refine (Fl.same_any x y w).mono ?_
  rintro e w' ⟨rfl, rfl⟩
  exact ⟨rfl, Below.refl _ _⟩
theorem one_put (W : World) : OneIs W (.func (.func 97) #[] #[]) (fun x => .ok (Fl.puI x)) := one_leaf (fun _ _ => by kernel_rfl) fun w x hx => by
  refine (Fl.put_any x w).mono ?_
  rintro e w' ⟨rfl, rfl⟩
  exact ⟨rfl, Below.refl _ _⟩
def takeE (x : Int) : Except Int Int := if Fl.tkB (Fl.cb x) then .ok (Fl.tkI x) else .error (-11)
theorem one_whole (W : World) : OneIs W (.func (.func 98) #[] #[]) takeE := one_leaf (fun _ _ => by kernel_rfl) fun w x hx => by
  clear hx
  have hT := Lib.hid (Fl.take_any x w)
  unfold takeE
  cases h : Fl.tkB (Fl.cb x)
  · rw [h] at hT
    go_enter Tryz.func98, Tryz.ntmps98
    go_wp2_with (first | (go_at_call 133; (with_reducible refine hT.out.mono ?_); rintro e w1 ⟨rfl, rfl⟩) | (go_at_call 116; (with_reducible refine (want_no (-11) _).mono ?_); rintro e w2 ⟨rfl, rfl⟩))
    exact ⟨rfl, rfl, Below.refl _ _⟩
  · rw [h] at hT
    go_enter Tryz.func98, Tryz.ntmps98
    go_wp2_with (first | (go_at_call 133; (with_reducible refine hT.out.mono ?_); rintro e w1 ⟨rfl, rfl⟩) | (go_at_call 116; (with_reducible refine (want_yes (-11) _).mono ?_); rintro e w2 ⟨rfl, rfl⟩))
    go_ret
    exact ⟨rfl, Below.refl _ _⟩
/-- the closures of floatOfTwo, floatOfOne -/
theorem two_float (W : World) (op : Int) (p : Addr) (hp : W.cell? p = some (.int .u8 op)) : TwoIs W (.func (.func 127) #[] #[.pointer (some p)]) (Fl.twI op) := by
  refine ⟨_, _, rfl, fun _ _ => by kernel_rfl, fun w hk x y hx hy => ?_⟩
  have c1 := hk.cell hp
  have hT := Lib.hid (Fl.two_any op x y w)
  clear hx hy hk
  show Calls Tryz.prog 127 #[.int .i64 x, .int .i64 y, .pointer (some p)] w _
  go_enter Tryz.func127, Tryz.ntmps127
  go_wp2_with (go_at_call 128; (with_reducible refine hT.out.mono ?_); rintro e w1 ⟨rfl, hb1⟩)
  go_ret
  exact ⟨rfl, hb1⟩
theorem one_float (W : World) (op : Int) (p : Addr) (hp : W.cell? p = some (.int .u8 op)) : OneIs W (.func (.func 129) #[] #[.pointer (some p)]) (fun x => .ok (Fl.onI op x)) := by
  refine ⟨_, _, rfl, fun _ _ => by kernel_rfl, fun w hk x hx => ?_⟩
  have c1 := hk.cell hp
  have hT := Lib.hid (Fl.one_any op x w)
  clear hx hk
  show Calls Tryz.prog 129 #[.int .i64 x, .pointer (some p)] w _
  go_enter Tryz.func129, Tryz.ntmps129
  go_wp2_with (go_at_call 130; (with_reducible refine hT.out.mono ?_); rintro e w1 ⟨rfl, hb1⟩)
  go_ret
  exact ⟨rfl, hb1⟩
theorem floattwo_any (W : World) (op : Int) :
    Calls Tryz.prog 93 #[.int .u8 op] W (Makes W (tk 2 (fun vs => .ok [Fl.twI op (vs.getD 0 0) (vs.getD 1 0)]))) := by
  have hmf := Sk.mkf
  have b1 := boxed W (.int .u8 op) 5
  have hT := Lib.hid (two_any _ _ _ (two_float _ op ⟨W.heap.size, 0, none⟩ b1.1))
  have hb := Lib.hid b1.2
  clear b1
  go_enter Tryz.func93, Tryz.ntmps93
  go_wp2_with (go_at_call 64; (with_reducible refine hT.out.mono ?_); rintro e w1 ⟨G, rfl, hG, hb1⟩)
  go_ret
  exact ⟨_, rfl, hG, hb.out.trans (hb1.mono hb.out.size)⟩
theorem floatone_any (W : World) (op : Int) :
    Calls Tryz.prog 94 #[.int .u8 op] W (Makes W (tk 1 (fun vs => lst (.ok (Fl.onI op (vs.getD 0 0)))))) := by
  have hmf := Sk.mkf
  have b1 := boxed W (.int .u8 op) 5
  have hT := Lib.hid (one_any _ _ _ (one_float _ op ⟨W.heap.size, 0, none⟩ b1.1))
  have hb := Lib.hid b1.2
  clear b1
  go_enter Tryz.func94, Tryz.ntmps94
  go_wp2_with (go_at_call 54; (with_reducible refine hT.out.mono ?_); rintro e w1 ⟨G, rfl, hG, hb1⟩)
  go_ret
  exact ⟨_, rfl, hG, hb.out.trans (hb1.mono hb.out.size)⟩
end Go.Proofs.YtobijdfnafnodaaGreatDoor
