/- Contracts of the document's answer: the kinds, Name, Find. -/
import Derived.Test.YtbianodiadfjeaaDoorOpsMap
namespace Go.Proofs.YtbianodiadfjeaaDoor
open Go.ChangeShapes Go.WideShapes Go.RowKit
set_option linter.unusedVariables false

theorem risw_any (op : Int) (w : World) (hb : -9223372036854775808 ≤ op ∧ op ≤ 9223372036854775807) :
    Calls Tryd.prog 12 #[.int .i64 op] w fun e w' => e = .returned (.bool (isw op)) ∧ w = w' := by
  have hc : op ≤ 0 ∨ (1 ≤ op ∧ op ≤ 137) ∨ 138 ≤ op := by omega
  rcases hc with h1 | ⟨h1, h2⟩ | h1
  · have e : Hid (isw op = false) := Lib.hid (by simp [isw]; omega)
    go_enter Tryd.func12, Tryd.ntmps12
    go_wp2
    go_ret
    rw [e.out]
    exact ⟨rfl, rfl⟩
  · have e : Hid (isw op = true) := Lib.hid (by simp [isw]; omega)
    go_enter Tryd.func12, Tryd.ntmps12
    go_wp2
    go_ret
    rw [e.out]
    exact ⟨rfl, rfl⟩
  · have e : Hid (isw op = false) := Lib.hid (by simp [isw]; omega)
    have u137 : ¬ op ≤ 137 := by omega
    go_enter Tryd.func12, Tryd.ntmps12
    go_wp2
    go_ret
    rw [e.out]
    exact ⟨rfl, rfl⟩

theorem rinn_any (op : Int) (w : World) (hb : -9223372036854775808 ≤ op ∧ op ≤ 9223372036854775807) :
    Calls Tryd.prog 14 #[.int .i64 op] w fun e w' => e = .returned (.bool (inn op)) ∧ w = w' := by
  have hc : op ≤ 1 ∨ (2 ≤ op ∧ op ≤ 11) ∨ 12 ≤ op := by omega
  rcases hc with h1 | ⟨h1, h2⟩ | h1
  · have e : Hid (inn op = false) := Lib.hid (by simp [inn]; omega)
    go_enter Tryd.func14, Tryd.ntmps14
    go_wp2
    go_ret
    rw [e.out]
    exact ⟨rfl, rfl⟩
  · have e : Hid (inn op = true) := Lib.hid (by simp [inn]; omega)
    go_enter Tryd.func14, Tryd.ntmps14
    go_wp2
    go_ret
    rw [e.out]
    exact ⟨rfl, rfl⟩
  · have e : Hid (inn op = false) := Lib.hid (by simp [inn]; omega)
    have u11 : ¬ op ≤ 11 := by omega
    go_enter Tryd.func14, Tryd.ntmps14
    go_wp2
    go_ret
    rw [e.out]
    exact ⟨rfl, rfl⟩

theorem rnow_any (op : Int) (w : World) (hb : -9223372036854775808 ≤ op ∧ op ≤ 9223372036854775807) :
    Calls Tryd.prog 16 #[.int .i64 op] w fun e w' => e = .returned (.bool (now op)) ∧ w = w' := by
  have hc : op ≤ 97 ∨ (98 ≤ op ∧ op ≤ 109) ∨ op = 110 ∨ op = 111 ∨ (112 ≤ op ∧ op ≤ 115) ∨ op = 116 ∨ (117 ≤ op ∧ op ≤ 118) ∨ (119 ≤ op ∧ op ≤ 122) ∨ (123 ≤ op ∧ op ≤ 125) ∨ (126 ≤ op ∧ op ≤ 129) ∨ 130 ≤ op := by omega
  rcases hc with h1 | ⟨h1, h2⟩ | rfl | rfl | ⟨h1, h2⟩ | rfl | ⟨h1, h2⟩ | ⟨h1, h2⟩ | ⟨h1, h2⟩ | ⟨h1, h2⟩ | h1
  · have e : Hid (now op = false) := Lib.hid (by simp [now]; omega)
    have q111 : (op == 111) = false := by simp; omega
    have q116 : (op == 116) = false := by simp; omega
    go_enter Tryd.func16, Tryd.ntmps16
    go_wp2
    go_ret
    rw [e.out]
    exact ⟨rfl, rfl⟩
  · have e : Hid (now op = true) := Lib.hid (by simp [now]; omega)
    have q111 : (op == 111) = false := by simp; omega
    have q116 : (op == 116) = false := by simp; omega
    go_enter Tryd.func16, Tryd.ntmps16
    go_wp2
    go_ret
    rw [e.out]
    exact ⟨rfl, rfl⟩
  · have e : Hid (now 110 = false) := Lib.hid (by decide)
    go_enter Tryd.func16, Tryd.ntmps16
    go_wp2
    go_ret
    rw [e.out]
    exact ⟨rfl, rfl⟩
  · have e : Hid (now 111 = true) := Lib.hid (by decide)
    go_enter Tryd.func16, Tryd.ntmps16
    go_wp2
    go_ret
    rw [e.out]
    exact ⟨rfl, rfl⟩
  · have e : Hid (now op = false) := Lib.hid (by simp [now]; omega)
    have u109 : ¬ op ≤ 109 := by omega
    have q111 : (op == 111) = false := by simp; omega
    have q116 : (op == 116) = false := by simp; omega
    go_enter Tryd.func16, Tryd.ntmps16
    go_wp2
    go_ret
    rw [e.out]
    exact ⟨rfl, rfl⟩
  · have e : Hid (now 116 = true) := Lib.hid (by decide)
    go_enter Tryd.func16, Tryd.ntmps16
    go_wp2
    go_ret
    rw [e.out]
    exact ⟨rfl, rfl⟩
  · have e : Hid (now op = false) := Lib.hid (by simp [now]; omega)
    have u109 : ¬ op ≤ 109 := by omega
    have q111 : (op == 111) = false := by simp; omega
    have q116 : (op == 116) = false := by simp; omega
    go_enter Tryd.func16, Tryd.ntmps16
    go_wp2
    go_ret
    rw [e.out]
    exact ⟨rfl, rfl⟩
  · have e : Hid (now op = true) := Lib.hid (by simp [now]; omega)
    have u109 : ¬ op ≤ 109 := by omega
    have q111 : (op == 111) = false := by simp; omega
    have q116 : (op == 116) = false := by simp; omega
    go_enter Tryd.func16, Tryd.ntmps16
    go_wp2
    go_ret
    rw [e.out]
    exact ⟨rfl, rfl⟩
  · have e : Hid (now op = false) := Lib.hid (by simp [now]; omega)
    have u109 : ¬ op ≤ 109 := by omega
    have u122 : ¬ op ≤ 122 := by omega
    have q111 : (op == 111) = false := by simp; omega
    have q116 : (op == 116) = false := by simp; omega
    go_enter Tryd.func16, Tryd.ntmps16
    go_wp2
    go_ret
    rw [e.out]
    exact ⟨rfl, rfl⟩
  · have e : Hid (now op = true) := Lib.hid (by simp [now]; omega)
    have u109 : ¬ op ≤ 109 := by omega
    have u122 : ¬ op ≤ 122 := by omega
    have q111 : (op == 111) = false := by simp; omega
    have q116 : (op == 116) = false := by simp; omega
    go_enter Tryd.func16, Tryd.ntmps16
    go_wp2
    go_ret
    rw [e.out]
    exact ⟨rfl, rfl⟩
  · have e : Hid (now op = false) := Lib.hid (by simp [now]; omega)
    have u109 : ¬ op ≤ 109 := by omega
    have u122 : ¬ op ≤ 122 := by omega
    have u129 : ¬ op ≤ 129 := by omega
    have q111 : (op == 111) = false := by simp; omega
    have q116 : (op == 116) = false := by simp; omega
    go_enter Tryd.func16, Tryd.ntmps16
    go_wp2
    go_ret
    rw [e.out]
    exact ⟨rfl, rfl⟩

theorem ronl_any (op : Int) (w : World) (hb : -9223372036854775808 ≤ op ∧ op ≤ 9223372036854775807) :
    Calls Tryd.prog 18 #[.int .i64 op] w fun e w' => e = .returned (.bool (onl op)) ∧ w = w' := by
  have hc : op ≤ 0 ∨ op = 1 ∨ (2 ≤ op ∧ op ≤ 90) ∨ (91 ≤ op ∧ op ≤ 109) ∨ op = 110 ∨ op = 111 ∨ (112 ≤ op ∧ op ≤ 115) ∨ op = 116 ∨ (117 ≤ op ∧ op ≤ 118) ∨ (119 ≤ op ∧ op ≤ 121) ∨ (122 ≤ op ∧ op ≤ 125) ∨ op = 126 ∨ 127 ≤ op := by omega
  rcases hc with h1 | rfl | ⟨h1, h2⟩ | ⟨h1, h2⟩ | rfl | rfl | ⟨h1, h2⟩ | rfl | ⟨h1, h2⟩ | ⟨h1, h2⟩ | ⟨h1, h2⟩ | rfl | h1
  · have e : Hid (onl op = false) := Lib.hid (by simp [onl]; omega)
    have q1 : (op == 1) = false := by simp; omega
    have q111 : (op == 111) = false := by simp; omega
    have q116 : (op == 116) = false := by simp; omega
    have q126 : (op == 126) = false := by simp; omega
    go_enter Tryd.func18, Tryd.ntmps18
    go_wp2
    go_ret
    rw [e.out]
    exact ⟨rfl, rfl⟩
  · have e : Hid (onl 1 = true) := Lib.hid (by decide)
    go_enter Tryd.func18, Tryd.ntmps18
    go_wp2
    go_ret
    rw [e.out]
    exact ⟨rfl, rfl⟩
  · have e : Hid (onl op = false) := Lib.hid (by simp [onl]; omega)
    have q1 : (op == 1) = false := by simp; omega
    have q111 : (op == 111) = false := by simp; omega
    have q116 : (op == 116) = false := by simp; omega
    have q126 : (op == 126) = false := by simp; omega
    go_enter Tryd.func18, Tryd.ntmps18
    go_wp2
    go_ret
    rw [e.out]
    exact ⟨rfl, rfl⟩
  · have e : Hid (onl op = true) := Lib.hid (by simp [onl]; omega)
    have q1 : (op == 1) = false := by simp; omega
    have q111 : (op == 111) = false := by simp; omega
    have q116 : (op == 116) = false := by simp; omega
    have q126 : (op == 126) = false := by simp; omega
    go_enter Tryd.func18, Tryd.ntmps18
    go_wp2
    go_ret
    rw [e.out]
    exact ⟨rfl, rfl⟩
  · have e : Hid (onl 110 = false) := Lib.hid (by decide)
    go_enter Tryd.func18, Tryd.ntmps18
    go_wp2
    go_ret
    rw [e.out]
    exact ⟨rfl, rfl⟩
  · have e : Hid (onl 111 = true) := Lib.hid (by decide)
    go_enter Tryd.func18, Tryd.ntmps18
    go_wp2
    go_ret
    rw [e.out]
    exact ⟨rfl, rfl⟩
  · have e : Hid (onl op = false) := Lib.hid (by simp [onl]; omega)
    have u109 : ¬ op ≤ 109 := by omega
    have q1 : (op == 1) = false := by simp; omega
    have q111 : (op == 111) = false := by simp; omega
    have q116 : (op == 116) = false := by simp; omega
    have q126 : (op == 126) = false := by simp; omega
    go_enter Tryd.func18, Tryd.ntmps18
    go_wp2
    go_ret
    rw [e.out]
    exact ⟨rfl, rfl⟩
  · have e : Hid (onl 116 = true) := Lib.hid (by decide)
    go_enter Tryd.func18, Tryd.ntmps18
    go_wp2
    go_ret
    rw [e.out]
    exact ⟨rfl, rfl⟩
  · have e : Hid (onl op = false) := Lib.hid (by simp [onl]; omega)
    have u109 : ¬ op ≤ 109 := by omega
    have q1 : (op == 1) = false := by simp; omega
    have q111 : (op == 111) = false := by simp; omega
    have q116 : (op == 116) = false := by simp; omega
    have q126 : (op == 126) = false := by simp; omega
    go_enter Tryd.func18, Tryd.ntmps18
    go_wp2
    go_ret
    rw [e.out]
    exact ⟨rfl, rfl⟩
  · have e : Hid (onl op = true) := Lib.hid (by simp [onl]; omega)
    have u109 : ¬ op ≤ 109 := by omega
    have q1 : (op == 1) = false := by simp; omega
    have q111 : (op == 111) = false := by simp; omega
    have q116 : (op == 116) = false := by simp; omega
    have q126 : (op == 126) = false := by simp; omega
    go_enter Tryd.func18, Tryd.ntmps18
    go_wp2
    go_ret
    rw [e.out]
    exact ⟨rfl, rfl⟩
  · have e : Hid (onl op = false) := Lib.hid (by simp [onl]; omega)
    have u109 : ¬ op ≤ 109 := by omega
    have u121 : ¬ op ≤ 121 := by omega
    have q1 : (op == 1) = false := by simp; omega
    have q111 : (op == 111) = false := by simp; omega
    have q116 : (op == 116) = false := by simp; omega
    have q126 : (op == 126) = false := by simp; omega
    go_enter Tryd.func18, Tryd.ntmps18
    go_wp2
    go_ret
    rw [e.out]
    exact ⟨rfl, rfl⟩
  · have e : Hid (onl 126 = true) := Lib.hid (by decide)
    go_enter Tryd.func18, Tryd.ntmps18
    go_wp2
    go_ret
    rw [e.out]
    exact ⟨rfl, rfl⟩
  · have e : Hid (onl op = false) := Lib.hid (by simp [onl]; omega)
    have u109 : ¬ op ≤ 109 := by omega
    have u121 : ¬ op ≤ 121 := by omega
    have q1 : (op == 1) = false := by simp; omega
    have q111 : (op == 111) = false := by simp; omega
    have q116 : (op == 116) = false := by simp; omega
    have q126 : (op == 126) = false := by simp; omega
    go_enter Tryd.func18, Tryd.ntmps18
    go_wp2
    go_ret
    rw [e.out]
    exact ⟨rfl, rfl⟩

theorem rwid_any (op : Int) (w : World) (hb : -9223372036854775808 ≤ op ∧ op ≤ 9223372036854775807) :
    Calls Tryd.prog 20 #[.int .i64 op] w fun e w' => e = .returned (.bool (wid op)) ∧ w = w' := by
  have hc : op ≤ 1 ∨ (2 ≤ op ∧ op ≤ 8) ∨ op = 9 ∨ (10 ≤ op ∧ op ≤ 11) ∨ 12 ≤ op := by omega
  rcases hc with h1 | ⟨h1, h2⟩ | rfl | ⟨h1, h2⟩ | h1
  · have e : Hid (wid op = false) := Lib.hid (by simp [wid]; omega)
    go_enter Tryd.func20, Tryd.ntmps20
    go_wp2
    go_ret
    rw [e.out]
    exact ⟨rfl, rfl⟩
  · have e : Hid (wid op = true) := Lib.hid (by simp [wid]; omega)
    go_enter Tryd.func20, Tryd.ntmps20
    go_wp2
    go_ret
    rw [e.out]
    exact ⟨rfl, rfl⟩
  · have e : Hid (wid 9 = false) := Lib.hid (by decide)
    go_enter Tryd.func20, Tryd.ntmps20
    go_wp2
    go_ret
    rw [e.out]
    exact ⟨rfl, rfl⟩
  · have e : Hid (wid op = true) := Lib.hid (by simp [wid]; omega)
    have u8 : ¬ op ≤ 8 := by omega
    go_enter Tryd.func20, Tryd.ntmps20
    go_wp2
    go_ret
    rw [e.out]
    exact ⟨rfl, rfl⟩
  · have e : Hid (wid op = false) := Lib.hid (by simp [wid]; omega)
    have u8 : ¬ op ≤ 8 := by omega
    have u11 : ¬ op ≤ 11 := by omega
    go_enter Tryd.func20, Tryd.ntmps20
    go_wp2
    go_ret
    rw [e.out]
    exact ⟨rfl, rfl⟩

end Go.Proofs.YtbianodiadfjeaaDoor
