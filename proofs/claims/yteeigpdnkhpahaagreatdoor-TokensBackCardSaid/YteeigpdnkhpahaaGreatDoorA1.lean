import Derived.Test.YteeigpdnkhpahaaGreatDoorRows
import Derived.Test.YteeigpdnkhpahaaGreatDoorShelf
import Derived.WalkKit
import Derived.WalkSpells
import Derived.WalkLawsBesides
namespace Go.Proofs.YteeigpdnkhpahaaGreatDoor
open Go.RowKit

def Tk.blank (n : Int) : Bool := n == 32 || n == 9 || n == 10
def Tk.shown (n : Int) : Bool := decide (32 ≤ n) && decide (n ≤ 126)
def Tk.inText (n : Int) : Bool := Tk.shown n || Tk.blank n
def Tk.small (n : Int) : Bool := decide (97 ≤ n) && decide (n ≤ 122)
def Tk.capital (n : Int) : Bool := (decide (65 ≤ n) && decide (n ≤ 90)) || n == 95
def Tk.digit (n : Int) : Bool := decide (48 ≤ n) && decide (n ≤ 57)
def Tk.inWord (n : Int) : Bool := Tk.small n || Tk.capital n || Tk.digit n
def Tk.point (n : Int) : Bool := n == 46
def Tk.backslash (n : Int) : Bool := n == 92
def Tk.bangMark (n : Int) : Bool := n == 46 || n == 58

theorem isBlank_any (n : Int) (w : World) :
    Calls Tryz.prog 77 #[.int .u8 n] w fun e w' => e = .returned (.bool (Tk.blank n)) ∧ w = w' := by
  go_enter Tryz.func77, Tryz.ntmps77
  go_wp2
  all_goals (go_ret; exact ⟨by simp [Tk.blank, *] <;> omega, rfl⟩)
theorem isShown_any (n : Int) (w : World) :
    Calls Tryz.prog 144 #[.int .u8 n] w fun e w' => e = .returned (.bool (Tk.shown n)) ∧ w = w' := by
  go_enter Tryz.func144, Tryz.ntmps144
  go_wp2
  all_goals (go_ret; exact ⟨by simp [Tk.shown, *] <;> omega, rfl⟩)
theorem isSmall_any (n : Int) (w : World) :
    Calls Tryz.prog 81 #[.int .u8 n] w fun e w' => e = .returned (.bool (Tk.small n)) ∧ w = w' := by
  go_enter Tryz.func81, Tryz.ntmps81
  go_wp2
  all_goals (go_ret; exact ⟨by simp [Tk.small, *] <;> omega, rfl⟩)
theorem isCapital_any (n : Int) (w : World) :
    Calls Tryz.prog 83 #[.int .u8 n] w fun e w' => e = .returned (.bool (Tk.capital n)) ∧ w = w' := by
  go_enter Tryz.func83, Tryz.ntmps83
  go_wp2
  all_goals (go_ret; exact ⟨by simp [Tk.capital, *] <;> omega, rfl⟩)
theorem isDigit_any (n : Int) (w : World) :
    Calls Tryz.prog 87 #[.int .u8 n] w fun e w' => e = .returned (.bool (Tk.digit n)) ∧ w = w' := by
  go_enter Tryz.func87, Tryz.ntmps87
  go_wp2
  all_goals (go_ret; exact ⟨by simp [Tk.digit, *] <;> omega, rfl⟩)
theorem isPoint_any (n : Int) (w : World) :
    Calls Tryz.prog 142 #[.int .u8 n] w fun e w' => e = .returned (.bool (Tk.point n)) ∧ w = w' := by
  go_enter Tryz.func142, Tryz.ntmps142
  go_wp2
  all_goals (go_ret; exact ⟨by simp [Tk.point, *] <;> omega, rfl⟩)
theorem isBackslash_any (n : Int) (w : World) :
    Calls Tryz.prog 143 #[.int .u8 n] w fun e w' => e = .returned (.bool (Tk.backslash n)) ∧ w = w' := by
  go_enter Tryz.func143, Tryz.ntmps143
  go_wp2
  all_goals (go_ret; exact ⟨by simp [Tk.backslash, *] <;> omega, rfl⟩)
theorem isBangMark_any (n : Int) (w : World) :
    Calls Tryz.prog 147 #[.int .u8 n] w fun e w' => e = .returned (.bool (Tk.bangMark n)) ∧ w = w' := by
  go_enter Tryz.func147, Tryz.ntmps147
  go_wp2
  all_goals (go_ret; exact ⟨by simp [Tk.bangMark, *] <;> omega, rfl⟩)
theorem inText_any (n : Int) (w : World) :
    Calls Tryz.prog 113 #[.int .u8 n] w fun e w' => e = .returned (.bool (Tk.inText n)) ∧ w = w' := by
  unfold Tk.inText
  cases hs : Tk.shown n
  all_goals
    go_enter Tryz.func113, Tryz.ntmps113
    go_wp2_with (first | (go_at_call 144; refine (isShown_any _ _).mono ?_; rintro e w' ⟨rfl, rfl⟩) | (go_at_call 77; refine (isBlank_any _ _).mono ?_; rintro e w' ⟨rfl, rfl⟩))
    go_ret
    exact ⟨by simp [hs], rfl⟩
theorem inWord_any (n : Int) (w : World) :
    Calls Tryz.prog 85 #[.int .u8 n] w fun e w' => e = .returned (.bool (Tk.inWord n)) ∧ w = w' := by
  unfold Tk.inWord
  cases hs : Tk.small n <;> cases hc : Tk.capital n
  all_goals
    go_enter Tryz.func85, Tryz.ntmps85
    go_wp2_with (first | (go_at_call 81; refine (isSmall_any _ _).mono ?_; rintro e w' ⟨rfl, rfl⟩) | (go_at_call 83; refine (isCapital_any _ _).mono ?_; rintro e w' ⟨rfl, rfl⟩) | (go_at_call 87; refine (isDigit_any _ _).mono ?_; rintro e w' ⟨rfl, rfl⟩))
    go_ret
    exact ⟨by simp [hs, hc], rfl⟩

def Tk.sign (n : Int) : Bool := decide (0 ≤ Lib.indexByte [43, 45, 42, 47, 92, 94, 60, 62, 61, 126, 58, 46, 63, 64, 35, 38, 36] n.toNat.toUInt8)
def Tk.punct (n : Int) : Bool := decide (0 ≤ Lib.indexByte [40, 41, 91, 93, 123, 125, 44, 124] n.toNat.toUInt8)
theorem isSign_any (n : Int) (w : World) :
    Calls Tryz.prog 88 #[.int .u8 n] w fun e w' => e = .returned (.bool (Tk.sign n)) ∧ w = w' := by
  go_enter Tryz.func88, Tryz.ntmps88
  go_wp2_with (go_at_call 146; refine (Tryz.strings_IndexByte _ _ _).mono ?_; rintro e w' ⟨rfl, rfl⟩)
  all_goals (go_ret; exact ⟨by simp [Tk.sign, *] <;> omega, rfl⟩)
theorem isPunct_any (n : Int) (w : World) :
    Calls Tryz.prog 93 #[.int .u8 n] w fun e w' => e = .returned (.bool (Tk.punct n)) ∧ w = w' := by
  go_enter Tryz.func93, Tryz.ntmps93
  go_wp2_with (go_at_call 146; refine (Tryz.strings_IndexByte _ _ _).mono ?_; rintro e w' ⟨rfl, rfl⟩)
  all_goals (go_ret; exact ⟨by simp [Tk.punct, *] <;> omega, rfl⟩)
end Go.Proofs.YteeigpdnkhpahaaGreatDoor
