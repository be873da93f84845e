import Derived.Test.YtnmadpkdmgeiaaaDoorRows
import Derived.Test.YtnmadpkdmgeiaaaDoorShelf
import Derived.WalkKit
import Derived.WalkSpells
import Derived.WalkLawsBesides
namespace Go.Proofs.YtnmadpkdmgeiaaaDoor
open Go.RowKit

def Tk.blank (n : Int) : Bool := n == 32 || n == 9 || n == 10
def Tk.shown (n : Int) : Bool := decide (32 ≤ n) && decide (n ≤ 126)
def Tk.inText (n : Int) : Bool := Tk.shown n || Tk.blank n
def Tk.small (n : Int) : Bool := decide (97 ≤ n) && decide (n ≤ 122)
def Tk.capital (n : Int) : Bool := (decide (65 ≤ n) && decide (n ≤ 90)) || n == 95
def Tk.digit (n : Int) : Bool := decide (48 ≤ n) && decide (n ≤ 57)
def Tk.inWord (n : Int) : Bool := Tk.small n || Tk.capital n || Tk.digit n
def Tk.point (n : Int) : Bool := n == 46
def Tk.backslash (n : Int) : Bool := n == 92
def Tk.bangMark (n : Int) : Bool := n == 46 || n == 58

theorem isBlank_any (n : Int) (w : World) :
    Calls Tryd.prog 13 #[.int .u8 n] w fun e w' => e = .returned (.bool (Tk.blank n)) ∧ w = w' := by
  go_enter Tryd.func13, Tryd.ntmps13
  go_wp2
  all_goals (go_ret; exact ⟨by simp [Tk.blank, *] <;> omega, rfl⟩)
theorem isShown_any (n : Int) (w : World) :
    Calls Tryd.prog 48 #[.int .u8 n] w fun e w' => e = .returned (.bool (Tk.shown n)) ∧ w = w' := by
  go_enter Tryd.func48, Tryd.ntmps48
  go_wp2
  all_goals (go_ret; exact ⟨by simp [Tk.shown, *] <;> omega, rfl⟩)
theorem isSmall_any (n : Int) (w : World) :
    Calls Tryd.prog 17 #[.int .u8 n] w fun e w' => e = .returned (.bool (Tk.small n)) ∧ w = w' := by
  go_enter Tryd.func17, Tryd.ntmps17
  go_wp2
  all_goals (go_ret; exact ⟨by simp [Tk.small, *] <;> omega, rfl⟩)
theorem isCapital_any (n : Int) (w : World) :
    Calls Tryd.prog 19 #[.int .u8 n] w fun e w' => e = .returned (.bool (Tk.capital n)) ∧ w = w' := by
  go_enter Tryd.func19, Tryd.ntmps19
  go_wp2
  all_goals (go_ret; exact ⟨by simp [Tk.capital, *] <;> omega, rfl⟩)
theorem isDigit_any (n : Int) (w : World) :
    Calls Tryd.prog 23 #[.int .u8 n] w fun e w' => e = .returned (.bool (Tk.digit n)) ∧ w = w' := by
  go_enter Tryd.func23, Tryd.ntmps23
  go_wp2
  all_goals (go_ret; exact ⟨by simp [Tk.digit, *] <;> omega, rfl⟩)
theorem isPoint_any (n : Int) (w : World) :
    Calls Tryd.prog 46 #[.int .u8 n] w fun e w' => e = .returned (.bool (Tk.point n)) ∧ w = w' := by
  go_enter Tryd.func46, Tryd.ntmps46
  go_wp2
  all_goals (go_ret; exact ⟨by simp [Tk.point, *] <;> omega, rfl⟩)
theorem isBackslash_any (n : Int) (w : World) :
    Calls Tryd.prog 47 #[.int .u8 n] w fun e w' => e = .returned (.bool (Tk.backslash n)) ∧ w = w' := by
  go_enter Tryd.func47, Tryd.ntmps47
  go_wp2
  all_goals (go_ret; exact ⟨by simp [Tk.backslash, *] <;> omega, rfl⟩)
theorem isBangMark_any (n : Int) (w : World) :
    Calls Tryd.prog 51 #[.int .u8 n] w fun e w' => e = .returned (.bool (Tk.bangMark n)) ∧ w = w' := by
  go_enter Tryd.func51, Tryd.ntmps51
  go_wp2
  all_goals (go_ret; exact ⟨by simp [Tk.bangMark, *] <;> omega, rfl⟩)
theorem inText_any (n : Int) (w : World) :
    Calls Tryd.prog 43 #[.int .u8 n] w fun e w' => e = .returned (.bool (Tk.inText n)) ∧ w = w' := by
  unfold Tk.inText
  cases hs : Tk.shown n
  all_goals
    go_enter Tryd.func43, Tryd.ntmps43
    go_wp2_with (first | (go_at_call 48; refine (isShown_any _ _).mono ?_; rintro e w' ⟨rfl, rfl⟩) | (go_at_call 13; refine (isBlank_any _ _).mono ?_; rintro e w' ⟨rfl, rfl⟩))
    go_ret
    exact ⟨by simp [hs], rfl⟩
theorem inWord_any (n : Int) (w : World) :
    Calls Tryd.prog 21 #[.int .u8 n] w fun e w' => e = .returned (.bool (Tk.inWord n)) ∧ w = w' := by
  unfold Tk.inWord
  cases hs : Tk.small n <;> cases hc : Tk.capital n
  all_goals
    go_enter Tryd.func21, Tryd.ntmps21
    go_wp2_with (first | (go_at_call 17; refine (isSmall_any _ _).mono ?_; rintro e w' ⟨rfl, rfl⟩) | (go_at_call 19; refine (isCapital_any _ _).mono ?_; rintro e w' ⟨rfl, rfl⟩) | (go_at_call 23; refine (isDigit_any _ _).mono ?_; rintro e w' ⟨rfl, rfl⟩))
    go_ret
    exact ⟨by simp [hs, hc], rfl⟩

def Tk.sign (n : Int) : Bool := decide (0 ≤ Lib.indexByte [43, 45, 42, 47, 92, 94, 60, 62, 61, 126, 58, 46, 63, 64, 35, 38, 36] n.toNat.toUInt8)
def Tk.punct (n : Int) : Bool := decide (0 ≤ Lib.indexByte [40, 41, 91, 93, 123, 125, 44, 124] n.toNat.toUInt8)
theorem isSign_any (n : Int) (w : World) :
    Calls Tryd.prog 24 #[.int .u8 n] w fun e w' => e = .returned (.bool (Tk.sign n)) ∧ w = w' := by
  go_enter Tryd.func24, Tryd.ntmps24
  go_wp2_with (go_at_call 50; refine (Tryd.strings_IndexByte _ _ _).mono ?_; rintro e w' ⟨rfl, rfl⟩)
  all_goals (go_ret; exact ⟨by simp [Tk.sign, *] <;> omega, rfl⟩)
theorem isPunct_any (n : Int) (w : World) :
    Calls Tryd.prog 29 #[.int .u8 n] w fun e w' => e = .returned (.bool (Tk.punct n)) ∧ w = w' := by
  go_enter Tryd.func29, Tryd.ntmps29
  go_wp2_with (go_at_call 50; refine (Tryd.strings_IndexByte _ _ _).mono ?_; rintro e w' ⟨rfl, rfl⟩)
  all_goals (go_ret; exact ⟨by simp [Tk.punct, *] <;> omega, rfl⟩)
end Go.Proofs.YtnmadpkdmgeiaaaDoor
