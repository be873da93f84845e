import Derived.Test.YtnmadpkdmgeiaaaDoorA4
namespace Go.Proofs.YtnmadpkdmgeiaaaDoor
open Go.RowKit

theorem list_of_bytes {s : ByteArray} {l : List UInt8} (h : s.toList = l) : s = ⟨l.toArray⟩ := by
  rw [Go.ByteArray.toList_eq] at h
  subst h
  rfl
def Tk.bang (l : List UInt8) : Bool := l == [33] || l == [59]
def Tk.bare (l : List UInt8) : Bool :=
  if Tk.bang l then true else if Tk.every Tk.sign l then (!(l == [46])) && !(Lib.hasPrefix l [47, 42]) else Tk.dotted l
def Tk.bangPair (l : List UInt8) : Bool := l == [33, 46] || l == [33, 58]
def Tk.quotable (l : List UInt8) : Bool := Tk.every Tk.shown l && !(decide (0 ≤ Lib.indexByte l 46))

theorem isBangPair_any (s : ByteArray) (w : World) :
    Calls Tryd.prog 53 #[.string s] w fun e w' => e = .returned (.bool (Tk.bangPair s.data.toList)) ∧ w = w' := by
  go_enter Tryd.func53, Tryd.ntmps53
  go_wp2
  all_goals (go_ret; exact ⟨ret_bool (by simp [Tk.bangPair, ← Go.ByteArray.toList_eq, *]), rfl⟩)

set_option maxRecDepth 100000 in
set_option maxHeartbeats 400000 in
theorem isQuotable_any (s : ByteArray) (w : World) (hs : s.size ≤ maxLen) :
    Calls Tryd.prog 54 #[.string s] w fun e w' => e = .returned (.bool (Tk.quotable s.data.toList)) ∧ w = w' := by
  have HM := Lib.hid hs; clear hs
  cases h1 : Tk.every Tk.shown s.data.toList
  · go_enter Tryd.func54, Tryd.ntmps54
    go_wp2_with (go_at_call 55; refine (every_shown s _ HM.out).mono ?_; rintro e w' ⟨rfl, rfl⟩)
    go_ret
    exact ⟨ret_bool (by simp [Tk.quotable, h1]), rfl⟩
  · go_enter Tryd.func54, Tryd.ntmps54
    go_wp2_with (first | (go_at_call 55; refine (every_shown s _ HM.out).mono ?_; rintro e w' ⟨rfl, rfl⟩) | (go_at_call 52; refine (Tryd.strings_Contains_one s 46 _).mono ?_; rintro e w' ⟨rfl, rfl⟩))
    go_ret
    exact ⟨ret_bool (by simp [Tk.quotable, h1]), rfl⟩

set_option maxRecDepth 100000 in
set_option maxHeartbeats 400000 in
theorem isBare_any (s : ByteArray) (w : World) (hs : s.size ≤ 4611686018427387904) :
    Calls Tryd.prog 42 #[.string s] w fun e w' => e = .returned (.bool (Tk.bare s.data.toList)) ∧ w = w' := by
  have HL := Lib.hid (Go.ByteArray.toList_eq s)
  have HS := Lib.hid hs
  have HM : Hid (s.size ≤ maxLen) := by unfold maxLen Hid; omega
  by_cases e1 : s.toList = [33]
  · have := list_of_bytes e1; subst this
    clear e1
    go_enter Tryd.func42, Tryd.ntmps42
    go_wp2
    go_ret
    exact ⟨rfl, rfl⟩
  by_cases e2 : s.toList = [59]
  · have := list_of_bytes e2; subst this
    clear e1 e2
    go_enter Tryd.func42, Tryd.ntmps42
    go_wp2
    go_ret
    exact ⟨rfl, rfl⟩
  have hb : Tk.bang s.data.toList = false := by simp [Tk.bang, ← HL.out, e1, e2]
  have e1' : (s.toList == [33]) = false := by simp [e1]
  have e2' : (s.toList == [59]) = false := by simp [e2]
  have HB := Lib.hid hb; clear hb e1 e2
  cases h1 : Tk.every Tk.sign s.data.toList
  · go_enter Tryd.func42, Tryd.ntmps42
    go_wp2_with (first | (go_at_call 55; refine (every_sign s _ HM.out).mono ?_; rintro e w' ⟨rfl, rfl⟩) | (go_at_call 56; refine (isDotted_any s _ HS.out).mono ?_; rintro e w' ⟨rfl, rfl⟩))
    go_ret
    exact ⟨ret_bool (by simp [Tk.bare, HB.out, h1]), rfl⟩
  · cases h2 : (s.toList == [46])
    · have h3 : ¬ s.toList = [46] := by simpa using h2
      go_enter Tryd.func42, Tryd.ntmps42
      go_wp2_with (first | (go_at_call 55; refine (every_sign s _ HM.out).mono ?_; rintro e w' ⟨rfl, rfl⟩) | (go_at_call 44; refine (Tryd.strings_HasPrefix s _ _).mono ?_; rintro e w' ⟨rfl, rfl⟩))
      go_ret
      exact ⟨ret_bool (by have h4 : (s.data.toList == [46]) = false := (by rw [← HL.out]; exact h2); rw [Tk.bare, HB.out, h1, h4]; rfl), rfl⟩
    · have h3 : s.toList = [46] := by simpa using h2
      have := list_of_bytes h3; subst this
      go_enter Tryd.func42, Tryd.ntmps42
      go_wp2_with (first | (go_at_call 55; refine (every_sign _ _ HM.out).mono ?_; rintro e w' ⟨rfl, rfl⟩))
      go_ret
      exact ⟨ret_bool (by simp [Tk.bare, HB.out, h1]), rfl⟩

def Tk.part (l : List UInt8) : Int := if 40 < l.length then 6 else 0
theorem checkPart_any (s : ByteArray) (w : World) (hs : s.size ≤ maxLen) :
    Calls Tryd.prog 34 #[.string s] w fun e w' => e = .returned (.int .i64 (Tk.part s.data.toList)) ∧ w = w' := by
  unfold maxLen at hs
  have HZ := Lib.hid (size_data s)
  by_cases h : 40 < s.size
  all_goals
    go_enter Tryd.func34, Tryd.ntmps34
    go_wp2
    go_ret
    exact ⟨ret_int (by simp only [Tk.part, HZ.out, h]; rfl), rfl⟩

/-- What a byte behind a backslash stands for. -/
def Tk.meantOk (c m : Int) : Bool := if c == 92 || c == m then true else if m == 39 then false else if c == 110 then true else c == 116
def Tk.meant (c m : Int) : Int := if c == 92 || c == m then c else if m == 39 then 0 else if c == 110 then 10 else if c == 116 then 9 else 0
theorem meant_any (c m : Int) (w : World) :
    Calls Tryd.prog 49 #[.int .u8 c, .int .u8 m] w fun e w' => e = .returned (.tuple #[.int .u8 (Tk.meant c m), .bool (Tk.meantOk c m)]) ∧ w = w' := by
  by_cases h1 : c = 92
  · subst h1
    go_enter Tryd.func49, Tryd.ntmps49
    go_wp2
    go_ret2
    exact ⟨by simp [Tk.meant, Tk.meantOk], rfl⟩
  by_cases h2 : c = m
  · subst h2
    go_enter Tryd.func49, Tryd.ntmps49
    go_wp2
    go_ret2
    exact ⟨by simp [Tk.meant, Tk.meantOk], rfl⟩
  have b1 : (c == 92) = false := by simp [h1]
  have b2 : (c == m) = false := by simp [h2]
  by_cases h3 : m = 39
  · subst h3
    go_enter Tryd.func49, Tryd.ntmps49
    go_wp2
    go_ret2
    exact ⟨by simp [Tk.meant, Tk.meantOk, h1, h2], rfl⟩
  have b3 : (m == 39) = false := by simp [h3]
  by_cases h4 : c = 110
  · subst h4
    go_enter Tryd.func49, Tryd.ntmps49
    go_wp2
    go_ret2
    exact ⟨by simp [Tk.meant, Tk.meantOk, h2, h3], rfl⟩
  have b4 : (c == 110) = false := by simp [h4]
  by_cases h5 : c = 116
  · subst h5
    go_enter Tryd.func49, Tryd.ntmps49
    go_wp2
    go_ret2
    exact ⟨by simp [Tk.meant, Tk.meantOk, h2, h3], rfl⟩
  have b5 : (c == 116) = false := by simp [h5]
  go_enter Tryd.func49, Tryd.ntmps49
  go_wp2
  go_ret2
  exact ⟨by simp [Tk.meant, Tk.meantOk, h1, h2, h3, h4, h5], rfl⟩
end Go.Proofs.YtnmadpkdmgeiaaaDoor
