import Derived.Test.YtnmadpkdmgeiaaaDoorA2
namespace Go.Proofs.YtnmadpkdmgeiaaaDoor
open Go.RowKit

set_option maxRecDepth 100000 in
set_option maxHeartbeats 400000 in
theorem every_inWord (s : ByteArray) (w : World) (hs : s.size ≤ maxLen) :
    Calls Tryd.prog 55 #[.string s, .func (.func 21) #[] #[]] w fun e w' => e = .returned (.bool (Tk.every Tk.inWord s.data.toList)) ∧ w = w' := by
  have HM := Lib.hid hs
  clear hs
  have HZ := Lib.hid (size_data s)
  have HL := Lib.hid (Go.ByteArray.toList_eq s)
  by_cases he : s.toList = []
  · have HE := Lib.hid he
    have he2 : (!s.toList.isEmpty) = false := by simp [he]
    go_enter Tryd.func55, Tryd.ntmps55
    go_wp2_with fail
    go_ret
    exact ⟨ret_bool (by simp [Tk.every, ← HL.out, HE.out]), rfl⟩
  · have HE := Lib.hid he
    have hmm : s.size ≤ maxLen := HM.out
    have he2 : (!s.toList.isEmpty) = true := by simp [he]
    unfold maxLen at hmm
    go_enter Tryd.func55, Tryd.ntmps55
    go_wp2_with (go_at_call 20; refine (run_inWord _ 0 _ HM.out (Nat.zero_le _)).mono ?_; rintro e w' ⟨rfl, rfl⟩)
    go_ret
    exact ⟨ret_bool (by have h1 := HE.out; rw [HL.out] at h1; have h2 : s.data.toList.isEmpty = false := (by simpa using h1); simp only [cast_beq, Tk.every, HZ.out, h2, Bool.not_false, Bool.true_and]), rfl⟩

set_option maxRecDepth 100000 in
set_option maxHeartbeats 400000 in
theorem every_digit (s : ByteArray) (w : World) (hs : s.size ≤ maxLen) :
    Calls Tryd.prog 55 #[.string s, .func (.func 23) #[] #[]] w fun e w' => e = .returned (.bool (Tk.every Tk.digit s.data.toList)) ∧ w = w' := by
  have HM := Lib.hid hs
  clear hs
  have HZ := Lib.hid (size_data s)
  have HL := Lib.hid (Go.ByteArray.toList_eq s)
  by_cases he : s.toList = []
  · have HE := Lib.hid he
    have he2 : (!s.toList.isEmpty) = false := by simp [he]
    go_enter Tryd.func55, Tryd.ntmps55
    go_wp2_with fail
    go_ret
    exact ⟨ret_bool (by simp [Tk.every, ← HL.out, HE.out]), rfl⟩
  · have HE := Lib.hid he
    have hmm : s.size ≤ maxLen := HM.out
    have he2 : (!s.toList.isEmpty) = true := by simp [he]
    unfold maxLen at hmm
    go_enter Tryd.func55, Tryd.ntmps55
    go_wp2_with (go_at_call 20; refine (run_digit _ 0 _ HM.out (Nat.zero_le _)).mono ?_; rintro e w' ⟨rfl, rfl⟩)
    go_ret
    exact ⟨ret_bool (by have h1 := HE.out; rw [HL.out] at h1; have h2 : s.data.toList.isEmpty = false := (by simpa using h1); simp only [cast_beq, Tk.every, HZ.out, h2, Bool.not_false, Bool.true_and]), rfl⟩

set_option maxRecDepth 100000 in
set_option maxHeartbeats 400000 in
theorem every_sign (s : ByteArray) (w : World) (hs : s.size ≤ maxLen) :
    Calls Tryd.prog 55 #[.string s, .func (.func 24) #[] #[]] w fun e w' => e = .returned (.bool (Tk.every Tk.sign s.data.toList)) ∧ w = w' := by
  have HM := Lib.hid hs
  clear hs
  have HZ := Lib.hid (size_data s)
  have HL := Lib.hid (Go.ByteArray.toList_eq s)
  by_cases he : s.toList = []
  · have HE := Lib.hid he
    have he2 : (!s.toList.isEmpty) = false := by simp [he]
    go_enter Tryd.func55, Tryd.ntmps55
    go_wp2_with fail
    go_ret
    exact ⟨ret_bool (by simp [Tk.every, ← HL.out, HE.out]), rfl⟩
  · have HE := Lib.hid he
    have hmm : s.size ≤ maxLen := HM.out
    have he2 : (!s.toList.isEmpty) = true := by simp [he]
    unfold maxLen at hmm
    go_enter Tryd.func55, Tryd.ntmps55
    go_wp2_with (go_at_call 20; refine (run_sign _ 0 _ HM.out (Nat.zero_le _)).mono ?_; rintro e w' ⟨rfl, rfl⟩)
    go_ret
    exact ⟨ret_bool (by have h1 := HE.out; rw [HL.out] at h1; have h2 : s.data.toList.isEmpty = false := (by simpa using h1); simp only [cast_beq, Tk.every, HZ.out, h2, Bool.not_false, Bool.true_and]), rfl⟩

set_option maxRecDepth 100000 in
set_option maxHeartbeats 400000 in
theorem every_inText (s : ByteArray) (w : World) (hs : s.size ≤ maxLen) :
    Calls Tryd.prog 55 #[.string s, .func (.func 43) #[] #[]] w fun e w' => e = .returned (.bool (Tk.every Tk.inText s.data.toList)) ∧ w = w' := by
  have HM := Lib.hid hs
  clear hs
  have HZ := Lib.hid (size_data s)
  have HL := Lib.hid (Go.ByteArray.toList_eq s)
  by_cases he : s.toList = []
  · have HE := Lib.hid he
    have he2 : (!s.toList.isEmpty) = false := by simp [he]
    go_enter Tryd.func55, Tryd.ntmps55
    go_wp2_with fail
    go_ret
    exact ⟨ret_bool (by simp [Tk.every, ← HL.out, HE.out]), rfl⟩
  · have HE := Lib.hid he
    have hmm : s.size ≤ maxLen := HM.out
    have he2 : (!s.toList.isEmpty) = true := by simp [he]
    unfold maxLen at hmm
    go_enter Tryd.func55, Tryd.ntmps55
    go_wp2_with (go_at_call 20; refine (run_inText _ 0 _ HM.out (Nat.zero_le _)).mono ?_; rintro e w' ⟨rfl, rfl⟩)
    go_ret
    exact ⟨ret_bool (by have h1 := HE.out; rw [HL.out] at h1; have h2 : s.data.toList.isEmpty = false := (by simpa using h1); simp only [cast_beq, Tk.every, HZ.out, h2, Bool.not_false, Bool.true_and]), rfl⟩

set_option maxRecDepth 100000 in
set_option maxHeartbeats 400000 in
theorem every_shown (s : ByteArray) (w : World) (hs : s.size ≤ maxLen) :
    Calls Tryd.prog 55 #[.string s, .func (.func 48) #[] #[]] w fun e w' => e = .returned (.bool (Tk.every Tk.shown s.data.toList)) ∧ w = w' := by
  have HM := Lib.hid hs
  clear hs
  have HZ := Lib.hid (size_data s)
  have HL := Lib.hid (Go.ByteArray.toList_eq s)
  by_cases he : s.toList = []
  · have HE := Lib.hid he
    have he2 : (!s.toList.isEmpty) = false := by simp [he]
    go_enter Tryd.func55, Tryd.ntmps55
    go_wp2_with fail
    go_ret
    exact ⟨ret_bool (by simp [Tk.every, ← HL.out, HE.out]), rfl⟩
  · have HE := Lib.hid he
    have hmm : s.size ≤ maxLen := HM.out
    have he2 : (!s.toList.isEmpty) = true := by simp [he]
    unfold maxLen at hmm
    go_enter Tryd.func55, Tryd.ntmps55
    go_wp2_with (go_at_call 20; refine (run_shown _ 0 _ HM.out (Nat.zero_le _)).mono ?_; rintro e w' ⟨rfl, rfl⟩)
    go_ret
    exact ⟨ret_bool (by have h1 := HE.out; rw [HL.out] at h1; have h2 : s.data.toList.isEmpty = false := (by simpa using h1); simp only [cast_beq, Tk.every, HZ.out, h2, Bool.not_false, Bool.true_and]), rfl⟩

end Go.Proofs.YtnmadpkdmgeiaaaDoor
