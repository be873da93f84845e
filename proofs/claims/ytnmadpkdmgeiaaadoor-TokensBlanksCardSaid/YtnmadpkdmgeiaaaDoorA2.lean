import Derived.Test.YtnmadpkdmgeiaaaDoorA1
import Derived.LoopTactic
import Derived.Lib.Hide
namespace Go.Proofs.YtnmadpkdmgeiaaaDoor
open Go.RowKit

theorem getD_at {α : Type} {l : List α} {k : Nat} {d : α} (h : k < l.length) : l.getD k d = l[k] := by simp [List.getD_eq_getElem?_getD, h]
/-- The byte at an index. -/
def Tk.bt (l : List UInt8) (i : Nat) : Int := ((l.getD i 0).toNat : Int)
/-- The end of the longest run of bytes of a class. -/
def Tk.run (p : Int → Bool) (l : List UInt8) (i : Nat) : Nat := i + ((l.drop i).takeWhile fun c => p (c.toNat : Int)).length
theorem Tk.bt_of (s : ByteArray) (k : Nat) (h : k < s.size) : (s[k].toNat : Int) = Tk.bt s.data.toList k := by
  have h' : k < s.data.toList.length := by simpa using h
  unfold Tk.bt
  rw [getD_at h']
  rfl
theorem Tk.run_yes {p : Int → Bool} {l : List UInt8} {k : Nat} (h : k < l.length) (hp : p (Tk.bt l k) = true) : Tk.run p l k = Tk.run p l (k + 1) := by
  unfold Tk.run Tk.bt at *
  rw [getD_at h] at hp
  rw [List.drop_eq_getElem_cons h, List.takeWhile_cons, if_pos hp]
  simp; omega
theorem Tk.run_no {p : Int → Bool} {l : List UInt8} {k : Nat} (h : k < l.length) (hp : p (Tk.bt l k) = false) : Tk.run p l k = k := by
  unfold Tk.run Tk.bt at *
  rw [getD_at h] at hp
  rw [List.drop_eq_getElem_cons h, List.takeWhile_cons, if_neg (by rw [hp]; decide)]
  simp
theorem Tk.run_end {p : Int → Bool} {l : List UInt8} {k : Nat} (h : l.length ≤ k) : Tk.run p l k = k := by
  unfold Tk.run
  rw [List.drop_of_length_le h]; simp
theorem Tk.run_le {p : Int → Bool} {l : List UInt8} {k : Nat} (h : k ≤ l.length) : Tk.run p l k ≤ l.length := by
  unfold Tk.run
  have := (List.takeWhile_sublist (fun c => p (c.toNat : Int)) (l := l.drop k)).length_le
  simp at this; omega
theorem Tk.run_ge (p : Int → Bool) (l : List UInt8) (k : Nat) : k ≤ Tk.run p l k := by unfold Tk.run; omega
theorem ret_int {k : IntKind} {a b : Int} (h : a = b) : Ending.returned (.int k a) = .returned (.int k b) := by rw [h]
theorem size_data (s : ByteArray) : s.data.toList.length = s.size := by simp


def Tk.startsAt (p : Int → Bool) (l : List UInt8) (i : Nat) : Bool := decide (i < l.length) && p (Tk.bt l i)
def Tk.every (p : Int → Bool) (l : List UInt8) : Bool := !l.isEmpty && (Tk.run p l 0 == l.length)
theorem Tk.starts_yes {p : Int → Bool} {l : List UInt8} {i : Nat} (h : i < l.length) : Tk.startsAt p l i = p (Tk.bt l i) := by simp [Tk.startsAt, h]
theorem Tk.starts_no {p : Int → Bool} {l : List UInt8} {i : Nat} (h : ¬ i < l.length) : Tk.startsAt p l i = false := by simp [Tk.startsAt, h]
theorem cast_beq (a b : Nat) : ((a : Int) == (b : Int)) = (a == b) := by rw [Bool.eq_iff_iff, beq_iff_eq, beq_iff_eq]; omega
theorem ret_bool {a b : Bool} (h : a = b) : Ending.returned (.bool a) = .returned (.bool b) := by rw [h]

set_option maxRecDepth 100000 in
set_option maxHeartbeats 400000 in
theorem run_inWord (s : ByteArray) (i : Nat) (w : World) (hs : s.size ≤ maxLen) (hi : i ≤ s.size) :
    Calls Tryd.prog 20 #[.string s, .int .i64 i, .func (.func 21) #[] #[]] w fun e w' => e = .returned (.int .i64 (Tk.run Tk.inWord s.data.toList i)) ∧ w = w' := by
  unfold maxLen at hs
  have hz := size_data s
  have HZ := Lib.hid hz; clear hz
  go_enter Tryd.func20, Tryd.ntmps20
  go_wp2_with fail
  go_loop [1] (fun i' => ∃ k : Nat, i ≤ k ∧ k ≤ s.size ∧ i' = .int .i64 k ∧ Hid (Tk.run Tk.inWord s.data.toList i = Tk.run Tk.inWord s.data.toList k)) (fun i' => s.size - (intOf i').toNat)
  case atStart => exact ⟨i, Nat.le_refl _, hi, rfl, Lib.hid rfl⟩
  case round =>
    obtain ⟨k, hik, hk, rfl, hr⟩ := hrel
    by_cases hlt : k < s.size
    · have hb := Tk.bt_of s k hlt
      have HB := Lib.hid hb; clear hb
      go_wp2_with (go_at_call 21; refine (inWord_any _ _).mono ?_; rintro e w' ⟨rfl, rfl⟩)
      · go_round
        case rel => exact ⟨k + 1, by omega, by omega, by go_num, Lib.hid (by rw [hr.out, Tk.run_yes (by rw [HZ.out]; exact hlt) (by rw [← HB.out]; assumption)])⟩
        case measure => simp [intOf]; omega
      · go_ret
        exact ⟨ret_int (by rw [hr.out, Tk.run_no (by rw [HZ.out]; exact hlt) (by rw [← HB.out]; simpa using ‹_ = false›)]), rfl⟩
    · go_wp2_with fail
      go_ret
      exact ⟨ret_int (by rw [hr.out, Tk.run_end (by rw [HZ.out]; omega)]), rfl⟩

set_option maxRecDepth 100000 in
set_option maxHeartbeats 400000 in
theorem run_digit (s : ByteArray) (i : Nat) (w : World) (hs : s.size ≤ maxLen) (hi : i ≤ s.size) :
    Calls Tryd.prog 20 #[.string s, .int .i64 i, .func (.func 23) #[] #[]] w fun e w' => e = .returned (.int .i64 (Tk.run Tk.digit s.data.toList i)) ∧ w = w' := by
  unfold maxLen at hs
  have hz := size_data s
  have HZ := Lib.hid hz; clear hz
  go_enter Tryd.func20, Tryd.ntmps20
  go_wp2_with fail
  go_loop [1] (fun i' => ∃ k : Nat, i ≤ k ∧ k ≤ s.size ∧ i' = .int .i64 k ∧ Hid (Tk.run Tk.digit s.data.toList i = Tk.run Tk.digit s.data.toList k)) (fun i' => s.size - (intOf i').toNat)
  case atStart => exact ⟨i, Nat.le_refl _, hi, rfl, Lib.hid rfl⟩
  case round =>
    obtain ⟨k, hik, hk, rfl, hr⟩ := hrel
    by_cases hlt : k < s.size
    · have hb := Tk.bt_of s k hlt
      have HB := Lib.hid hb; clear hb
      go_wp2_with (go_at_call 23; refine (isDigit_any _ _).mono ?_; rintro e w' ⟨rfl, rfl⟩)
      · go_round
        case rel => exact ⟨k + 1, by omega, by omega, by go_num, Lib.hid (by rw [hr.out, Tk.run_yes (by rw [HZ.out]; exact hlt) (by rw [← HB.out]; assumption)])⟩
        case measure => simp [intOf]; omega
      · go_ret
        exact ⟨ret_int (by rw [hr.out, Tk.run_no (by rw [HZ.out]; exact hlt) (by rw [← HB.out]; simpa using ‹_ = false›)]), rfl⟩
    · go_wp2_with fail
      go_ret
      exact ⟨ret_int (by rw [hr.out, Tk.run_end (by rw [HZ.out]; omega)]), rfl⟩

set_option maxRecDepth 100000 in
set_option maxHeartbeats 400000 in
theorem run_sign (s : ByteArray) (i : Nat) (w : World) (hs : s.size ≤ maxLen) (hi : i ≤ s.size) :
    Calls Tryd.prog 20 #[.string s, .int .i64 i, .func (.func 24) #[] #[]] w fun e w' => e = .returned (.int .i64 (Tk.run Tk.sign s.data.toList i)) ∧ w = w' := by
  unfold maxLen at hs
  have hz := size_data s
  have HZ := Lib.hid hz; clear hz
  go_enter Tryd.func20, Tryd.ntmps20
  go_wp2_with fail
  go_loop [1] (fun i' => ∃ k : Nat, i ≤ k ∧ k ≤ s.size ∧ i' = .int .i64 k ∧ Hid (Tk.run Tk.sign s.data.toList i = Tk.run Tk.sign s.data.toList k)) (fun i' => s.size - (intOf i').toNat)
  case atStart => exact ⟨i, Nat.le_refl _, hi, rfl, Lib.hid rfl⟩
  case round =>
    obtain ⟨k, hik, hk, rfl, hr⟩ := hrel
    by_cases hlt : k < s.size
    · have hb := Tk.bt_of s k hlt
      have HB := Lib.hid hb; clear hb
      go_wp2_with (go_at_call 24; refine (isSign_any _ _).mono ?_; rintro e w' ⟨rfl, rfl⟩)
      · go_round
        case rel => exact ⟨k + 1, by omega, by omega, by go_num, Lib.hid (by rw [hr.out, Tk.run_yes (by rw [HZ.out]; exact hlt) (by rw [← HB.out]; assumption)])⟩
        case measure => simp [intOf]; omega
      · go_ret
        exact ⟨ret_int (by rw [hr.out, Tk.run_no (by rw [HZ.out]; exact hlt) (by rw [← HB.out]; simpa using ‹_ = false›)]), rfl⟩
    · go_wp2_with fail
      go_ret
      exact ⟨ret_int (by rw [hr.out, Tk.run_end (by rw [HZ.out]; omega)]), rfl⟩

set_option maxRecDepth 100000 in
set_option maxHeartbeats 400000 in
theorem run_inText (s : ByteArray) (i : Nat) (w : World) (hs : s.size ≤ maxLen) (hi : i ≤ s.size) :
    Calls Tryd.prog 20 #[.string s, .int .i64 i, .func (.func 43) #[] #[]] w fun e w' => e = .returned (.int .i64 (Tk.run Tk.inText s.data.toList i)) ∧ w = w' := by
  unfold maxLen at hs
  have hz := size_data s
  have HZ := Lib.hid hz; clear hz
  go_enter Tryd.func20, Tryd.ntmps20
  go_wp2_with fail
  go_loop [1] (fun i' => ∃ k : Nat, i ≤ k ∧ k ≤ s.size ∧ i' = .int .i64 k ∧ Hid (Tk.run Tk.inText s.data.toList i = Tk.run Tk.inText s.data.toList k)) (fun i' => s.size - (intOf i').toNat)
  case atStart => exact ⟨i, Nat.le_refl _, hi, rfl, Lib.hid rfl⟩
  case round =>
    obtain ⟨k, hik, hk, rfl, hr⟩ := hrel
    by_cases hlt : k < s.size
    · have hb := Tk.bt_of s k hlt
      have HB := Lib.hid hb; clear hb
      go_wp2_with (go_at_call 43; refine (inText_any _ _).mono ?_; rintro e w' ⟨rfl, rfl⟩)
      · go_round
        case rel => exact ⟨k + 1, by omega, by omega, by go_num, Lib.hid (by rw [hr.out, Tk.run_yes (by rw [HZ.out]; exact hlt) (by rw [← HB.out]; assumption)])⟩
        case measure => simp [intOf]; omega
      · go_ret
        exact ⟨ret_int (by rw [hr.out, Tk.run_no (by rw [HZ.out]; exact hlt) (by rw [← HB.out]; simpa using ‹_ = false›)]), rfl⟩
    · go_wp2_with fail
      go_ret
      exact ⟨ret_int (by rw [hr.out, Tk.run_end (by rw [HZ.out]; omega)]), rfl⟩

set_option maxRecDepth 100000 in
set_option maxHeartbeats 400000 in
theorem run_shown (s : ByteArray) (i : Nat) (w : World) (hs : s.size ≤ maxLen) (hi : i ≤ s.size) :
    Calls Tryd.prog 20 #[.string s, .int .i64 i, .func (.func 48) #[] #[]] w fun e w' => e = .returned (.int .i64 (Tk.run Tk.shown s.data.toList i)) ∧ w = w' := by
  unfold maxLen at hs
  have hz := size_data s
  have HZ := Lib.hid hz; clear hz
  go_enter Tryd.func20, Tryd.ntmps20
  go_wp2_with fail
  go_loop [1] (fun i' => ∃ k : Nat, i ≤ k ∧ k ≤ s.size ∧ i' = .int .i64 k ∧ Hid (Tk.run Tk.shown s.data.toList i = Tk.run Tk.shown s.data.toList k)) (fun i' => s.size - (intOf i').toNat)
  case atStart => exact ⟨i, Nat.le_refl _, hi, rfl, Lib.hid rfl⟩
  case round =>
    obtain ⟨k, hik, hk, rfl, hr⟩ := hrel
    by_cases hlt : k < s.size
    · have hb := Tk.bt_of s k hlt
      have HB := Lib.hid hb; clear hb
      go_wp2_with (go_at_call 48; refine (isShown_any _ _).mono ?_; rintro e w' ⟨rfl, rfl⟩)
      · go_round
        case rel => exact ⟨k + 1, by omega, by omega, by go_num, Lib.hid (by rw [hr.out, Tk.run_yes (by rw [HZ.out]; exact hlt) (by rw [← HB.out]; assumption)])⟩
        case measure => simp [intOf]; omega
      · go_ret
        exact ⟨ret_int (by rw [hr.out, Tk.run_no (by rw [HZ.out]; exact hlt) (by rw [← HB.out]; simpa using ‹_ = false›)]), rfl⟩
    · go_wp2_with fail
      go_ret
      exact ⟨ret_int (by rw [hr.out, Tk.run_end (by rw [HZ.out]; omega)]), rfl⟩

set_option maxRecDepth 100000 in
set_option maxHeartbeats 400000 in
theorem starts_point (s : ByteArray) (i : Nat) (w : World) (hs : s.size ≤ maxLen) (hi : i ≤ maxLen) :
    Calls Tryd.prog 45 #[.string s, .int .i64 i, .func (.func 46) #[] #[]] w fun e w' => e = .returned (.bool (Tk.startsAt Tk.point s.data.toList i)) ∧ w = w' := by
  unfold maxLen at hs hi
  have HZ := Lib.hid (size_data s)
  by_cases hlt : i < s.size
  · have HB := Lib.hid (Tk.bt_of s i hlt)
    go_enter Tryd.func45, Tryd.ntmps45
    go_wp2_with (go_at_call 46; refine (isPoint_any _ _).mono ?_; rintro e w' ⟨rfl, rfl⟩)
    go_ret
    exact ⟨ret_bool (by rw [Tk.starts_yes (by rw [HZ.out]; exact hlt), ← HB.out]), rfl⟩
  · go_enter Tryd.func45, Tryd.ntmps45
    go_wp2_with fail
    go_ret
    exact ⟨ret_bool (by rw [Tk.starts_no (by rw [HZ.out]; exact hlt)]), rfl⟩

set_option maxRecDepth 100000 in
set_option maxHeartbeats 400000 in
theorem starts_small (s : ByteArray) (i : Nat) (w : World) (hs : s.size ≤ maxLen) (hi : i ≤ maxLen) :
    Calls Tryd.prog 45 #[.string s, .int .i64 i, .func (.func 17) #[] #[]] w fun e w' => e = .returned (.bool (Tk.startsAt Tk.small s.data.toList i)) ∧ w = w' := by
  unfold maxLen at hs hi
  have HZ := Lib.hid (size_data s)
  by_cases hlt : i < s.size
  · have HB := Lib.hid (Tk.bt_of s i hlt)
    go_enter Tryd.func45, Tryd.ntmps45
    go_wp2_with (go_at_call 17; refine (isSmall_any _ _).mono ?_; rintro e w' ⟨rfl, rfl⟩)
    go_ret
    exact ⟨ret_bool (by rw [Tk.starts_yes (by rw [HZ.out]; exact hlt), ← HB.out]), rfl⟩
  · go_enter Tryd.func45, Tryd.ntmps45
    go_wp2_with fail
    go_ret
    exact ⟨ret_bool (by rw [Tk.starts_no (by rw [HZ.out]; exact hlt)]), rfl⟩

set_option maxRecDepth 100000 in
set_option maxHeartbeats 400000 in
theorem starts_capital (s : ByteArray) (i : Nat) (w : World) (hs : s.size ≤ maxLen) (hi : i ≤ maxLen) :
    Calls Tryd.prog 45 #[.string s, .int .i64 i, .func (.func 19) #[] #[]] w fun e w' => e = .returned (.bool (Tk.startsAt Tk.capital s.data.toList i)) ∧ w = w' := by
  unfold maxLen at hs hi
  have HZ := Lib.hid (size_data s)
  by_cases hlt : i < s.size
  · have HB := Lib.hid (Tk.bt_of s i hlt)
    go_enter Tryd.func45, Tryd.ntmps45
    go_wp2_with (go_at_call 19; refine (isCapital_any _ _).mono ?_; rintro e w' ⟨rfl, rfl⟩)
    go_ret
    exact ⟨ret_bool (by rw [Tk.starts_yes (by rw [HZ.out]; exact hlt), ← HB.out]), rfl⟩
  · go_enter Tryd.func45, Tryd.ntmps45
    go_wp2_with fail
    go_ret
    exact ⟨ret_bool (by rw [Tk.starts_no (by rw [HZ.out]; exact hlt)]), rfl⟩

set_option maxRecDepth 100000 in
set_option maxHeartbeats 400000 in
theorem starts_bangMark (s : ByteArray) (i : Nat) (w : World) (hs : s.size ≤ maxLen) (hi : i ≤ maxLen) :
    Calls Tryd.prog 45 #[.string s, .int .i64 i, .func (.func 51) #[] #[]] w fun e w' => e = .returned (.bool (Tk.startsAt Tk.bangMark s.data.toList i)) ∧ w = w' := by
  unfold maxLen at hs hi
  have HZ := Lib.hid (size_data s)
  by_cases hlt : i < s.size
  · have HB := Lib.hid (Tk.bt_of s i hlt)
    go_enter Tryd.func45, Tryd.ntmps45
    go_wp2_with (go_at_call 51; refine (isBangMark_any _ _).mono ?_; rintro e w' ⟨rfl, rfl⟩)
    go_ret
    exact ⟨ret_bool (by rw [Tk.starts_yes (by rw [HZ.out]; exact hlt), ← HB.out]), rfl⟩
  · go_enter Tryd.func45, Tryd.ntmps45
    go_wp2_with fail
    go_ret
    exact ⟨ret_bool (by rw [Tk.starts_no (by rw [HZ.out]; exact hlt)]), rfl⟩

set_option maxRecDepth 100000 in
set_option maxHeartbeats 400000 in
theorem starts_backslash (s : ByteArray) (i : Nat) (w : World) (hs : s.size ≤ maxLen) (hi : i ≤ maxLen) :
    Calls Tryd.prog 45 #[.string s, .int .i64 i, .func (.func 47) #[] #[]] w fun e w' => e = .returned (.bool (Tk.startsAt Tk.backslash s.data.toList i)) ∧ w = w' := by
  unfold maxLen at hs hi
  have HZ := Lib.hid (size_data s)
  by_cases hlt : i < s.size
  · have HB := Lib.hid (Tk.bt_of s i hlt)
    go_enter Tryd.func45, Tryd.ntmps45
    go_wp2_with (go_at_call 47; refine (isBackslash_any _ _).mono ?_; rintro e w' ⟨rfl, rfl⟩)
    go_ret
    exact ⟨ret_bool (by rw [Tk.starts_yes (by rw [HZ.out]; exact hlt), ← HB.out]), rfl⟩
  · go_enter Tryd.func45, Tryd.ntmps45
    go_wp2_with fail
    go_ret
    exact ⟨ret_bool (by rw [Tk.starts_no (by rw [HZ.out]; exact hlt)]), rfl⟩

end Go.Proofs.YtnmadpkdmgeiaaaDoor
