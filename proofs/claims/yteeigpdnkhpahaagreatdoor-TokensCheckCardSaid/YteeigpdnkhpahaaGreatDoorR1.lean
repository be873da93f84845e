import Derived.Test.YteeigpdnkhpahaaGreatDoorA2
namespace Go.Proofs.YteeigpdnkhpahaaGreatDoor
open Go.RowKit

theorem rsmall_any (n : Int) (w : World) :
    Calls Tryz.prog 101 #[.int .u8 n] w fun e w' => e = .returned (.bool (Tk.small n)) ∧ w = w' := by
  go_enter Tryz.func101, Tryz.ntmps101
  go_wp2
  all_goals (go_ret; exact ⟨by simp [Tk.small, *] <;> omega, rfl⟩)
theorem rcapital_any (n : Int) (w : World) :
    Calls Tryz.prog 49 #[.int .u8 n] w fun e w' => e = .returned (.bool (Tk.capital n)) ∧ w = w' := by
  go_enter Tryz.func49, Tryz.ntmps49
  go_wp2
  all_goals (go_ret; exact ⟨by simp [Tk.capital, *] <;> omega, rfl⟩)
theorem rdigit_any (n : Int) (w : World) :
    Calls Tryz.prog 51 #[.int .u8 n] w fun e w' => e = .returned (.bool (Tk.digit n)) ∧ w = w' := by
  go_enter Tryz.func51, Tryz.ntmps51
  go_wp2
  all_goals (go_ret; exact ⟨by simp [Tk.digit, *] <;> omega, rfl⟩)
theorem rblank_any (n : Int) (w : World) :
    Calls Tryz.prog 98 #[.int .u8 n] w fun e w' => e = .returned (.bool (Tk.blank n)) ∧ w = w' := by
  go_enter Tryz.func98, Tryz.ntmps98
  go_wp2
  all_goals (go_ret; exact ⟨ret_bool (by rw [Bool.eq_iff_iff]; simp [Tk.blank] <;> omega), rfl⟩)
theorem rByte_any (n : Int) (w : World) :
    Calls Tryz.prog 96 #[.int .u8 n] w fun e w' => e = .returned (.bool (Tk.inText n)) ∧ w = w' := by
  go_enter Tryz.func96, Tryz.ntmps96
  go_wp2
  all_goals (go_ret; exact ⟨ret_bool (by rw [Bool.eq_iff_iff]; simp [Tk.inText, Tk.shown, Tk.blank] <;> omega), rfl⟩)
theorem rword_any (n : Int) (w : World) :
    Calls Tryz.prog 50 #[.int .u8 n] w fun e w' => e = .returned (.bool (Tk.inWord n)) ∧ w = w' := by
  unfold Tk.inWord
  cases hs : Tk.small n <;> cases hc : Tk.capital n
  all_goals
    go_enter Tryz.func50, Tryz.ntmps50
    go_wp2_with (first | (go_at_call 101; refine (rsmall_any _ _).mono ?_; rintro e w' ⟨rfl, rfl⟩) | (go_at_call 49; refine (rcapital_any _ _).mono ?_; rintro e w' ⟨rfl, rfl⟩) | (go_at_call 51; refine (rdigit_any _ _).mono ?_; rintro e w' ⟨rfl, rfl⟩))
    go_ret
    exact ⟨by simp [hs, hc], rfl⟩

/-- Does a text have a byte from an index on. -/
def Tk.hasB (l : List UInt8) (c : Int) : Bool := l.any fun b => (b.toNat : Int) == c
theorem Tk.has_yes {l : List UInt8} {c : Int} {k : Nat} (h : k < l.length) (hc : (Tk.bt l k == c) = true) : Tk.hasB (l.drop k) c = true := by
  unfold Tk.bt at hc
  rw [getD_at h] at hc
  rw [List.drop_eq_getElem_cons h]
  simp only [Tk.hasB, List.any_cons, hc, Bool.true_or]
theorem Tk.has_no {l : List UInt8} {c : Int} {k : Nat} (h : k < l.length) (hc : (Tk.bt l k == c) = false) : Tk.hasB (l.drop k) c = Tk.hasB (l.drop (k + 1)) c := by
  unfold Tk.bt at hc
  rw [getD_at h] at hc
  rw [List.drop_eq_getElem_cons h]
  simp only [Tk.hasB, List.any_cons, hc, Bool.false_or]
theorem Tk.has_end {l : List UInt8} {c : Int} {k : Nat} (h : l.length ≤ k) : Tk.hasB (l.drop k) c = false := by
  rw [List.drop_of_length_le h]; rfl

set_option maxRecDepth 100000 in
set_option maxHeartbeats 400000 in
theorem rhas_any (s : ByteArray) (c : Int) (w : World) (hs : s.size ≤ maxLen) :
    Calls Tryz.prog 48 #[.string s, .int .u8 c] w fun e w' => e = .returned (.bool (Tk.hasB s.data.toList c)) ∧ w = w' := by
  unfold maxLen at hs
  have hz := size_data s
  have HZ := Lib.hid hz; clear hz
  go_enter Tryz.func48, Tryz.ntmps48
  go_wp2_with fail
  go_loop [5] (fun i' => ∃ k : Nat, k ≤ s.size ∧ i' = .int .i64 k ∧ Hid (Tk.hasB s.data.toList c = Tk.hasB (s.data.toList.drop k) c)) (fun i' => s.size - (intOf i').toNat)
  case atStart => exact ⟨0, Nat.zero_le _, by go_num, Lib.hid (by simp)⟩
  case round =>
    obtain ⟨k, hk, rfl, hr⟩ := hrel
    by_cases hlt : k < s.size
    · have hb := Tk.bt_of s k hlt
      have HB := Lib.hid hb
      cases hc : Tk.bt s.data.toList k == c
      · rw [← hb] at hc
        clear hb
        go_wp2_with fail
        go_round
        case rel => exact ⟨k + 1, by omega, by go_num, Lib.hid (by rw [hr.out, Tk.has_no (by rw [HZ.out]; exact hlt) (by rw [← HB.out]; exact hc)])⟩
        case measure => simp [intOf]; omega
      · rw [← hb] at hc
        clear hb
        go_wp2_with fail
        go_ret
        exact ⟨ret_bool (by rw [hr.out, Tk.has_yes (by rw [HZ.out]; exact hlt) (by rw [← HB.out]; exact hc)]), rfl⟩
    · go_wp2_with fail
      go_ret
      exact ⟨ret_bool (by rw [hr.out, Tk.has_end (by rw [HZ.out]; omega)]), rfl⟩

def Tk.rsign (n : Int) : Bool := Tk.hasB [43, 45, 42, 47, 92, 94, 60, 62, 61, 126, 58, 46, 63, 64, 35, 38, 36] n
theorem rsign_any (n : Int) (w : World) :
    Calls Tryz.prog 107 #[.int .u8 n] w fun e w' => e = .returned (.bool (Tk.rsign n)) ∧ w = w' := by
  go_enter Tryz.func107, Tryz.ntmps107
  go_wp2_with fail
  refine (rhas_any _ n _ (by decide)).mono ?_; rintro e w' ⟨rfl, rfl⟩
  go_wp2_with fail
  go_ret
  exact ⟨ret_bool rfl, rfl⟩
end Go.Proofs.YteeigpdnkhpahaaGreatDoor
