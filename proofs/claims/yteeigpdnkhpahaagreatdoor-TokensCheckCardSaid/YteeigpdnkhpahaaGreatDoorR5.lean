import Derived.Test.YteeigpdnkhpahaaGreatDoorR4
namespace Go.Proofs.YteeigpdnkhpahaaGreatDoor
open Go.RowKit

def Tk.rok (lines : Bool) (c : Int) : Bool := Tk.inText c && (decide (32 ≤ c) || lines)
def Tk.rall (lines : Bool) (l : List UInt8) : Bool := l.all fun b => Tk.rok lines (b.toNat : Int)
theorem Tk.all_yes {p : Int → Bool} {l : List UInt8} {k : Nat} (h : k < l.length) (hc : p (Tk.bt l k) = true) : ((l.drop k).all fun b => p (b.toNat : Int)) = ((l.drop (k + 1)).all fun b => p (b.toNat : Int)) := by
  unfold Tk.bt at hc
  rw [getD_at h] at hc
  rw [List.drop_eq_getElem_cons h]
  simp only [List.all_cons, hc, Bool.true_and]
theorem Tk.all_no {p : Int → Bool} {l : List UInt8} {k : Nat} (h : k < l.length) (hc : p (Tk.bt l k) = false) : ((l.drop k).all fun b => p (b.toNat : Int)) = false := by
  unfold Tk.bt at hc
  rw [getD_at h] at hc
  rw [List.drop_eq_getElem_cons h]
  simp only [List.all_cons, hc, Bool.false_and]

set_option maxRecDepth 100000 in
set_option maxHeartbeats 400000 in
theorem rall_any (s : ByteArray) (lines : Bool) (w : World) (hs : s.size ≤ 4611686018427387904) :
    Calls Tryz.prog 46 #[.string s, .bool lines] w fun e w' => e = .returned (.bool (Tk.rall lines s.data.toList)) ∧ w = w' := by
  have HZ := Lib.hid (size_data s)
  go_enter Tryz.func46, Tryz.ntmps46
  go_wp2_with fail
  go_loop [5] (fun i' => ∃ k : Nat, k ≤ s.size ∧ i' = .int .i64 k ∧ Hid (Tk.rall lines s.data.toList = ((s.data.toList.drop k).all fun b => Tk.rok lines (b.toNat : Int)))) (fun i' => s.size - (intOf i').toNat)
  case atStart => exact ⟨0, Nat.zero_le _, by go_num, Lib.hid (by simp [Tk.rall])⟩
  case round =>
    obtain ⟨k, hk, rfl, hr⟩ := hrel
    by_cases hlt : k < s.size
    · have hb := Tk.bt_of s k hlt
      have HB := Lib.hid hb; clear hb
      cases h1 : Tk.inText (Tk.bt s.data.toList k)
      · go_wp2_with fail
        refine (rByte_any _ _).mono ?_; rintro e w' ⟨rfl, rfl⟩
        rw [HB.out, h1]
        go_wp2_with fail
        go_ret
        exact ⟨ret_bool (by rw [hr.out, Tk.all_no (by rw [HZ.out]; exact hlt) (by simp only [Tk.rok, h1, Bool.false_and])]), rfl⟩
      · by_cases h2 : (s[k].toNat : Int) < 32
        · have h3 : decide (32 ≤ Tk.bt s.data.toList k) = false := decide_eq_false (by rw [← HB.out]; omega)
          have h2' : decide ((s[k].toNat : Int) < 32) = true := decide_eq_true h2
          have H3 := Lib.hid h3; clear h3
          cases lines
          · go_wp2_with fail
            refine (rByte_any _ _).mono ?_; rintro e w' ⟨rfl, rfl⟩
            rw [HB.out, h1]
            go_wp2_with fail
            go_ret
            exact ⟨ret_bool (by rw [hr.out, Tk.all_no (by rw [HZ.out]; exact hlt) (by simp only [Tk.rok, h1, H3.out, Bool.or_self, Bool.and_false])]), rfl⟩
          · go_wp2_with fail
            refine (rByte_any _ _).mono ?_; rintro e w' ⟨rfl, rfl⟩
            rw [HB.out, h1]
            go_wp2_with fail
            go_round
            case rel => exact ⟨k + 1, by omega, by go_num, Lib.hid (by rw [hr.out, Tk.all_yes (by rw [HZ.out]; exact hlt) (by simp only [Tk.rok, h1, H3.out, Bool.or_true, Bool.and_true])])⟩
            case measure => simp [intOf]; omega
        · have h3 : decide (32 ≤ Tk.bt s.data.toList k) = true := decide_eq_true (by rw [← HB.out]; omega)
          have h2' : decide ((s[k].toNat : Int) < 32) = false := decide_eq_false h2
          have H3 := Lib.hid h3; clear h3
          go_wp2_with fail
          refine (rByte_any _ _).mono ?_; rintro e w' ⟨rfl, rfl⟩
          rw [HB.out, h1]
          go_wp2_with fail
          go_round
          case rel => exact ⟨k + 1, by omega, by go_num, Lib.hid (by rw [hr.out, Tk.all_yes (by rw [HZ.out]; exact hlt) (by simp only [Tk.rok, h1, H3.out, Bool.true_or, Bool.and_true])])⟩
          case measure => simp [intOf]; omega
    · go_wp2_with fail
      go_ret
      exact ⟨ret_bool (by rw [hr.out, List.drop_of_length_le (by rw [HZ.out]; omega)]; rfl), rfl⟩
end Go.Proofs.YteeigpdnkhpahaaGreatDoor
