import Derived.Test.YteeigpdnkhpahaaGreatDoorR10
namespace Go.Proofs.YteeigpdnkhpahaaGreatDoor
open Go.RowKit

def Tk.rintOk (l : List UInt8) : Bool := !(l == []) && Tk.allB Tk.digit l
def Tk.rint (l : List UInt8) : Int := if Tk.rintOk l then (if Tk.ggo 0 l then 5 else 0) else 2

set_option maxRecDepth 100000 in
set_option maxHeartbeats 1000000 in
theorem rcheck_int (s : ByteArray) (a : Int) (w : World) (hs : s.size ≤ 4611686018427387904) :
    Calls Tryz.prog 18 #[.agg #[.int .i64 3, .string s, .int .i64 a]] w fun e w' => e = .returned (.int .i64 (Tk.rint s.data.toList)) ∧ Below w.heap.size w w' := by
  have HZ := Lib.hid (size_data s)
  have HM : Hid (s.size ≤ maxLen) := by unfold Hid maxLen; omega
  have HL := Lib.hid (Go.ByteArray.toList_eq s)
  have HT := Lib.hid (Blk.new w 32 #[.int .i64 3, .string s, .int .i64 a])
  have HTL := HT.out.lt
  have HTH := Lib.hid HTL; clear HTL
  have HBW := Lib.hid (Below.alloc (Below.refl w.heap.size w) (Nat.le_refl _) (.cells #[.int .i64 3, .string s, .int .i64 a] 32))
  cases h0 : (s.toList == [])
  · have H0 : Hid ((s.data.toList == []) = false) := by unfold Hid; rw [← HL.out]; exact h0
    have hpos : 0 < s.size := by
      refine Nat.pos_of_ne_zero fun h => ?_
      have : s.data.toList = [] := List.eq_nil_of_length_eq_zero (by rw [HZ.out]; exact h)
      rw [← HL.out] at this
      rw [this] at h0
      cases h0
    have hv : Tk.rint s.data.toList = if Tk.allB Tk.digit s.data.toList then (if Tk.ggo 0 s.data.toList then 5 else 0) else 2 := by simp only [Tk.rint, Tk.rintOk, H0.out, Bool.not_false, Bool.true_and]
    have HV := Lib.hid hv; clear hv
    go_enter Tryz.func18, Tryz.ntmps18
    go_wp2_with fail
    go_loop [4, 6] (fun b' i' => ∃ (b : Bool) (k : Nat), k ≤ s.size ∧ b' = .bool b ∧ i' = .int .i64 k ∧ Hid ((Tk.allB Tk.digit s.data.toList) = (b && ((s.data.toList.drop k).all fun x => Tk.digit (x.toNat : Int))))) (fun _ i' => s.size - (intOf i').toNat)
    case atStart => exact ⟨true, 0, by omega, rfl, by go_num, Lib.hid (by simp [Tk.allB])⟩
    case round =>
      obtain ⟨b, k, hk, rfl, rfl, hr⟩ := hrel
      by_cases hlt : k < s.size
      · have HB := Lib.hid (Tk.bt_of s k hlt)
        cases b
        · go_wp2_with fail
          go_round
          case rel => exact ⟨false, k + 1, by omega, rfl, by go_num, Lib.hid (by rw [hr.out]; rfl)⟩
          case measure => simp [intOf]; omega
        · cases hw : Tk.digit (Tk.bt s.data.toList k)
          · have HW := Lib.hid hw
            go_wp2_with (go_at_call 51; refine (rdigit_any _ _).mono ?_; rintro e w' ⟨rfl, rfl⟩; rw [HB.out, HW.out])
            go_round
            case rel => exact ⟨false, k + 1, by omega, rfl, by go_num, Lib.hid (by rw [hr.out, Tk.all_no (by rw [HZ.out]; exact hlt) HW.out]; rfl)⟩
            case measure => simp [intOf]; omega
          · have HW := Lib.hid hw
            go_wp2_with (go_at_call 51; refine (rdigit_any _ _).mono ?_; rintro e w' ⟨rfl, rfl⟩; rw [HB.out, HW.out])
            go_round
            case rel => exact ⟨true, k + 1, by omega, rfl, by go_num, Lib.hid (by rw [hr.out, Tk.all_yes (by rw [HZ.out]; exact hlt) HW.out])⟩
            case measure => simp [intOf]; omega
      · have hr2 : (Tk.allB Tk.digit s.data.toList) = b := by rw [hr.out, List.drop_of_length_le (by rw [HZ.out]; omega)]; simp
        have HR := Lib.hid hr2; clear hr2
        cases b
        · go_wp2_with fail
          go_ret
          exact ⟨ret_int (by rw [HV.out, HR.out]; rfl), HBW.out⟩
        · have hd : ∀ (k : Nat) (h : k < s.size), 48 ≤ s[k].toNat ∧ s[k].toNat ≤ 57 := fun k h => by
            have h1 := HR.out
            unfold Tk.allB at h1
            have h2 := List.all_eq_true.1 h1 (s.data.toList[k]'(by rw [HZ.out]; exact h)) (List.getElem_mem _)
            have h3 : s.data.toList[k]'(by rw [HZ.out]; exact h) = s[k] := rfl
            rw [h3] at h2
            simp only [Tk.digit, Bool.and_eq_true, decide_eq_true_eq] at h2
            omega
          cases h5 : Tk.ggo 0 s.data.toList
          all_goals
            have H5 := Lib.hid h5
            go_wp2_with (go_at_call 53; refine (rgreat_any s _ hs hd).mono ?_; rintro e w2 ⟨rfl, rfl⟩; rw [H5.out])
            go_ret
            exact ⟨ret_int (by rw [HV.out, HR.out, H5.out]; rfl), HBW.out⟩
  · have H0 : Hid ((s.data.toList == []) = true) := by unfold Hid; rw [← HL.out]; exact h0
    have hl : s.toList = [] := by simpa using h0
    have := list_of_bytes hl; subst this
    clear h0 hl
    go_enter Tryz.func18, Tryz.ntmps18
    go_wp2_with fail
    go_loop [4, 6] (fun b' i' => b' = .bool false ∧ i' = .int .i64 0) (fun _ _ => 0)
    case atStart => exact ⟨rfl, by go_num⟩
    case round =>
      obtain ⟨rfl, rfl⟩ := hrel
      go_wp2_with fail
      go_ret
      exact ⟨rfl, HBW.out⟩
end Go.Proofs.YteeigpdnkhpahaaGreatDoor
