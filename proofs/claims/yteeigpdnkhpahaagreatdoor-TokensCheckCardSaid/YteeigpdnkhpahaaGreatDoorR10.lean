import Derived.Test.YteeigpdnkhpahaaGreatDoorR9
namespace Go.Proofs.YteeigpdnkhpahaaGreatDoor
open Go.RowKit

def Tk.allB (p : Int → Bool) (l : List UInt8) : Bool := l.all fun b => p (b.toNat : Int)
def Tk.rvarOk (l : List UInt8) : Bool := !(l == []) && Tk.capital (Tk.bt l 0) && Tk.allB Tk.inWord l
def Tk.rvar (l : List UInt8) : Int := if Tk.rvarOk l then (if Tk.rlong l then 6 else 0) else 2

set_option maxRecDepth 100000 in
set_option maxHeartbeats 1000000 in
theorem rcheck_var (s : ByteArray) (a : Int) (w : World) (hs : s.size ≤ 4611686018427387904) :
    Calls Tryz.prog 18 #[.agg #[.int .i64 2, .string s, .int .i64 a]] w fun e w' => e = .returned (.int .i64 (Tk.rvar s.data.toList)) ∧ Below w.heap.size w w' := by
  have HZ := Lib.hid (size_data s)
  have HM : Hid (s.size ≤ maxLen) := by unfold Hid maxLen; omega
  have HL := Lib.hid (Go.ByteArray.toList_eq s)
  have HT := Lib.hid (Blk.new w 32 #[.int .i64 2, .string s, .int .i64 a])
  have HTL := HT.out.lt
  have HTH := Lib.hid HTL; clear HTL
  have HBW := Lib.hid (Below.alloc (Below.refl w.heap.size w) (Nat.le_refl _) (.cells #[.int .i64 2, .string s, .int .i64 a] 32))
  cases h0 : (s.toList == [])
  · have H0 : Hid ((s.data.toList == []) = false) := by unfold Hid; rw [← HL.out]; exact h0
    have hpos : 0 < s.size := by
      refine Nat.pos_of_ne_zero fun h => ?_
      have : s.data.toList = [] := List.eq_nil_of_length_eq_zero (by rw [HZ.out]; exact h)
      rw [← HL.out] at this
      rw [this] at h0
      cases h0
    have HB0 := Lib.hid (Tk.bt_of s 0 hpos)
    obtain ⟨c, hc⟩ : ∃ c, Tk.capital (Tk.bt s.data.toList 0) = c := ⟨_, rfl⟩
    have HC := Lib.hid hc; clear hc
    have hv : Tk.rvar s.data.toList = if (c && Tk.allB Tk.inWord s.data.toList) then (if Tk.rlong s.data.toList then 6 else 0) else 2 := by simp only [Tk.rvar, Tk.rvarOk, H0.out, HC.out, Bool.not_false, Bool.true_and]
    have HV := Lib.hid hv; clear hv
    go_enter Tryz.func18, Tryz.ntmps18
    go_wp2_with (go_at_call 49; refine (rcapital_any _ _).mono ?_; rintro e w' ⟨rfl, rfl⟩; rw [HB0.out, HC.out])
    go_loop [4, 5] (fun b' i' => ∃ (b : Bool) (k : Nat), k ≤ s.size ∧ b' = .bool b ∧ i' = .int .i64 k ∧ Hid ((c && Tk.allB Tk.inWord s.data.toList) = (b && ((s.data.toList.drop k).all fun x => Tk.inWord (x.toNat : Int))))) (fun _ i' => s.size - (intOf i').toNat)
    case atStart => exact ⟨c, 0, by omega, rfl, by go_num, Lib.hid (by simp [Tk.allB])⟩
    case round =>
      obtain ⟨b, k, hk, rfl, rfl, hr⟩ := hrel
      by_cases hlt : k < s.size
      · have HB := Lib.hid (Tk.bt_of s k hlt)
        cases b
        · go_wp2_with fail
          go_round
          case rel => exact ⟨false, k + 1, by omega, rfl, by go_num, Lib.hid (by rw [hr.out]; rfl)⟩
          case measure => simp [intOf]; omega
        · cases hw : Tk.inWord (Tk.bt s.data.toList k)
          · have HW := Lib.hid hw
            go_wp2_with (go_at_call 50; refine (rword_any _ _).mono ?_; rintro e w' ⟨rfl, rfl⟩; rw [HB.out, HW.out])
            go_round
            case rel => exact ⟨false, k + 1, by omega, rfl, by go_num, Lib.hid (by rw [hr.out, Tk.all_no (by rw [HZ.out]; exact hlt) HW.out]; rfl)⟩
            case measure => simp [intOf]; omega
          · have HW := Lib.hid hw
            go_wp2_with (go_at_call 50; refine (rword_any _ _).mono ?_; rintro e w' ⟨rfl, rfl⟩; rw [HB.out, HW.out])
            go_round
            case rel => exact ⟨true, k + 1, by omega, rfl, by go_num, Lib.hid (by rw [hr.out, Tk.all_yes (by rw [HZ.out]; exact hlt) HW.out])⟩
            case measure => simp [intOf]; omega
      · have hr2 : (c && Tk.allB Tk.inWord s.data.toList) = b := by rw [hr.out, List.drop_of_length_le (by rw [HZ.out]; omega)]; simp
        have HR := Lib.hid hr2; clear hr2
        cases b
        · go_wp2_with fail
          go_ret
          exact ⟨ret_int (by rw [HV.out, HR.out]; rfl), HBW.out⟩
        · cases h5 : Tk.rlong s.data.toList
          all_goals
            have H5 := Lib.hid h5
            go_wp2_with (go_at_call 52; refine (rlong_any s _ hs).mono ?_; rintro e w2 ⟨rfl, hB2⟩; rw [H5.out]; have hT2 := Blk.below HT.out hB2 HTH.out; have d2 : w2.cell? ⟨w.heap.size, 0, none⟩ = some (.int .i64 2) := (by simpa using hT2.cell 0))
            go_ret
            exact ⟨ret_int (by rw [HV.out, HR.out, H5.out]; rfl), HBW.out.trans (hB2.mono HBW.out.size)⟩
  · have H0 : Hid ((s.data.toList == []) = true) := by unfold Hid; rw [← HL.out]; exact h0
    have hl : s.toList = [] := by simpa using h0
    have := list_of_bytes hl; subst this
    clear h0 hl
    go_enter Tryz.func18, Tryz.ntmps18
    go_wp2_with fail
    go_loop [4, 5] (fun b' i' => b' = .bool false ∧ i' = .int .i64 0) (fun _ _ => 0)
    case atStart => exact ⟨rfl, by go_num⟩
    case round =>
      obtain ⟨rfl, rfl⟩ := hrel
      go_wp2_with fail
      go_ret
      exact ⟨rfl, HBW.out⟩
end Go.Proofs.YteeigpdnkhpahaaGreatDoor
