import Derived.Test.YteeigpdnkhpahaaGreatDoorR3
namespace Go.Proofs.YteeigpdnkhpahaaGreatDoor
open Go.RowKit

def Tk.rhead (l : List UInt8) : Bool := Tk.small (Tk.bt l 0) || Tk.rsign (Tk.bt l 0) || Tk.bt l 0 == 59 || Tk.bt l 0 == 33
def Tk.rplain (l : List UInt8) : Bool := !l.isEmpty && Tk.rhead l && !(l == [46]) && !(decide (1 < l.length) && l.take 2 == [47, 42]) && (Tk.bareEnd l == l.length)

set_option maxRecDepth 100000 in
set_option maxHeartbeats 4000000 in
theorem rplain_any (s : ByteArray) (w : World) (hs : s.size ≤ 4611686018427387904) :
    Calls Tryz.prog 47 #[.string s] w fun e w' => e = .returned (.bool (Tk.rplain s.data.toList)) ∧ Below w.heap.size w w' := by
  have HZ := Lib.hid (size_data s)
  have HL := Lib.hid (Go.ByteArray.toList_eq s)
  by_cases e0 : s.size = 0
  · have hl : s.data.toList = [] := List.eq_nil_of_length_eq_zero (by rw [HZ.out]; exact e0)
    have hl' : s.toList = [] := by rw [HL.out]; exact hl
    have hv : Tk.rplain s.data.toList = false := by rw [hl]; rfl
    rw [hv]
    have e1 : (s.toList == []) = true := by rw [hl']; rfl
    go_enter Tryz.func47, Tryz.ntmps47
    go_wp2_with fail
    go_ret
    exact ⟨rfl, Below.alloc (Below.refl _ _) (Nat.le_refl _) _⟩
  · have h0 : 0 < s.size := by omega
    have HB := Lib.hid (Tk.bt_of s 0 h0)
    have hne : s.data.toList.isEmpty = false := by
      cases h : s.data.toList with
      | nil => have := HZ.out; rw [h] at this; simp at this; omega
      | cons a b => rfl
    have e1 : (s.toList == []) = false := by
      rw [HL.out]
      cases h : s.data.toList with
      | nil => have := HZ.out; rw [h] at this; simp at this; omega
      | cons a b => rfl
    have HNE := Lib.hid hne; clear hne
    have HW := Lib.hid (Blk.new w 66 #[.string s, .int .i64 0, .slice none 0 0, .int .i64 0, .int .i64 0, .int .i64 0])
    have HBW := Lib.hid (Below.alloc (Below.refl w.heap.size w) (Nat.le_refl _) (.cells #[.string s, .int .i64 0, .slice none 0 0, .int .i64 0, .int .i64 0, .int .i64 0] 66))
    cases h1 : Tk.small (Tk.bt s.data.toList 0)
    · cases h2 : Tk.rsign (Tk.bt s.data.toList 0)
      · cases h3 : Tk.bt s.data.toList 0 == 59
        · cases h4 : Tk.bt s.data.toList 0 == 33
          · have hv : Tk.rplain s.data.toList = false := by simp only [Tk.rplain, Tk.rhead, h1, h2, h3, h4, Bool.or_self, Bool.and_false, Bool.false_and]
            rw [hv]
            clear hv
            have h3' : ((s[0].toNat : Int) == 59) = false := by rw [HB.out]; exact h3
            have h4' : ((s[0].toNat : Int) == 33) = false := by rw [HB.out]; exact h4
            go_enter Tryz.func47, Tryz.ntmps47
            go_wp2_with (first | (go_at_call 101; refine (rsmall_any _ _).mono ?_; rintro e w' ⟨rfl, rfl⟩; rw [HB.out, h1]) | (go_at_call 107; refine (rsign_any _ _).mono ?_; rintro e w' ⟨rfl, rfl⟩; rw [HB.out, h2]))
            go_ret
            exact ⟨rfl, HBW.out⟩
          · have hd : Tk.rhead s.data.toList = true := by simp only [Tk.rhead, h1, h2, h3, h4, Bool.or_true, Bool.or_self, Bool.false_or]
            have HD := Lib.hid hd; clear hd
            have h3' : ((s[0].toNat : Int) == 59) = false := by rw [HB.out]; exact h3
            have h4' : ((s[0].toNat : Int) == 33) = true := by rw [HB.out]; exact h4
            cases h5 : (s.toList == [46])
            · by_cases h6 : 1 < s.size
              · cases h7 : ((s.extract 0 2).toList == [47, 42])
                · have H5 : Hid ((s.data.toList == [46]) = false) := by unfold Hid; rw [← HL.out]; exact h5
                  have H6 : Hid ((decide (1 < s.size) && s.data.toList.take 2 == [47, 42]) = false) := by
                    unfold Hid
                    rw [Go.ByteArray.toList_eq, cut_mid] at h7
                    have h8 : (s.data.toList.take 2 == [47, 42]) = false := by rw [← h7]; simp
                    rw [h8, Bool.and_false]
                  go_enter Tryz.func47, Tryz.ntmps47
                  go_wp2_with (first | (go_at_call 101; refine (rsmall_any _ _).mono ?_; rintro e w' ⟨rfl, rfl⟩; rw [HB.out, h1]) | (go_at_call 107; refine (rsign_any _ _).mono ?_; rintro e w' ⟨rfl, rfl⟩; rw [HB.out, h2]))
                  refine (rbare_any s _ _ 0 _ _ _ _ hs h0 HW.out).mono ?_
                  rintro e w2 ⟨⟨v, rfl⟩, hb, hg⟩
                  have d1 : w2.cell? ⟨w.heap.size, 1, none⟩ = some (.int .i64 (Tk.bareEnd s.data.toList)) := by simpa using hb.cell 1
                  go_wp2_with fail
                  go_ret
                  exact ⟨ret_bool (by rw [cast_beq]; simp only [Tk.rplain, HNE.out, HD.out, H5.out, H6.out, HZ.out, Bool.not_false, Bool.true_and, Bool.and_true]), below_gb HBW.out hg HBW.out.size (Nat.le_refl _)⟩
                · have hv : Tk.rplain s.data.toList = false := by
                    have h8 : (s.data.toList.take 2 == [47, 42]) = true := by rw [← h7, Go.ByteArray.toList_eq, cut_mid]; simp
                    simp only [Tk.rplain, h8, HZ.out, h6, decide_true, Bool.and_self, Bool.not_true, Bool.and_false, Bool.false_and]
                  rw [hv]
                  clear hv
                  go_enter Tryz.func47, Tryz.ntmps47
                  go_wp2_with (first | (go_at_call 101; refine (rsmall_any _ _).mono ?_; rintro e w' ⟨rfl, rfl⟩; rw [HB.out, h1]) | (go_at_call 107; refine (rsign_any _ _).mono ?_; rintro e w' ⟨rfl, rfl⟩; rw [HB.out, h2]))
                  go_ret
                  exact ⟨rfl, HBW.out⟩
              · have H5 : Hid ((s.data.toList == [46]) = false) := by unfold Hid; rw [← HL.out]; exact h5
                have H6 : Hid ((decide (1 < s.size) && s.data.toList.take 2 == [47, 42]) = false) := by unfold Hid; rw [decide_eq_false h6, Bool.false_and]
                go_enter Tryz.func47, Tryz.ntmps47
                go_wp2_with (first | (go_at_call 101; refine (rsmall_any _ _).mono ?_; rintro e w' ⟨rfl, rfl⟩; rw [HB.out, h1]) | (go_at_call 107; refine (rsign_any _ _).mono ?_; rintro e w' ⟨rfl, rfl⟩; rw [HB.out, h2]))
                refine (rbare_any s _ _ 0 _ _ _ _ hs h0 HW.out).mono ?_
                rintro e w2 ⟨⟨v, rfl⟩, hb, hg⟩
                have d1 : w2.cell? ⟨w.heap.size, 1, none⟩ = some (.int .i64 (Tk.bareEnd s.data.toList)) := by simpa using hb.cell 1
                go_wp2_with fail
                go_ret
                exact ⟨ret_bool (by rw [cast_beq]; simp only [Tk.rplain, HNE.out, HD.out, H5.out, H6.out, HZ.out, Bool.not_false, Bool.true_and, Bool.and_true]), below_gb HBW.out hg HBW.out.size (Nat.le_refl _)⟩
            · have hv : Tk.rplain s.data.toList = false := by
                have h8 : (s.data.toList == [46]) = true := by rw [← HL.out]; exact h5
                simp only [Tk.rplain, h8, Bool.not_true, Bool.and_false, Bool.false_and]
              rw [hv]
              clear hv
              go_enter Tryz.func47, Tryz.ntmps47
              go_wp2_with (first | (go_at_call 101; refine (rsmall_any _ _).mono ?_; rintro e w' ⟨rfl, rfl⟩; rw [HB.out, h1]) | (go_at_call 107; refine (rsign_any _ _).mono ?_; rintro e w' ⟨rfl, rfl⟩; rw [HB.out, h2]))
              go_ret
              exact ⟨rfl, HBW.out⟩
        · have hd : Tk.rhead s.data.toList = true := by simp only [Tk.rhead, h1, h2, h3, Bool.or_true, Bool.true_or, Bool.or_self, Bool.false_or]
          have HD := Lib.hid hd; clear hd
          have h3' : ((s[0].toNat : Int) == 59) = true := by rw [HB.out]; exact h3
          cases h5 : (s.toList == [46])
          · by_cases h6 : 1 < s.size
            · cases h7 : ((s.extract 0 2).toList == [47, 42])
              · have H5 : Hid ((s.data.toList == [46]) = false) := by unfold Hid; rw [← HL.out]; exact h5
                have H6 : Hid ((decide (1 < s.size) && s.data.toList.take 2 == [47, 42]) = false) := by
                  unfold Hid
                  rw [Go.ByteArray.toList_eq, cut_mid] at h7
                  have h8 : (s.data.toList.take 2 == [47, 42]) = false := by rw [← h7]; simp
                  rw [h8, Bool.and_false]
                go_enter Tryz.func47, Tryz.ntmps47
                go_wp2_with (first | (go_at_call 101; refine (rsmall_any _ _).mono ?_; rintro e w' ⟨rfl, rfl⟩; rw [HB.out, h1]) | (go_at_call 107; refine (rsign_any _ _).mono ?_; rintro e w' ⟨rfl, rfl⟩; rw [HB.out, h2]))
                refine (rbare_any s _ _ 0 _ _ _ _ hs h0 HW.out).mono ?_
                rintro e w2 ⟨⟨v, rfl⟩, hb, hg⟩
                have d1 : w2.cell? ⟨w.heap.size, 1, none⟩ = some (.int .i64 (Tk.bareEnd s.data.toList)) := by simpa using hb.cell 1
                go_wp2_with fail
                go_ret
                exact ⟨ret_bool (by rw [cast_beq]; simp only [Tk.rplain, HNE.out, HD.out, H5.out, H6.out, HZ.out, Bool.not_false, Bool.true_and, Bool.and_true]), below_gb HBW.out hg HBW.out.size (Nat.le_refl _)⟩
              · have hv : Tk.rplain s.data.toList = false := by
                  have h8 : (s.data.toList.take 2 == [47, 42]) = true := by rw [← h7, Go.ByteArray.toList_eq, cut_mid]; simp
                  simp only [Tk.rplain, h8, HZ.out, h6, decide_true, Bool.and_self, Bool.not_true, Bool.and_false, Bool.false_and]
                rw [hv]
                clear hv
                go_enter Tryz.func47, Tryz.ntmps47
                go_wp2_with (first | (go_at_call 101; refine (rsmall_any _ _).mono ?_; rintro e w' ⟨rfl, rfl⟩; rw [HB.out, h1]) | (go_at_call 107; refine (rsign_any _ _).mono ?_; rintro e w' ⟨rfl, rfl⟩; rw [HB.out, h2]))
                go_ret
                exact ⟨rfl, HBW.out⟩
            · have H5 : Hid ((s.data.toList == [46]) = false) := by unfold Hid; rw [← HL.out]; exact h5
              have H6 : Hid ((decide (1 < s.size) && s.data.toList.take 2 == [47, 42]) = false) := by unfold Hid; rw [decide_eq_false h6, Bool.false_and]
              go_enter Tryz.func47, Tryz.ntmps47
              go_wp2_with (first | (go_at_call 101; refine (rsmall_any _ _).mono ?_; rintro e w' ⟨rfl, rfl⟩; rw [HB.out, h1]) | (go_at_call 107; refine (rsign_any _ _).mono ?_; rintro e w' ⟨rfl, rfl⟩; rw [HB.out, h2]))
              refine (rbare_any s _ _ 0 _ _ _ _ hs h0 HW.out).mono ?_
              rintro e w2 ⟨⟨v, rfl⟩, hb, hg⟩
              have d1 : w2.cell? ⟨w.heap.size, 1, none⟩ = some (.int .i64 (Tk.bareEnd s.data.toList)) := by simpa using hb.cell 1
              go_wp2_with fail
              go_ret
              exact ⟨ret_bool (by rw [cast_beq]; simp only [Tk.rplain, HNE.out, HD.out, H5.out, H6.out, HZ.out, Bool.not_false, Bool.true_and, Bool.and_true]), below_gb HBW.out hg HBW.out.size (Nat.le_refl _)⟩
          · have hv : Tk.rplain s.data.toList = false := by
              have h8 : (s.data.toList == [46]) = true := by rw [← HL.out]; exact h5
              simp only [Tk.rplain, h8, Bool.not_true, Bool.and_false, Bool.false_and]
            rw [hv]
            clear hv
            go_enter Tryz.func47, Tryz.ntmps47
            go_wp2_with (first | (go_at_call 101; refine (rsmall_any _ _).mono ?_; rintro e w' ⟨rfl, rfl⟩; rw [HB.out, h1]) | (go_at_call 107; refine (rsign_any _ _).mono ?_; rintro e w' ⟨rfl, rfl⟩; rw [HB.out, h2]))
            go_ret
            exact ⟨rfl, HBW.out⟩
      · have hd : Tk.rhead s.data.toList = true := by simp only [Tk.rhead, h1, h2, Bool.or_true, Bool.true_or, Bool.or_self, Bool.false_or]
        have HD := Lib.hid hd; clear hd
        cases h5 : (s.toList == [46])
        · by_cases h6 : 1 < s.size
          · cases h7 : ((s.extract 0 2).toList == [47, 42])
            · have H5 : Hid ((s.data.toList == [46]) = false) := by unfold Hid; rw [← HL.out]; exact h5
              have H6 : Hid ((decide (1 < s.size) && s.data.toList.take 2 == [47, 42]) = false) := by
                unfold Hid
                rw [Go.ByteArray.toList_eq, cut_mid] at h7
                have h8 : (s.data.toList.take 2 == [47, 42]) = false := by rw [← h7]; simp
                rw [h8, Bool.and_false]
              go_enter Tryz.func47, Tryz.ntmps47
              go_wp2_with (first | (go_at_call 101; refine (rsmall_any _ _).mono ?_; rintro e w' ⟨rfl, rfl⟩; rw [HB.out, h1]) | (go_at_call 107; refine (rsign_any _ _).mono ?_; rintro e w' ⟨rfl, rfl⟩; rw [HB.out, h2]))
              refine (rbare_any s _ _ 0 _ _ _ _ hs h0 HW.out).mono ?_
              rintro e w2 ⟨⟨v, rfl⟩, hb, hg⟩
              have d1 : w2.cell? ⟨w.heap.size, 1, none⟩ = some (.int .i64 (Tk.bareEnd s.data.toList)) := by simpa using hb.cell 1
              go_wp2_with fail
              go_ret
              exact ⟨ret_bool (by rw [cast_beq]; simp only [Tk.rplain, HNE.out, HD.out, H5.out, H6.out, HZ.out, Bool.not_false, Bool.true_and, Bool.and_true]), below_gb HBW.out hg HBW.out.size (Nat.le_refl _)⟩
            · have hv : Tk.rplain s.data.toList = false := by
                have h8 : (s.data.toList.take 2 == [47, 42]) = true := by rw [← h7, Go.ByteArray.toList_eq, cut_mid]; simp
                simp only [Tk.rplain, h8, HZ.out, h6, decide_true, Bool.and_self, Bool.not_true, Bool.and_false, Bool.false_and]
              rw [hv]
              clear hv
              go_enter Tryz.func47, Tryz.ntmps47
              go_wp2_with (first | (go_at_call 101; refine (rsmall_any _ _).mono ?_; rintro e w' ⟨rfl, rfl⟩; rw [HB.out, h1]) | (go_at_call 107; refine (rsign_any _ _).mono ?_; rintro e w' ⟨rfl, rfl⟩; rw [HB.out, h2]))
              go_ret
              exact ⟨rfl, HBW.out⟩
          · have H5 : Hid ((s.data.toList == [46]) = false) := by unfold Hid; rw [← HL.out]; exact h5
            have H6 : Hid ((decide (1 < s.size) && s.data.toList.take 2 == [47, 42]) = false) := by unfold Hid; rw [decide_eq_false h6, Bool.false_and]
            go_enter Tryz.func47, Tryz.ntmps47
            go_wp2_with (first | (go_at_call 101; refine (rsmall_any _ _).mono ?_; rintro e w' ⟨rfl, rfl⟩; rw [HB.out, h1]) | (go_at_call 107; refine (rsign_any _ _).mono ?_; rintro e w' ⟨rfl, rfl⟩; rw [HB.out, h2]))
            refine (rbare_any s _ _ 0 _ _ _ _ hs h0 HW.out).mono ?_
            rintro e w2 ⟨⟨v, rfl⟩, hb, hg⟩
            have d1 : w2.cell? ⟨w.heap.size, 1, none⟩ = some (.int .i64 (Tk.bareEnd s.data.toList)) := by simpa using hb.cell 1
            go_wp2_with fail
            go_ret
            exact ⟨ret_bool (by rw [cast_beq]; simp only [Tk.rplain, HNE.out, HD.out, H5.out, H6.out, HZ.out, Bool.not_false, Bool.true_and, Bool.and_true]), below_gb HBW.out hg HBW.out.size (Nat.le_refl _)⟩
        · have hv : Tk.rplain s.data.toList = false := by
            have h8 : (s.data.toList == [46]) = true := by rw [← HL.out]; exact h5
            simp only [Tk.rplain, h8, Bool.not_true, Bool.and_false, Bool.false_and]
          rw [hv]
          clear hv
          go_enter Tryz.func47, Tryz.ntmps47
          go_wp2_with (first | (go_at_call 101; refine (rsmall_any _ _).mono ?_; rintro e w' ⟨rfl, rfl⟩; rw [HB.out, h1]) | (go_at_call 107; refine (rsign_any _ _).mono ?_; rintro e w' ⟨rfl, rfl⟩; rw [HB.out, h2]))
          go_ret
          exact ⟨rfl, HBW.out⟩
    · have hd : Tk.rhead s.data.toList = true := by simp [Tk.rhead, h1]
      have HD := Lib.hid hd; clear hd
      cases h5 : (s.toList == [46])
      · by_cases h6 : 1 < s.size
        · cases h7 : ((s.extract 0 2).toList == [47, 42])
          · have H5 : Hid ((s.data.toList == [46]) = false) := by unfold Hid; rw [← HL.out]; exact h5
            have H6 : Hid ((decide (1 < s.size) && s.data.toList.take 2 == [47, 42]) = false) := by
              unfold Hid
              rw [Go.ByteArray.toList_eq, cut_mid] at h7
              have h8 : (s.data.toList.take 2 == [47, 42]) = false := by rw [← h7]; simp
              rw [h8, Bool.and_false]
            go_enter Tryz.func47, Tryz.ntmps47
            go_wp2_with (first | (go_at_call 101; refine (rsmall_any _ _).mono ?_; rintro e w' ⟨rfl, rfl⟩; rw [HB.out, h1]) | (go_at_call 107; refine (rsign_any _ _).mono ?_; rintro e w' ⟨rfl, rfl⟩; rw [HB.out, h2]))
            refine (rbare_any s _ _ 0 _ _ _ _ hs h0 HW.out).mono ?_
            rintro e w2 ⟨⟨v, rfl⟩, hb, hg⟩
            have d1 : w2.cell? ⟨w.heap.size, 1, none⟩ = some (.int .i64 (Tk.bareEnd s.data.toList)) := by simpa using hb.cell 1
            go_wp2_with fail
            go_ret
            exact ⟨ret_bool (by rw [cast_beq]; simp only [Tk.rplain, HNE.out, HD.out, H5.out, H6.out, HZ.out, Bool.not_false, Bool.true_and, Bool.and_true]), below_gb HBW.out hg HBW.out.size (Nat.le_refl _)⟩
          · have hv : Tk.rplain s.data.toList = false := by
              have h8 : (s.data.toList.take 2 == [47, 42]) = true := by rw [← h7, Go.ByteArray.toList_eq, cut_mid]; simp
              simp only [Tk.rplain, h8, HZ.out, h6, decide_true, Bool.and_self, Bool.not_true, Bool.and_false, Bool.false_and]
            rw [hv]
            clear hv
            go_enter Tryz.func47, Tryz.ntmps47
            go_wp2_with (first | (go_at_call 101; refine (rsmall_any _ _).mono ?_; rintro e w' ⟨rfl, rfl⟩; rw [HB.out, h1]) | (go_at_call 107; refine (rsign_any _ _).mono ?_; rintro e w' ⟨rfl, rfl⟩; rw [HB.out, h2]))
            go_ret
            exact ⟨rfl, HBW.out⟩
        · have H5 : Hid ((s.data.toList == [46]) = false) := by unfold Hid; rw [← HL.out]; exact h5
          have H6 : Hid ((decide (1 < s.size) && s.data.toList.take 2 == [47, 42]) = false) := by unfold Hid; rw [decide_eq_false h6, Bool.false_and]
          go_enter Tryz.func47, Tryz.ntmps47
          go_wp2_with (first | (go_at_call 101; refine (rsmall_any _ _).mono ?_; rintro e w' ⟨rfl, rfl⟩; rw [HB.out, h1]) | (go_at_call 107; refine (rsign_any _ _).mono ?_; rintro e w' ⟨rfl, rfl⟩; rw [HB.out, h2]))
          refine (rbare_any s _ _ 0 _ _ _ _ hs h0 HW.out).mono ?_
          rintro e w2 ⟨⟨v, rfl⟩, hb, hg⟩
          have d1 : w2.cell? ⟨w.heap.size, 1, none⟩ = some (.int .i64 (Tk.bareEnd s.data.toList)) := by simpa using hb.cell 1
          go_wp2_with fail
          go_ret
          exact ⟨ret_bool (by rw [cast_beq]; simp only [Tk.rplain, HNE.out, HD.out, H5.out, H6.out, HZ.out, Bool.not_false, Bool.true_and, Bool.and_true]), below_gb HBW.out hg HBW.out.size (Nat.le_refl _)⟩
      · have hv : Tk.rplain s.data.toList = false := by
          have h8 : (s.data.toList == [46]) = true := by rw [← HL.out]; exact h5
          simp only [Tk.rplain, h8, Bool.not_true, Bool.and_false, Bool.false_and]
        rw [hv]
        clear hv
        go_enter Tryz.func47, Tryz.ntmps47
        go_wp2_with (first | (go_at_call 101; refine (rsmall_any _ _).mono ?_; rintro e w' ⟨rfl, rfl⟩; rw [HB.out, h1]) | (go_at_call 107; refine (rsign_any _ _).mono ?_; rintro e w' ⟨rfl, rfl⟩; rw [HB.out, h2]))
        go_ret
        exact ⟨rfl, HBW.out⟩
end Go.Proofs.YteeigpdnkhpahaaGreatDoor
