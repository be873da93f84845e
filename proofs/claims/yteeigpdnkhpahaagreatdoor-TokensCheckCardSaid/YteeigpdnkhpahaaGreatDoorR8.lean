import Derived.Test.YteeigpdnkhpahaaGreatDoorR7
namespace Go.Proofs.YteeigpdnkhpahaaGreatDoor
open Go.RowKit

def Tk.okCode (b : Bool) : Int := if b then 0 else 2
set_option maxRecDepth 100000 in
set_option maxHeartbeats 400000 in
theorem rcheck_end (s : ByteArray) (a : Int) (w : World) :
    Calls Tryz.prog 18 #[.agg #[.int .i64 0, .string s, .int .i64 a]] w fun e w' => e = .returned (.int .i64 (Tk.okCode (s.data.toList == []))) ∧ Below w.heap.size w w' := by
  have HL := Lib.hid (Go.ByteArray.toList_eq s)
  cases h : (s.toList == [])
  all_goals
    have H := Lib.hid h
    go_enter Tryz.func18, Tryz.ntmps18
    go_wp2_with fail
    go_ret
    exact ⟨ret_int (by rw [← HL.out, H.out]; rfl), by first | exact Below.refl _ _ | exact Below.alloc (Below.refl _ _) (Nat.le_refl _) _⟩
set_option maxRecDepth 100000 in
set_option maxHeartbeats 400000 in
theorem rcheck_stop (s : ByteArray) (a : Int) (w : World) :
    Calls Tryz.prog 18 #[.agg #[.int .i64 7, .string s, .int .i64 a]] w fun e w' => e = .returned (.int .i64 (Tk.okCode (s.data.toList == [46]))) ∧ Below w.heap.size w w' := by
  have HL := Lib.hid (Go.ByteArray.toList_eq s)
  cases h : (s.toList == [46])
  all_goals
    have H := Lib.hid h
    go_enter Tryz.func18, Tryz.ntmps18
    go_wp2_with fail
    go_ret
    exact ⟨ret_int (by rw [← HL.out, H.out]; rfl), by first | exact Below.refl _ _ | exact Below.alloc (Below.refl _ _) (Nat.le_refl _) _⟩
set_option maxRecDepth 100000 in
set_option maxHeartbeats 400000 in
theorem rcheck_text (s : ByteArray) (a : Int) (w : World) (hs : s.size ≤ 4611686018427387904) :
    Calls Tryz.prog 18 #[.agg #[.int .i64 5, .string s, .int .i64 a]] w fun e w' => e = .returned (.int .i64 (Tk.okCode (Tk.rall true s.data.toList))) ∧ Below w.heap.size w w' := by
  cases h : Tk.rall true s.data.toList
  all_goals
    have H := Lib.hid h
    go_enter Tryz.func18, Tryz.ntmps18
    go_wp2_with (go_at_call 46; refine (rall_any s true _ hs).mono ?_; rintro e w' ⟨rfl, rfl⟩; rw [H.out])
    go_ret
    exact ⟨ret_int (by first | rfl | (rw [H.out]; rfl)), by first | exact Below.refl _ _ | exact Below.alloc (Below.refl _ _) (Nat.le_refl _) _⟩
set_option maxRecDepth 100000 in
set_option maxHeartbeats 400000 in
theorem rcheck_kind (k : Int) (s : ByteArray) (a : Int) (w : World) (hk : k < 0 ∨ 7 < k) :
    Calls Tryz.prog 18 #[.agg #[.int .i64 k, .string s, .int .i64 a]] w fun e w' => e = .returned (.int .i64 3) ∧ Below w.heap.size w w' := by
  have e0 : (k == 0) = false := beq_eq_false_iff_ne.2 (by omega)
  have e1 : (k == 1) = false := beq_eq_false_iff_ne.2 (by omega)
  have e2 : (k == 2) = false := beq_eq_false_iff_ne.2 (by omega)
  have e3 : (k == 3) = false := beq_eq_false_iff_ne.2 (by omega)
  have e4 : (k == 4) = false := beq_eq_false_iff_ne.2 (by omega)
  have e5 : (k == 5) = false := beq_eq_false_iff_ne.2 (by omega)
  have e6 : (k == 6) = false := beq_eq_false_iff_ne.2 (by omega)
  have e7 : (k == 7) = false := beq_eq_false_iff_ne.2 (by omega)
  have HK := Lib.hid hk; clear hk
  go_enter Tryz.func18, Tryz.ntmps18
  go_wp2_with fail
  go_ret
  exact ⟨rfl, by first | exact Below.refl _ _ | exact Below.alloc (Below.refl _ _) (Nat.le_refl _) _⟩
set_option maxRecDepth 100000 in
set_option maxHeartbeats 400000 in
theorem rcheck_char (s : ByteArray) (a : Int) (w : World) (hs : s.size ≤ 4611686018427387904) :
    Calls Tryz.prog 18 #[.agg #[.int .i64 4, .string s, .int .i64 a]] w fun e w' => e = .returned (.int .i64 (Tk.okCode (s.data.toList.length == 1 && Tk.rall true s.data.toList))) ∧ Below w.heap.size w w' := by
  have HZ := Lib.hid (size_data s)
  by_cases h1 : s.size = 1
  · have e1 : ((s.size : Int) == 1) = true := beq_iff_eq.2 (by omega)
    have H1 : Hid ((s.data.toList.length == 1) = true) := by unfold Hid; rw [HZ.out, h1]; rfl
    have HH := Lib.hid h1; clear h1
    cases h : Tk.rall true s.data.toList
    all_goals
      have H := Lib.hid h
      go_enter Tryz.func18, Tryz.ntmps18
      go_wp2_with (go_at_call 46; refine (rall_any s true _ hs).mono ?_; rintro e w' ⟨rfl, rfl⟩; rw [H.out])
      go_ret
      exact ⟨ret_int (by first | (rw [H1.out]; rfl) | (rw [H1.out, H.out]; rfl)), by first | exact Below.refl _ _ | exact Below.alloc (Below.refl _ _) (Nat.le_refl _) _⟩
  · have e1 : ((s.size : Int) == 1) = false := beq_eq_false_iff_ne.2 (by omega)
    have H1 : Hid ((s.data.toList.length == 1) = false) := by unfold Hid; rw [HZ.out]; exact beq_eq_false_iff_ne.2 h1
    have HH := Lib.hid h1; clear h1
    go_enter Tryz.func18, Tryz.ntmps18
    go_wp2_with fail
    go_ret
    exact ⟨ret_int (by rw [H1.out]; rfl), by first | exact Below.refl _ _ | exact Below.alloc (Below.refl _ _) (Nat.le_refl _) _⟩

def Tk.rpunct (l : List UInt8) : Bool := l == [40, 40] || (l.length == 1 && Tk.hasB [40, 41, 91, 93, 123, 125, 44, 124] (Tk.bt l 0))
set_option maxRecDepth 100000 in
set_option maxHeartbeats 400000 in
theorem rcheck_punct (s : ByteArray) (a : Int) (w : World) (hs : s.size ≤ 4611686018427387904) :
    Calls Tryz.prog 18 #[.agg #[.int .i64 6, .string s, .int .i64 a]] w fun e w' => e = .returned (.int .i64 (Tk.okCode (Tk.rpunct s.data.toList))) ∧ Below w.heap.size w w' := by
  have HZ := Lib.hid (size_data s)
  have HL := Lib.hid (Go.ByteArray.toList_eq s)
  cases h0 : (s.toList == [40, 40])
  · have H0 : Hid ((s.data.toList == [40, 40]) = false) := by unfold Hid; rw [← HL.out]; exact h0
    by_cases h1 : s.size = 1
    · have e1 : ((s.size : Int) == 1) = true := beq_iff_eq.2 (by omega)
      have H1 : Hid ((s.data.toList.length == 1) = true) := by unfold Hid; rw [HZ.out, h1]; rfl
      have hpos : 0 < s.size := by omega
      have HB := Lib.hid (Tk.bt_of s 0 hpos)
      have HH := Lib.hid h1; clear h1
      cases h : Tk.hasB [40, 41, 91, 93, 123, 125, 44, 124] (Tk.bt s.data.toList 0)
      all_goals
        have H := Lib.hid h
        go_enter Tryz.func18, Tryz.ntmps18
        go_wp2_with (go_at_call 48; refine (rhas_any _ _ _ (by decide)).mono ?_; rintro e w' ⟨rfl, rfl⟩; rw [HB.out, show Tk.hasB _ (Tk.bt s.data.toList 0) = _ from H.out])
        go_ret
        exact ⟨ret_int (by simp only [Tk.rpunct, H0.out, H1.out, H.out]; rfl), by first | exact Below.refl _ _ | exact Below.alloc (Below.refl _ _) (Nat.le_refl _) _⟩
    · have e1 : ((s.size : Int) == 1) = false := beq_eq_false_iff_ne.2 (by omega)
      have H1 : Hid ((s.data.toList.length == 1) = false) := by unfold Hid; rw [HZ.out]; exact beq_eq_false_iff_ne.2 h1
      have HH := Lib.hid h1; clear h1
      go_enter Tryz.func18, Tryz.ntmps18
      go_wp2_with fail
      go_ret
      exact ⟨ret_int (by simp only [Tk.rpunct, H0.out, H1.out]; rfl), by first | exact Below.refl _ _ | exact Below.alloc (Below.refl _ _) (Nat.le_refl _) _⟩
  · have H0 : Hid ((s.data.toList == [40, 40]) = true) := by unfold Hid; rw [← HL.out]; exact h0
    go_enter Tryz.func18, Tryz.ntmps18
    go_wp2_with fail
    go_ret
    exact ⟨ret_int (by simp only [Tk.rpunct, H0.out]; rfl), by first | exact Below.refl _ _ | exact Below.alloc (Below.refl _ _) (Nat.le_refl _) _⟩
end Go.Proofs.YteeigpdnkhpahaaGreatDoor
