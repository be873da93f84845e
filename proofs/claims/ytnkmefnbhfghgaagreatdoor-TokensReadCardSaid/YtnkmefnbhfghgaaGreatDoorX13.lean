import Derived.Test.YtnkmefnbhfghgaaGreatDoorX12
set_option linter.unusedSimpArgs false
set_option linter.unusedVariables false
namespace Go.Proofs.YtnkmefnbhfghgaaGreatDoor
open Go.RowKit

set_option maxRecDepth 100000 in
set_option maxHeartbeats 4000000 in
theorem rnext_capital (g : Nat) (s : ByteArray) (p : Nat) (v : Value) (out : List Tk.T) (to : Nat) (w0 w : World) (hs : s.size ≤ 65536) (hp : p < s.size) (hout : out.length ≤ 65536) (hS : RIn w0 w g s p v out to 0 0) (hin : Tk.inText (Tk.bt s.data.toList p) = true) (hbl : Tk.blank (Tk.bt s.data.toList p) = false) (e37 : (Tk.bt s.data.toList p == 37) = false) (e47 : (Tk.bt s.data.toList p == 47) = false) (hsm : Tk.small (Tk.bt s.data.toList p) = false) (hca : Tk.capital (Tk.bt s.data.toList p) = true) :
    Calls Tryz.prog 19 #[.pointer (some ⟨g, 0, none⟩)] w (QPost w0 g s p out to (Tk.qadd 2 (Tk.sub s.data.toList p (Tk.run Tk.inWord s.data.toList p)) (Tk.run Tk.inWord s.data.toList p) p)) := by
  have HZ := Lib.hid (size_data s)
  obtain ⟨c0, c1, c2, c3, c4, c5⟩ := hS.cells
  have hgl := hS.lt
  have hp1 : (0 : Int) ≤ (p : Int) := by omega
  have hp2 : (p : Int) < (s.size : Int) := by omega
  have hp3 : (p : Int) + 1 ≤ (s.size : Int) := by omega
  have HB := Lib.hid (Tk.bt_of s p hp)
  have HIN := Lib.hid hin; clear hin
  have HBL := Lib.hid hbl; clear hbl
  have HSM := Lib.hid hsm; clear hsm
  have HCA := Lib.hid hca; clear hca
  have hr0 : Tk.run Tk.inWord s.data.toList p ≤ s.size := by rw [← HZ.out]; exact Tk.run_le (by rw [HZ.out]; omega)
  have hr1 := Tk.run_ge Tk.inWord s.data.toList p
  obtain ⟨z, hz⟩ : ∃ z, Tk.run Tk.inWord s.data.toList p = z := ⟨_, rfl⟩
  rw [hz] at hr0 hr1 ⊢
  have HRU := Lib.hid hz; clear hz
  have hz1 : (p : Int) ≤ (z : Int) := by omega
  have hz2 : (z : Int) ≤ (s.size : Int) := by omega
  go_enter Tryz.func19, Tryz.ntmps19
  go_wp2_with fail
  go_quiet (fail)
  rw [HB.out]
  have hSd := hS.drewN nq
  obtain ⟨d0, d1, d2, d3, d4, d5⟩ := hSd.cells
  have k1 := hSd.frozen 1
  have hgl2 := hSd.lt
  generalize w.drewN nq = w2 at *
  clear c0 c1 c2 c3 c4 c5
  go_wp2_with (first | (go_at_call 58; refine (rByte_any _ _).mono ?_; rintro e w' ⟨rfl, rfl⟩; rw [HIN.out]) | (go_at_call 60; refine (rblank_any _ _).mono ?_; rintro e w' ⟨rfl, rfl⟩; rw [HBL.out]) | (go_at_call 63; refine (rsmall_any _ _).mono ?_; rintro e w' ⟨rfl, rfl⟩; rw [HSM.out]) | (go_at_call 27; refine (rcapital_any _ _).mono ?_; rintro e w' ⟨rfl, rfl⟩; rw [HCA.out]))
  refine (rrun_any s g p _ (by omega) (by omega) d0).mono ?_; rintro e w' ⟨rfl, rfl⟩
  rw [HRU.out]
  go_wp2_with fail
  go_region_with (go_at_call 66; rw [str_sub]; refine (radd_any g s p v out to 2 (Tk.sub s.data.toList p z) z w0 _ hout (by omega) (sub_small s p z hs) hSd.drew).mono ?_; intro e w5 hP; obtain ⟨r, rfl⟩ := hP.ret)
  all_goals
    go_wp2_with fail
    first | exact bodyPost_end (v := .tuple #[]) (by simp [results, Tryz.results19, go_sem]) rfl (hP.again _) | exact bodyPost_ret (v := .tuple #[]) (by simp [results, Tryz.results19, go_sem]) rfl (hP.again _)

set_option maxRecDepth 100000 in
set_option maxHeartbeats 4000000 in
theorem rnext_digit (g : Nat) (s : ByteArray) (p : Nat) (v : Value) (out : List Tk.T) (to : Nat) (w0 w : World) (hs : s.size ≤ 65536) (hp : p < s.size) (hout : out.length ≤ 65536) (hS : RIn w0 w g s p v out to 0 0) (hin : Tk.inText (Tk.bt s.data.toList p) = true) (hbl : Tk.blank (Tk.bt s.data.toList p) = false) (e37 : (Tk.bt s.data.toList p == 37) = false) (e47 : (Tk.bt s.data.toList p == 47) = false) (hsm : Tk.small (Tk.bt s.data.toList p) = false) (hca : Tk.capital (Tk.bt s.data.toList p) = false) (hdi : Tk.digit (Tk.bt s.data.toList p) = true) :
    Calls Tryz.prog 19 #[.pointer (some ⟨g, 0, none⟩)] w (QPost w0 g s p out to (Tk.qnum s.data.toList p)) := by
  have HZ := Lib.hid (size_data s)
  obtain ⟨c0, c1, c2, c3, c4, c5⟩ := hS.cells
  have hgl := hS.lt
  have hp1 : (0 : Int) ≤ (p : Int) := by omega
  have hp2 : (p : Int) < (s.size : Int) := by omega
  have hp3 : (p : Int) + 1 ≤ (s.size : Int) := by omega
  have HB := Lib.hid (Tk.bt_of s p hp)
  have HIN := Lib.hid hin; clear hin
  have HBL := Lib.hid hbl; clear hbl
  have HSM := Lib.hid hsm; clear hsm
  have HCA := Lib.hid hca; clear hca
  have HDI := Lib.hid hdi; clear hdi
  go_enter Tryz.func19, Tryz.ntmps19
  go_wp2_with fail
  go_quiet (fail)
  rw [HB.out]
  have hSd := hS.drewN nq
  obtain ⟨d0, d1, d2, d3, d4, d5⟩ := hSd.cells
  have k1 := hSd.frozen 1
  have hgl2 := hSd.lt
  generalize w.drewN nq = w2 at *
  clear c0 c1 c2 c3 c4 c5
  go_wp2_with (first | (go_at_call 58; refine (rByte_any _ _).mono ?_; rintro e w' ⟨rfl, rfl⟩; rw [HIN.out]) | (go_at_call 60; refine (rblank_any _ _).mono ?_; rintro e w' ⟨rfl, rfl⟩; rw [HBL.out]) | (go_at_call 63; refine (rsmall_any _ _).mono ?_; rintro e w' ⟨rfl, rfl⟩; rw [HSM.out]) | (go_at_call 27; refine (rcapital_any _ _).mono ?_; rintro e w' ⟨rfl, rfl⟩; rw [HCA.out]) | (go_at_call 29; refine (rdigit_any _ _).mono ?_; rintro e w' ⟨rfl, rfl⟩; rw [HDI.out]))
  refine (rnum_any g s p v out to w0 _ hs hp hout hSd).mono ?_
  intro e w5 hP
  obtain ⟨r, rfl⟩ := hP.ret
  go_wp2_with fail
  first | exact bodyPost_end (v := .tuple #[]) (by simp [results, Tryz.results19, go_sem]) rfl (hP.again _) | exact bodyPost_ret (v := .tuple #[]) (by simp [results, Tryz.results19, go_sem]) rfl (hP.again _)

set_option maxRecDepth 100000 in
set_option maxHeartbeats 4000000 in
theorem rnext_q39 (g : Nat) (s : ByteArray) (p : Nat) (v : Value) (out : List Tk.T) (to : Nat) (w0 w : World) (hs : s.size ≤ 65536) (hp : p < s.size) (hout : out.length ≤ 65536) (hS : RIn w0 w g s p v out to 0 0) (hin : Tk.inText (Tk.bt s.data.toList p) = true) (hbl : Tk.blank (Tk.bt s.data.toList p) = false) (e37 : (Tk.bt s.data.toList p == 37) = false) (e47 : (Tk.bt s.data.toList p == 47) = false) (hsm : Tk.small (Tk.bt s.data.toList p) = false) (hca : Tk.capital (Tk.bt s.data.toList p) = false) (hdi : Tk.digit (Tk.bt s.data.toList p) = false) (hm : Tk.bt s.data.toList p = 39) :
    Calls Tryz.prog 19 #[.pointer (some ⟨g, 0, none⟩)] w (QPost w0 g s p out to (Tk.qquoted s.data.toList p)) := by
  have HZ := Lib.hid (size_data s)
  obtain ⟨c0, c1, c2, c3, c4, c5⟩ := hS.cells
  have hgl := hS.lt
  have hp1 : (0 : Int) ≤ (p : Int) := by omega
  have hp2 : (p : Int) < (s.size : Int) := by omega
  have hp3 : (p : Int) + 1 ≤ (s.size : Int) := by omega
  have HB := Lib.hid (Tk.bt_of s p hp)
  have HIN := Lib.hid hin; clear hin
  have HBL := Lib.hid hbl; clear hbl
  have HSM := Lib.hid hsm; clear hsm
  have HCA := Lib.hid hca; clear hca
  have HDI := Lib.hid hdi; clear hdi
  have e39 : (Tk.bt s.data.toList p == 39) = true := by rw [hm]; rfl
  have HM := Lib.hid hm; clear hm
  go_enter Tryz.func19, Tryz.ntmps19
  go_wp2_with fail
  go_quiet (fail)
  rw [HB.out]
  have hSd := hS.drewN nq
  obtain ⟨d0, d1, d2, d3, d4, d5⟩ := hSd.cells
  have k1 := hSd.frozen 1
  have hgl2 := hSd.lt
  generalize w.drewN nq = w2 at *
  clear c0 c1 c2 c3 c4 c5
  go_wp2_with (first | (go_at_call 58; refine (rByte_any _ _).mono ?_; rintro e w' ⟨rfl, rfl⟩; rw [HIN.out]) | (go_at_call 60; refine (rblank_any _ _).mono ?_; rintro e w' ⟨rfl, rfl⟩; rw [HBL.out]) | (go_at_call 63; refine (rsmall_any _ _).mono ?_; rintro e w' ⟨rfl, rfl⟩; rw [HSM.out]) | (go_at_call 27; refine (rcapital_any _ _).mono ?_; rintro e w' ⟨rfl, rfl⟩; rw [HCA.out]) | (go_at_call 29; refine (rdigit_any _ _).mono ?_; rintro e w' ⟨rfl, rfl⟩; rw [HDI.out]))
  refine (rquoted_39 g s p v out to w0 _ hs hp hout hSd HM.out).mono ?_
  intro e w5 hP
  obtain ⟨r, rfl⟩ := hP.ret
  go_wp2_with fail
  first | exact bodyPost_end (v := .tuple #[]) (by simp [results, Tryz.results19, go_sem]) rfl (hP.again _) | exact bodyPost_ret (v := .tuple #[]) (by simp [results, Tryz.results19, go_sem]) rfl (hP.again _)

set_option maxRecDepth 100000 in
set_option maxHeartbeats 4000000 in
theorem rnext_q34 (g : Nat) (s : ByteArray) (p : Nat) (v : Value) (out : List Tk.T) (to : Nat) (w0 w : World) (hs : s.size ≤ 65536) (hp : p < s.size) (hout : out.length ≤ 65536) (hS : RIn w0 w g s p v out to 0 0) (hin : Tk.inText (Tk.bt s.data.toList p) = true) (hbl : Tk.blank (Tk.bt s.data.toList p) = false) (e37 : (Tk.bt s.data.toList p == 37) = false) (e47 : (Tk.bt s.data.toList p == 47) = false) (hsm : Tk.small (Tk.bt s.data.toList p) = false) (hca : Tk.capital (Tk.bt s.data.toList p) = false) (hdi : Tk.digit (Tk.bt s.data.toList p) = false) (hm : Tk.bt s.data.toList p = 34) :
    Calls Tryz.prog 19 #[.pointer (some ⟨g, 0, none⟩)] w (QPost w0 g s p out to (Tk.qquoted s.data.toList p)) := by
  have HZ := Lib.hid (size_data s)
  obtain ⟨c0, c1, c2, c3, c4, c5⟩ := hS.cells
  have hgl := hS.lt
  have hp1 : (0 : Int) ≤ (p : Int) := by omega
  have hp2 : (p : Int) < (s.size : Int) := by omega
  have hp3 : (p : Int) + 1 ≤ (s.size : Int) := by omega
  have HB := Lib.hid (Tk.bt_of s p hp)
  have HIN := Lib.hid hin; clear hin
  have HBL := Lib.hid hbl; clear hbl
  have HSM := Lib.hid hsm; clear hsm
  have HCA := Lib.hid hca; clear hca
  have HDI := Lib.hid hdi; clear hdi
  have e39 : (Tk.bt s.data.toList p == 39) = false := by rw [hm]; rfl
  have e34 : (Tk.bt s.data.toList p == 34) = true := by rw [hm]; rfl
  have HM := Lib.hid hm; clear hm
  go_enter Tryz.func19, Tryz.ntmps19
  go_wp2_with fail
  go_quiet (fail)
  rw [HB.out]
  have hSd := hS.drewN nq
  obtain ⟨d0, d1, d2, d3, d4, d5⟩ := hSd.cells
  have k1 := hSd.frozen 1
  have hgl2 := hSd.lt
  generalize w.drewN nq = w2 at *
  clear c0 c1 c2 c3 c4 c5
  go_wp2_with (first | (go_at_call 58; refine (rByte_any _ _).mono ?_; rintro e w' ⟨rfl, rfl⟩; rw [HIN.out]) | (go_at_call 60; refine (rblank_any _ _).mono ?_; rintro e w' ⟨rfl, rfl⟩; rw [HBL.out]) | (go_at_call 63; refine (rsmall_any _ _).mono ?_; rintro e w' ⟨rfl, rfl⟩; rw [HSM.out]) | (go_at_call 27; refine (rcapital_any _ _).mono ?_; rintro e w' ⟨rfl, rfl⟩; rw [HCA.out]) | (go_at_call 29; refine (rdigit_any _ _).mono ?_; rintro e w' ⟨rfl, rfl⟩; rw [HDI.out]))
  refine (rquoted_34 g s p v out to w0 _ hs hp hout hSd HM.out).mono ?_
  intro e w5 hP
  obtain ⟨r, rfl⟩ := hP.ret
  go_wp2_with fail
  first | exact bodyPost_end (v := .tuple #[]) (by simp [results, Tryz.results19, go_sem]) rfl (hP.again _) | exact bodyPost_ret (v := .tuple #[]) (by simp [results, Tryz.results19, go_sem]) rfl (hP.again _)

set_option maxRecDepth 100000 in
set_option maxHeartbeats 4000000 in
theorem rnext_semi (g : Nat) (s : ByteArray) (p : Nat) (v : Value) (out : List Tk.T) (to : Nat) (w0 w : World) (hs : s.size ≤ 65536) (hp : p < s.size) (hout : out.length ≤ 65536) (hS : RIn w0 w g s p v out to 0 0) (hin : Tk.inText (Tk.bt s.data.toList p) = true) (hbl : Tk.blank (Tk.bt s.data.toList p) = false) (e37 : (Tk.bt s.data.toList p == 37) = false) (e47 : (Tk.bt s.data.toList p == 47) = false) (hsm : Tk.small (Tk.bt s.data.toList p) = false) (hca : Tk.capital (Tk.bt s.data.toList p) = false) (hdi : Tk.digit (Tk.bt s.data.toList p) = false) (e39 : (Tk.bt s.data.toList p == 39) = false) (e34 : (Tk.bt s.data.toList p == 34) = false) (e59 : (Tk.bt s.data.toList p == 59) = true) :
    Calls Tryz.prog 19 #[.pointer (some ⟨g, 0, none⟩)] w (QPost w0 g s p out to (Tk.qadd 1 [59] (p + 1) p)) := by
  have HZ := Lib.hid (size_data s)
  obtain ⟨c0, c1, c2, c3, c4, c5⟩ := hS.cells
  have hgl := hS.lt
  have hp1 : (0 : Int) ≤ (p : Int) := by omega
  have hp2 : (p : Int) < (s.size : Int) := by omega
  have hp3 : (p : Int) + 1 ≤ (s.size : Int) := by omega
  have HB := Lib.hid (Tk.bt_of s p hp)
  have HIN := Lib.hid hin; clear hin
  have HBL := Lib.hid hbl; clear hbl
  have HSM := Lib.hid hsm; clear hsm
  have HCA := Lib.hid hca; clear hca
  have HDI := Lib.hid hdi; clear hdi
  go_enter Tryz.func19, Tryz.ntmps19
  go_wp2_with fail
  go_quiet (fail)
  rw [HB.out]
  have hSd := hS.drewN nq
  obtain ⟨d0, d1, d2, d3, d4, d5⟩ := hSd.cells
  have k1 := hSd.frozen 1
  have hgl2 := hSd.lt
  generalize w.drewN nq = w2 at *
  clear c0 c1 c2 c3 c4 c5
  go_wp2_with (first | (go_at_call 58; refine (rByte_any _ _).mono ?_; rintro e w' ⟨rfl, rfl⟩; rw [HIN.out]) | (go_at_call 60; refine (rblank_any _ _).mono ?_; rintro e w' ⟨rfl, rfl⟩; rw [HBL.out]) | (go_at_call 63; refine (rsmall_any _ _).mono ?_; rintro e w' ⟨rfl, rfl⟩; rw [HSM.out]) | (go_at_call 27; refine (rcapital_any _ _).mono ?_; rintro e w' ⟨rfl, rfl⟩; rw [HCA.out]) | (go_at_call 29; refine (rdigit_any _ _).mono ?_; rintro e w' ⟨rfl, rfl⟩; rw [HDI.out]))
  refine (radd_any g s p v out to 1 [59] (p + 1) w0 _ hout (by omega) (by decide) hSd).mono ?_
  intro e w5 hP
  obtain ⟨r, rfl⟩ := hP.ret
  go_wp2_with fail
  first | exact bodyPost_end (v := .tuple #[]) (by simp [results, Tryz.results19, go_sem]) rfl (hP.again _) | exact bodyPost_ret (v := .tuple #[]) (by simp [results, Tryz.results19, go_sem]) rfl (hP.again _)
end Go.Proofs.YtnkmefnbhfghgaaGreatDoor
