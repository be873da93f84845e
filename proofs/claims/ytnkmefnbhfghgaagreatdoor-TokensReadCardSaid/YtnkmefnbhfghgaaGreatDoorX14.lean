import Derived.StillTailTactics
import Derived.Test.YtnkmefnbhfghgaaGreatDoorX12
set_option linter.unusedSimpArgs false
set_option linter.unusedVariables false
namespace Go.Proofs.YtnkmefnbhfghgaaGreatDoor
open Go.RowKit

set_option maxRecDepth 100000 in
set_option maxHeartbeats 4000000 in
theorem rnext_bang_ay (g : Nat) (s : ByteArray) (p : Nat) (v : Value) (out : List Tk.T) (to : Nat) (w0 w : World) (hs : s.size ≤ 65536) (hp : p < s.size) (hout : out.length ≤ 65536) (hS : RIn w0 w g s p v out to 0 0) (hin : Tk.inText (Tk.bt s.data.toList p) = true) (hbl : Tk.blank (Tk.bt s.data.toList p) = false) (e37 : (Tk.bt s.data.toList p == 37) = false) (e47 : (Tk.bt s.data.toList p == 47) = false) (hsm : Tk.small (Tk.bt s.data.toList p) = false) (hca : Tk.capital (Tk.bt s.data.toList p) = false) (hdi : Tk.digit (Tk.bt s.data.toList p) = false) (e39 : (Tk.bt s.data.toList p == 39) = false) (e34 : (Tk.bt s.data.toList p == 34) = false) (e59 : (Tk.bt s.data.toList p == 59) = false) (e33 : (Tk.bt s.data.toList p == 33) = true) (hx : Tk.bt s.data.toList (p + 1) = 46) (hy : Tk.capital (Tk.bt s.data.toList (p + 2)) = true) :
    Calls Tryz.prog 19 #[.pointer (some ⟨g, 0, none⟩)] w (QPost w0 g s p out to (Tk.qadd 1 (Tk.sub s.data.toList p (p + 2)) (p + 2) p)) := by
  have HZ := Lib.hid (size_data s)
  obtain ⟨c0, c1, c2, c3, c4, c5⟩ := hS.cells
  have hgl := hS.lt
  have hp1 : (0 : Int) ≤ (p : Int) := by omega
  have hp2 : (p : Int) < (s.size : Int) := by omega
  have hp3 : (p : Int) + 1 ≤ (s.size : Int) := by omega
  have HB := Lib.hid (Tk.bt_of s p hp)
  have HIN := Lib.hid hin; clear hin
  have HBL := Lib.hid hbl; clear hbl
  have HSM := Lib.hid hsm; clear hsm
  have HCA := Lib.hid hca; clear hca
  have HDI := Lib.hid hdi; clear hdi
  have HX := Lib.hid hx; clear hx
  have h2 : p + 2 < s.size := by
    refine Nat.lt_of_not_le fun h => ?_
    rw [Tk.bt_end (by rw [HZ.out]; exact h)] at hy
    revert hy; decide
  have h2i : (p : Int) + 2 ≤ (s.size : Int) := by omega
  have HY := Lib.hid hy; clear hy
  go_enter Tryz.func19, Tryz.ntmps19
  go_wp2_with fail
  go_quiet (fail)
  rw [HB.out]
  have hSd := hS.drewN nq
  obtain ⟨d0, d1, d2, d3, d4, d5⟩ := hSd.cells
  have k1 := hSd.frozen 1
  have hgl2 := hSd.lt
  generalize w.drewN nq = w2 at *
  clear c0 c1 c2 c3 c4 c5
  go_wp2_with (first | (go_at_call 58; refine (rByte_any _ _).mono ?_; rintro e w' ⟨rfl, rfl⟩; rw [HIN.out]) | (go_at_call 60; refine (rblank_any _ _).mono ?_; rintro e w' ⟨rfl, rfl⟩; rw [HBL.out]) | (go_at_call 63; refine (rsmall_any _ _).mono ?_; rintro e w' ⟨rfl, rfl⟩; rw [HSM.out]) | (go_at_call 27; refine (rcapital_any _ _).mono ?_; rintro e w' ⟨rfl, rfl⟩; rw [HCA.out]) | (go_at_call 29; refine (rdigit_any _ _).mono ?_; rintro e w' ⟨rfl, rfl⟩; rw [HDI.out]))
  refine (rat_any s g (p + 1) _ (by omega) (by omega) d0).mono ?_; rintro e w' ⟨rfl, rfl⟩
  rw [HX.out]
  go_wp2_with fail
  refine (rat_any s g (p + 2) _ (by omega) (by omega) d0).mono ?_; rintro e w' ⟨rfl, rfl⟩
  go_wp2_with fail
  refine (rcapital_any _ _).mono ?_; rintro e w' ⟨rfl, rfl⟩
  rw [HY.out]
  go_wp2_with fail
  have hwl : (p : Int) ≤ (p : Int) + 1 + 1 := by omega
  have hw0 : (0 : Int) ≤ (p : Int) + 1 + 1 := by omega
  have hwm : (p : Int) + 1 + 1 ≤ (s.size : Int) := by omega
  have hwn : ((p : Int) + 1 + 1).toNat = p + 2 := by omega
  go_still_tail 12, (by kernel_rfl)
  clear hwn
  go_wp2_with fail
  rw [str_sub]
  refine (radd_any g s p v out to 1 (Tk.sub s.data.toList p (p + 2)) (p + 2) w0 _ hout (by omega) (sub_small s p (p + 2) hs) (by first | exact hSd.drew | exact hSd.drew.drewN _)).mono ?_
  intro e w5 hP
  obtain ⟨r, rfl⟩ := hP.ret
  go_wp2_with fail
  first | exact bodyPost_end (v := .tuple #[]) (by simp [results, Tryz.results19, go_sem]) rfl (hP.again _) | exact bodyPost_ret (v := .tuple #[]) (by simp [results, Tryz.results19, go_sem]) rfl (hP.again _)

set_option maxRecDepth 100000 in
set_option maxHeartbeats 4000000 in
theorem rnext_bang_an (g : Nat) (s : ByteArray) (p : Nat) (v : Value) (out : List Tk.T) (to : Nat) (w0 w : World) (hs : s.size ≤ 65536) (hp : p < s.size) (hout : out.length ≤ 65536) (hS : RIn w0 w g s p v out to 0 0) (hin : Tk.inText (Tk.bt s.data.toList p) = true) (hbl : Tk.blank (Tk.bt s.data.toList p) = false) (e37 : (Tk.bt s.data.toList p == 37) = false) (e47 : (Tk.bt s.data.toList p == 47) = false) (hsm : Tk.small (Tk.bt s.data.toList p) = false) (hca : Tk.capital (Tk.bt s.data.toList p) = false) (hdi : Tk.digit (Tk.bt s.data.toList p) = false) (e39 : (Tk.bt s.data.toList p == 39) = false) (e34 : (Tk.bt s.data.toList p == 34) = false) (e59 : (Tk.bt s.data.toList p == 59) = false) (e33 : (Tk.bt s.data.toList p == 33) = true) (hx : Tk.bt s.data.toList (p + 1) = 46) (hy : Tk.capital (Tk.bt s.data.toList (p + 2)) = false) :
    Calls Tryz.prog 19 #[.pointer (some ⟨g, 0, none⟩)] w (QPost w0 g s p out to (Tk.qadd 1 (Tk.sub s.data.toList p (p + 1)) (p + 1) p)) := by
  have HZ := Lib.hid (size_data s)
  obtain ⟨c0, c1, c2, c3, c4, c5⟩ := hS.cells
  have hgl := hS.lt
  have hp1 : (0 : Int) ≤ (p : Int) := by omega
  have hp2 : (p : Int) < (s.size : Int) := by omega
  have hp3 : (p : Int) + 1 ≤ (s.size : Int) := by omega
  have HB := Lib.hid (Tk.bt_of s p hp)
  have HIN := Lib.hid hin; clear hin
  have HBL := Lib.hid hbl; clear hbl
  have HSM := Lib.hid hsm; clear hsm
  have HCA := Lib.hid hca; clear hca
  have HDI := Lib.hid hdi; clear hdi
  have HX := Lib.hid hx; clear hx
  have HY := Lib.hid hy; clear hy
  go_enter Tryz.func19, Tryz.ntmps19
  go_wp2_with fail
  go_quiet (fail)
  rw [HB.out]
  have hSd := hS.drewN nq
  obtain ⟨d0, d1, d2, d3, d4, d5⟩ := hSd.cells
  have k1 := hSd.frozen 1
  have hgl2 := hSd.lt
  generalize w.drewN nq = w2 at *
  clear c0 c1 c2 c3 c4 c5
  go_wp2_with (first | (go_at_call 58; refine (rByte_any _ _).mono ?_; rintro e w' ⟨rfl, rfl⟩; rw [HIN.out]) | (go_at_call 60; refine (rblank_any _ _).mono ?_; rintro e w' ⟨rfl, rfl⟩; rw [HBL.out]) | (go_at_call 63; refine (rsmall_any _ _).mono ?_; rintro e w' ⟨rfl, rfl⟩; rw [HSM.out]) | (go_at_call 27; refine (rcapital_any _ _).mono ?_; rintro e w' ⟨rfl, rfl⟩; rw [HCA.out]) | (go_at_call 29; refine (rdigit_any _ _).mono ?_; rintro e w' ⟨rfl, rfl⟩; rw [HDI.out]))
  refine (rat_any s g (p + 1) _ (by omega) (by omega) d0).mono ?_; rintro e w' ⟨rfl, rfl⟩
  rw [HX.out]
  go_wp2_with fail
  refine (rat_any s g (p + 2) _ (by omega) (by omega) d0).mono ?_; rintro e w' ⟨rfl, rfl⟩
  go_wp2_with fail
  refine (rcapital_any _ _).mono ?_; rintro e w' ⟨rfl, rfl⟩
  rw [HY.out]
  go_wp2_with fail
  have hwl : (p : Int) ≤ (p : Int) + 1 := by omega
  have hw0 : (0 : Int) ≤ (p : Int) + 1 := by omega
  have hwm : (p : Int) + 1 ≤ (s.size : Int) := by omega
  have hwn : ((p : Int) + 1).toNat = p + 1 := by omega
  go_still_tail 12, (by kernel_rfl)
  clear hwn
  go_wp2_with fail
  rw [str_sub]
  refine (radd_any g s p v out to 1 (Tk.sub s.data.toList p (p + 1)) (p + 1) w0 _ hout (by omega) (sub_small s p (p + 1) hs) (by first | exact hSd.drew | exact hSd.drew.drewN _)).mono ?_
  intro e w5 hP
  obtain ⟨r, rfl⟩ := hP.ret
  go_wp2_with fail
  first | exact bodyPost_end (v := .tuple #[]) (by simp [results, Tryz.results19, go_sem]) rfl (hP.again _) | exact bodyPost_ret (v := .tuple #[]) (by simp [results, Tryz.results19, go_sem]) rfl (hP.again _)

set_option maxRecDepth 100000 in
set_option maxHeartbeats 4000000 in
theorem rnext_bang_by (g : Nat) (s : ByteArray) (p : Nat) (v : Value) (out : List Tk.T) (to : Nat) (w0 w : World) (hs : s.size ≤ 65536) (hp : p < s.size) (hout : out.length ≤ 65536) (hS : RIn w0 w g s p v out to 0 0) (hin : Tk.inText (Tk.bt s.data.toList p) = true) (hbl : Tk.blank (Tk.bt s.data.toList p) = false) (e37 : (Tk.bt s.data.toList p == 37) = false) (e47 : (Tk.bt s.data.toList p == 47) = false) (hsm : Tk.small (Tk.bt s.data.toList p) = false) (hca : Tk.capital (Tk.bt s.data.toList p) = false) (hdi : Tk.digit (Tk.bt s.data.toList p) = false) (e39 : (Tk.bt s.data.toList p == 39) = false) (e34 : (Tk.bt s.data.toList p == 34) = false) (e59 : (Tk.bt s.data.toList p == 59) = false) (e33 : (Tk.bt s.data.toList p == 33) = true) (hx : Tk.bt s.data.toList (p + 1) = 58) (hy : Tk.capital (Tk.bt s.data.toList (p + 2)) = true) :
    Calls Tryz.prog 19 #[.pointer (some ⟨g, 0, none⟩)] w (QPost w0 g s p out to (Tk.qadd 1 (Tk.sub s.data.toList p (p + 2)) (p + 2) p)) := by
  have HZ := Lib.hid (size_data s)
  obtain ⟨c0, c1, c2, c3, c4, c5⟩ := hS.cells
  have hgl := hS.lt
  have hp1 : (0 : Int) ≤ (p : Int) := by omega
  have hp2 : (p : Int) < (s.size : Int) := by omega
  have hp3 : (p : Int) + 1 ≤ (s.size : Int) := by omega
  have HB := Lib.hid (Tk.bt_of s p hp)
  have HIN := Lib.hid hin; clear hin
  have HBL := Lib.hid hbl; clear hbl
  have HSM := Lib.hid hsm; clear hsm
  have HCA := Lib.hid hca; clear hca
  have HDI := Lib.hid hdi; clear hdi
  have HX := Lib.hid hx; clear hx
  have h2 : p + 2 < s.size := by
    refine Nat.lt_of_not_le fun h => ?_
    rw [Tk.bt_end (by rw [HZ.out]; exact h)] at hy
    revert hy; decide
  have h2i : (p : Int) + 2 ≤ (s.size : Int) := by omega
  have HY := Lib.hid hy; clear hy
  go_enter Tryz.func19, Tryz.ntmps19
  go_wp2_with fail
  go_quiet (fail)
  rw [HB.out]
  have hSd := hS.drewN nq
  obtain ⟨d0, d1, d2, d3, d4, d5⟩ := hSd.cells
  have k1 := hSd.frozen 1
  have hgl2 := hSd.lt
  generalize w.drewN nq = w2 at *
  clear c0 c1 c2 c3 c4 c5
  go_wp2_with (first | (go_at_call 58; refine (rByte_any _ _).mono ?_; rintro e w' ⟨rfl, rfl⟩; rw [HIN.out]) | (go_at_call 60; refine (rblank_any _ _).mono ?_; rintro e w' ⟨rfl, rfl⟩; rw [HBL.out]) | (go_at_call 63; refine (rsmall_any _ _).mono ?_; rintro e w' ⟨rfl, rfl⟩; rw [HSM.out]) | (go_at_call 27; refine (rcapital_any _ _).mono ?_; rintro e w' ⟨rfl, rfl⟩; rw [HCA.out]) | (go_at_call 29; refine (rdigit_any _ _).mono ?_; rintro e w' ⟨rfl, rfl⟩; rw [HDI.out]))
  refine (rat_any s g (p + 1) _ (by omega) (by omega) d0).mono ?_; rintro e w' ⟨rfl, rfl⟩
  rw [HX.out]
  go_wp2_with fail
  refine (rat_any s g (p + 1) _ (by omega) (by omega) d0).mono ?_; rintro e w' ⟨rfl, rfl⟩
  rw [HX.out]
  go_wp2_with fail
  refine (rat_any s g (p + 2) _ (by omega) (by omega) d0).mono ?_; rintro e w' ⟨rfl, rfl⟩
  go_wp2_with fail
  refine (rcapital_any _ _).mono ?_; rintro e w' ⟨rfl, rfl⟩
  rw [HY.out]
  go_wp2_with fail
  have hwl : (p : Int) ≤ (p : Int) + 1 + 1 := by omega
  have hw0 : (0 : Int) ≤ (p : Int) + 1 + 1 := by omega
  have hwm : (p : Int) + 1 + 1 ≤ (s.size : Int) := by omega
  have hwn : ((p : Int) + 1 + 1).toNat = p + 2 := by omega
  go_still_tail 12, (by kernel_rfl)
  clear hwn
  go_wp2_with fail
  rw [str_sub]
  refine (radd_any g s p v out to 1 (Tk.sub s.data.toList p (p + 2)) (p + 2) w0 _ hout (by omega) (sub_small s p (p + 2) hs) (by first | exact hSd.drew | exact hSd.drew.drewN _)).mono ?_
  intro e w5 hP
  obtain ⟨r, rfl⟩ := hP.ret
  go_wp2_with fail
  first | exact bodyPost_end (v := .tuple #[]) (by simp [results, Tryz.results19, go_sem]) rfl (hP.again _) | exact bodyPost_ret (v := .tuple #[]) (by simp [results, Tryz.results19, go_sem]) rfl (hP.again _)

set_option maxRecDepth 100000 in
set_option maxHeartbeats 4000000 in
theorem rnext_bang_bn (g : Nat) (s : ByteArray) (p : Nat) (v : Value) (out : List Tk.T) (to : Nat) (w0 w : World) (hs : s.size ≤ 65536) (hp : p < s.size) (hout : out.length ≤ 65536) (hS : RIn w0 w g s p v out to 0 0) (hin : Tk.inText (Tk.bt s.data.toList p) = true) (hbl : Tk.blank (Tk.bt s.data.toList p) = false) (e37 : (Tk.bt s.data.toList p == 37) = false) (e47 : (Tk.bt s.data.toList p == 47) = false) (hsm : Tk.small (Tk.bt s.data.toList p) = false) (hca : Tk.capital (Tk.bt s.data.toList p) = false) (hdi : Tk.digit (Tk.bt s.data.toList p) = false) (e39 : (Tk.bt s.data.toList p == 39) = false) (e34 : (Tk.bt s.data.toList p == 34) = false) (e59 : (Tk.bt s.data.toList p == 59) = false) (e33 : (Tk.bt s.data.toList p == 33) = true) (hx : Tk.bt s.data.toList (p + 1) = 58) (hy : Tk.capital (Tk.bt s.data.toList (p + 2)) = false) :
    Calls Tryz.prog 19 #[.pointer (some ⟨g, 0, none⟩)] w (QPost w0 g s p out to (Tk.qadd 1 (Tk.sub s.data.toList p (p + 1)) (p + 1) p)) := by
  have HZ := Lib.hid (size_data s)
  obtain ⟨c0, c1, c2, c3, c4, c5⟩ := hS.cells
  have hgl := hS.lt
  have hp1 : (0 : Int) ≤ (p : Int) := by omega
  have hp2 : (p : Int) < (s.size : Int) := by omega
  have hp3 : (p : Int) + 1 ≤ (s.size : Int) := by omega
  have HB := Lib.hid (Tk.bt_of s p hp)
  have HIN := Lib.hid hin; clear hin
  have HBL := Lib.hid hbl; clear hbl
  have HSM := Lib.hid hsm; clear hsm
  have HCA := Lib.hid hca; clear hca
  have HDI := Lib.hid hdi; clear hdi
  have HX := Lib.hid hx; clear hx
  have HY := Lib.hid hy; clear hy
  go_enter Tryz.func19, Tryz.ntmps19
  go_wp2_with fail
  go_quiet (fail)
  rw [HB.out]
  have hSd := hS.drewN nq
  obtain ⟨d0, d1, d2, d3, d4, d5⟩ := hSd.cells
  have k1 := hSd.frozen 1
  have hgl2 := hSd.lt
  generalize w.drewN nq = w2 at *
  clear c0 c1 c2 c3 c4 c5
  go_wp2_with (first | (go_at_call 58; refine (rByte_any _ _).mono ?_; rintro e w' ⟨rfl, rfl⟩; rw [HIN.out]) | (go_at_call 60; refine (rblank_any _ _).mono ?_; rintro e w' ⟨rfl, rfl⟩; rw [HBL.out]) | (go_at_call 63; refine (rsmall_any _ _).mono ?_; rintro e w' ⟨rfl, rfl⟩; rw [HSM.out]) | (go_at_call 27; refine (rcapital_any _ _).mono ?_; rintro e w' ⟨rfl, rfl⟩; rw [HCA.out]) | (go_at_call 29; refine (rdigit_any _ _).mono ?_; rintro e w' ⟨rfl, rfl⟩; rw [HDI.out]))
  refine (rat_any s g (p + 1) _ (by omega) (by omega) d0).mono ?_; rintro e w' ⟨rfl, rfl⟩
  rw [HX.out]
  go_wp2_with fail
  refine (rat_any s g (p + 1) _ (by omega) (by omega) d0).mono ?_; rintro e w' ⟨rfl, rfl⟩
  rw [HX.out]
  go_wp2_with fail
  refine (rat_any s g (p + 2) _ (by omega) (by omega) d0).mono ?_; rintro e w' ⟨rfl, rfl⟩
  go_wp2_with fail
  refine (rcapital_any _ _).mono ?_; rintro e w' ⟨rfl, rfl⟩
  rw [HY.out]
  go_wp2_with fail
  have hwl : (p : Int) ≤ (p : Int) + 1 := by omega
  have hw0 : (0 : Int) ≤ (p : Int) + 1 := by omega
  have hwm : (p : Int) + 1 ≤ (s.size : Int) := by omega
  have hwn : ((p : Int) + 1).toNat = p + 1 := by omega
  go_still_tail 12, (by kernel_rfl)
  clear hwn
  go_wp2_with fail
  rw [str_sub]
  refine (radd_any g s p v out to 1 (Tk.sub s.data.toList p (p + 1)) (p + 1) w0 _ hout (by omega) (sub_small s p (p + 1) hs) (by first | exact hSd.drew | exact hSd.drew.drewN _)).mono ?_
  intro e w5 hP
  obtain ⟨r, rfl⟩ := hP.ret
  go_wp2_with fail
  first | exact bodyPost_end (v := .tuple #[]) (by simp [results, Tryz.results19, go_sem]) rfl (hP.again _) | exact bodyPost_ret (v := .tuple #[]) (by simp [results, Tryz.results19, go_sem]) rfl (hP.again _)

set_option maxRecDepth 100000 in
set_option maxHeartbeats 4000000 in
theorem rnext_bang_c (g : Nat) (s : ByteArray) (p : Nat) (v : Value) (out : List Tk.T) (to : Nat) (w0 w : World) (hs : s.size ≤ 65536) (hp : p < s.size) (hout : out.length ≤ 65536) (hS : RIn w0 w g s p v out to 0 0) (hin : Tk.inText (Tk.bt s.data.toList p) = true) (hbl : Tk.blank (Tk.bt s.data.toList p) = false) (e37 : (Tk.bt s.data.toList p == 37) = false) (e47 : (Tk.bt s.data.toList p == 47) = false) (hsm : Tk.small (Tk.bt s.data.toList p) = false) (hca : Tk.capital (Tk.bt s.data.toList p) = false) (hdi : Tk.digit (Tk.bt s.data.toList p) = false) (e39 : (Tk.bt s.data.toList p == 39) = false) (e34 : (Tk.bt s.data.toList p == 34) = false) (e59 : (Tk.bt s.data.toList p == 59) = false) (e33 : (Tk.bt s.data.toList p == 33) = true) (hx : (Tk.bt s.data.toList (p + 1) == 46) = false) (hy : (Tk.bt s.data.toList (p + 1) == 58) = false) :
    Calls Tryz.prog 19 #[.pointer (some ⟨g, 0, none⟩)] w (QPost w0 g s p out to (Tk.qadd 1 (Tk.sub s.data.toList p (p + 1)) (p + 1) p)) := by
  have HZ := Lib.hid (size_data s)
  obtain ⟨c0, c1, c2, c3, c4, c5⟩ := hS.cells
  have hgl := hS.lt
  have hp1 : (0 : Int) ≤ (p : Int) := by omega
  have hp2 : (p : Int) < (s.size : Int) := by omega
  have hp3 : (p : Int) + 1 ≤ (s.size : Int) := by omega
  have HB := Lib.hid (Tk.bt_of s p hp)
  have HIN := Lib.hid hin; clear hin
  have HBL := Lib.hid hbl; clear hbl
  have HSM := Lib.hid hsm; clear hsm
  have HCA := Lib.hid hca; clear hca
  have HDI := Lib.hid hdi; clear hdi
  go_enter Tryz.func19, Tryz.ntmps19
  go_wp2_with fail
  go_quiet (fail)
  rw [HB.out]
  have hSd := hS.drewN nq
  obtain ⟨d0, d1, d2, d3, d4, d5⟩ := hSd.cells
  have k1 := hSd.frozen 1
  have hgl2 := hSd.lt
  generalize w.drewN nq = w2 at *
  clear c0 c1 c2 c3 c4 c5
  go_wp2_with (first | (go_at_call 58; refine (rByte_any _ _).mono ?_; rintro e w' ⟨rfl, rfl⟩; rw [HIN.out]) | (go_at_call 60; refine (rblank_any _ _).mono ?_; rintro e w' ⟨rfl, rfl⟩; rw [HBL.out]) | (go_at_call 63; refine (rsmall_any _ _).mono ?_; rintro e w' ⟨rfl, rfl⟩; rw [HSM.out]) | (go_at_call 27; refine (rcapital_any _ _).mono ?_; rintro e w' ⟨rfl, rfl⟩; rw [HCA.out]) | (go_at_call 29; refine (rdigit_any _ _).mono ?_; rintro e w' ⟨rfl, rfl⟩; rw [HDI.out]))
  refine (rat_any s g (p + 1) _ (by omega) (by omega) d0).mono ?_; rintro e w' ⟨rfl, rfl⟩
  go_wp2_with fail
  refine (rat_any s g (p + 1) _ (by omega) (by omega) d0).mono ?_; rintro e w' ⟨rfl, rfl⟩
  go_wp2_with fail
  have hwl : (p : Int) ≤ (p : Int) + 1 := by omega
  have hw0 : (0 : Int) ≤ (p : Int) + 1 := by omega
  have hwm : (p : Int) + 1 ≤ (s.size : Int) := by omega
  have hwn : ((p : Int) + 1).toNat = p + 1 := by omega
  go_still_tail 12, (by kernel_rfl)
  clear hwn
  go_wp2_with fail
  rw [str_sub]
  refine (radd_any g s p v out to 1 (Tk.sub s.data.toList p (p + 1)) (p + 1) w0 _ hout (by omega) (sub_small s p (p + 1) hs) (by first | exact hSd.drew | exact hSd.drew.drewN _)).mono ?_
  intro e w5 hP
  obtain ⟨r, rfl⟩ := hP.ret
  go_wp2_with fail
  first | exact bodyPost_end (v := .tuple #[]) (by simp [results, Tryz.results19, go_sem]) rfl (hP.again _) | exact bodyPost_ret (v := .tuple #[]) (by simp [results, Tryz.results19, go_sem]) rfl (hP.again _)
end Go.Proofs.YtnkmefnbhfghgaaGreatDoor
