import Derived.StillTailTactics
import Derived.IntWalk
import Derived.Test.YtnkmefnbhfghgaaGreatDoorX12
set_option linter.unusedSimpArgs false
set_option linter.unusedVariables false
namespace Go.Proofs.YtnkmefnbhfghgaaGreatDoor
open Go.RowKit

set_option maxRecDepth 100000 in
set_option maxHeartbeats 4000000 in
theorem rnext_open (g : Nat) (s : ByteArray) (p : Nat) (v : Value) (out : List Tk.T) (to : Nat) (w0 w : World) (hs : s.size ≤ 65536) (hp : p < s.size) (hout : out.length ≤ 65536) (hS : RIn w0 w g s p v out to 0 0) (hin : Tk.inText (Tk.bt s.data.toList p) = true) (hbl : Tk.blank (Tk.bt s.data.toList p) = false) (e37 : (Tk.bt s.data.toList p == 37) = false) (e47 : (Tk.bt s.data.toList p == 47) = false) (hsm : Tk.small (Tk.bt s.data.toList p) = false) (hca : Tk.capital (Tk.bt s.data.toList p) = false) (hdi : Tk.digit (Tk.bt s.data.toList p) = false) (e39 : (Tk.bt s.data.toList p == 39) = false) (e34 : (Tk.bt s.data.toList p == 34) = false) (e59 : (Tk.bt s.data.toList p == 59) = false) (e33 : (Tk.bt s.data.toList p == 33) = false) (hsg : Tk.sign (Tk.bt s.data.toList p) = false) (e40 : (Tk.bt s.data.toList p == 40) = true) (hcl : Tk.qcalled out to p = false) (hhs : Tk.hasB [40, 41, 91, 93, 123, 125, 44, 124] (Tk.bt s.data.toList p) = true) :
    Calls Tryz.prog 19 #[.pointer (some ⟨g, 0, none⟩)] w (QPost w0 g s p out to (Tk.qadd 6 (Tk.sub s.data.toList p (p + 1)) (p + 1) p)) := by
  have HZ := Lib.hid (size_data s)
  obtain ⟨c0, c1, c2, c3, c4, c5⟩ := hS.cells
  have hgl := hS.lt
  have hp1 : (0 : Int) ≤ (p : Int) := by omega
  have hp2 : (p : Int) < (s.size : Int) := by omega
  have hp3 : (p : Int) + 1 ≤ (s.size : Int) := by omega
  have HB := Lib.hid (Tk.bt_of s p hp)
  have HIN := Lib.hid hin; clear hin
  have HBL := Lib.hid hbl; clear hbl
  have HSM := Lib.hid hsm; clear hsm
  have HCA := Lib.hid hca; clear hca
  have HDI := Lib.hid hdi; clear hdi
  have HSG := Lib.hid hsg; clear hsg
  have HCL := Lib.hid hcl; clear hcl
  have HHS := Lib.hid hhs; clear hhs
  go_enter Tryz.func19, Tryz.ntmps19
  go_wp2_with fail
  go_quiet (fail)
  rw [HB.out]
  have hSd := hS.drewN nq
  obtain ⟨d0, d1, d2, d3, d4, d5⟩ := hSd.cells
  have k1 := hSd.frozen 1
  have hgl2 := hSd.lt
  generalize w.drewN nq = w2 at *
  clear c0 c1 c2 c3 c4 c5
  go_wp2_with (first | (go_at_call 58; refine (rByte_any _ _).mono ?_; rintro e w' ⟨rfl, rfl⟩; rw [HIN.out]) | (go_at_call 60; refine (rblank_any _ _).mono ?_; rintro e w' ⟨rfl, rfl⟩; rw [HBL.out]) | (go_at_call 63; refine (rsmall_any _ _).mono ?_; rintro e w' ⟨rfl, rfl⟩; rw [HSM.out]) | (go_at_call 27; refine (rcapital_any _ _).mono ?_; rintro e w' ⟨rfl, rfl⟩; rw [HCA.out]) | (go_at_call 29; refine (rdigit_any _ _).mono ?_; rintro e w' ⟨rfl, rfl⟩; rw [HDI.out]) | (go_at_call 69; refine (rsign_any _ _).mono ?_; rintro e w' ⟨rfl, rfl⟩; rw [rsign_bt, HSG.out]) | (go_at_call 71; refine (rcalled_any g s p v out to w0 _ hout hSd).mono ?_; rintro e w' ⟨rfl, nc, rfl⟩; rw [HCL.out]) | (go_at_call 26; refine (rhas_any _ _ _ (by decide)).mono ?_; rintro e w' ⟨rfl, rfl⟩; rw [show ({ data := #[40, 41, 91, 93, 123, 125, 44, 124] } : ByteArray).data.toList = [40, 41, 91, 93, 123, 125, 44, 124] from rfl, HHS.out]))
  have hSe := hSd.drewN nc
  obtain ⟨q0, q1', q2', q3, q4, q5⟩ := hSe.cells
  have hgl3 := hSe.lt
  generalize w2.drewN nc = w3 at *
  have hwr : IntKind.i64.wrap ((p : Int) + 1) = (p : Int) + 1 := IntWalk.i64_in _ (by omega)
  have hwl : (p : Int) ≤ (p : Int) + 1 := by omega
  have hw0 : (0 : Int) ≤ (p : Int) + 1 := by omega
  have hwn : ((p : Int) + 1).toNat = p + 1 := by omega
  go_still_tail 20, (by kernel_rfl)
  clear hwr hwn
  go_wp2_with fail
  rw [str_sub]
  refine (radd_any g s p v out to 6 (Tk.sub s.data.toList p (p + 1)) (p + 1) w0 _ hout (by omega) (sub_small s p (p + 1) hs) (by first | exact hSe.drew | exact (hSe.drew).drewN _)).mono ?_
  intro e w5 hP
  obtain ⟨r, rfl⟩ := hP.ret
  go_wp2_with fail
  first | exact bodyPost_end (v := .tuple #[]) (by simp [results, Tryz.results19, go_sem]) rfl (hP.again _) | exact bodyPost_ret (v := .tuple #[]) (by simp [results, Tryz.results19, go_sem]) rfl (hP.again _)

set_option maxRecDepth 100000 in
set_option maxHeartbeats 4000000 in
theorem rnext_punct (g : Nat) (s : ByteArray) (p : Nat) (v : Value) (out : List Tk.T) (to : Nat) (w0 w : World) (hs : s.size ≤ 65536) (hp : p < s.size) (hout : out.length ≤ 65536) (hS : RIn w0 w g s p v out to 0 0) (hin : Tk.inText (Tk.bt s.data.toList p) = true) (hbl : Tk.blank (Tk.bt s.data.toList p) = false) (e37 : (Tk.bt s.data.toList p == 37) = false) (e47 : (Tk.bt s.data.toList p == 47) = false) (hsm : Tk.small (Tk.bt s.data.toList p) = false) (hca : Tk.capital (Tk.bt s.data.toList p) = false) (hdi : Tk.digit (Tk.bt s.data.toList p) = false) (e39 : (Tk.bt s.data.toList p == 39) = false) (e34 : (Tk.bt s.data.toList p == 34) = false) (e59 : (Tk.bt s.data.toList p == 59) = false) (e33 : (Tk.bt s.data.toList p == 33) = false) (hsg : Tk.sign (Tk.bt s.data.toList p) = false) (e40 : (Tk.bt s.data.toList p == 40) = false) (hhs : Tk.hasB [40, 41, 91, 93, 123, 125, 44, 124] (Tk.bt s.data.toList p) = true) :
    Calls Tryz.prog 19 #[.pointer (some ⟨g, 0, none⟩)] w (QPost w0 g s p out to (Tk.qadd 6 (Tk.sub s.data.toList p (p + 1)) (p + 1) p)) := by
  have HZ := Lib.hid (size_data s)
  obtain ⟨c0, c1, c2, c3, c4, c5⟩ := hS.cells
  have hgl := hS.lt
  have hp1 : (0 : Int) ≤ (p : Int) := by omega
  have hp2 : (p : Int) < (s.size : Int) := by omega
  have hp3 : (p : Int) + 1 ≤ (s.size : Int) := by omega
  have HB := Lib.hid (Tk.bt_of s p hp)
  have HIN := Lib.hid hin; clear hin
  have HBL := Lib.hid hbl; clear hbl
  have HSM := Lib.hid hsm; clear hsm
  have HCA := Lib.hid hca; clear hca
  have HDI := Lib.hid hdi; clear hdi
  have HSG := Lib.hid hsg; clear hsg
  have HHS := Lib.hid hhs; clear hhs
  go_enter Tryz.func19, Tryz.ntmps19
  go_wp2_with fail
  go_quiet (fail)
  rw [HB.out]
  have hSd := hS.drewN nq
  obtain ⟨d0, d1, d2, d3, d4, d5⟩ := hSd.cells
  have k1 := hSd.frozen 1
  have hgl2 := hSd.lt
  generalize w.drewN nq = w2 at *
  clear c0 c1 c2 c3 c4 c5
  go_wp2_with (first | (go_at_call 58; refine (rByte_any _ _).mono ?_; rintro e w' ⟨rfl, rfl⟩; rw [HIN.out]) | (go_at_call 60; refine (rblank_any _ _).mono ?_; rintro e w' ⟨rfl, rfl⟩; rw [HBL.out]) | (go_at_call 63; refine (rsmall_any _ _).mono ?_; rintro e w' ⟨rfl, rfl⟩; rw [HSM.out]) | (go_at_call 27; refine (rcapital_any _ _).mono ?_; rintro e w' ⟨rfl, rfl⟩; rw [HCA.out]) | (go_at_call 29; refine (rdigit_any _ _).mono ?_; rintro e w' ⟨rfl, rfl⟩; rw [HDI.out]) | (go_at_call 69; refine (rsign_any _ _).mono ?_; rintro e w' ⟨rfl, rfl⟩; rw [rsign_bt, HSG.out]) | (go_at_call 26; refine (rhas_any _ _ _ (by decide)).mono ?_; rintro e w' ⟨rfl, rfl⟩; rw [show ({ data := #[40, 41, 91, 93, 123, 125, 44, 124] } : ByteArray).data.toList = [40, 41, 91, 93, 123, 125, 44, 124] from rfl, HHS.out]))
  have hwr : IntKind.i64.wrap ((p : Int) + 1) = (p : Int) + 1 := IntWalk.i64_in _ (by omega)
  have hwl : (p : Int) ≤ (p : Int) + 1 := by omega
  have hw0 : (0 : Int) ≤ (p : Int) + 1 := by omega
  have hwn : ((p : Int) + 1).toNat = p + 1 := by omega
  go_still_tail 20, (by kernel_rfl)
  clear hwr hwn
  go_wp2_with fail
  rw [str_sub]
  refine (radd_any g s p v out to 6 (Tk.sub s.data.toList p (p + 1)) (p + 1) w0 _ hout (by omega) (sub_small s p (p + 1) hs) (by first | exact hSd.drew | exact (hSd.drew).drewN _)).mono ?_
  intro e w5 hP
  obtain ⟨r, rfl⟩ := hP.ret
  go_wp2_with fail
  first | exact bodyPost_end (v := .tuple #[]) (by simp [results, Tryz.results19, go_sem]) rfl (hP.again _) | exact bodyPost_ret (v := .tuple #[]) (by simp [results, Tryz.results19, go_sem]) rfl (hP.again _)
end Go.Proofs.YtnkmefnbhfghgaaGreatDoor
