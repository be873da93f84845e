import Derived.Test.YtnkmefnbhfghgaaGreatDoorX11
import Derived.Test.YtnkmefnbhfghgaaGreatDoorGX
set_option linter.unusedSimpArgs false
set_option linter.unusedVariables false
namespace Go.Proofs.YtnkmefnbhfghgaaGreatDoor
open Go.RowKit

theorem cast_dec (a b : Nat) : ((a : Int) == (b : Int)) = decide (a = b) := by
  rw [Bool.eq_iff_iff, beq_iff_eq, decide_eq_true_eq]; omega
theorem flat_at (out : List Tk.T) (m : Nat) (x : Tk.T) (h : out[m]? = some x) : (Tk.flat out)[m * 3]? = some (.int .i64 x.1) := by
  induction out generalizing m with
  | nil => simp at h
  | cons a r ih =>
    cases m with
    | zero => simp at h; subst h; rfl
    | succ m =>
      have h2 := ih m (by simpa using h)
      have : Tk.flat (a :: r) = [.int .i64 a.1, .string ⟨a.2.1.toArray⟩, .int .i64 (a.2.2 : Int)] ++ Tk.flat r := rfl
      rw [this, List.getElem?_append_right (by simp; omega), ← h2]
      congr 1
      simp; omega
set_option maxRecDepth 100000 in
set_option maxHeartbeats 2000000 in
theorem rcalled_any (g : Nat) (s : ByteArray) (p : Nat) (v : Value) (out : List Tk.T) (to : Nat) (w0 w : World) (hout : out.length ≤ 65536) (hS : RIn w0 w g s p v out to 0 0) :
    Calls Tryz.prog 71 #[.pointer (some ⟨g, 0, none⟩)] w fun e w' => e = .returned (.bool (Tk.qcalled out to p)) ∧ ∃ n, w' = w.drewN n := by
  obtain ⟨c0, c1, c2, c3, c4, c5⟩ := hS.cells
  have hgl := hS.lt
  rcases List.eq_nil_or_concat out with hn | ⟨init, x, hx⟩
  · subst hn
    have hv : ∃ A cap, v = .slice A 0 cap := by
      rcases hS.own.2 with ⟨h, _⟩ | ⟨q, cap, _, h, _⟩
      · exact ⟨_, _, h⟩
      · exact ⟨_, _, h⟩
    obtain ⟨A, cap, rfl⟩ := hv
    go_enter Tryz.func71, Tryz.ntmps71
    go_wp2_with fail
    go_ret
    exact ⟨rfl, 0, rfl⟩
  · rw [List.concat_eq_append] at hx
    have hlen : out.length = init.length + 1 := by rw [hx]; simp
    have hown := hS.own
    unfold ROwn at hown
    rw [hlen] at hown
    obtain ⟨q, cap, rfl⟩ := own_form1 hown
    have hget : out[init.length]? = some x := by rw [hx]; simp
    have hcell := World.ownsRow.cells (g := q) hown rfl _ _ (flat_at out init.length x hget)
    have hadd : (⟨q, 0, none⟩ : Addr).add (init.length * 3) = ⟨q, init.length * 3, none⟩ := by unfold Addr.add; split <;> simp_all
    rw [hadd] at hcell
    have hqc : Tk.qcalled out to p = ((x.1 == 1 || x.1 == 2) && decide (to = p)) := by unfold Tk.qcalled; rw [hx]; simp
    have hil : init.length ≤ 65536 := by omega
    obtain ⟨m, hm⟩ : ∃ m, init.length = m := ⟨_, rfl⟩
    rw [hm] at c2 hcell hil hlen
    have HQC := Lib.hid hqc; clear hqc
    clear hS hown hget hadd hx hm hout hlen
    have hm1 : (0 : Int) ≤ (m : Int) := by omega
    obtain ⟨k, hk⟩ : ∃ k, x.1 = k := ⟨_, rfl⟩
    rw [hk] at hcell HQC
    clear hk
    cases h1 : (k == 1)
    · have h1' : (k != 1) = true := by rw [bne, h1]; rfl
      cases h2 : (k == 2)
      · have h2' : (k != 2) = true := by rw [bne, h2]; rfl
        go_enter Tryz.func71, Tryz.ntmps71
        go_wp2_with fail
        go_ret
        exact ⟨ret_bool (by rw [HQC.out, h1, h2]; rfl), 0, rfl⟩
      · have h2' : (k != 2) = false := by rw [bne, h2]; rfl
        go_enter Tryz.func71, Tryz.ntmps71
        go_wp2_with fail
        go_quiet (fail)
        go_wp2_with fail
        go_ret
        exact ⟨ret_bool (by rw [HQC.out, h1, h2, cast_dec]; rfl), _, rfl⟩
    · have h1' : (k != 1) = false := by rw [bne, h1]; rfl
      go_enter Tryz.func71, Tryz.ntmps71
      go_wp2_with fail
      go_quiet (fail)
      go_wp2_with fail
      go_ret
      exact ⟨ret_bool (by rw [HQC.out, h1, cast_dec]; rfl), _, rfl⟩
theorem starts_bt (P : Int → Bool) (h0 : P 0 = false) (l : List UInt8) (i : Nat) : Tk.startsAt P l i = P (Tk.bt l i) := by
  by_cases h : i < l.length
  · rw [Tk.starts_yes h]
  · rw [Tk.starts_no h, Tk.bt_end (by omega), h0]

set_option maxRecDepth 100000 in
set_option maxHeartbeats 4000000 in
theorem rnext_byte (g : Nat) (s : ByteArray) (p : Nat) (v : Value) (out : List Tk.T) (to : Nat) (w0 w : World) (hs : s.size ≤ 65536) (hp : p < s.size) (hout : out.length ≤ 65536) (hS : RIn w0 w g s p v out to 0 0) (hin : Tk.inText (Tk.bt s.data.toList p) = false) :
    Calls Tryz.prog 19 #[.pointer (some ⟨g, 0, none⟩)] w (QPost w0 g s p out to (.bad p 2)) := by
  have HZ := Lib.hid (size_data s)
  obtain ⟨c0, c1, c2, c3, c4, c5⟩ := hS.cells
  have hgl := hS.lt
  have hp1 : (0 : Int) ≤ (p : Int) := by omega
  have hp2 : (p : Int) < (s.size : Int) := by omega
  have hp3 : (p : Int) + 1 ≤ (s.size : Int) := by omega
  have HB := Lib.hid (Tk.bt_of s p hp)
  have HIN := Lib.hid hin; clear hin
  go_enter Tryz.func19, Tryz.ntmps19
  go_wp2_with fail
  go_quiet (fail)
  rw [HB.out]
  have hSd := hS.drewN nq
  obtain ⟨d0, d1, d2, d3, d4, d5⟩ := hSd.cells
  have k1 := hSd.frozen 1
  have hgl2 := hSd.lt
  generalize w.drewN nq = w2 at *
  clear c0 c1 c2 c3 c4 c5
  go_wp2_with (first | (go_at_call 58; refine (rByte_any _ _).mono ?_; rintro e w' ⟨rfl, rfl⟩; rw [HIN.out]))
  refine (rfail_any g s p v out to 0 2 p w0 _ hSd).mono ?_
  rintro e w5 ⟨⟨r, rfl⟩, hR2, hGr⟩
  go_wp2_with fail
  first | exact bodyPost_end (v := .tuple #[]) (by simp [results, Tryz.results19, go_sem]) rfl ⟨_, _, _, ⟨_, rfl⟩, _, hR2⟩ | exact bodyPost_ret (v := .tuple #[]) (by simp [results, Tryz.results19, go_sem]) rfl ⟨_, _, _, ⟨_, rfl⟩, _, hR2⟩

set_option maxRecDepth 100000 in
set_option maxHeartbeats 4000000 in
theorem rnext_blank (g : Nat) (s : ByteArray) (p : Nat) (v : Value) (out : List Tk.T) (to : Nat) (w0 w : World) (hs : s.size ≤ 65536) (hp : p < s.size) (hout : out.length ≤ 65536) (hS : RIn w0 w g s p v out to 0 0) (hin : Tk.inText (Tk.bt s.data.toList p) = true) (hbl : Tk.blank (Tk.bt s.data.toList p) = true) :
    Calls Tryz.prog 19 #[.pointer (some ⟨g, 0, none⟩)] w (QPost w0 g s p out to (.move (p + 1))) := by
  have HZ := Lib.hid (size_data s)
  obtain ⟨c0, c1, c2, c3, c4, c5⟩ := hS.cells
  have hgl := hS.lt
  have hp1 : (0 : Int) ≤ (p : Int) := by omega
  have hp2 : (p : Int) < (s.size : Int) := by omega
  have hp3 : (p : Int) + 1 ≤ (s.size : Int) := by omega
  have HB := Lib.hid (Tk.bt_of s p hp)
  have HIN := Lib.hid hin; clear hin
  have HBL := Lib.hid hbl; clear hbl
  go_enter Tryz.func19, Tryz.ntmps19
  go_wp2_with fail
  go_quiet (fail)
  rw [HB.out]
  have hSd := hS.drewN nq
  obtain ⟨d0, d1, d2, d3, d4, d5⟩ := hSd.cells
  have k1 := hSd.frozen 1
  have hgl2 := hSd.lt
  generalize w.drewN nq = w2 at *
  clear c0 c1 c2 c3 c4 c5
  go_wp2_with (first | (go_at_call 58; refine (rByte_any _ _).mono ?_; rintro e w' ⟨rfl, rfl⟩; rw [HIN.out]) | (go_at_call 60; refine (rblank_any _ _).mono ?_; rintro e w' ⟨rfl, rfl⟩; rw [HBL.out]))
  first | exact bodyPost_end (v := .tuple #[]) (by simp [results, Tryz.results19, go_sem]) rfl ⟨⟨_, rfl⟩, _, hSd.setAt (by omega)⟩ | exact bodyPost_ret (v := .tuple #[]) (by simp [results, Tryz.results19, go_sem]) rfl ⟨⟨_, rfl⟩, _, hSd.setAt (by omega)⟩

set_option maxRecDepth 100000 in
set_option maxHeartbeats 4000000 in
theorem rnext_line (g : Nat) (s : ByteArray) (p : Nat) (v : Value) (out : List Tk.T) (to : Nat) (w0 w : World) (hs : s.size ≤ 65536) (hp : p < s.size) (hout : out.length ≤ 65536) (hS : RIn w0 w g s p v out to 0 0) (hin : Tk.inText (Tk.bt s.data.toList p) = true) (hbl : Tk.blank (Tk.bt s.data.toList p) = false) (h37 : Tk.bt s.data.toList p = 37) :
    Calls Tryz.prog 19 #[.pointer (some ⟨g, 0, none⟩)] w (QPost w0 g s p out to (Tk.qline s.data.toList p)) := by
  have HZ := Lib.hid (size_data s)
  obtain ⟨c0, c1, c2, c3, c4, c5⟩ := hS.cells
  have hgl := hS.lt
  have hp1 : (0 : Int) ≤ (p : Int) := by omega
  have hp2 : (p : Int) < (s.size : Int) := by omega
  have hp3 : (p : Int) + 1 ≤ (s.size : Int) := by omega
  have HB := Lib.hid (Tk.bt_of s p hp)
  have HIN := Lib.hid hin; clear hin
  have HBL := Lib.hid hbl; clear hbl
  have e37 : (Tk.bt s.data.toList p == 37) = true := by rw [h37]; rfl
  have H37 := Lib.hid h37; clear h37
  go_enter Tryz.func19, Tryz.ntmps19
  go_wp2_with fail
  go_quiet (fail)
  rw [HB.out]
  have hSd := hS.drewN nq
  obtain ⟨d0, d1, d2, d3, d4, d5⟩ := hSd.cells
  have k1 := hSd.frozen 1
  have hgl2 := hSd.lt
  generalize w.drewN nq = w2 at *
  clear c0 c1 c2 c3 c4 c5
  go_wp2_with (first | (go_at_call 58; refine (rByte_any _ _).mono ?_; rintro e w' ⟨rfl, rfl⟩; rw [HIN.out]) | (go_at_call 60; refine (rblank_any _ _).mono ?_; rintro e w' ⟨rfl, rfl⟩; rw [HBL.out]))
  refine (rline_any g s p v out to w0 _ hs hp H37.out hSd).mono ?_
  intro e w5 hP
  obtain ⟨r, rfl⟩ := hP.ret
  go_wp2_with fail
  first | exact bodyPost_end (v := .tuple #[]) (by simp [results, Tryz.results19, go_sem]) rfl (hP.again _) | exact bodyPost_ret (v := .tuple #[]) (by simp [results, Tryz.results19, go_sem]) rfl (hP.again _)

set_option maxRecDepth 100000 in
set_option maxHeartbeats 4000000 in
theorem rnext_block (g : Nat) (s : ByteArray) (p : Nat) (v : Value) (out : List Tk.T) (to : Nat) (w0 w : World) (hs : s.size ≤ 65536) (hp : p < s.size) (hout : out.length ≤ 65536) (hS : RIn w0 w g s p v out to 0 0) (hin : Tk.inText (Tk.bt s.data.toList p) = true) (hbl : Tk.blank (Tk.bt s.data.toList p) = false) (h47 : Tk.bt s.data.toList p = 47) (h42 : Tk.bt s.data.toList (p + 1) = 42) :
    Calls Tryz.prog 19 #[.pointer (some ⟨g, 0, none⟩)] w (QPost w0 g s p out to (Tk.qcom s.data.toList p (s.size + 1) (p + 1))) := by
  have HZ := Lib.hid (size_data s)
  obtain ⟨c0, c1, c2, c3, c4, c5⟩ := hS.cells
  have hgl := hS.lt
  have hp1 : (0 : Int) ≤ (p : Int) := by omega
  have hp2 : (p : Int) < (s.size : Int) := by omega
  have hp3 : (p : Int) + 1 ≤ (s.size : Int) := by omega
  have HB := Lib.hid (Tk.bt_of s p hp)
  have HIN := Lib.hid hin; clear hin
  have HBL := Lib.hid hbl; clear hbl
  have H42 := Lib.hid h42; clear h42
  have e37 : (Tk.bt s.data.toList p == 37) = false := by rw [h47]; rfl
  have e47 : (Tk.bt s.data.toList p == 47) = true := by rw [h47]; rfl
  have H47 := Lib.hid h47; clear h47
  go_enter Tryz.func19, Tryz.ntmps19
  go_wp2_with fail
  go_quiet (fail)
  rw [HB.out]
  have hSd := hS.drewN nq
  obtain ⟨d0, d1, d2, d3, d4, d5⟩ := hSd.cells
  have k1 := hSd.frozen 1
  have hgl2 := hSd.lt
  generalize w.drewN nq = w2 at *
  clear c0 c1 c2 c3 c4 c5
  go_wp2_with (first | (go_at_call 58; refine (rByte_any _ _).mono ?_; rintro e w' ⟨rfl, rfl⟩; rw [HIN.out]) | (go_at_call 60; refine (rblank_any _ _).mono ?_; rintro e w' ⟨rfl, rfl⟩; rw [HBL.out]) | (go_at_call 61; refine (rat_any s g (p + 1) _ (by omega) (by omega) d0).mono ?_; rintro e w' ⟨rfl, rfl⟩; rw [H42.out]))
  refine (rblock_any g s p v out to w0 _ hs hp H47.out hSd).mono ?_
  intro e w5 hP
  obtain ⟨r, rfl⟩ := hP.ret
  go_wp2_with fail
  first | exact bodyPost_end (v := .tuple #[]) (by simp [results, Tryz.results19, go_sem]) rfl (hP.again _) | exact bodyPost_ret (v := .tuple #[]) (by simp [results, Tryz.results19, go_sem]) rfl (hP.again _)

set_option maxRecDepth 100000 in
set_option maxHeartbeats 4000000 in
theorem rnext_small (g : Nat) (s : ByteArray) (p : Nat) (v : Value) (out : List Tk.T) (to : Nat) (w0 w : World) (hs : s.size ≤ 65536) (hp : p < s.size) (hout : out.length ≤ 65536) (hS : RIn w0 w g s p v out to 0 0) (hin : Tk.inText (Tk.bt s.data.toList p) = true) (hbl : Tk.blank (Tk.bt s.data.toList p) = false) (e37 : (Tk.bt s.data.toList p == 37) = false) (e47 : (Tk.bt s.data.toList p == 47) = false) (hsm : Tk.small (Tk.bt s.data.toList p) = true) :
    Calls Tryz.prog 19 #[.pointer (some ⟨g, 0, none⟩)] w (QPost w0 g s p out to (Tk.qadd 1 (Tk.sub s.data.toList p (Tk.dottedEnd s.data.toList p)) (Tk.dottedEnd s.data.toList p) p)) := by
  have HZ := Lib.hid (size_data s)
  obtain ⟨c0, c1, c2, c3, c4, c5⟩ := hS.cells
  have hgl := hS.lt
  have hp1 : (0 : Int) ≤ (p : Int) := by omega
  have hp2 : (p : Int) < (s.size : Int) := by omega
  have hp3 : (p : Int) + 1 ≤ (s.size : Int) := by omega
  have HB := Lib.hid (Tk.bt_of s p hp)
  have HIN := Lib.hid hin; clear hin
  have HBL := Lib.hid hbl; clear hbl
  have HSM := Lib.hid hsm; clear hsm
  go_enter Tryz.func19, Tryz.ntmps19
  go_wp2_with fail
  go_quiet (fail)
  rw [HB.out]
  have hSd := hS.drewN nq
  obtain ⟨d0, d1, d2, d3, d4, d5⟩ := hSd.cells
  have k1 := hSd.frozen 1
  have hgl2 := hSd.lt
  generalize w.drewN nq = w2 at *
  clear c0 c1 c2 c3 c4 c5
  go_wp2_with (first | (go_at_call 58; refine (rByte_any _ _).mono ?_; rintro e w' ⟨rfl, rfl⟩; rw [HIN.out]) | (go_at_call 60; refine (rblank_any _ _).mono ?_; rintro e w' ⟨rfl, rfl⟩; rw [HBL.out]) | (go_at_call 63; refine (rsmall_any _ _).mono ?_; rintro e w' ⟨rfl, rfl⟩; rw [HSM.out]))
  refine (rname_tok g s p v out to w0 _ hs hp hout hSd).mono ?_
  intro e w5 hP
  obtain ⟨r, rfl⟩ := hP.ret
  go_wp2_with fail
  first | exact bodyPost_end (v := .tuple #[]) (by simp [results, Tryz.results19, go_sem]) rfl (hP.again _) | exact bodyPost_ret (v := .tuple #[]) (by simp [results, Tryz.results19, go_sem]) rfl (hP.again _)
end Go.Proofs.YtnkmefnbhfghgaaGreatDoor
