import Derived.Test.YtnmadpkdmgeiaaaDoorA3
namespace Go.Proofs.YtnmadpkdmgeiaaaDoor
open Go.RowKit

def Tk.dots : Nat → List UInt8 → Nat → Nat
  | 0, _, e => e
  | f + 1, l, e => if Tk.startsAt Tk.point l e && Tk.startsAt Tk.small l (e + 1) then Tk.dots f l (Tk.run Tk.inWord l (e + 1)) else e
def Tk.dottedEnd (l : List UInt8) (i : Nat) : Nat := Tk.dots l.length l (Tk.run Tk.inWord l i)
theorem Tk.dots_yes {f : Nat} {l : List UInt8} {e : Nat} (hf : l.length - e ≤ f) (h1 : Tk.startsAt Tk.point l e = true) (h2 : Tk.startsAt Tk.small l (e + 1) = true) :
    ∃ g, f = g + 1 ∧ e + 1 < l.length ∧ Tk.dots f l e = Tk.dots g l (Tk.run Tk.inWord l (e + 1)) ∧ l.length - Tk.run Tk.inWord l (e + 1) ≤ g := by
  have h3 := h2
  unfold Tk.startsAt at h3
  simp only [Bool.and_eq_true, decide_eq_true_eq] at h3
  have hge := Tk.run_ge Tk.inWord l (e + 1)
  cases f with
  | zero => omega
  | succ g => exact ⟨g, rfl, h3.1, by rw [Tk.dots, h1, h2]; rfl, by omega⟩
theorem Tk.dots_no1 {f : Nat} {l : List UInt8} {e : Nat} (h1 : Tk.startsAt Tk.point l e = false) : Tk.dots f l e = e := by
  cases f with
  | zero => rfl
  | succ g => rw [Tk.dots, h1]; rfl
theorem Tk.dots_no2 {f : Nat} {l : List UInt8} {e : Nat} (h1 : Tk.startsAt Tk.small l (e + 1) = false) : Tk.dots f l e = e := by
  cases f with
  | zero => rfl
  | succ g => rw [Tk.dots, h1, Bool.and_false]; rfl
theorem Tk.dots_le {f : Nat} {l : List UInt8} {e : Nat} (h : e ≤ l.length) : Tk.dots f l e ≤ l.length := by
  induction f generalizing e with
  | zero => exact h
  | succ g ih =>
    rw [Tk.dots]
    split
    · rename_i hc
      simp only [Bool.and_eq_true, Tk.startsAt, decide_eq_true_eq] at hc
      exact ih (Tk.run_le (by omega))
    · exact h
theorem Tk.dots_ge (f : Nat) (l : List UInt8) (e : Nat) : e ≤ Tk.dots f l e := by
  induction f generalizing e with
  | zero => exact Nat.le_refl _
  | succ g ih =>
    rw [Tk.dots]
    split
    · have := ih (Tk.run Tk.inWord l (e + 1)); have := Tk.run_ge Tk.inWord l (e + 1); omega
    · exact Nat.le_refl _
theorem Tk.dottedEnd_le {l : List UInt8} {i : Nat} (h : i ≤ l.length) : Tk.dottedEnd l i ≤ l.length := Tk.dots_le (Tk.run_le h)
theorem Tk.dottedEnd_ge (l : List UInt8) (i : Nat) : i ≤ Tk.dottedEnd l i := Nat.le_trans (Tk.run_ge _ _ _) (Tk.dots_ge _ _ _)

set_option maxRecDepth 100000 in
set_option maxHeartbeats 400000 in
theorem dottedEnd_any (s : ByteArray) (i : Nat) (w : World) (hs : s.size ≤ 4611686018427387904) (hi : i ≤ s.size) :
    Calls Tryd.prog 18 #[.string s, .int .i64 i] w fun e w' => e = .returned (.int .i64 (Tk.dottedEnd s.data.toList i)) ∧ w = w' := by
  have hm : s.size ≤ maxLen := by unfold maxLen; omega
  have HM := Lib.hid hm; clear hm
  have HZ := Lib.hid (size_data s)
  have hr0 : Tk.run Tk.inWord s.data.toList i ≤ s.size := by rw [← HZ.out]; exact Tk.run_le (by rw [HZ.out]; exact hi)
  go_enter Tryd.func18, Tryd.ntmps18
  go_wp2_with (go_at_call 20; refine (run_inWord _ _ _ HM.out hi).mono ?_; rintro e w' ⟨rfl, rfl⟩)
  go_loop [5] (fun e' => ∃ k f : Nat, k ≤ s.size ∧ e' = .int .i64 k ∧ s.size - k ≤ f ∧ Hid (Tk.dottedEnd s.data.toList i = Tk.dots f s.data.toList k)) (fun e' => s.size - (intOf e').toNat)
  case atStart => exact ⟨_, s.size, hr0, rfl, by omega, Lib.hid (by rw [← HZ.out]; rfl)⟩
  case round =>
    obtain ⟨k, f, hk, rfl, hf, hr⟩ := hrel
    have HF := Lib.hid hf; clear hf
    cases h1 : Tk.startsAt Tk.point s.data.toList k
    · go_wp2_with fail
      refine (starts_point s k _ HM.out (by unfold maxLen; omega)).mono ?_; rintro e w' ⟨rfl, rfl⟩
      go_wp2_with fail
      go_ret
      exact ⟨ret_int (by rw [hr.out, Tk.dots_no1 h1]), rfl⟩
    cases h2 : Tk.startsAt Tk.small s.data.toList (k + 1)
    · go_wp2_with fail
      refine (starts_point s k _ HM.out (by unfold maxLen; omega)).mono ?_; rintro e w' ⟨rfl, rfl⟩
      go_wp2_with fail
      refine (starts_small s (k + 1) _ HM.out (by unfold maxLen; omega)).mono ?_; rintro e w' ⟨rfl, rfl⟩
      go_wp2_with fail
      go_ret
      exact ⟨ret_int (by rw [hr.out, Tk.dots_no2 h2]), rfl⟩
    obtain ⟨g, hfg, hlt, hd, hg⟩ := Tk.dots_yes (by rw [HZ.out]; exact HF.out) h1 h2
    rw [HZ.out] at hlt hg
    have hle : Tk.run Tk.inWord s.data.toList (k + 1) ≤ s.size := by rw [← HZ.out]; exact Tk.run_le (by rw [HZ.out]; omega)
    have hge := Tk.run_ge Tk.inWord s.data.toList (k + 1)
    have HD := Lib.hid hd; clear hd
    have HG := Lib.hid hfg; clear hfg
    go_wp2_with fail
    refine (starts_point s k _ HM.out (by unfold maxLen; omega)).mono ?_; rintro e w' ⟨rfl, rfl⟩
    go_wp2_with fail
    refine (starts_small s (k + 1) _ HM.out (by unfold maxLen; omega)).mono ?_; rintro e w' ⟨rfl, rfl⟩
    go_wp2_with fail
    refine (run_inWord s (k + 1) _ HM.out (by omega)).mono ?_; rintro e w' ⟨rfl, rfl⟩
    go_wp2_with fail
    go_round
    case rel => exact ⟨_, g, hle, rfl, hg, Lib.hid (by rw [hr.out, HD.out])⟩
    case measure => simp [intOf]; omega

def Tk.dotted (l : List UInt8) : Bool := Tk.startsAt Tk.small l 0 && (Tk.dottedEnd l 0 == l.length)
set_option maxRecDepth 100000 in
set_option maxHeartbeats 400000 in
theorem isDotted_any (s : ByteArray) (w : World) (hs : s.size ≤ 4611686018427387904) :
    Calls Tryd.prog 56 #[.string s] w fun e w' => e = .returned (.bool (Tk.dotted s.data.toList)) ∧ w = w' := by
  have hm : s.size ≤ maxLen := by unfold maxLen; omega
  have HM := Lib.hid hm; clear hm
  have HZ := Lib.hid (size_data s)
  go_enter Tryd.func56, Tryd.ntmps56
  cases h1 : Tk.startsAt Tk.small s.data.toList 0
  · go_wp2_with fail
    refine (starts_small s 0 _ HM.out (Nat.zero_le _)).mono ?_; rintro e w' ⟨rfl, rfl⟩
    go_wp2_with fail
    go_ret
    exact ⟨ret_bool (by simp [Tk.dotted, h1]), rfl⟩
  · go_wp2_with fail
    refine (starts_small s 0 _ HM.out (Nat.zero_le _)).mono ?_; rintro e w' ⟨rfl, rfl⟩
    go_wp2_with fail
    refine (dottedEnd_any s 0 _ hs (Nat.zero_le _)).mono ?_; rintro e w' ⟨rfl, rfl⟩
    go_wp2_with fail
    go_ret
    exact ⟨ret_bool (by simp only [cast_beq, Tk.dotted, h1, HZ.out, Bool.true_and]), rfl⟩
end Go.Proofs.YtnmadpkdmgeiaaaDoor
