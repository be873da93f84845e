import Derived.Test.YtaefonagbcnmdaaGreatDoorA11
set_option linter.unusedSimpArgs false
set_option linter.unusedVariables false
namespace Go.Proofs.YtaefonagbcnmdaaGreatDoor
open Go.RowKit

/-- The zero token. -/
def Tk.tok0 : Value := .agg #[.int .i64 0, .string ⟨#[]⟩, .int .i64 0]
set_option maxRecDepth 100000 in
theorem faultAt_any (a c : Int) (w : World) :
    Calls Tryz.prog 94 #[.int .i64 a, .int .i64 c] w fun e w' => e = .returned (.tuple #[.agg #[.int .i64 0, .string ⟨#[]⟩, .int .i64 0], .agg #[.int .i64 a, .int .i64 c]]) ∧ Below w.heap.size w w' := by
  go_enter Tryz.func94, Tryz.ntmps94
  go_wp2
  refine bodyPost_ret (v := .tuple #[.agg #[.int .i64 0, .string ⟨#[]⟩, .int .i64 0], .agg #[.int .i64 a, .int .i64 c]]) (by simp [results, Tryz.results94, go_sem]) rfl ⟨rfl, ?_⟩
  exact ((Below.refl _ _).alloc (Nat.le_refl _) _).alloc (by simp) _

def Tk.bangEnd (l : List UInt8) (a : Nat) : Nat := if Tk.startsAt Tk.bangMark l (a + 1) && Tk.startsAt Tk.capital l (a + 2) then a + 2 else a + 1
theorem Tk.bangEnd_le {l : List UInt8} {a : Nat} (h : a < l.length) : Tk.bangEnd l a ≤ l.length := by
  unfold Tk.bangEnd
  split
  · rename_i h1
    simp only [Bool.and_eq_true, Tk.startsAt, decide_eq_true_eq] at h1
    omega
  · omega
theorem Tk.bangEnd_ge (l : List UInt8) (a : Nat) : a + 1 ≤ Tk.bangEnd l a := by unfold Tk.bangEnd; split <;> omega
set_option maxRecDepth 100000 in
set_option maxHeartbeats 1000000 in
theorem bangEnd_any (s : ByteArray) (g a en : Nat) (b : Bool) (w : World) (hs : s.size ≤ 65536) (ha : a ≤ s.size) (hS : Scan w g s a en b) :
    Calls Tryz.prog 89 #[.pointer (some ⟨g, 0, none⟩)] w fun e w' => e = .returned (.int .i64 (Tk.bangEnd s.data.toList a)) ∧ ∃ n, w' = w.drewN n := by
  have hc0 := hS.cell 0
  have hc1 := hS.cell 1
  simp at hc0 hc1
  have HM : Hid (s.size ≤ maxLen) := by unfold Hid maxLen; omega
  cases h1 : Tk.startsAt Tk.bangMark s.data.toList (a + 1)
  · have H1 := Lib.hid h1; clear h1
    go_enter Tryz.func89, Tryz.ntmps89
    go_wp2_with fail
    refine (starts_bangMark s (a + 1) _ HM.out (by unfold maxLen; omega)).mono ?_; rintro e w' ⟨rfl, rfl⟩
    rw [H1.out]
    go_wp2_with fail
    go_ret
    exact ⟨ret_int (by simp [Tk.bangEnd, H1.out]), 0, rfl⟩
  · have H1 := Lib.hid h1; clear h1
    cases h2 : Tk.startsAt Tk.capital s.data.toList (a + 2)
    all_goals
      have H2 := Lib.hid h2; clear h2
      go_enter Tryz.func89, Tryz.ntmps89
      go_wp2_with fail
      refine (starts_bangMark s (a + 1) _ HM.out (by unfold maxLen; omega)).mono ?_; rintro e w' ⟨rfl, rfl⟩
      rw [H1.out]
      go_wp2_with fail
      refine (starts_capital s (a + 2) _ HM.out (by unfold maxLen; omega)).mono ?_; rintro e w' ⟨rfl, rfl⟩
      rw [H2.out]
      go_wp2_with fail
      go_ret
      exact ⟨ret_int (by simp [Tk.bangEnd, H1.out, H2.out]; try omega), 0, rfl⟩
end Go.Proofs.YtaefonagbcnmdaaGreatDoor
