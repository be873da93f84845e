import Derived.Test.YtnkmefnbhfghgaaGreatDoorX13
import Derived.Test.YtnkmefnbhfghgaaGreatDoorX14
import Derived.Test.YtnkmefnbhfghgaaGreatDoorX15
import Derived.Test.YtnkmefnbhfghgaaGreatDoorX16
set_option linter.unusedSimpArgs false
set_option linter.unusedVariables false
namespace Go.Proofs.YtnkmefnbhfghgaaGreatDoor
open Go.RowKit

theorem punct_bt (l : List UInt8) (i : Nat) : Tk.hasB [40, 41, 91, 93, 123, 125, 44, 124] (Tk.bt l i) = Tk.punct (Tk.bt l i) := (Tk.punct_eq (l.getD i 0)).symm
theorem eq_false_of {a b : Int} (h : ¬ a = b) : (a == b) = false := beq_eq_false_iff_ne.2 h
theorem eq_true_of {a b : Int} (h : a = b) : (a == b) = true := beq_iff_eq.2 h
theorem rbang_any (g : Nat) (s : ByteArray) (p : Nat) (v : Value) (out : List Tk.T) (to : Nat) (w0 w : World) (hs : s.size ≤ 65536) (hp : p < s.size) (hout : out.length ≤ 65536) (hS : RIn w0 w g s p v out to 0 0)
    (hin : Tk.inText (Tk.bt s.data.toList p) = true) (hbl : Tk.blank (Tk.bt s.data.toList p) = false) (e37 : (Tk.bt s.data.toList p == 37) = false) (e47 : (Tk.bt s.data.toList p == 47) = false) (hsm : Tk.small (Tk.bt s.data.toList p) = false) (hca : Tk.capital (Tk.bt s.data.toList p) = false) (hdi : Tk.digit (Tk.bt s.data.toList p) = false)
    (e39 : (Tk.bt s.data.toList p == 39) = false) (e34 : (Tk.bt s.data.toList p == 34) = false) (e59 : (Tk.bt s.data.toList p == 59) = false) (e33 : (Tk.bt s.data.toList p == 33) = true) :
    Calls Tryz.prog 19 #[.pointer (some ⟨g, 0, none⟩)] w (QPost w0 g s p out to (Tk.qadd 1 (Tk.sub s.data.toList p (Tk.bangEnd s.data.toList p)) (Tk.bangEnd s.data.toList p) p)) := by
  have hbe : Tk.bangEnd s.data.toList p = if (Tk.bangMark (Tk.bt s.data.toList (p + 1)) && Tk.capital (Tk.bt s.data.toList (p + 2))) = true then p + 2 else p + 1 := by
    unfold Tk.bangEnd
    rw [starts_bt Tk.bangMark (by decide), starts_bt Tk.capital (by decide)]
  by_cases h46 : Tk.bt s.data.toList (p + 1) = 46
  · cases hy : Tk.capital (Tk.bt s.data.toList (p + 2))
    · rw [hbe, hy, Bool.and_false, if_neg (by decide)]
      exact rnext_bang_an g s p v out to w0 w hs hp hout hS hin hbl e37 e47 hsm hca hdi e39 e34 e59 e33 h46 hy
    · rw [hbe, hy, h46, if_pos (by decide)]
      exact rnext_bang_ay g s p v out to w0 w hs hp hout hS hin hbl e37 e47 hsm hca hdi e39 e34 e59 e33 h46 hy
  · by_cases h58 : Tk.bt s.data.toList (p + 1) = 58
    · cases hy : Tk.capital (Tk.bt s.data.toList (p + 2))
      · rw [hbe, hy, Bool.and_false, if_neg (by decide)]
        exact rnext_bang_bn g s p v out to w0 w hs hp hout hS hin hbl e37 e47 hsm hca hdi e39 e34 e59 e33 h58 hy
      · rw [hbe, hy, h58, if_pos (by decide)]
        exact rnext_bang_by g s p v out to w0 w hs hp hout hS hin hbl e37 e47 hsm hca hdi e39 e34 e59 e33 h58 hy
    · have hbm : Tk.bangMark (Tk.bt s.data.toList (p + 1)) = false := by unfold Tk.bangMark; rw [eq_false_of h46, eq_false_of h58]; rfl
      rw [hbe, hbm, Bool.false_and, if_neg (by decide)]
      exact rnext_bang_c g s p v out to w0 w hs hp hout hS hin hbl e37 e47 hsm hca hdi e39 e34 e59 e33 (eq_false_of h46) (eq_false_of h58)

set_option maxRecDepth 100000 in
theorem rnext_any (g : Nat) (s : ByteArray) (p : Nat) (v : Value) (out : List Tk.T) (to : Nat) (w0 w : World) (hs : s.size ≤ 65536) (hp : p < s.size) (hout : out.length ≤ 65536) (hS : RIn w0 w g s p v out to 0 0) :
    Calls Tryz.prog 19 #[.pointer (some ⟨g, 0, none⟩)] w (QPost w0 g s p out to (Tk.qnext s.data.toList p (Tk.qcalled out to p))) := by
  have hz := size_data s
  have k47 := byte_all (fun n => !(n == 47) || (!(Tk.small n) && !(Tk.capital n) && !(Tk.digit n) && Tk.sign n)) (by decide +kernel) (s.data.toList.getD p 0)
  rw [show (((s.data.toList.getD p 0).toNat : Nat) : Int) = Tk.bt s.data.toList p from rfl] at k47
  unfold Tk.qnext
  cases hin : Tk.inText (Tk.bt s.data.toList p)
  · rw [if_neg (c := false = true) (by decide)]
    exact rnext_byte g s p v out to w0 w hs hp hout hS hin
  rw [if_pos (c := true = true) rfl]
  cases hbl : Tk.blank (Tk.bt s.data.toList p)
  case true =>
    rw [if_pos (c := true = true) rfl]
    exact rnext_blank g s p v out to w0 w hs hp hout hS hin hbl
  rw [if_neg (c := false = true) (by decide)]
  by_cases h37 : Tk.bt s.data.toList p = 37
  · rw [if_pos h37]
    exact rnext_line g s p v out to w0 w hs hp hout hS hin hbl h37
  rw [if_neg h37]
  have e37 := eq_false_of h37
  by_cases h4742 : Tk.bt s.data.toList p = 47 ∧ Tk.bt s.data.toList (p + 1) = 42
  · rw [if_pos h4742, hz]
    exact rnext_block g s p v out to w0 w hs hp hout hS hin hbl h4742.1 h4742.2
  rw [if_neg h4742]
  cases hsm : Tk.small (Tk.bt s.data.toList p)
  case true =>
    have e47 : (Tk.bt s.data.toList p == 47) = false := by
      rw [hsm] at k47; cases h : (Tk.bt s.data.toList p == 47)
      · rfl
      · rw [h] at k47; simp at k47
    rw [if_pos (c := true = true) rfl]
    exact rnext_small g s p v out to w0 w hs hp hout hS hin hbl e37 e47 hsm
  rw [if_neg (c := false = true) (by decide)]
  cases hca : Tk.capital (Tk.bt s.data.toList p)
  case true =>
    have e47 : (Tk.bt s.data.toList p == 47) = false := by
      rw [hsm, hca] at k47; cases h : (Tk.bt s.data.toList p == 47)
      · rfl
      · rw [h] at k47; simp at k47
    rw [if_pos (c := true = true) rfl]
    exact rnext_capital g s p v out to w0 w hs hp hout hS hin hbl e37 e47 hsm hca
  rw [if_neg (c := false = true) (by decide)]
  cases hdi : Tk.digit (Tk.bt s.data.toList p)
  case true =>
    have e47 : (Tk.bt s.data.toList p == 47) = false := by
      rw [hsm, hca, hdi] at k47; cases h : (Tk.bt s.data.toList p == 47)
      · rfl
      · rw [h] at k47; simp at k47
    rw [if_pos (c := true = true) rfl]
    exact rnext_digit g s p v out to w0 w hs hp hout hS hin hbl e37 e47 hsm hca hdi
  rw [if_neg (c := false = true) (by decide)]
  by_cases h39 : Tk.bt s.data.toList p = 39
  · rw [if_pos (.inl h39)]
    exact rnext_q39 g s p v out to w0 w hs hp hout hS hin hbl e37 (eq_false_of (by omega)) hsm hca hdi h39
  by_cases h34 : Tk.bt s.data.toList p = 34
  · rw [if_pos (.inr h34)]
    exact rnext_q34 g s p v out to w0 w hs hp hout hS hin hbl e37 (eq_false_of (by omega)) hsm hca hdi h34
  rw [if_neg (c := Tk.bt s.data.toList p = 39 ∨ Tk.bt s.data.toList p = 34) (by omega)]
  have e39 := eq_false_of h39
  have e34 := eq_false_of h34
  by_cases h59 : Tk.bt s.data.toList p = 59
  · rw [if_pos h59]
    exact rnext_semi g s p v out to w0 w hs hp hout hS hin hbl e37 (eq_false_of (by omega)) hsm hca hdi e39 e34 (eq_true_of h59)
  rw [if_neg h59]
  have e59 := eq_false_of h59
  by_cases h33 : Tk.bt s.data.toList p = 33
  · rw [if_pos h33]
    exact rbang_any g s p v out to w0 w hs hp hout hS hin hbl e37 (eq_false_of (by omega)) hsm hca hdi e39 e34 e59 (eq_true_of h33)
  rw [if_neg h33]
  have e33 := eq_false_of h33
  cases hsg : Tk.sign (Tk.bt s.data.toList p)
  case true =>
    rw [if_pos (c := true = true) rfl]
    by_cases h47 : Tk.bt s.data.toList p = 47
    · exact rnext_slash g s p v out to w0 w hs hp hout hS hin hbl e37 hsm hca hdi e39 e34 e59 e33 (eq_true_of h47) (eq_false_of fun h => h4742 ⟨h47, h⟩) hsg
    · exact rnext_sign g s p v out to w0 w hs hp hout hS hin hbl e37 (eq_false_of h47) hsm hca hdi e39 e34 e59 e33 hsg
  rw [if_neg (c := false = true) (by decide)]
  have e47 : (Tk.bt s.data.toList p == 47) = false := by
    rw [hsm, hca, hdi, hsg] at k47; cases h : (Tk.bt s.data.toList p == 47)
    · rfl
    · rw [h] at k47; exact absurd k47 (by decide)
  by_cases h40 : Tk.bt s.data.toList p = 40
  · cases hcl : Tk.qcalled out to p
    · rw [if_neg (c := Tk.bt s.data.toList p = 40 ∧ false = true) (fun h => absurd h.2 (by decide))]
      have hpu : Tk.punct (Tk.bt s.data.toList p) = true := by rw [h40]; decide
      rw [hpu, if_pos (c := true = true) rfl]
      exact rnext_open g s p v out to w0 w hs hp hout hS hin hbl e37 e47 hsm hca hdi e39 e34 e59 e33 hsg (eq_true_of h40) hcl (by rw [punct_bt]; exact hpu)
    · rw [if_pos ⟨h40, rfl⟩]
      exact rnext_args g s p v out to w0 w hs hp hout hS hin hbl e37 e47 hsm hca hdi e39 e34 e59 e33 hsg (eq_true_of h40) hcl
  rw [if_neg (c := Tk.bt s.data.toList p = 40 ∧ _) (fun h => h40 h.1)]
  have e40 := eq_false_of h40
  cases hpu : Tk.punct (Tk.bt s.data.toList p)
  · rw [if_neg (c := false = true) (by decide)]
    exact rnext_none g s p v out to w0 w hs hp hout hS hin hbl e37 e47 hsm hca hdi e39 e34 e59 e33 hsg e40 (by rw [punct_bt]; exact hpu)
  · rw [if_pos (c := true = true) rfl]
    exact rnext_punct g s p v out to w0 w hs hp hout hS hin hbl e37 e47 hsm hca hdi e39 e34 e59 e33 hsg e40 (by rw [punct_bt]; exact hpu)
end Go.Proofs.YtnkmefnbhfghgaaGreatDoor
