import Derived.Test.YtnkmefnbhfghgaaGreatDoorS4
import Derived.Test.YtnkmefnbhfghgaaGreatDoorA31
set_option linter.unusedSimpArgs false
set_option linter.unusedVariables false
namespace Go.Proofs.YtnkmefnbhfghgaaGreatDoor
open Go.RowKit

/-! What is skipped at an index hangs on what stands from there on alone. -/
theorem com_fuel (l : List UInt8) (b : Nat) : ∀ (f g k : Nat), l.length - k < f → l.length - k < g → Tk.com f l b k = Tk.com g l b k
  | 0, g, k, hf, hg => by omega
  | f + 1, 0, k, hf, hg => by omega
  | f + 1, g + 1, k, hf, hg => by
    rw [Tk.com, Tk.com]
    by_cases hk : k < l.length
    · rw [if_pos hk, if_pos hk, com_fuel l b f g (k + 1) (by omega) (by omega)]
    · rw [if_neg hk, if_neg hk]
theorem com_drop (l : List UInt8) (a b : Nat) : ∀ (f k : Nat), (Tk.com f l (a + b) (a + k)).1 = a + (Tk.com f (l.drop a) b k).1 ∧ (Tk.com f l (a + b) (a + k)).2.2 = (Tk.com f (l.drop a) b k).2.2
  | 0, k => ⟨rfl, rfl⟩
  | f + 1, k => by
    have ih := com_drop l a b f (k + 1)
    rw [Tk.com, Tk.com, bt_drop, ← List.drop_drop, Nat.add_assoc]
    have h1 : (a + k < l.length) = (k < (l.drop a).length) := propext (by rw [List.length_drop]; omega)
    simp only [h1]
    repeat' split
    all_goals first | exact ih | exact ⟨rfl, rfl⟩
theorem comment_drop (l : List UInt8) (a k : Nat) : (Tk.comment l (a + k)).1 = a + (Tk.comment (l.drop a) k).1 ∧ (Tk.comment l (a + k)).2.2 = (Tk.comment (l.drop a) k).2.2 := by
  unfold Tk.comment
  have h := com_drop l a k (l.length + 1) (k + 2)
  rw [← Nat.add_assoc] at h
  rw [com_fuel (l.drop a) k ((l.drop a).length + 1) (l.length + 1) (k + 2) (by simp; omega) (by simp; omega)]
  exact h
theorem lineFault_code (l : List UInt8) (a k : Nat) : (Tk.lineFault l (a + k)).2 = (Tk.lineFault (l.drop a) k).2 := by
  unfold Tk.lineFault Tk.lineEnd
  dsimp only
  rw [run_drop, bt_drop]
  have h1 : (a + Tk.run Tk.inLine (l.drop a) k < l.length) = (Tk.run Tk.inLine (l.drop a) k < (l.drop a).length) := propext (by rw [List.length_drop]; omega)
  simp only [h1]
  split <;> rfl
theorem skip_fuel (l : List UInt8) : ∀ (f g k : Nat), k ≤ l.length → l.length - k < f → l.length - k < g → Tk.skip f l k = Tk.skip g l k
  | 0, g, k, _, hf, hg => by omega
  | f + 1, 0, k, _, hf, hg => by omega
  | f + 1, g + 1, k, hk, hf, hg => by
    rw [Tk.skip, Tk.skip]
    by_cases hlt : k < l.length
    · rw [if_pos hlt, if_pos hlt, skip_fuel l f g (k + 1) (by omega) (by omega) (by omega)]
      by_cases h37 : Tk.bt l k = 37
      · have h1 := Tk.lineEnd_gt hlt h37
        have h2 := Tk.lineEnd_le (l := l) (k := k) (by omega)
        rw [skip_fuel l f g (Tk.lineEnd l k) h2 (by omega) (by omega), if_pos h37, if_pos h37]
      · rw [if_neg h37, if_neg h37]
        by_cases hc : (Tk.comment l k).2.2 = 0
        · have h1 := Tk.comment_gt hc
          by_cases hp : Lib.hasPrefix (l.drop k) [47, 42] = true
          · have h2 : (Tk.comment l k).1 ≤ l.length := Tk.com_le _ _ (by have := prefix_len hp; rw [List.length_drop] at this; simp at this; omega)
            rw [skip_fuel l f g (Tk.comment l k).1 h2 (by omega) (by omega)]
          · rw [if_neg hp, if_neg hp]
        · rw [if_neg hc, if_neg hc]
    · rw [if_neg hlt, if_neg hlt]
theorem skip_drop (l : List UInt8) (a : Nat) : ∀ (f k : Nat), (Tk.skip f l (a + k)).1 = a + (Tk.skip f (l.drop a) k).1 ∧ (Tk.skip f l (a + k)).2.2 = (Tk.skip f (l.drop a) k).2.2
  | 0, k => ⟨rfl, rfl⟩
  | f + 1, k => by
    have i1 := skip_drop l a f (k + 1)
    have hle : Tk.lineEnd l (a + k) = a + Tk.lineEnd (l.drop a) k := run_drop _ _ _ _
    have i2 := skip_drop l a f (Tk.lineEnd (l.drop a) k)
    rw [← hle] at i2
    have i3 := skip_drop l a f (Tk.comment (l.drop a) k).1
    have hc := comment_drop l a k
    rw [← hc.1] at i3
    have hlf := lineFault_code l a k
    rw [Tk.skip, Tk.skip, bt_drop, ← List.drop_drop, Nat.add_assoc]
    have h1 : (a + k < l.length) = (k < (l.drop a).length) := propext (by rw [List.length_drop]; omega)
    simp only [h1, hlf, hc.2]
    repeat' split
    all_goals first | exact i1 | exact i2 | exact i3 | exact ⟨rfl, rfl⟩ | exact ⟨hle, hlf⟩ | exact hc
theorem skipped_drop (l : List UInt8) (a : Nat) (ha : a ≤ l.length) : (Tk.skipped l a).1 = a + (Tk.skipped (l.drop a) 0).1 ∧ (Tk.skipped l a).2.2 = (Tk.skipped (l.drop a) 0).2.2 := by
  unfold Tk.skipped
  have h := skip_drop l a (l.length + 1) 0
  rw [Nat.add_zero] at h
  rw [skip_fuel (l.drop a) ((l.drop a).length + 1) (l.length + 1) 0 (by omega) (by omega) (by simp; omega)]
  exact h
end Go.Proofs.YtnkmefnbhfghgaaGreatDoor
