import Derived.Test.YtnkmefnbhfghgaaGreatDoorA28
set_option linter.unusedSimpArgs false
set_option linter.unusedVariables false
namespace Go.Proofs.YtnkmefnbhfghgaaGreatDoor
open Go.RowKit

/-! What the reader reads at an index hangs on what stands from there on alone. -/
theorem bt_drop (l : List UInt8) (a i : Nat) : Tk.bt l (a + i) = Tk.bt (l.drop a) i := by
  unfold Tk.bt
  simp [List.getD_eq_getElem?_getD, List.getElem?_drop]
theorem run_drop (p : Int → Bool) (l : List UInt8) (a i : Nat) : Tk.run p l (a + i) = a + Tk.run p (l.drop a) i := by
  unfold Tk.run
  rw [List.drop_drop]; omega
theorem starts_drop (p : Int → Bool) (l : List UInt8) (a i : Nat) : Tk.startsAt p l (a + i) = Tk.startsAt p (l.drop a) i := by
  unfold Tk.startsAt
  rw [bt_drop, List.length_drop, show decide (a + i < l.length) = decide (i < l.length - a) from decide_eq_decide.2 (by omega)]
theorem sub_drop (l : List UInt8) (a i j : Nat) : Tk.sub l (a + i) (a + j) = Tk.sub (l.drop a) i j := by
  unfold Tk.sub
  rw [List.drop_drop, show a + j - (a + i) = j - i by omega]
theorem dots_fuel : ∀ (f g : Nat) (l : List UInt8) (e : Nat), l.length - e ≤ f → l.length - e ≤ g → Tk.dots f l e = Tk.dots g l e
  | f, g, l, e, hf, hg => by
    by_cases h1 : Tk.startsAt Tk.point l e = true
    · by_cases h2 : Tk.startsAt Tk.small l (e + 1) = true
      · obtain ⟨f', rfl, _, e1, g1⟩ := Tk.dots_yes hf h1 h2
        obtain ⟨g', rfl, _, e2, g2⟩ := Tk.dots_yes hg h1 h2
        rw [e1, e2]
        exact dots_fuel f' g' l _ g1 g2
      · rw [Tk.dots_no2 (by simpa using h2), Tk.dots_no2 (by simpa using h2)]
    · rw [Tk.dots_no1 (by simpa using h1), Tk.dots_no1 (by simpa using h1)]
termination_by f => f
theorem dots_drop : ∀ (f : Nat) (l : List UInt8) (a e : Nat), Tk.dots f l (a + e) = a + Tk.dots f (l.drop a) e
  | 0, _, _, _ => rfl
  | f + 1, l, a, e => by
    rw [Tk.dots, Tk.dots, starts_drop, Nat.add_assoc, starts_drop, run_drop]
    split
    · exact dots_drop f l a _
    · rfl
theorem dottedEnd_drop (l : List UInt8) (a : Nat) : Tk.dottedEnd l a = a + Tk.dottedEnd (l.drop a) 0 := by
  unfold Tk.dottedEnd
  have h := run_drop Tk.inWord l a 0
  rw [Nat.add_zero] at h
  rw [h, dots_drop, dots_fuel l.length (l.drop a).length (l.drop a) _ (by simp; omega) (by omega)]
def Tk.R.shift (r : Tk.R) (a : Nat) : Tk.R := match r with
  | .tok k t z => .tok k t (a + z)
  | .fault p c => .fault (a + p) c
theorem readSigns_drop (l : List UInt8) (a : Nat) (ha : a ≤ l.length) : Tk.readSigns l a = (Tk.readSigns (l.drop a) 0).shift a := by
  unfold Tk.readSigns
  have h := run_drop Tk.sign l a 0
  rw [Nat.add_zero] at h
  have h2 := sub_drop l a 0 (Tk.run Tk.sign (l.drop a) 0)
  rw [Nat.add_zero] at h2
  have h3 : (a + Tk.run Tk.sign (l.drop a) 0 = l.length) = (Tk.run Tk.sign (l.drop a) 0 = (l.drop a).length) := propext (by rw [List.length_drop]; omega)
  dsimp only
  rw [h]
  simp only [h2, bt_drop, h3]
  repeat' split
  all_goals rfl
theorem bangEnd_drop (l : List UInt8) (a : Nat) : Tk.bangEnd l a = a + Tk.bangEnd (l.drop a) 0 := by
  unfold Tk.bangEnd
  rw [starts_drop, starts_drop]
  split <;> simp_all
theorem readChar_drop (l : List UInt8) (a : Nat) : Tk.readChar l a = (Tk.readChar (l.drop a) 0).shift a := by
  unfold Tk.readChar
  rw [starts_drop, bt_drop, bt_drop]
  have h3 : (a + 3 < l.length) = (0 + 3 < (l.drop a).length) := propext (by rw [List.length_drop]; omega)
  have h2 : (a + 2 < l.length) = (0 + 2 < (l.drop a).length) := propext (by rw [List.length_drop]; omega)
  simp only [h3, h2]
  simp only [Nat.zero_add]
  repeat' split
  all_goals rfl
theorem enc_fuel (kind : Int) (l : List UInt8) (a : Nat) (m : Int) : ∀ (f g i : Nat) (acc : List UInt8), l.length - i < f → l.length - i < g → Tk.enc kind l a m f i acc = Tk.enc kind l a m g i acc
  | 0, g, i, acc, hf, hg => by omega
  | f + 1, 0, i, acc, hf, hg => by omega
  | f + 1, g + 1, i, acc, hf, hg => by
    rw [Tk.enc, Tk.enc]
    by_cases hi : i < l.length
    · rw [if_pos hi, if_pos hi, enc_fuel kind l a m f g (i + 2) _ (by omega) (by omega), enc_fuel kind l a m f g (i + 1) _ (by omega) (by omega), enc_fuel kind l a m f g (i + 1) _ (by omega) (by omega)]
    · rw [if_neg hi, if_neg hi]
theorem enc_drop (kind : Int) (l : List UInt8) (a : Nat) (m : Int) : ∀ (f i : Nat) (acc : List UInt8), Tk.enc kind l a m f (a + i) acc = (Tk.enc kind (l.drop a) 0 m f i acc).shift a
  | 0, i, acc => rfl
  | f + 1, i, acc => by
    rw [Tk.enc, Tk.enc, bt_drop, Nat.add_assoc, bt_drop, enc_drop kind l a m f (i + 1), enc_drop kind l a m f (i + 1), Nat.add_assoc, enc_drop kind l a m f (i + 2)]
    have h1 : (a + i < l.length) = (i < (l.drop a).length) := propext (by rw [List.length_drop]; omega)
    have h2 : (a + (i + 1) < l.length) = (i + 1 < (l.drop a).length) := propext (by rw [List.length_drop]; omega)
    simp only [h1, h2]
    repeat' split
    all_goals rfl
theorem readEnclosed_drop (kind : Int) (l : List UInt8) (a : Nat) : Tk.readEnclosed kind l a = (Tk.readEnclosed kind (l.drop a) 0).shift a := by
  unfold Tk.readEnclosed
  have h := bt_drop l a 0
  rw [Nat.add_zero] at h
  rw [h, enc_drop, enc_fuel kind (l.drop a) 0 _ (l.length + 1) ((l.drop a).length + 1) _ _ (by simp; omega) (by omega)]
theorem readName_drop (l : List UInt8) (a : Nat) : Tk.readName l a = (Tk.readName (l.drop a) 0).shift a := by
  unfold Tk.readName
  rw [readEnclosed_drop]
  cases Tk.readEnclosed 1 (l.drop a) 0 with
  | tok k t z =>
    dsimp only [Tk.R.shift]
    split <;> rfl
  | fault p c => rfl
theorem shift_ite (c : Prop) [Decidable c] (x y : Tk.R) (a : Nat) : (if c then x else y).shift a = if c then x.shift a else y.shift a := by split <;> rfl
/-- What is read at an index is what is read at the head of what stands there. -/
theorem read_drop (l : List UInt8) (a en : Nat) (b : Bool) (ha : a ≤ l.length) : Tk.read l a en b = (Tk.read (l.drop a) 0 0 (b && decide (en = a))).shift a := by
  unfold Tk.read
  have h0 := bt_drop l a 0
  have h1 := sub_drop l a 0
  have h2 := run_drop Tk.inWord l a 0
  have h3 := run_drop Tk.digit l a 0
  rw [Nat.add_zero] at h0 h2 h3
  simp only [Nat.add_zero] at h1
  rw [h0, dottedEnd_drop, h2, h3, bangEnd_drop, readSigns_drop l a ha, readChar_drop, readName_drop, readEnclosed_drop, h1, h1, h1, h1, h1]
  have hp : Tk.punctText l a en b = Tk.punctText (l.drop a) 0 0 (b && decide (en = a)) := by
    unfold Tk.punctText Tk.isArgs
    rw [h0, h1]
    cases b <;> simp
  rw [hp]
  simp only [shift_ite, List.drop_zero]
  rfl
end Go.Proofs.YtnkmefnbhfghgaaGreatDoor
