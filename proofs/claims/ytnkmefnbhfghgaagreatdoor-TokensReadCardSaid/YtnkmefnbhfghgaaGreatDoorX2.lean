import Derived.Test.YtnkmefnbhfghgaaGreatDoorX1
import Derived.Test.YtnkmefnbhfghgaaGreatDoorA31
import Derived.Test.YtnkmefnbhfghgaaGreatDoorU1
set_option linter.unusedSimpArgs false
set_option linter.unusedVariables false
namespace Go.Proofs.YtnkmefnbhfghgaaGreatDoor
open Go.RowKit

/-! The reference's reader and the program's are one. -/
theorem bt_all (P : Int → Bool) (h : ∀ n : Fin 256, P (n.val : Int) = true) (l : List UInt8) (i : Nat) : P (Tk.bt l i) = true := byte_all P h (l.getD i 0)
def Tk.conv (r : Nat × Nat × Int) : Tk.Q := if r.2.2 = 0 then .move r.1 else .bad r.2.1 r.2.2
def Tk.convR (r : Tk.R) (p : Nat) : Tk.Q := match r with
  | .fault q c => .bad q c
  | .tok k t z => Tk.qadd k t z p
theorem pre_two {l : List UInt8} {k : Nat} {x y : UInt8} (hx : x ≠ 0) (hy : y ≠ 0) : Lib.hasPrefix (l.drop k) [x, y] = (decide (Tk.bt l k = x.toNat) && decide (Tk.bt l (k + 1) = y.toNat)) := by
  have e : ∀ (a : Option UInt8) (z : UInt8), z ≠ 0 → (a == some z) = decide (((a.getD 0).toNat : Int) = z.toNat) := by
    intro a z hz
    cases a with
    | none =>
      symm
      show decide ((0 : Int) = (z.toNat : Int)) = false
      rw [decide_eq_false_iff_not]
      intro h
      exact hz (UInt8.toNat_inj.1 (show z.toNat = 0 by omega))
    | some a =>
      show (a == z) = decide ((a.toNat : Int) = (z.toNat : Int))
      rw [Bool.eq_iff_iff, beq_iff_eq, decide_eq_true_eq, ← UInt8.toNat_inj]
      omega
  unfold Tk.bt
  rw [List.getD_eq_getElem?_getD, List.getD_eq_getElem?_getD, ← e _ _ hx, ← e _ _ hy]
  have h0 : l[k]? = (l.drop k)[0]? := by simp
  have h1 : l[k + 1]? = (l.drop k)[1]? := by simp
  rw [h0, h1]
  unfold Lib.hasPrefix
  match l.drop k with
  | [] => rfl
  | [a] => simp [List.isPrefixOf]
  | a :: b :: t =>
    show ((x == a) && ((y == b) && true)) = ((a == x) && (b == y))
    rw [Bool.and_true, beq_swap x a, beq_swap y b]
theorem qcom_eq (l : List UInt8) (p : Nat) : ∀ (f g i : Nat), p + 2 ≤ i → i < l.length → Tk.inText (Tk.bt l i) = true → l.length ≤ i + f → l.length < i + g → Tk.qcom l p f (i + 1) = Tk.conv (Tk.com g l p i)
  | f, 0, i, _, hi, _, _, hg => by omega
  | 0, g + 1, i, _, hi, _, hf, _ => by omega
  | f + 1, g + 1, i, hp, hi, ht, hf, hg => by
    rw [Tk.com, if_pos hi, pre_two (by decide) (by decide), Tk.qcom]
    by_cases h1 : i + 1 < l.length
    · rw [if_pos h1]
      cases hin : Tk.inText (Tk.bt l (i + 1))
      · rw [if_neg (by decide)]
        have h47 : Tk.bt l (i + 1) ≠ 47 := by intro h; rw [h] at hin; revert hin; decide
        have h42 : Tk.bt l (i + 1) ≠ 42 := by intro h; rw [h] at hin; revert hin; decide
        rw [if_neg (by simp; intro _; exact h47), ht, if_pos rfl]
        obtain ⟨g', rfl⟩ : ∃ g', g = g' + 1 := ⟨g - 1, by omega⟩
        rw [Tk.com, if_pos h1, pre_two (by decide) (by decide), if_neg (by simp; intro h; exact absurd h h42), hin, if_neg (by decide)]
        rfl
      · rw [if_pos rfl, if_pos (show p + 2 < i + 1 by omega), Nat.add_sub_cancel]
        have ih := qcom_eq l p f g (i + 1) (by omega) h1 hin (by omega) (by omega)
        by_cases h47 : Tk.bt l (i + 1) = 47
        · rw [if_pos h47]
          by_cases h42 : Tk.bt l i = 42
          · rw [if_pos h42, if_pos (by simp; exact ⟨h42, h47⟩)]; rfl
          · rw [if_neg h42, if_neg (by simp; intro h; exact absurd h h42), ht, if_pos rfl]; exact ih
        · rw [if_neg h47, if_neg (by simp; intro _; exact h47), ht, if_pos rfl]; exact ih
    · rw [if_neg h1, if_neg (by rw [Tk.bt_end (show l.length ≤ i + 1 by omega)]; simp), ht, if_pos rfl]
      obtain ⟨g', rfl⟩ : ∃ g', g = g' + 1 := ⟨g - 1, by omega⟩
      rw [Tk.com, if_neg h1]; rfl
theorem comment_eq {l : List UInt8} {p : Nat} (h : Tk.bt l (p + 1) = 42) : Tk.qcom l p (l.length + 1) (p + 1) = Tk.conv (Tk.comment l p) := by
  have h1 : p + 1 < l.length := by
    refine Nat.lt_of_not_le fun hl => ?_
    rw [Tk.bt_end hl] at h; revert h; decide
  unfold Tk.comment
  rw [Tk.qcom, if_pos h1, if_pos (by rw [h]; decide), if_neg (show ¬ p + 2 < p + 1 by omega)]
  obtain ⟨n, hn⟩ : ∃ n, l.length = n + 1 := ⟨l.length - 1, by omega⟩
  rw [hn, Tk.qcom]
  by_cases h2 : p + 2 < l.length
  · rw [if_pos (show p + 1 + 1 < l.length from h2)]
    cases hin : Tk.inText (Tk.bt l (p + 1 + 1))
    · rw [if_neg (by decide), Tk.com, if_pos h2, pre_two (by decide) (by decide)]
      have h42 : Tk.bt l (p + 2) ≠ 42 := by intro h; rw [show p + 1 + 1 = p + 2 from rfl, h] at hin; revert hin; decide
      rw [if_neg (by simp; intro h; exact absurd h h42), show Tk.inText (Tk.bt l (p + 2)) = false from hin, if_neg (by decide)]
      rfl
    · rw [if_pos rfl, if_neg (show ¬ p + 2 < p + 1 + 1 by omega)]
      exact qcom_eq l p n (n + 1 + 1) (p + 2) (by omega) h2 hin (by omega) (by omega)
  · rw [if_neg (show ¬ p + 1 + 1 < l.length from h2), Tk.com, if_neg h2]; rfl
theorem line_eq {l : List UInt8} {p : Nat} (hp : p < l.length) (h : Tk.bt l p = 37) : Tk.qline l p = Tk.conv (Tk.lineEnd l p, Tk.lineFault l p) := by
  have hr : Tk.lineEnd l p = Tk.run Tk.inLine l (p + 1) := Tk.run_yes hp (by rw [h]; decide)
  have hle : Tk.lineEnd l p ≤ l.length := Tk.lineEnd_le (Nat.le_of_lt hp)
  unfold Tk.qline Tk.lineFault Tk.conv
  rw [← hr]
  by_cases h1 : Tk.lineEnd l p < l.length
  · rw [if_pos h1]
    by_cases h2 : Tk.bt l (Tk.lineEnd l p) = 10
    · rw [if_pos h2]; simp [h2]
    · rw [if_neg h2]; simp [h2, h1]
  · rw [if_neg h1]; simp [h1]; omega
/-- A step of the skipper. -/
theorem skipped_at {l : List UInt8} {a z : Nat} (ha : a ≤ l.length) (hz : z ≤ l.length) (haz : a < z) (h : Tk.skip (l.length + 1) l a = Tk.skip l.length l z) : Tk.skipped l a = Tk.skipped l z := by
  unfold Tk.skipped
  rw [h]
  exact skip_fuel l _ _ z hz (by omega) (by omega)
theorem toks_skip {l : List UInt8} {a a' en : Nat} {b : Bool} {acc : List Tk.T} (h : Tk.skipped l a = Tk.skipped l a') (f : Nat) : Tk.toks f l a en b acc = Tk.toks f l a' en b acc := by
  cases f with
  | zero => rfl
  | succ f => rw [Tk.toks, Tk.toks, h]
theorem skip_blank {l : List UInt8} {p : Nat} (hp : p < l.length) (h : Tk.blank (Tk.bt l p) = true) : Tk.skipped l p = Tk.skipped l (p + 1) :=
  skipped_at (by omega) (by omega) (by omega) (by rw [Tk.skip, if_pos hp, if_pos h])
theorem skip_line {l : List UInt8} {p : Nat} (hp : p < l.length) (h : Tk.bt l p = 37) : (Tk.qline l p = .move (Tk.lineEnd l p) ∧ p < Tk.lineEnd l p ∧ Tk.lineEnd l p ≤ l.length ∧ Tk.skipped l p = Tk.skipped l (Tk.lineEnd l p)) ∨ (∃ q c, c ≠ 0 ∧ Tk.qline l p = .bad q c ∧ (Tk.skipped l p).2 = (q, c)) := by
  have hb : Tk.blank (Tk.bt l p) = false := by rw [h]; decide
  rw [line_eq hp h]
  unfold Tk.conv
  by_cases h0 : (Tk.lineFault l p).2 = 0
  · refine .inl ⟨if_pos h0, Tk.lineEnd_gt hp h, Tk.lineEnd_le (Nat.le_of_lt hp), ?_⟩
    exact skipped_at (by omega) (Tk.lineEnd_le (Nat.le_of_lt hp)) (Tk.lineEnd_gt hp h) (by rw [Tk.skip, if_pos hp, hb, if_neg (by decide), if_pos h, if_pos h0])
  · refine .inr ⟨_, _, h0, if_neg h0, ?_⟩
    unfold Tk.skipped
    rw [Tk.skip, if_pos hp, hb, if_neg (by decide), if_pos h, if_neg h0]
theorem skip_com {l : List UInt8} {p : Nat} (h : Tk.bt l p = 47) (h2 : Tk.bt l (p + 1) = 42) : (Tk.qcom l p (l.length + 1) (p + 1) = .move (Tk.comment l p).1 ∧ p < (Tk.comment l p).1 ∧ (Tk.comment l p).1 ≤ l.length ∧ Tk.skipped l p = Tk.skipped l (Tk.comment l p).1) ∨ (∃ q c, c ≠ 0 ∧ Tk.qcom l p (l.length + 1) (p + 1) = .bad q c ∧ (Tk.skipped l p).2 = (q, c)) := by
  have h1 : p + 1 < l.length := by
    refine Nat.lt_of_not_le fun hl => ?_
    rw [Tk.bt_end hl] at h2; revert h2; decide
  have hp : p < l.length := by omega
  have hb : Tk.blank (Tk.bt l p) = false := by rw [h]; decide
  have hpre : Lib.hasPrefix (l.drop p) [47, 42] = true := by rw [pre_two (by decide) (by decide), h, h2]; rfl
  rw [comment_eq h2]
  unfold Tk.conv
  by_cases h0 : (Tk.comment l p).2.2 = 0
  · have hle : (Tk.comment l p).1 ≤ l.length := Tk.com_le _ _ (by omega)
    refine .inl ⟨if_pos h0, Tk.comment_gt h0, hle, ?_⟩
    exact skipped_at (by omega) hle (Tk.comment_gt h0) (by rw [Tk.skip, if_pos hp, hb, if_neg (by decide), if_neg (by rw [h]; decide), hpre, if_pos rfl, if_pos h0])
  · refine .inr ⟨_, _, h0, if_neg h0, ?_⟩
    unfold Tk.skipped
    rw [Tk.skip, if_pos hp, hb, if_neg (by decide), if_neg (by rw [h]; decide), hpre, if_pos rfl, if_neg h0]
theorem skip_here {l : List UInt8} {p : Nat} (h1 : Tk.blank (Tk.bt l p) = false) (h2 : Tk.bt l p ≠ 37) (h3 : ¬ (Tk.bt l p = 47 ∧ Tk.bt l (p + 1) = 42)) : Tk.skipped l p = (p, 0, 0) := by
  unfold Tk.skipped
  rw [Tk.skip]
  by_cases hp : p < l.length
  · rw [if_pos hp, h1, if_neg (c := false = true) (by decide), if_neg (c := Tk.bt l p = 37) h2, pre_two (by decide) (by decide), if_neg (c := _ = true) (by
      intro h
      rw [Bool.and_eq_true, decide_eq_true_eq, decide_eq_true_eq] at h
      exact h3 h)]
  · rw [if_neg hp]
theorem char_eq (l : List UInt8) (p : Nat) : Tk.qchar l p = Tk.convR (Tk.readChar l p) p := by
  have m1 := bt_all (fun n => (Tk.meant n 92 == 0) == !(Tk.meantOk n 92)) (by decide +kernel) l (p + 3)
  have m2 := bt_all (fun n => !(Tk.inText n) || n == 92 || (Tk.shown n == !(decide (n < 32)))) (by decide +kernel) l (p + 2)
  have hst : Tk.startsAt Tk.backslash l (p + 2) = decide (p + 2 < l.length ∧ Tk.bt l (p + 2) = 92) := by
    rw [Bool.eq_iff_iff, decide_eq_true_eq]
    simp [Tk.startsAt, Tk.backslash]
  unfold Tk.qchar Tk.readChar
  rw [hst]
  by_cases h2 : p + 2 < l.length
  · rw [if_pos h2]
    by_cases h92 : Tk.bt l (p + 2) = 92
    · rw [if_pos (c := decide (p + 2 < l.length ∧ Tk.bt l (p + 2) = 92) = true) (decide_eq_true ⟨h2, h92⟩), if_pos (c := Tk.bt l (p + 2) = 92) h92, if_pos (c := Tk.inText (Tk.bt l (p + 2)) = true) (by rw [h92]; decide)]
      by_cases h3 : p + 3 < l.length
      · rw [if_pos h3, if_pos h3]
        cases hin : Tk.inText (Tk.bt l (p + 3))
        · rfl
        · rw [if_pos rfl, if_pos rfl]
          cases hm : Tk.meantOk (Tk.bt l (p + 3)) 92
          · rw [hm] at m1
            rw [if_pos (by simpa using m1)]; rfl
          · rw [hm] at m1
            rw [if_neg (by simpa using m1)]; rfl
      · rw [if_neg h3, if_neg h3]; rfl
    · rw [if_neg (c := decide (p + 2 < l.length ∧ Tk.bt l (p + 2) = 92) = true) (by simp [h92]), if_pos h2]
      cases hin : Tk.inText (Tk.bt l (p + 2))
      · rfl
      · rw [if_pos rfl, if_pos rfl, if_neg h92]
        rw [hin] at m2
        have hx : (Tk.bt l (p + 2) == 92) = false := by simpa using h92
        rw [hx] at m2
        by_cases h32 : Tk.bt l (p + 2) < 32
        · have hs : Tk.shown (Tk.bt l (p + 2)) = false := by simpa [h32] using m2
          rw [if_pos h32, hs, if_neg (by decide)]; rfl
        · have hs : Tk.shown (Tk.bt l (p + 2)) = true := by simpa [h32] using m2
          rw [if_neg h32, hs, if_pos rfl]; rfl
  · rw [if_neg h2, if_neg (by simp; omega), if_neg h2]; rfl
theorem signs_eq (l : List UInt8) (p : Nat) : Tk.qsigns l p = Tk.convR (Tk.readSigns l p) p := by
  unfold Tk.qsigns Tk.readSigns
  dsimp only
  split
  · rename_i h
    rw [h]
    repeat' split
    all_goals rfl
  · rfl
theorem convR_ite (c : Prop) [Decidable c] (x y : Tk.R) (p : Nat) : Tk.convR (if c then x else y) p = if c then Tk.convR x p else Tk.convR y p := by split <;> rfl
/-- Where a token begins: the reference's step is the program's reading; hq: what is in marks. -/
theorem next_eq {l : List UInt8} {p en : Nat} {b : Bool} (hp : p < l.length) (h1 : Tk.blank (Tk.bt l p) = false) (h2 : Tk.bt l p ≠ 37) (h3 : ¬ (Tk.bt l p = 47 ∧ Tk.bt l (p + 1) = 42))
    (hq1 : Tk.bt l p = 39 → Tk.qquoted l p = Tk.convR (Tk.readName l p) p) (hq2 : Tk.bt l p = 34 → Tk.qquoted l p = Tk.convR (Tk.readEnclosed 5 l p) p) :
    Tk.qnext l p (b && decide (en = p)) = Tk.convR (Tk.read l p en b) p := by
  have hsub : Tk.sub l p (p + 1) = [l.getD p 0] := by
    unfold Tk.sub
    rw [Nat.add_sub_cancel_left, List.drop_eq_getElem_cons hp, getD_at hp]; rfl
  have hone : ∀ n : Nat, n < 256 → Tk.bt l p = (n : Int) → Tk.sub l p (p + 1) = [UInt8.ofNat n] := by
    intro n hn h
    rw [hsub]
    have : (l.getD p 0).toNat = n := by unfold Tk.bt at h; omega
    rw [← this, UInt8.ofNat_toNat]
  have kp := bt_all (fun n => !(Tk.punct n) || (Tk.inText n && !(Tk.small n) && !(Tk.capital n) && !(Tk.digit n) && !(n == 39) && !(n == 34) && !(n == 59) && !(n == 33) && !(Tk.sign n))) (by decide +kernel) l p
  have k0 := bt_all (fun n => Tk.inText n || !(Tk.small n || Tk.capital n || Tk.digit n || Tk.sign n || Tk.punct n || n == 59 || n == 33 || n == 39 || n == 34 || n == 48)) (by decide +kernel) l p
  have k1 := bt_all (fun n => !(Tk.digit n) || !(n == 39 || n == 34 || n == 59 || n == 33)) (by decide +kernel) l p
  have k2 := bt_all (fun n => !(Tk.sign n) || !(n == 39 || n == 34 || n == 59 || n == 33 || Tk.digit n)) (by decide +kernel) l p
  have e48 : Lib.hasPrefix (l.drop p) [48, 39] = decide (Tk.bt l p = 48 ∧ Tk.bt l (p + 1) = 39) := by
    rw [pre_two (by decide) (by decide), Bool.eq_iff_iff]
    simp
  unfold Tk.qnext Tk.read
  rw [e48]
  cases hin : Tk.inText (Tk.bt l p)
  · rw [hin] at k0
    simp only [Bool.false_or, Bool.not_eq_true', Bool.or_eq_false_iff, beq_eq_false_iff_ne] at k0
    obtain ⟨⟨⟨⟨⟨⟨⟨⟨⟨a1, a2⟩, a3⟩, a4⟩, a5⟩, a6⟩, a7⟩, a8⟩, a9⟩, a10⟩ := k0
    rw [a1, a2, a3, a4, a5, if_neg (c := false = true) (by decide), if_neg (c := false = true) (by decide), if_neg (c := false = true) (by decide), if_neg (c := decide _ = true) (by simp [a10]), if_neg (c := false = true) (by decide), if_neg (c := false = true) (by decide), if_neg (c := (Tk.bt l p == 59) = true) (by simpa using a6), if_neg (c := (Tk.bt l p == 33) = true) (by simpa using a7), if_neg (c := (Tk.bt l p == 39) = true) (by simpa using a8), if_neg (c := (Tk.bt l p == 34) = true) (by simpa using a9), if_neg (c := false = true) (by decide)]
    rfl
  · rw [if_pos rfl, h1, if_neg (by decide), if_neg h2, if_neg h3]
    simp only [convR_ite]
    by_cases c1 : Tk.small (Tk.bt l p) = true
    · rw [if_pos c1, if_pos c1]; rfl
    rw [if_neg c1, if_neg c1]
    by_cases c2 : Tk.capital (Tk.bt l p) = true
    · rw [if_pos c2, if_pos c2]; rfl
    rw [if_neg c2, if_neg c2]
    by_cases c3 : Tk.digit (Tk.bt l p) = true
    · rw [if_pos c3, if_pos c3]
      unfold Tk.qnum
      by_cases c4 : Tk.bt l p = 48 ∧ Tk.bt l (p + 1) = 39
      · rw [if_pos c4, if_pos (decide_eq_true c4), char_eq]
      · rw [if_neg c4, if_neg (c := decide (Tk.bt l p = 48 ∧ Tk.bt l (p + 1) = 39) = true) (by simpa using c4)]; rfl
    · rw [if_neg c3, if_neg c3, if_neg (c := decide (Tk.bt l p = 48 ∧ Tk.bt l (p + 1) = 39) = true) (by
        intro h
        rw [decide_eq_true_eq] at h
        rw [h.1] at c3
        exact c3 (by decide))]
      by_cases c5 : Tk.sign (Tk.bt l p) = true
      · rw [c5] at k2
        simp only [Bool.not_true, Bool.false_or, Bool.not_eq_true', Bool.or_eq_false_iff, beq_eq_false_iff_ne] at k2
        obtain ⟨⟨⟨⟨b1, b2⟩, b3⟩, b4⟩, b5⟩ := k2
        rw [if_neg (c := Tk.bt l p = 39 ∨ Tk.bt l p = 34) (by omega), if_neg (c := Tk.bt l p = 59) b3, if_neg (c := Tk.bt l p = 33) b4, if_pos c5, if_pos c5]
        exact signs_eq l p
      · rw [if_neg (c := Tk.sign (Tk.bt l p) = true) c5, if_neg (c := Tk.sign (Tk.bt l p) = true) c5]
        by_cases c6 : Tk.bt l p = 59
        · rw [if_neg (c := Tk.bt l p = 39 ∨ Tk.bt l p = 34) (by omega), if_pos c6, if_pos (c := (Tk.bt l p == 59) = true) (by simpa using c6), hone 59 (by decide) c6]; rfl
        rw [if_neg (c := Tk.bt l p = 59) c6, if_neg (c := (Tk.bt l p == 59) = true) (by simpa using c6)]
        by_cases c7 : Tk.bt l p = 33
        · rw [if_neg (c := Tk.bt l p = 39 ∨ Tk.bt l p = 34) (by omega), if_pos c7, if_pos (c := (Tk.bt l p == 33) = true) (by simpa using c7)]; rfl
        rw [if_neg (c := Tk.bt l p = 33) c7, if_neg (c := (Tk.bt l p == 33) = true) (by simpa using c7)]
        by_cases c8 : Tk.bt l p = 39
        · rw [if_pos (c := Tk.bt l p = 39 ∨ Tk.bt l p = 34) (.inl c8), if_pos (c := (Tk.bt l p == 39) = true) (by simpa using c8)]; exact hq1 c8
        by_cases c9 : Tk.bt l p = 34
        · rw [if_pos (c := Tk.bt l p = 39 ∨ Tk.bt l p = 34) (.inr c9), if_neg (c := (Tk.bt l p == 39) = true) (by simpa using c8), if_pos (c := (Tk.bt l p == 34) = true) (by simpa using c9)]; exact hq2 c9
        rw [if_neg (c := Tk.bt l p = 39 ∨ Tk.bt l p = 34) (by omega), if_neg (c := (Tk.bt l p == 39) = true) (by simpa using c8), if_neg (c := (Tk.bt l p == 34) = true) (by simpa using c9)]
        by_cases c10 : Tk.bt l p = 40
        · have hpu : Tk.punct (Tk.bt l p) = true := by rw [c10]; decide
          rw [hpu, if_pos (c := true = true) rfl, if_pos (c := true = true) rfl]
          show _ = Tk.qadd 6 (Tk.punctText l p en b) (p + 1) p
          unfold Tk.punctText Tk.isArgs
          cases hb : (b && decide (en = p))
          · rw [if_neg (by simp), if_neg (by rw [Bool.and_assoc, hb]; simp)]
          · rw [if_pos ⟨c10, rfl⟩, if_pos (by rw [Bool.and_assoc, hb]; simpa using c10)]
        · rw [if_neg (c := Tk.bt l p = 40 ∧ _) (by intro h; exact c10 h.1)]
          split
          · show _ = Tk.qadd 6 (Tk.punctText l p en b) (p + 1) p
            unfold Tk.punctText Tk.isArgs
            rw [if_neg (by simp [c10])]
          · rfl
end Go.Proofs.YtnkmefnbhfghgaaGreatDoor
