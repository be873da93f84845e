import Derived.Test.YtnkmefnbhfghgaaGreatDoorX20
set_option linter.unusedSimpArgs false
set_option linter.unusedVariables false
namespace Go.Proofs.YtnkmefnbhfghgaaGreatDoor
open Go.RowKit

def Tk.qR (m : Int) (p : Nat) (r : Tk.R) : Tk.Q := match r with
  | .tok _ t z => Tk.qclose m t z p
  | .fault q c => .bad q c
theorem qR_ite (c : Prop) [Decidable c] (x y : Tk.R) (m : Int) (p : Nat) : Tk.qR m p (if c then x else y) = if c then Tk.qR m p x else Tk.qR m p y := by split <;> rfl
theorem qq_enc (l : List UInt8) (p : Nat) (m k : Int) (hm : m = 39 ∨ m = 34) : ∀ (f i : Nat) (acc : List UInt8), Tk.qq l p m f i acc = Tk.qR m p (Tk.enc k l p m f i acc)
  | 0, i, acc => rfl
  | f + 1, i, acc => by
    rw [Tk.qq, Tk.enc]
    simp only [qR_ite]
    refine ite_congr rfl (fun h0 => ?_) (fun _ => rfl)
    refine ite_congr rfl (fun h1 => rfl) (fun h1 => ?_)
    refine ite_congr rfl (fun h2 => ?_) (fun _ => rfl)
    refine ite_congr rfl (fun h3 => ?_) (fun _ => rfl)
    refine ite_congr rfl (fun h4 => ?_) (fun _ => qq_enc l p m k hm f (i + 1) _)
    by_cases h5 : i + 1 < l.length
    · rw [if_pos h5, if_pos h5]
      refine ite_congr rfl (fun h6 => ?_) (fun _ => rfl)
      have hz : ((Tk.meant (Tk.bt l (i + 1)) m == 0) == !(Tk.meantOk (Tk.bt l (i + 1)) m)) = true := by
        rcases hm with rfl | rfl
        · exact bt_all (fun n => (Tk.meant n 39 == 0) == !(Tk.meantOk n 39)) (by decide +kernel) l (i + 1)
        · exact bt_all (fun n => (Tk.meant n 34 == 0) == !(Tk.meantOk n 34)) (by decide +kernel) l (i + 1)
      rw [beq_iff_eq] at hz
      cases hok : Tk.meantOk (Tk.bt l (i + 1)) m
      · rw [hok, Bool.not_false, beq_iff_eq] at hz
        rw [if_pos hz, if_neg (by decide)]; rfl
      · rw [hok, Bool.not_true, beq_eq_false_iff_ne] at hz
        rw [if_neg hz, if_pos rfl]
        exact qq_enc l p m k hm f (i + 2) _
    · rw [if_neg h5, if_neg h5]
      cases f with
      | zero => rfl
      | succ f => rw [Tk.qq, Tk.enc, if_neg h5, if_neg h5]; rfl
theorem quoted_eq : QuotedEq := by
  intro l p hp
  constructor
  · intro h
    unfold Tk.qquoted Tk.readName Tk.readEnclosed
    rw [h, qq_enc l p 39 1 (.inl rfl)]
    cases he : Tk.enc 1 l p 39 (l.length + 1) (p + 1) [] with
    | fault q c => rfl
    | tok k t z =>
      have hk := (Tk.enc_ok he (by simp)).2.2.2
      subst hk
      show Tk.qclose 39 t z p = Tk.convR (if Tk.badName t then .fault p 11 else .tok 1 t z) p
      unfold Tk.qclose Tk.qname
      rw [if_pos rfl]
      cases Tk.badName t <;> rfl
  · intro h
    unfold Tk.qquoted Tk.readEnclosed
    rw [h, qq_enc l p 34 5 (.inr rfl)]
    cases he : Tk.enc 5 l p 34 (l.length + 1) (p + 1) [] with
    | fault q c => rfl
    | tok k t z =>
      have hk := (Tk.enc_ok he (by simp)).2.2.2
      subst hk
      show Tk.qclose 34 t z p = Tk.qadd 5 t z p
      unfold Tk.qclose
      rw [if_neg (by decide)]
end Go.Proofs.YtnkmefnbhfghgaaGreatDoor
