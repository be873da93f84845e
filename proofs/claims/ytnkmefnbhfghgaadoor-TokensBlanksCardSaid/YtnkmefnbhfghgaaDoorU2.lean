import Derived.Test.YtnkmefnbhfghgaaDoorU1
set_option linter.unusedSimpArgs false
set_option linter.unusedVariables false
namespace Go.Proofs.YtnkmefnbhfghgaaDoor
open Go.RowKit

/-! A token is read as before where blanks are put in behind it. -/
/-- rest' is rest with something in behind x that begins with a blank. -/
structure Tk.Ins (x rest rest' : List UInt8) : Prop where
  split : ∃ (v g : List UInt8) (c : UInt8), v ≠ [] ∧ rest = x ++ v ∧ rest' = x ++ (c :: g ++ v) ∧ Tk.blank (c.toNat : Int) = true
def Tk.Soft (p : Int → Bool) : Prop := p 32 = false ∧ p 9 = false ∧ p 10 = false
theorem Tk.Soft.no {p : Int → Bool} (h : Tk.Soft p) {c : UInt8} (hc : Tk.blank (c.toNat : Int) = true) : p (c.toNat : Int) = false := by
  simp only [Tk.blank, Bool.or_eq_true, beq_iff_eq] at hc
  rcases hc with (hc | hc) | hc
  · rw [hc]; exact h.1
  · rw [hc]; exact h.2.1
  · rw [hc]; exact h.2.2
theorem Tk.Ins.stops {x rest rest' : List UInt8} (h : Tk.Ins x rest rest') {p : Int → Bool} (hp : Tk.Soft p) (hs : Tk.Stops p rest) : Tk.Stops p rest' := by
  obtain ⟨v, g, c, hv, rfl, rfl, hc⟩ := h.split
  cases x with
  | nil => exact .inr (hp.no hc)
  | cons d y =>
    rcases hs with hs | hs
    · cases hs
    · exact .inr hs
theorem takeWhile_all_app {α : Type} (p : α → Bool) : ∀ (a y : List α), (a.takeWhile p).length = a.length → (a ++ y).takeWhile p = a ++ y.takeWhile p
  | [], y, _ => rfl
  | d :: a, y, h => by
    rw [List.takeWhile_cons] at h
    rw [List.cons_append, List.takeWhile_cons]
    split at h
    · rename_i hd
      rw [if_pos hd, takeWhile_all_app p a y (by simpa using h)]; rfl
    · simp at h
theorem takeWhile_part_app {α : Type} (p : α → Bool) : ∀ (a y : List α), (a.takeWhile p).length < a.length → (a ++ y).takeWhile p = a.takeWhile p
  | [], y, h => by simp at h
  | d :: a, y, h => by
    rw [List.takeWhile_cons] at h
    rw [List.cons_append, List.takeWhile_cons, List.takeWhile_cons]
    split at h
    · rename_i hd
      rw [if_pos hd, if_pos hd, takeWhile_part_app p a y (by simpa using h)]
    · rename_i hd
      rw [if_neg hd, if_neg hd]
theorem run_ins {p : Int → Bool} (hp : Tk.Soft p) {w x rest rest' : List UInt8} (h : Tk.Ins x rest rest') {e : Nat} (he : e ≤ w.length) (hr : Tk.run p (w ++ rest) e ≤ w.length) : Tk.run p (w ++ rest') e = Tk.run p (w ++ rest) e := by
  have hle : ((w.drop e).takeWhile fun c => p (c.toNat : Int)).length ≤ (w.drop e).length := (List.takeWhile_sublist _).length_le
  unfold Tk.run at hr ⊢
  rw [List.drop_append_of_le_length he] at hr ⊢
  rw [List.drop_append_of_le_length he]
  by_cases hall : ((w.drop e).takeWhile fun c => p (c.toNat : Int)).length = (w.drop e).length
  · rw [takeWhile_all_app _ _ _ hall] at hr ⊢
    rw [takeWhile_all_app _ _ _ hall]
    have hnil : rest.takeWhile (fun c => p (c.toNat : Int)) = [] := by
      apply List.eq_nil_of_length_eq_zero
      rw [List.length_append, List.length_drop] at hr
      omega
    have hst : Tk.Stops p rest := by
      cases rest with
      | nil => exact .inl rfl
      | cons c r =>
        right
        cases hc : p (c.toNat : Int)
        · exact hc
        · rw [List.takeWhile_cons, hc] at hnil; cases hnil
    rw [hnil, (h.stops hp hst).take]
  · rw [takeWhile_part_app _ _ _ (by omega), takeWhile_part_app _ _ _ (by omega)]
theorem bt_two {w r r' : List UInt8} {i : Nat} (hi : i < w.length) : Tk.bt (w ++ r) i = Tk.bt (w ++ r') i := by rw [bt_app hi, bt_app hi]
theorem starts_two {p : Int → Bool} {w r r' : List UInt8} {i : Nat} (hi : i < w.length) : Tk.startsAt p (w ++ r) i = Tk.startsAt p (w ++ r') i := by
  rw [Tk.starts_yes (by rw [List.length_append]; omega), Tk.starts_yes (by rw [List.length_append]; omega), bt_two hi]
/-- A mark behind a token, and what must not stand behind the mark. -/
theorem pair_ins {p q : Int → Bool} (hp : Tk.Soft p) (hq : Tk.Soft q) {w x rest rest' : List UInt8} (h : Tk.Ins x rest rest') (hn : (Tk.startsAt p (w ++ rest) w.length && Tk.startsAt q (w ++ rest) (w.length + 1)) = false) :
    (Tk.startsAt p (w ++ rest') w.length && Tk.startsAt q (w ++ rest') (w.length + 1)) = false := by
  obtain ⟨v, g, c, hv, rfl, rfl, hc⟩ := h.split
  have d0 : ∀ r : List UInt8, Tk.startsAt p (w ++ r) w.length = Tk.startsAt p r 0 := fun r => by
    have := starts_drop p (w ++ r) w.length 0
    rwa [Nat.add_zero, List.drop_left' rfl] at this
  have d1 : ∀ r : List UInt8, Tk.startsAt q (w ++ r) (w.length + 1) = Tk.startsAt q r 1 := fun r => by
    have := starts_drop q (w ++ r) w.length 1
    rwa [List.drop_left' rfl] at this
  rw [d0, d1] at hn ⊢
  cases x with
  | nil =>
    rw [List.nil_append, Tk.starts_yes (by simp), show Tk.bt (c :: g ++ v) 0 = (c.toNat : Int) from rfl, hp.no hc]; rfl
  | cons d y =>
    rw [List.cons_append, Tk.starts_yes (by simp), show Tk.bt (d :: (y ++ v)) 0 = (d.toNat : Int) from rfl] at hn
    rw [List.cons_append, Tk.starts_yes (by simp), show Tk.bt (d :: (y ++ (c :: g ++ v))) 0 = (d.toNat : Int) from rfl]
    cases hd : p (d.toNat : Int)
    · rfl
    · rw [hd, Bool.true_and] at hn
      rw [Bool.true_and]
      cases y with
      | nil =>
        rw [List.nil_append, Tk.starts_yes (by simp), show Tk.bt (d :: (c :: g ++ v)) 1 = (c.toNat : Int) from rfl]
        exact hq.no hc
      | cons b z =>
        rw [List.cons_append, Tk.starts_yes (by simp)] at hn
        rw [List.cons_append, Tk.starts_yes (by simp)]
        exact hn
theorem dots_ins {w x rest rest' : List UInt8} (h : Tk.Ins x rest rest') : ∀ (f e : Nat), e ≤ w.length → (w ++ rest).length - e ≤ f → Tk.dots f (w ++ rest) e = w.length → ∀ g, (w ++ rest').length - e ≤ g → Tk.dots g (w ++ rest') e = w.length
  | f, e, he, hf, hd, g, hg => by
    by_cases hc : (Tk.startsAt Tk.point (w ++ rest) e && Tk.startsAt Tk.small (w ++ rest) (e + 1)) = true
    · rw [Bool.and_eq_true] at hc
      obtain ⟨f', hff, _, hdd, hf'⟩ := Tk.dots_yes hf hc.1 hc.2
      · rw [hdd] at hd
        have hge := Tk.dots_ge f' (w ++ rest) (Tk.run Tk.inWord (w ++ rest) (e + 1))
        rw [hd] at hge
        have hlt : e + 1 < w.length := by
          rcases Nat.lt_or_ge (e + 1) w.length with h1 | h1
          · exact h1
          · exfalso
            have h2 := hc.2
            unfold Tk.startsAt at h2
            simp only [Bool.and_eq_true, decide_eq_true_eq] at h2
            have := Tk.run_gt h2.1 (Tk.inWord_small h2.2)
            omega
        have e1 := starts_two (p := Tk.point) (w := w) (r := rest) (r' := rest') (i := e) (by omega)
        have e2 := starts_two (p := Tk.small) (w := w) (r := rest) (r' := rest') (i := e + 1) hlt
        obtain ⟨g', rfl, _, hgo, hg'⟩ := Tk.dots_yes hg (e1 ▸ hc.1) (e2 ▸ hc.2)
        rw [hgo]
        have hri := run_ins (p := Tk.inWord) ⟨rfl, rfl, rfl⟩ h (w := w) (e := e + 1) (by omega) hge
        rw [hri] at hg' ⊢
        exact dots_ins h f' _ hge hf' hd g' hg'
    · have hc' : (Tk.startsAt Tk.point (w ++ rest) e && Tk.startsAt Tk.small (w ++ rest) (e + 1)) = false := by simpa using hc
      have hee : e = w.length := by
        cases f with
        | zero => exact hd
        | succ f => rw [Tk.dots, hc'] at hd; exact hd
      subst hee
      have hn := pair_ins (p := Tk.point) (q := Tk.small) ⟨rfl, rfl, rfl⟩ ⟨rfl, rfl, rfl⟩ h hc'
      cases g with
      | zero => rfl
      | succ g => rw [Tk.dots, hn]; rfl
termination_by f => f
end Go.Proofs.YtnkmefnbhfghgaaDoor
