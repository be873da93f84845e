import Derived.Test.YtnkmefnbhfghgaaGreatDoorS1
set_option linter.unusedSimpArgs false
set_option linter.unusedVariables false
namespace Go.Proofs.YtnkmefnbhfghgaaGreatDoor
open Go.RowKit

/-! A token that is written, with what may stand behind it, is read as itself. -/
theorem byte_fact (P : Int → Bool) (h : ∀ n : Fin 256, P (n.val : Int) = true) (c : UInt8) : P (c.toNat : Int) = true :=
  h ⟨c.toNat, c.toNat_lt⟩
def Tk.Stops (p : Int → Bool) (rest : List UInt8) : Prop := rest = [] ∨ p (Tk.bt rest 0) = false
/-- What stands behind a token that is written: nothing, or a blank, a bracket, a line's end. -/
def Tk.Fol (rest : List UInt8) : Prop := rest = [] ∨ ∃ r, rest = 32 :: r ∨ rest = 40 :: r ∨ rest = 10 :: r
theorem Tk.Fol.stops {rest : List UInt8} (h : Tk.Fol rest) (p : Int → Bool) (h1 : p 32 = false) (h2 : p 40 = false) (h3 : p 10 = false) : Tk.Stops p rest := by
  rcases h with rfl | ⟨r, rfl | rfl | rfl⟩
  · exact .inl rfl
  · exact .inr h1
  · exact .inr h2
  · exact .inr h3
theorem takeWhile_app {α : Type} (p : α → Bool) (y : List α) (hy : y.takeWhile p = []) : ∀ x : List α, (x ++ y).takeWhile p = x.takeWhile p
  | [] => by simpa using hy
  | a :: x => by
    rw [List.cons_append, List.takeWhile_cons, List.takeWhile_cons, takeWhile_app p y hy x]
theorem Tk.Stops.take {p : Int → Bool} {rest : List UInt8} (h : Tk.Stops p rest) : (rest.takeWhile fun c => p (c.toNat : Int)) = [] := by
  rcases h with rfl | h
  · rfl
  · cases rest with
    | nil => rfl
    | cons c r =>
      have : p (c.toNat : Int) = false := h
      rw [List.takeWhile_cons, this]; rfl
theorem run_app {p : Int → Bool} {t rest : List UInt8} {e : Nat} (he : e ≤ t.length) (h : Tk.Stops p rest) : Tk.run p (t ++ rest) e = Tk.run p t e := by
  unfold Tk.run
  rw [List.drop_append_of_le_length he, takeWhile_app _ _ h.take]
theorem bt_app {t rest : List UInt8} {e : Nat} (he : e < t.length) : Tk.bt (t ++ rest) e = Tk.bt t e := by
  unfold Tk.bt
  rw [List.getD_eq_getElem?_getD, List.getD_eq_getElem?_getD, List.getElem?_append_left he]
theorem bt_app_end (t rest : List UInt8) : Tk.bt (t ++ rest) t.length = Tk.bt rest 0 := by
  rw [← Nat.add_zero t.length, bt_drop, List.drop_left']; rfl
theorem starts_app {p : Int → Bool} {t rest : List UInt8} {e : Nat} (he : e ≤ t.length) (h : Tk.Stops p rest) : Tk.startsAt p (t ++ rest) e = Tk.startsAt p t e := by
  by_cases hlt : e < t.length
  · rw [Tk.starts_yes hlt, Tk.starts_yes (by rw [List.length_append]; omega), bt_app hlt]
  · obtain rfl : e = t.length := by omega
    rw [Tk.starts_no hlt]
    rcases h with rfl | h
    · rw [Tk.starts_no (by simp)]
    · unfold Tk.startsAt
      rw [bt_app_end, h, Bool.and_false]
theorem dots_app {t rest : List UInt8} (h1 : Tk.Stops Tk.inWord rest) (h2 : Tk.Stops Tk.point rest) (h3 : Tk.Stops Tk.small rest) : ∀ (f e : Nat), e ≤ t.length → Tk.dots f (t ++ rest) e = Tk.dots f t e
  | 0, _, _ => rfl
  | f + 1, e, he => by
    rw [Tk.dots, Tk.dots, starts_app he h2]
    by_cases hp : Tk.startsAt Tk.point t e = true
    · have hlt : e < t.length := by
        unfold Tk.startsAt at hp
        simp only [Bool.and_eq_true, decide_eq_true_eq] at hp
        exact hp.1
      rw [starts_app hlt h3, run_app hlt h1]
      split
      · exact dots_app h1 h2 h3 f _ (Tk.run_le hlt)
      · rfl
    · rw [show Tk.startsAt Tk.point t e = false by simpa using hp]; rfl
theorem dottedEnd_app {t rest : List UInt8} (h : Tk.Fol rest) : Tk.dottedEnd (t ++ rest) 0 = Tk.dottedEnd t 0 := by
  have h1 := h.stops Tk.inWord rfl rfl rfl
  unfold Tk.dottedEnd
  rw [run_app (Nat.zero_le _) h1, dots_app h1 (h.stops Tk.point rfl rfl rfl) (h.stops Tk.small rfl rfl rfl) _ _ (Tk.run_le (Nat.zero_le _))]
  exact dots_fuel _ _ _ _ (by rw [List.length_append]; omega) (by omega)
theorem sub_app (t rest : List UInt8) : Tk.sub (t ++ rest) 0 t.length = t := by
  unfold Tk.sub; simp
theorem every_run {p : Int → Bool} {t : List UInt8} (h : Tk.every p t = true) : Tk.run p t 0 = t.length ∧ 0 < t.length := by
  unfold Tk.every at h
  rw [Bool.and_eq_true, beq_iff_eq] at h
  exact ⟨h.2, by cases t with | nil => simp at h | cons => simp⟩

theorem not48 {c : UInt8} {r : List UInt8} (h : c ≠ 48) : Lib.hasPrefix (c :: r) [48, 39] = false := by
  show ((48 : UInt8) == c && _) = false
  rw [show ((48 : UInt8) == c) = false from by simpa using fun e => h e.symm]; rfl

theorem rd_dotted {t rest : List UInt8} {adj : Bool} (hd : Tk.dotted t = true) (hf : Tk.Fol rest) : Tk.read (t ++ rest) 0 0 adj = .tok 1 t t.length := by
  unfold Tk.dotted at hd
  rw [Bool.and_eq_true, beq_iff_eq] at hd
  obtain ⟨h1, h2⟩ := hd
  unfold Tk.startsAt at h1
  simp only [Bool.and_eq_true, decide_eq_true_eq] at h1
  unfold Tk.read
  rw [bt_app h1.1, h1.2, if_pos rfl, dottedEnd_app hf, h2, sub_app]
theorem rd_var {t rest : List UInt8} {adj : Bool} (he : Tk.every Tk.inWord t = true) (hc : Tk.capital (Tk.bt t 0) = true) (hf : Tk.Stops Tk.inWord rest) : Tk.read (t ++ rest) 0 0 adj = .tok 2 t t.length := by
  obtain ⟨h1, h2⟩ := every_run he
  have hs : Tk.small (Tk.bt t 0) = false := by
    have := byte_fact (fun n => !(Tk.capital n) || !(Tk.small n)) (by decide +kernel) (t.getD 0 0)
    unfold Tk.bt at hc ⊢
    rw [hc] at this; simpa using this
  unfold Tk.read
  rw [bt_app h2, hs, hc, if_neg (by decide), if_pos rfl, run_app (Nat.zero_le _) hf, h1, sub_app]
theorem rd_sign {t rest : List UInt8} {adj : Bool} (he : Tk.every Tk.sign t = true) (h46 : (t == [46]) = false) (hf : Tk.Fol rest) : Tk.read (t ++ rest) 0 0 adj = .tok 1 t t.length := by
  obtain ⟨h1, h2⟩ := every_run he
  cases t with
  | nil => simp at h2
  | cons c u =>
    have hsg : Tk.sign (c.toNat : Int) = true := every_all he c (by simp)
    have := byte_fact (fun n => !(Tk.sign n) || (!(Tk.small n) && !(Tk.capital n) && !(Tk.digit n) && !(n == 48))) (by decide +kernel) c
    rw [hsg] at this
    simp only [Bool.not_true, Bool.false_or, Bool.and_eq_true, Bool.not_eq_true'] at this
    obtain ⟨⟨⟨g1, g2⟩, g3⟩, g4⟩ := this
    have g5 : c ≠ 48 := by rintro rfl; exact absurd g4 (by decide)
    unfold Tk.read
    rw [show Tk.bt (c :: u ++ rest) 0 = (c.toNat : Int) from rfl, g1, g2, List.drop_zero, List.cons_append, not48 g5, g3, hsg, if_neg (by decide), if_neg (by decide), if_neg (by decide), if_neg (by decide), if_pos rfl]
    unfold Tk.readSigns
    rw [← List.cons_append, run_app (Nat.zero_le _) (hf.stops Tk.sign rfl rfl rfl), h1]
    dsimp only
    rw [sub_app, if_neg (by simpa using h46)]
theorem rd_stop {r : List UInt8} {adj : Bool} : Tk.read ([46] ++ 10 :: r) 0 0 adj = .tok 7 [46] 1 := by
  unfold Tk.read Tk.readSigns
  rw [show Tk.run Tk.sign ([46] ++ 10 :: r) 0 = 1 from rfl, show Tk.sub ([46] ++ 10 :: r) 0 1 = [46] from rfl]
  rfl
theorem rd_bang {c : UInt8} {rest : List UInt8} {adj : Bool} (hc : c = 33 ∨ c = 59) (hf : Tk.Fol rest) : Tk.read ([c] ++ rest) 0 0 adj = .tok 1 [c] 1 := by
  rcases hc with rfl | rfl
  · have h2 := starts_app (t := [33]) (e := 1) (Nat.le_refl _) (hf.stops Tk.bangMark rfl rfl rfl)
    have he : Tk.bangEnd ([33] ++ rest) 0 = 1 := by
      unfold Tk.bangEnd
      rw [h2]; rfl
    unfold Tk.read
    rw [he]; rfl
  · rfl
theorem rd_pair {d c : UInt8} {r : List UInt8} {adj : Bool} (hd : d = 46 ∨ d = 58) (hc : Tk.capital (c.toNat : Int) = true) : Tk.read ([33, d] ++ c :: r) 0 0 adj = .tok 1 [33, d] 2 := by
  have he : Tk.bangEnd ([33, d] ++ c :: r) 0 = 2 := by
    unfold Tk.bangEnd
    rw [Tk.starts_yes (i := 0 + 1) (by simp), Tk.starts_yes (i := 0 + 2) (by simp), show Tk.bt ([33, d] ++ c :: r) (0 + 2) = (c.toNat : Int) from rfl, hc, show Tk.bt ([33, d] ++ c :: r) (0 + 1) = (d.toNat : Int) from rfl]
    rcases hd with rfl | rfl <;> rfl
  unfold Tk.read
  rw [he]
  rcases hd with rfl | rfl <;> rfl
theorem rd_int {t rest : List UInt8} {adj : Bool} (he : Tk.every Tk.digit t = true) (hf : Tk.Fol rest) : Tk.read (t ++ rest) 0 0 adj = .tok 3 t t.length := by
  obtain ⟨h1, h2⟩ := every_run he
  cases t with
  | nil => simp at h2
  | cons c u =>
    have hdg : Tk.digit (c.toNat : Int) = true := every_all he c (by simp)
    have := byte_fact (fun n => !(Tk.digit n) || (!(Tk.small n) && !(Tk.capital n))) (by decide +kernel) c
    rw [hdg] at this
    simp only [Bool.not_true, Bool.false_or, Bool.and_eq_true, Bool.not_eq_true'] at this
    have hp : Lib.hasPrefix (c :: u ++ rest) [48, 39] = false := by
      rw [← Bool.not_eq_true]
      intro h
      unfold Lib.hasPrefix at h
      obtain ⟨r', hr⟩ := List.isPrefixOf_iff_prefix.1 h
      cases u with
      | nil =>
        have : rest = 39 :: r' := by
          have h2 : (48 : UInt8) :: 39 :: r' = c :: rest := hr
          exact ((List.cons.inj h2).2).symm
        rcases hf with rfl | ⟨r, rfl | rfl | rfl⟩
        · cases this
        all_goals exact absurd (List.cons.inj this).1 (by decide)
      | cons d v =>
        have h2 : (48 : UInt8) :: 39 :: r' = c :: d :: (v ++ rest) := hr
        have hd : Tk.digit (d.toNat : Int) = true := every_all he d (by simp)
        rw [← (List.cons.inj (List.cons.inj h2).2).1] at hd
        exact absurd hd (by decide)
    unfold Tk.read
    rw [show Tk.bt (c :: u ++ rest) 0 = (c.toNat : Int) from rfl, this.1, this.2, List.drop_zero, hp, hdg, if_neg (by decide), if_neg (by decide), if_neg (by decide), if_pos rfl, run_app (Nat.zero_le _) (hf.stops Tk.digit rfl rfl rfl), h1, sub_app]
theorem rd_punct {c : UInt8} {rest : List UInt8} {adj : Bool} (hc : Tk.punct (c.toNat : Int) = true) (h40 : c = 40 → adj = false) : Tk.read ([c] ++ rest) 0 0 adj = .tok 6 [c] 1 := by
  have hx := byte_fact (fun n => !(Tk.punct n) || (n == 40 || n == 41 || n == 91 || n == 93 || n == 123 || n == 125 || n == 44 || n == 124)) (by decide +kernel) c
  rw [hc] at hx
  simp only [Bool.not_true, Bool.false_or, Bool.or_eq_true, beq_iff_eq] at hx
  have hy : c = 40 ∨ c = 41 ∨ c = 91 ∨ c = 93 ∨ c = 123 ∨ c = 125 ∨ c = 44 ∨ c = 124 := by
    simp only [← UInt8.toNat_inj]
    have : ∀ n : Nat, (OfNat.ofNat n : UInt8) = UInt8.ofNat n := fun _ => rfl
    simp only [UInt8.toNat_ofNat]
    omega
  rcases hy with rfl | rfl | rfl | rfl | rfl | rfl | rfl | rfl
  · rw [h40 rfl]; rfl
  all_goals (cases adj <;> rfl)
theorem rd_args {rest : List UInt8} : Tk.read ([40] ++ rest) 0 0 true = .tok 6 [40, 40] 1 := rfl
end Go.Proofs.YtnkmefnbhfghgaaGreatDoor
