import Derived.Test.YtnkmefnbhfghgaaDoorU2
set_option linter.unusedSimpArgs false
set_option linter.unusedVariables false
namespace Go.Proofs.YtnkmefnbhfghgaaDoor
open Go.RowKit

theorem Tk.Ins.ne {x rest rest' : List UInt8} (h : Tk.Ins x rest rest') : rest ≠ [] ∧ rest' ≠ [] := by
  obtain ⟨v, g, c, hv, rfl, rfl, hc⟩ := h.split
  constructor
  · intro e; exact hv (List.append_eq_nil_iff.1 e).2
  · intro e; cases (List.append_eq_nil_iff.1 e).2
theorem dottedEnd_ins {w x rest rest' : List UInt8} (h : Tk.Ins x rest rest') (hd : Tk.dottedEnd (w ++ rest) 0 = w.length) : Tk.dottedEnd (w ++ rest') 0 = w.length := by
  unfold Tk.dottedEnd at hd ⊢
  have h1 := Tk.dots_ge (w ++ rest).length (w ++ rest) (Tk.run Tk.inWord (w ++ rest) 0)
  rw [hd] at h1
  rw [run_ins ⟨rfl, rfl, rfl⟩ h (Nat.zero_le _) h1]
  exact dots_ins h (w ++ rest).length _ h1 (by omega) hd _ (by omega)
theorem enc_ins (kind : Int) (a : Nat) (m : Int) (w r r' : List UInt8) (k : Int) (t : List UInt8) : ∀ (f i : Nat) (acc : List UInt8), acc.length ≤ i → i ≤ w.length → Tk.enc kind (w ++ r) a m f i acc = .tok k t w.length → ∀ g, (w ++ r').length - i < g → Tk.enc kind (w ++ r') a m g i acc = .tok k t w.length
  | 0, i, acc, _, _, h, _, _ => by rw [Tk.enc] at h; cases h
  | f + 1, i, acc, ha, hi, h, 0, hg => by omega
  | f + 1, i, acc, ha, hi, h, g + 1, hg => by
    have hz := (Tk.enc_ok h ha).1
    rw [Tk.enc] at h
    have hll : (w ++ r').length = w.length + r'.length := List.length_append
    have hl0 : (w ++ r).length = w.length + r.length := List.length_append
    rw [if_pos (by omega), bt_two (r' := r') (by omega)] at h
    rw [Tk.enc, if_pos (by omega)]
    by_cases h1 : Tk.bt (w ++ r') i = m
    · rw [if_pos h1] at h ⊢; exact h
    · rw [if_neg h1] at h ⊢
      by_cases h2 : Tk.inText (Tk.bt (w ++ r') i) = true
      · rw [if_pos h2] at h ⊢
        by_cases h3 : Tk.shown (Tk.bt (w ++ r') i) = true
        · rw [if_pos h3] at h ⊢
          by_cases h4 : Tk.bt (w ++ r') i = 92
          · rw [if_pos h4] at h ⊢
            by_cases h5 : i + 1 < (w ++ r).length
            · rw [if_pos h5] at h
              by_cases h7 : Tk.inText (Tk.bt (w ++ r) (i + 1)) = true
              · rw [if_pos h7] at h
                by_cases h6 : Tk.meantOk (Tk.bt (w ++ r) (i + 1)) m = true
                · rw [if_pos h6] at h
                  have hz2 := (Tk.enc_ok h (by simp; omega)).1
                  have hb : Tk.bt (w ++ r) (i + 1) = Tk.bt (w ++ r') (i + 1) := bt_two (by omega)
                  rw [hb] at h h6 h7
                  rw [if_pos (by omega), if_pos h7, if_pos h6]
                  exact enc_ins kind a m w r r' k t f (i + 2) _ (by simp; omega) (by omega) h g (by omega)
                · rw [if_neg h6] at h; cases h
              · rw [if_neg h7] at h; cases h
            · rw [if_neg h5] at h
              have hz2 := (Tk.enc_ok h (by omega)).1
              omega
          · rw [if_neg h4] at h ⊢
            exact enc_ins kind a m w r r' k t f (i + 1) _ (by simp; omega) (by omega) h g (by omega)
        · rw [if_neg h3] at h; cases h
      · rw [if_neg h2] at h; cases h
theorem readEnclosed_ins {kind : Int} {w r r' : List UInt8} {k : Int} {t : List UInt8} (hw : 0 < w.length) (h : Tk.readEnclosed kind (w ++ r) 0 = .tok k t w.length) : Tk.readEnclosed kind (w ++ r') 0 = .tok k t w.length := by
  unfold Tk.readEnclosed at h ⊢
  rw [bt_two (r' := r') hw] at h
  exact enc_ins kind 0 _ w r r' k t _ (0 + 1) [] (by simp) hw h _ (by omega)
theorem prefix_ins {w x rest rest' : List UInt8} (hw : 0 < w.length) (h : Tk.Ins x rest rest') (hp : Lib.hasPrefix (w ++ rest) [48, 39] = false) : Lib.hasPrefix (w ++ rest') [48, 39] = false := by
  rw [← Bool.not_eq_true] at hp ⊢
  intro h1
  apply hp
  obtain ⟨u, hu⟩ := prefix_form h1
  obtain ⟨v, g, c, hv, rfl, rfl, hc⟩ := h.split
  match w, hw with
  | [a], _ =>
    cases x with
    | nil =>
      have : c = 39 := by
        have h2 : a :: c :: (g ++ v) = 48 :: 39 :: u := hu
        exact (List.cons.inj (List.cons.inj h2).2).1
      subst this
      exact absurd hc (by decide)
    | cons d y =>
      have h2 : a :: d :: (y ++ (c :: g ++ v)) = 48 :: 39 :: u := hu
      obtain ⟨e1, e2⟩ := List.cons.inj h2
      obtain ⟨e3, _⟩ := List.cons.inj e2
      rw [e1, e3]; rfl
  | a :: b :: w', _ =>
    have h2 : a :: b :: (w' ++ (x ++ (c :: g ++ v))) = 48 :: 39 :: u := hu
    obtain ⟨e1, e2⟩ := List.cons.inj h2
    obtain ⟨e3, _⟩ := List.cons.inj e2
    rw [e1, e3]; rfl
theorem readChar_ins {w r r' : List UInt8} {k : Int} {t : List UInt8} (h : Tk.readChar (w ++ r) 0 = .tok k t w.length) : Tk.readChar (w ++ r') 0 = .tok k t w.length := by
  have hl : ∀ r : List UInt8, (w ++ r).length = w.length + r.length := fun r => List.length_append
  unfold Tk.readChar at h
  split at h
  · rename_i h1
    split at h
    · split at h
      · split at h
        · have hz : w.length = 4 := by simp only [Tk.R.tok.injEq] at h; omega
          rename_i h2 h3 h4
          unfold Tk.readChar
          rw [starts_two (r' := r') (by omega)] at h1
          rw [bt_two (r' := r') (by omega)] at h3 h4 h
          rw [if_pos h1, if_pos (by rw [hl]; omega), if_pos h3, if_pos h4]
          exact h
        · cases h
      · cases h
    · cases h
  · rename_i h1
    split at h
    · split at h
      · split at h
        · have hz : w.length = 3 := by simp only [Tk.R.tok.injEq] at h; omega
          rename_i h2 h3 h4
          unfold Tk.readChar
          rw [starts_two (r' := r') (by omega)] at h1
          rw [bt_two (r' := r') (by omega)] at h3 h4 h
          rw [if_neg h1, if_pos (by rw [hl]; omega), if_pos h3, if_pos h4]
          exact h
        · cases h
      · cases h
    · cases h
theorem readSigns_ins {w x rest rest' : List UInt8} (h : Tk.Ins x rest rest') {k : Int} {t : List UInt8} (hr : Tk.readSigns (w ++ rest) 0 = .tok k t w.length) (hz : Tk.run Tk.sign (w ++ rest) 0 = w.length) : Tk.readSigns (w ++ rest') 0 = .tok k t w.length := by
  have hz' : Tk.run Tk.sign (w ++ rest') 0 = w.length := by rw [run_ins ⟨rfl, rfl, rfl⟩ h (Nat.zero_le _) (by omega), hz]
  unfold Tk.readSigns at hr ⊢
  dsimp only at hr ⊢
  rw [hz, sub_app, bt_app_end] at hr
  rw [hz', sub_app, bt_app_end]
  by_cases h46 : w = [46]
  · rw [if_pos h46] at hr ⊢
    have n1 : ¬ w.length = (w ++ rest).length := by
      rw [List.length_append]
      have := h.ne.1
      have : 0 < rest.length := List.length_pos_iff.2 this
      omega
    have n2 : ¬ w.length = (w ++ rest').length := by
      rw [List.length_append]
      have := h.ne.2
      have : 0 < rest'.length := List.length_pos_iff.2 this
      omega
    rw [if_neg n1] at hr
    rw [if_neg n2]
    obtain ⟨v, g, c, hv, rfl, rfl, hc⟩ := h.split
    cases x with
    | nil =>
      have hk : k = 7 ∧ t = w := by
        split at hr
        · simp only [Tk.R.tok.injEq] at hr; exact ⟨hr.1.symm, hr.2.1.symm⟩
        · split at hr
          · simp only [Tk.R.tok.injEq] at hr; exact ⟨hr.1.symm, hr.2.1.symm⟩
          · cases hr
      rw [show Tk.bt ([] ++ (c :: g ++ v)) 0 = (c.toNat : Int) from rfl, hc, if_pos rfl, hk.1, hk.2]
    | cons d y => exact hr
  · rw [if_neg h46] at hr ⊢; exact hr

theorem read_ins {w x rest rest' : List UInt8} {adj : Bool} {k : Int} {t : List UInt8} (hw : 0 < w.length) (h : Tk.Ins x rest rest') (hr : Tk.read (w ++ rest) 0 0 adj = .tok k t w.length) (hp : t = [33, 46] ∨ t = [33, 58] → x ≠ []) : Tk.read (w ++ rest') 0 0 adj = .tok k t w.length := by
  have hb : Tk.bt (w ++ rest) 0 = Tk.bt (w ++ rest') 0 := bt_two hw
  have hsub : ∀ r, Tk.sub (w ++ r) 0 w.length = w := fun r => sub_app w r
  unfold Tk.read at hr ⊢
  rw [hb, List.drop_zero] at hr
  rw [List.drop_zero]
  split at hr
  · rename_i c1
    rw [if_pos c1]
    simp only [Tk.R.tok.injEq] at hr
    have hd := dottedEnd_ins h hr.2.2
    rw [hr.2.2, hsub] at hr
    rw [hd, hsub, hr.1, hr.2.1]
  rename_i c1
  rw [if_neg c1]
  split at hr
  · rename_i c2
    rw [if_pos c2]
    simp only [Tk.R.tok.injEq] at hr
    have hz := hr.2.2
    have hd := run_ins (p := Tk.inWord) (w := w) (e := 0) ⟨rfl, rfl, rfl⟩ h (Nat.zero_le _) (by omega)
    rw [hz, hsub] at hr
    rw [hd, hz, hsub, hr.1, hr.2.1]
  rename_i c2
  rw [if_neg c2]
  split at hr
  · rename_i c3
    have hc := readChar_ins (r' := rest') hr
    have hl : 3 ≤ w.length := by
      unfold Tk.readChar at hr
      repeat' split at hr
      all_goals first | (simp only [Tk.R.tok.injEq] at hr; omega) | (cases hr; done)
    have : Lib.hasPrefix (w ++ rest') [48, 39] = true := by
      obtain ⟨u, hu⟩ := prefix_form c3
      match w, hl with
      | a :: b :: w', _ =>
        have h2 : a :: b :: (w' ++ rest) = 48 :: 39 :: u := hu
        obtain ⟨e1, e2⟩ := List.cons.inj h2
        obtain ⟨e3, _⟩ := List.cons.inj e2
        rw [e1, e3]; rfl
    rw [this, if_pos rfl]; exact hc
  rename_i c3
  rw [prefix_ins hw h (by simpa using c3), if_neg (by decide)]
  split at hr
  · rename_i c4
    rw [if_pos c4]
    simp only [Tk.R.tok.injEq] at hr
    have hz := hr.2.2
    have hd := run_ins (p := Tk.digit) (w := w) (e := 0) ⟨rfl, rfl, rfl⟩ h (Nat.zero_le _) (by omega)
    rw [hz, hsub] at hr
    rw [hd, hz, hsub, hr.1, hr.2.1]
  rename_i c4
  rw [if_neg c4]
  split at hr
  · rename_i c5
    rw [if_pos c5]
    refine readSigns_ins h hr ?_
    have := Tk.readSigns_ok hr (by rw [List.length_append]; omega) (by rw [hb]; exact c5)
    exact this.2.2.2.symm
  rename_i c5
  rw [if_neg c5]
  split at hr
  · rename_i c6
    rw [if_pos c6]
    simp only [Tk.R.tok.injEq, Nat.zero_add] at hr
    have hz := hr.2.2
    rw [hz, hsub] at hr
    rw [Nat.zero_add, hz, hsub, hr.1, hr.2.1]
  rename_i c6
  rw [if_neg c6]
  split at hr
  · rename_i c7
    rw [if_pos c7]
    simp only [Tk.R.tok.injEq] at hr
    have hbe : Tk.bangEnd (w ++ rest') 0 = w.length := by
      have h2 := hr.2.2
      have ht : t = w := by rw [h2, hsub] at hr; exact hr.2.1.symm
      unfold Tk.bangEnd at h2 ⊢
      split at h2
      · rename_i hm
        rw [Bool.and_eq_true] at hm
        match w, h2 with
        | [a, d], _ =>
          have ha : a = 33 := by
            simp only [beq_iff_eq] at c7
            rw [show Tk.bt ([a, d] ++ rest') 0 = (a.toNat : Int) from rfl] at c7
            exact UInt8.toNat_inj.1 (by have : (33 : UInt8).toNat = 33 := rfl; omega)
          subst ha
          have hd := hm.1
          rw [Tk.starts_yes (by simp), show Tk.bt ([33, d] ++ rest) (0 + 1) = (d.toNat : Int) from rfl] at hd
          have hdd : d = 46 ∨ d = 58 := by
            simp only [Tk.bangMark, Bool.or_eq_true, beq_iff_eq] at hd
            have e46 : (46 : UInt8).toNat = 46 := rfl
            have e58 : (58 : UInt8).toNat = 58 := rfl
            rcases hd with hd | hd
            · exact .inl (UInt8.toNat_inj.1 (by omega))
            · exact .inr (UInt8.toNat_inj.1 (by omega))
          have hx : x ≠ [] := hp (by rw [ht]; rcases hdd with rfl | rfl <;> simp)
          obtain ⟨v, g, c, hv, rfl, rfl, hc⟩ := h.split
          cases x with
          | nil => exact absurd rfl hx
          | cons b y =>
            have h3 := hm.2
            rw [Tk.starts_yes (by simp), show Tk.bt ([33, d] ++ (b :: y ++ v)) (0 + 2) = (b.toNat : Int) from rfl] at h3
            rw [Tk.starts_yes (by simp), Tk.starts_yes (by simp), show Tk.bt ([33, d] ++ (b :: y ++ (c :: g ++ v))) (0 + 2) = (b.toNat : Int) from rfl, show Tk.bt ([33, d] ++ (b :: y ++ (c :: g ++ v))) (0 + 1) = (d.toNat : Int) from rfl, hd, h3]
            rfl
      · rename_i hm
        have hw1 : w.length = 1 := by omega
        have := pair_ins (p := Tk.bangMark) (q := Tk.capital) ⟨rfl, rfl, rfl⟩ ⟨rfl, rfl, rfl⟩ (w := w) h (by rw [hw1]; simpa using hm)
        rw [hw1] at this
        rw [show (0 + 1 : Nat) = 1 from rfl, show (0 + 2 : Nat) = 1 + 1 from rfl, this, hw1]; rfl
    rw [hr.2.2, hsub] at hr
    rw [hbe, hsub, hr.1, hr.2.1]
  rename_i c7
  rw [if_neg c7]
  split at hr
  · rename_i c8
    rw [if_pos c8]
    unfold Tk.readName at hr ⊢
    cases he : Tk.readEnclosed 1 (w ++ rest) 0 with
    | fault p c => rw [he] at hr; cases hr
    | tok k' t' z' =>
      rw [he] at hr
      dsimp only at hr
      split at hr
      · cases hr
      · rename_i hbad
        simp only [Tk.R.tok.injEq] at hr
        obtain ⟨rfl, rfl, rfl⟩ := hr
        rw [readEnclosed_ins (r' := rest') hw he]
        dsimp only
        rw [if_neg hbad]
  rename_i c8
  rw [if_neg c8]
  split at hr
  · rename_i c9
    rw [if_pos c9]
    exact readEnclosed_ins hw hr
  rename_i c9
  rw [if_neg c9]
  split at hr
  · rename_i c10
    rw [if_pos c10]
    simp only [Tk.R.tok.injEq, Nat.zero_add] at hr
    have hpt : Tk.punctText (w ++ rest) 0 0 adj = Tk.punctText (w ++ rest') 0 0 adj := by
      unfold Tk.punctText Tk.isArgs
      rw [hb, Nat.zero_add, hr.2.2, hsub, hsub]
    rw [hpt] at hr
    rw [hr.1, hr.2.1, Nat.zero_add, hr.2.2]
  · cases hr
end Go.Proofs.YtnkmefnbhfghgaaDoor
