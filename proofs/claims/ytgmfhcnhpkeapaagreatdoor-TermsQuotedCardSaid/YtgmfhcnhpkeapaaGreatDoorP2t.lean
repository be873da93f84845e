import Derived.Test.YtgmfhcnhpkeapaaGreatDoorP1t
set_option linter.unusedSimpArgs false
set_option linter.unusedVariables false
namespace Go.Proofs.YtgmfhcnhpkeapaaGreatDoor
open Go.RowKit

theorem Tk.long_eq (l : List UInt8) : Tk.rlong l = if Tk.dotted l then Tk.longPart (l.length + 1) l else decide (40 < l.length) := by
  rw [Tk.rlong, Tk.plain_small]
  cases Tk.dotted l
  · rfl
  · rw [if_pos rfl, if_pos rfl, rgo_long _ _ (Nat.lt_succ_self _)]
theorem Tk.part_eq (l : List UInt8) : Tk.part l = if decide (40 < l.length) then 6 else 0 := by
  unfold Tk.part; by_cases h : 40 < l.length <;> simp [h]
theorem Tk.nameCode_eq (l : List UInt8) : Tk.nameCode l = if Tk.rlong l then 6 else 0 := by
  rw [Tk.long_eq, Tk.nameCode, Tk.part_eq]
  cases Tk.dotted l <;> rfl

theorem great_over (M : Nat) : ∀ (l : List UInt8) (acc : Nat), 4611686018427387903 < acc → ∀ u, Lib.parseUintM M acc l = .ok u → 4611686018427387903 < u
  | [], acc, h, u, e => by rw [Lib.parseUintM] at e; cases e; exact h
  | c :: r, acc, h, u, e => by
    rw [Lib.parseUintM] at e
    split at e
    · split at e
      · cases e
      · split at e
        · cases e
        · exact great_over M r _ (by omega) u e
    · cases e
def Tk.over (e : Lib.NumEnd Nat) : Bool := match e with
  | .ok u => decide (4611686018427387903 < u)
  | _ => true
theorem great_eq : ∀ (l : List UInt8) (acc : Nat), acc ≤ 4611686018427387903 → Tk.allB Tk.digit l = true → Tk.ggo acc l = Tk.over (Lib.parseUintM 18446744073709551615 acc l)
  | [], acc, h, _ => by
    rw [Tk.ggo, Lib.parseUintM, Tk.over]; symm; simp; exact h
  | c :: r, acc, h, hd => by
    unfold Tk.allB at hd
    rw [List.all_cons, Bool.and_eq_true] at hd
    have hc := hd.1
    simp only [Tk.digit, Bool.and_eq_true, decide_eq_true_eq] at hc
    rw [Tk.ggo, Lib.parseUintM, if_pos (show 48 ≤ c.toNat ∧ c.toNat ≤ 57 by omega)]
    obtain ⟨d, hdd⟩ : ∃ d, c.toNat - 48 = d := ⟨_, rfl⟩
    rw [hdd]
    have hd9 : d ≤ 9 := by omega
    by_cases hg : (4611686018427387903 - d) / 10 < acc
    · rw [if_pos hg]
      split
      · rfl
      · split
        · rfl
        · cases hp : Lib.parseUintM 18446744073709551615 (acc * 10 + d) r with
          | ok u =>
            have := great_over _ r _ (by omega) u hp
            rw [Tk.over]; symm; simpa using this
          | _ => rfl
    · rw [if_neg hg, if_neg (show ¬ 1844674407370955162 ≤ acc by omega), if_neg (show ¬ 18446744073709551615 < acc * 10 + d by omega), great_eq r _ (by omega) hd.2, Nat.mul_comm]
theorem Tk.digits_eq (l : List UInt8) (h : Tk.rintOk l = true) : Tk.digits l = if Tk.ggo 0 l then 5 else 0 := by
  unfold Tk.rintOk at h
  rw [Bool.and_eq_true] at h
  rw [great_eq l 0 (by omega) h.2]
  unfold Tk.digits Lib.parseUintB
  rw [if_neg (by intro e; rw [e] at h; simp at h)]
  rw [show (2 ^ 64 - 1 : Nat) = 18446744073709551615 from rfl]
  cases Lib.parseUintM 18446744073709551615 0 l with
  | ok u => rw [Tk.over]; by_cases hu : 4611686018427387903 < u <;> simp [hu]
  | _ => rfl

theorem hasB_index (l : List UInt8) (c : UInt8) : Tk.hasB l (c.toNat : Int) = decide (0 ≤ Lib.indexByte l c) := by
  induction l with
  | nil => rfl
  | cons b r ih =>
    have hge := Lib.indexByte_ge r c
    have hb : ((b.toNat : Int) == (c.toNat : Int)) = (b == c) := by
      rw [Bool.eq_iff_iff, beq_iff_eq, beq_iff_eq, ← UInt8.toNat_inj]; omega
    unfold Tk.hasB at ih ⊢
    rw [List.any_cons, ih, hb, Lib.indexByte]
    cases hc : (b == c)
    · simp only [Bool.false_or, Bool.false_eq_true, if_false]
      by_cases e : Lib.indexByte r c = -1
      · rw [if_pos (by simpa using e), e]
      · rw [if_neg (by simpa using e)]; congr 1; apply propext; constructor <;> intro h <;> omega
    · rfl
theorem rall_true (l : List UInt8) : Tk.rall true l = Tk.allB Tk.inText l := by
  unfold Tk.rall Tk.allB Tk.rok
  congr 1; funext c; simp
theorem rok_false (c : UInt8) : Tk.rok false (c.toNat : Int) = Tk.shown (c.toNat : Int) :=
  eq_of_beq (byte_all (fun n => Tk.rok false n == Tk.shown n) (by decide +kernel) c)
theorem rall_false (l : List UInt8) : Tk.rall false l = Tk.allB Tk.shown l := by
  unfold Tk.rall Tk.allB
  congr 1; funext c; exact rok_false c
/-- Names that are written bare have bytes that are shown. -/
theorem allB_mono {p q : Int → Bool} (h : ∀ c : UInt8, p (c.toNat : Int) = true → q (c.toNat : Int) = true) {l : List UInt8} (hl : Tk.allB p l = true) : Tk.allB q l = true := by
  unfold Tk.allB at hl ⊢
  rw [List.all_eq_true] at hl ⊢
  exact fun c hc => h c (hl c hc)
theorem run_shown_pre {p : Int → Bool} (h : ∀ c : UInt8, p (c.toNat : Int) = true → Tk.shown (c.toNat : Int) = true) (l : List UInt8) (i : Nat) (hi : i ≤ l.length) (hl : Tk.allB Tk.shown (l.take i) = true) : Tk.allB Tk.shown (l.take (Tk.run p l i)) = true := by
  have hr : l.take (Tk.run p l i) = l.take i ++ (l.drop i).takeWhile fun c => p (c.toNat : Int) := by
    unfold Tk.run
    rw [List.take_add]
    congr 1
    exact List.prefix_iff_eq_take.1 (List.takeWhile_prefix _) |>.symm
  rw [hr]
  unfold Tk.allB at hl ⊢
  rw [List.all_append, hl, Bool.true_and, List.all_eq_true]
  intro c hc
  have ha : ((l.drop i).takeWhile fun c => p (c.toNat : Int)).all (fun c => p (c.toNat : Int)) = true := List.all_takeWhile
  exact h c (List.all_eq_true.1 ha c hc)
theorem inWord_shown (c : UInt8) (h : Tk.inWord (c.toNat : Int) = true) : Tk.shown (c.toNat : Int) = true := by
  have := byte_all (fun n => !(Tk.inWord n) || Tk.shown n) (by decide +kernel) c
  simp only [h, Bool.not_true, Bool.false_or] at this
  exact this
theorem sign_shown (c : UInt8) (h : Tk.sign (c.toNat : Int) = true) : Tk.shown (c.toNat : Int) = true := by
  have := byte_all (fun n => !(Tk.sign n) || Tk.shown n) (by decide +kernel) c
  simp only [h, Bool.not_true, Bool.false_or] at this
  exact this
theorem dots_shown : ∀ (f : Nat) (l : List UInt8) (e : Nat), e ≤ l.length → Tk.allB Tk.shown (l.take e) = true → Tk.allB Tk.shown (l.take (Tk.dots f l e)) = true
  | 0, _, _, _, h => h
  | f + 1, l, e, he, h => by
    rw [Tk.dots]
    split
    · rename_i hc
      simp only [Bool.and_eq_true, Tk.startsAt, decide_eq_true_eq] at hc
      refine dots_shown f l _ (Tk.run_le (by omega)) (run_shown_pre inWord_shown l _ (by omega) ?_)
      have h1 := hc.1.2
      unfold Tk.bt at h1
      rw [getD_at hc.1.1] at h1
      unfold Tk.allB at h ⊢
      rw [List.take_succ_eq_append_getElem hc.1.1, List.all_append, h, Bool.true_and]
      simp only [Tk.point, beq_iff_eq] at h1
      simp only [List.all_cons, List.all_nil, Bool.and_true, Tk.shown, Bool.and_eq_true, decide_eq_true_eq]
      omega
    · exact h
theorem dotted_shown (l : List UInt8) (h : Tk.dotted l = true) : Tk.allB Tk.shown l = true := by
  unfold Tk.dotted at h
  rw [Bool.and_eq_true, beq_iff_eq] at h
  have := dots_shown l.length l _ (Tk.run_le (k := 0) (p := Tk.inWord) (Nat.zero_le _)) (run_shown_pre inWord_shown l 0 (by omega) rfl)
  rw [← Tk.dottedEnd, h.2, List.take_length] at this
  exact this
theorem bare_shown (l : List UInt8) (h : Tk.bare l = true) : Tk.allB Tk.shown l = true ∧ (l == []) = false := by
  unfold Tk.bare at h
  split at h
  · rename_i hb
    simp only [Tk.bang, Bool.or_eq_true, beq_iff_eq] at hb
    rcases hb with rfl | rfl <;> exact ⟨by decide, rfl⟩
  · split at h
    · rename_i he
      rw [Tk.every_eq, Bool.and_eq_true] at he
      exact ⟨allB_mono sign_shown he.2, by simpa using he.1⟩
    · refine ⟨dotted_shown l h, ?_⟩
      cases l with
      | nil => exact absurd h (by decide)
      | cons => rfl
theorem Tk.form1 (l : List UInt8) : Tk.hasForm 1 l = Tk.rnameOk l := by
  rw [show Tk.hasForm 1 l = (Tk.bare l || Tk.bangPair l || Tk.quotable l) from rfl, Tk.rnameOk, rall_false, Tk.plain_eq, Tk.quotable, Tk.every_eq, show (46 : Int) = ((46 : UInt8).toNat : Int) from rfl, hasB_index]
  cases hb : Tk.bare l
  · rw [Bool.false_or, Bool.false_or, Tk.bangPair]
    by_cases h1 : l = [33, 46]
    · subst h1; rfl
    · have e1 : (l == [33, 46]) = false := by simpa using h1
      rw [e1, Bool.false_or, Bool.false_or]
      by_cases h2 : l = [33, 58]
      · subst h2; rfl
      · have e2 : (l == [33, 58]) = false := by simpa using h2
        rw [e2, Bool.false_or]
  · obtain ⟨h1, h2⟩ := bare_shown l hb
    rw [h1, h2]; rfl
theorem Tk.form2 (l : List UInt8) : Tk.hasForm 2 l = Tk.rvarOk l := by
  rw [show Tk.hasForm 2 l = (Tk.every Tk.inWord l && Tk.capital (Tk.bt l 0)) from rfl, Tk.rvarOk, Tk.every_eq]
  cases (l == []) <;> cases Tk.capital (Tk.bt l 0) <;> cases Tk.allB Tk.inWord l <;> rfl
theorem Tk.form3 (l : List UInt8) : Tk.hasForm 3 l = Tk.rintOk l := by
  rw [show Tk.hasForm 3 l = Tk.every Tk.digit l from rfl, Tk.rintOk, Tk.every_eq]
theorem Tk.form4 (l : List UInt8) : Tk.hasForm 4 l = (l.length == 1 && Tk.rall true l) := by
  rw [show Tk.hasForm 4 l = (l.length == 1 && Tk.inText (Tk.bt l 0)) from rfl, rall_true]
  match l with
  | [] => rfl
  | [c] => show (true && Tk.inText (c.toNat : Int)) = (true && (Tk.inText (c.toNat : Int) && true)); simp
  | c :: d :: t => rfl
theorem Tk.form5 (l : List UInt8) : Tk.hasForm 5 l = Tk.rall true l := by
  rw [show Tk.hasForm 5 l = (l.isEmpty || Tk.every Tk.inText l) from rfl, rall_true, Tk.every_eq]
  cases l <;> rfl
theorem Tk.form6 (l : List UInt8) : Tk.hasForm 6 l = Tk.rpunct l := by
  rw [show Tk.hasForm 6 l = (l == [40, 40] || (l.length == 1 && Tk.punct (Tk.bt l 0))) from rfl, Tk.rpunct]
  match l with
  | [] => rfl
  | [c] => rw [Tk.bt_zero, Tk.punct_eq]
  | c :: d :: t => rfl
theorem Tk.form7 (l : List UInt8) : Tk.hasForm 7 l = (l == [46]) := by
  rw [show Tk.hasForm 7 l = (l == [46]) from rfl]
theorem Tk.form0 (l : List UInt8) : Tk.hasForm 0 l = (l == []) := by
  rw [show Tk.hasForm 0 l = l.isEmpty from rfl]
  cases l <;> rfl

set_option maxRecDepth 100000 in
/-- The reference's check says what the program's says. -/
theorem rcheck_any (k : Int) (s : ByteArray) (a : Int) (w : World) (hs : s.size ≤ 4611686018427387904) :
    Calls Tryz.prog 116 #[.agg #[.int .i64 k, .string s, .int .i64 a]] w fun e w' => e = .returned (.int .i64 (Tk.check k s.data.toList)) ∧ Below w.heap.size w w' := by
  by_cases h0 : k < 0
  · rw [Tk.check, if_pos h0]; exact rcheck_kind k s a w (.inl h0)
  · by_cases h7 : 7 < k
    · rw [Tk.check, if_neg h0, if_pos h7]; exact rcheck_kind k s a w (.inr h7)
    · have hk : k = 0 ∨ k = 1 ∨ k = 2 ∨ k = 3 ∨ k = 4 ∨ k = 5 ∨ k = 6 ∨ k = 7 := by omega
      rcases hk with rfl | rfl | rfl | rfl | rfl | rfl | rfl | rfl
      · rw [show Tk.check 0 s.data.toList = if Tk.hasForm 0 s.data.toList then 0 else 2 from rfl, Tk.form0]; exact rcheck_end s a w
      · rw [show Tk.check 1 s.data.toList = if Tk.hasForm 1 s.data.toList then Tk.nameCode s.data.toList else 2 from rfl, Tk.form1, Tk.nameCode_eq]; exact rcheck_name s a w hs
      · rw [show Tk.check 2 s.data.toList = if Tk.hasForm 2 s.data.toList then Tk.part s.data.toList else 2 from rfl, Tk.form2, Tk.part_eq]
        have h := rcheck_var s a w hs
        unfold Tk.rvar at h
        rw [Tk.long_eq] at h
        cases hv : Tk.rvarOk s.data.toList
        · rw [hv] at h; exact h
        · have hd : Tk.dotted s.data.toList = false := by
            unfold Tk.rvarOk at hv
            simp only [Bool.and_eq_true] at hv
            have := byte_all (fun n => !(Tk.capital n && Tk.small n)) (by decide +kernel) (s.data.toList.getD 0 0)
            have h2 : Tk.small (Tk.bt s.data.toList 0) = false := by
              have h3 := hv.1.2
              unfold Tk.bt at h3 ⊢
              rw [h3] at this; simpa using this
            unfold Tk.dotted Tk.startsAt
            rw [h2, Bool.and_false]; rfl
          rw [hv, hd] at h; exact h
      · rw [show Tk.check 3 s.data.toList = if Tk.hasForm 3 s.data.toList then Tk.digits s.data.toList else 2 from rfl, Tk.form3]
        have h := rcheck_int s a w hs
        unfold Tk.rint at h
        cases hv : Tk.rintOk s.data.toList
        · rw [hv] at h; exact h
        · rw [hv] at h; rw [Tk.digits_eq _ hv]; exact h
      · rw [show Tk.check 4 s.data.toList = if Tk.hasForm 4 s.data.toList then 0 else 2 from rfl, Tk.form4]; exact rcheck_char s a w hs
      · rw [show Tk.check 5 s.data.toList = if Tk.hasForm 5 s.data.toList then 0 else 2 from rfl, Tk.form5]; exact rcheck_text s a w hs
      · rw [show Tk.check 6 s.data.toList = if Tk.hasForm 6 s.data.toList then 0 else 2 from rfl, Tk.form6]; exact rcheck_punct s a w hs
      · rw [show Tk.check 7 s.data.toList = if Tk.hasForm 7 s.data.toList then 0 else 2 from rfl, Tk.form7]; exact rcheck_stop s a w
end Go.Proofs.YtgmfhcnhpkeapaaGreatDoor
