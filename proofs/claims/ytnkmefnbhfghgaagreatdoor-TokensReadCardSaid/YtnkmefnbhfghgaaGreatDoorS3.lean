import Derived.Test.YtnkmefnbhfghgaaGreatDoorS2
set_option linter.unusedSimpArgs false
set_option linter.unusedVariables false
namespace Go.Proofs.YtnkmefnbhfghgaaGreatDoor
open Go.RowKit

theorem drop_next {α : Type} {l m : List α} {i : Nat} {c : α} (h : l.drop i = c :: m) : l.drop (i + 1) = m := by
  have := congrArg (List.drop 1) h
  rwa [List.drop_drop] at this
theorem drop_lt {α : Type} {l m : List α} {i : Nat} {c : α} (h : l.drop i = c :: m) : i < l.length := by
  have := congrArg List.length h
  rw [List.length_drop, List.length_cons] at this
  omega
theorem bt_at {l m : List UInt8} {i : Nat} {c : UInt8} (h : l.drop i = c :: m) : Tk.bt l i = (c.toNat : Int) := by
  have := bt_drop l i 0
  rw [Nat.add_zero, h] at this
  exact this
theorem ofNat_byte (c : UInt8) : UInt8.ofNat ((c.toNat : Int)).toNat = c := by simp
theorem inText_meant {c m : Int} (h : Tk.meantOk c m = true) (hm : Tk.inText m = true) : Tk.inText c = true := by
  unfold Tk.meantOk at h
  split at h
  · rename_i h1
    rw [Bool.or_eq_true, beq_iff_eq, beq_iff_eq] at h1
    rcases h1 with rfl | rfl
    · decide
    · exact hm
  · split at h
    · cases h
    · split at h
      · rename_i h3
        rw [beq_iff_eq] at h3
        subst h3; decide
      · rw [beq_iff_eq] at h
        subst h; decide
/-- What a string's or a name's bytes are read as. -/
theorem enc_list (kind : Int) (a : Nat) (m : UInt8) (q : UInt8 → List UInt8) (P : UInt8 → Prop)
    (hq : ∀ c, P c → (q c = [c] ∧ (c ≠ m ∧ c ≠ 92 ∧ Tk.shown (c.toNat : Int) = true)) ∨ (∃ d, q c = [92, d] ∧ Tk.meantOk (d.toNat : Int) (m.toNat : Int) = true ∧ UInt8.ofNat (Tk.meant (d.toNat : Int) (m.toNat : Int)).toNat = c))
    (hm : m ≠ 92) (hmi : Tk.inText (m.toNat : Int) = true) (l rest : List UInt8) : ∀ (t : List UInt8) (f i : Nat) (acc : List UInt8), (∀ c ∈ t, P c) → l.drop i = t.flatMap q ++ m :: rest → t.length < f → Tk.enc kind l a (m.toNat : Int) f i acc = .tok kind (acc ++ t) (i + (t.flatMap q).length + 1)
  | [], 0, i, acc, _, _, hf => by simp at hf
  | [], f + 1, i, acc, _, h, _ => by
    rw [List.flatMap_nil, List.nil_append] at h
    rw [Tk.enc, if_pos (drop_lt h), bt_at h, if_pos rfl]
    simp
  | c :: t, 0, i, acc, _, _, hf => by simp at hf
  | c :: t, f + 1, i, acc, hp, h, hf => by
    rw [List.flatMap_cons, List.append_assoc] at h
    have ht : ∀ c ∈ t, P c := fun x hx => hp x (by simp [hx])
    have hmm : ((92 : UInt8).toNat : Int) ≠ (m.toNat : Int) := fun e => hm (UInt8.toNat_inj.1 (by omega)).symm
    rcases hq c (hp c (by simp)) with ⟨e, h1, h2, h3⟩ | ⟨d, e, h1, h2⟩
    · rw [e, List.singleton_append] at h
      have hcm : ¬ (c.toNat : Int) = (m.toNat : Int) := fun e => h1 (UInt8.toNat_inj.1 (by omega))
      have hc92 : ¬ (c.toNat : Int) = 92 := fun e => h2 (UInt8.toNat_inj.1 (by have : (92 : UInt8).toNat = 92 := rfl; omega))
      have hin : Tk.inText (c.toNat : Int) = true := by unfold Tk.inText; rw [h3]; rfl
      rw [Tk.enc, if_pos (drop_lt h), bt_at h, if_neg hcm, if_pos hin, if_pos h3, if_neg hc92,
        enc_list kind a m q P hq hm hmi l rest t f (i + 1) _ ht (drop_next h) (by simp at hf; omega), ofNat_byte, List.flatMap_cons, e]
      simp; omega
    · rw [e, List.cons_append, List.singleton_append] at h
      have h' := drop_next h
      rw [Tk.enc, if_pos (drop_lt h), bt_at h, if_neg hmm, if_pos (by decide), if_pos (by decide), if_pos (by decide), if_pos (drop_lt h'), bt_at h', if_pos (inText_meant h1 hmi), if_pos h1, h2,
        enc_list kind a m q P hq hm hmi l rest t f (i + 2) _ ht (drop_next h') (by simp at hf; omega), List.flatMap_cons, e]
      simp; omega

theorem flat_ge {f : UInt8 → List UInt8} (hf : ∀ c, 1 ≤ (f c).length) : ∀ l : List UInt8, l.length ≤ (l.flatMap f).length
  | [] => by simp
  | c :: r => by
    have h1 := flat_ge hf r
    have h2 := hf c
    simp only [List.flatMap_cons, List.length_append, List.length_cons]
    omega
theorem quoteOne_ge (c : UInt8) : 1 ≤ (Tk.quoteOne c).length := by unfold Tk.quoteOne; split <;> simp
theorem escOne_ge (c : UInt8) : 1 ≤ (Tk.escOne c).length := by
  unfold Tk.escOne
  repeat' split
  all_goals simp
theorem rd_quoted {t rest : List UInt8} {adj : Bool} (hq : Tk.quotable t = true) : Tk.read ([39] ++ t.flatMap Tk.quoteOne ++ [39] ++ rest) 0 0 adj = .tok 1 t ([39] ++ t.flatMap Tk.quoteOne ++ [39]).length := by
  unfold Tk.quotable at hq
  rw [Bool.and_eq_true] at hq
  obtain ⟨he, hd⟩ := hq
  obtain ⟨L, hL⟩ : ∃ L, [39] ++ t.flatMap Tk.quoteOne ++ [39] ++ rest = L := ⟨_, rfl⟩
  have hb : Tk.bt L 0 = 39 := by rw [← hL]; rfl
  have hen : Tk.readEnclosed 1 L 0 = .tok 1 t ([39] ++ t.flatMap Tk.quoteOne ++ [39]).length := by
    unfold Tk.readEnclosed
    rw [hb]
    have := enc_list 1 0 39 Tk.quoteOne (fun c => Tk.shown (c.toNat : Int) = true) (fun c hc => by
      unfold Tk.quoteOne
      by_cases h : c = 92 ∨ c = 39
      · rw [if_pos h]
        refine .inr ⟨c, rfl, ?_⟩
        rcases h with rfl | rfl <;> exact ⟨rfl, rfl⟩
      · rw [if_neg h]
        exact .inl ⟨rfl, fun e => h (.inr e), fun e => h (.inl e), hc⟩) (by decide) (by decide) L rest t (L.length + 1) (0 + 1) [] (every_all he) (by rw [← hL]; simp) (by rw [← hL]; have := flat_ge quoteOne_ge t; simp only [List.length_append, List.length_singleton]; omega)
    rw [show ((39 : UInt8).toNat : Int) = 39 from rfl] at this
    rw [this]
    simp; omega
  have hp : Lib.hasPrefix (L.drop 0) [48, 39] = false := by rw [← hL]; exact not48 (by decide)
  rw [hL]
  unfold Tk.read
  rw [hb, hp, Tk.readName, hen]
  dsimp only
  have hbad : Tk.badName t = false := by
    unfold Tk.badName
    have h1 := every_pos he
    have h2 : t.isEmpty = false := by cases t with | nil => simp at h1 | cons => rfl
    rw [h2, Bool.false_or]
    simpa using hd
  rw [hbad]
  rfl
theorem rd_text {t rest : List UInt8} {adj : Bool} (ht : ∀ c ∈ t, Tk.inText (c.toNat : Int) = true) : Tk.read ([34] ++ Tk.esc t ++ [34] ++ rest) 0 0 adj = .tok 5 t ([34] ++ Tk.esc t ++ [34]).length := by
  obtain ⟨L, hL⟩ : ∃ L, [34] ++ Tk.esc t ++ [34] ++ rest = L := ⟨_, rfl⟩
  have hb : Tk.bt L 0 = 34 := by rw [← hL]; rfl
  have hen : Tk.readEnclosed 5 L 0 = .tok 5 t ([34] ++ Tk.esc t ++ [34]).length := by
    unfold Tk.readEnclosed
    rw [hb]
    have := enc_list 5 0 34 Tk.escOne (fun c => Tk.inText (c.toNat : Int) = true) (fun c hc => by
      unfold Tk.escOne
      by_cases h10 : c = 10
      · subst h10; exact .inr ⟨110, rfl, rfl, rfl⟩
      by_cases h9 : c = 9
      · subst h9; exact .inr ⟨116, rfl, rfl, rfl⟩
      rw [if_neg h10, if_neg h9]
      by_cases h : c = 92 ∨ c = 34
      · rw [if_pos h]
        refine .inr ⟨c, rfl, ?_⟩
        rcases h with rfl | rfl <;> exact ⟨rfl, rfl⟩
      · rw [if_neg h]
        refine .inl ⟨rfl, fun e => h (.inr e), fun e => h (.inl e), ?_⟩
        have := byte_fact (fun n => !(Tk.inText n) || Tk.shown n || n == 10 || n == 9) (by decide +kernel) c
        rw [hc] at this
        simp only [Bool.not_true, Bool.false_or, Bool.or_eq_true, beq_iff_eq] at this
        rcases this with (h | h) | h
        · exact h
        · exact absurd (UInt8.toNat_inj.1 (by have : (10 : UInt8).toNat = 10 := rfl; omega)) h10
        · exact absurd (UInt8.toNat_inj.1 (by have : (9 : UInt8).toNat = 9 := rfl; omega)) h9) (by decide) (by decide) L rest t (L.length + 1) (0 + 1) [] ht (by rw [← hL]; simp [Tk.esc]) (by rw [← hL]; have := flat_ge escOne_ge t; simp only [Tk.esc, List.length_append, List.length_singleton]; omega)
    rw [show ((34 : UInt8).toNat : Int) = 34 from rfl] at this
    rw [this]
    simp [Tk.esc]; omega
  have hp : Lib.hasPrefix (L.drop 0) [48, 39] = false := by rw [← hL]; exact not48 (by decide)
  rw [hL]
  unfold Tk.read
  rw [hb, hp, hen]
  rfl
theorem rd_char {c : UInt8} {rest : List UInt8} {adj : Bool} (hc : Tk.inText (c.toNat : Int) = true) : Tk.read (Tk.written 4 [c] false ++ rest) 0 0 adj = .tok 4 [c] (Tk.written 4 [c] false).length := by
  by_cases h34 : c = 34
  · subst h34; rfl
  have e34 : ([c] == [34]) = false := by simpa using h34
  have hw : Tk.written 4 [c] false = [48, 39] ++ Tk.escOne c := by
    unfold Tk.written
    rw [e34]
    simp [Tk.esc]
  rw [hw]
  unfold Tk.escOne
  by_cases h10 : c = 10
  · subst h10; rfl
  by_cases h9 : c = 9
  · subst h9; rfl
  rw [if_neg h10, if_neg h9]
  by_cases h92 : c = 92
  · subst h92; rfl
  rw [if_neg (fun h => h.elim h92 h34)]
  have hs : Tk.shown (c.toNat : Int) = true := by
    have := byte_fact (fun n => !(Tk.inText n) || Tk.shown n || n == 10 || n == 9) (by decide +kernel) c
    rw [hc] at this
    simp only [Bool.not_true, Bool.false_or, Bool.or_eq_true, beq_iff_eq] at this
    rcases this with (h | h) | h
    · exact h
    · exact absurd (UInt8.toNat_inj.1 (by have : (10 : UInt8).toNat = 10 := rfl; omega)) h10
    · exact absurd (UInt8.toNat_inj.1 (by have : (9 : UInt8).toNat = 9 := rfl; omega)) h9
  have hb : Tk.bt ([48, 39] ++ [c] ++ rest) (0 + 2) = (c.toNat : Int) := rfl
  have hbs : Tk.startsAt Tk.backslash ([48, 39] ++ [c] ++ rest) (0 + 2) = false := by
    rw [Tk.starts_yes (by simp), hb]
    have : ¬ (c.toNat : Int) = 92 := fun e => h92 (UInt8.toNat_inj.1 (by have : (92 : UInt8).toNat = 92 := rfl; omega))
    simpa [Tk.backslash] using this
  have hr : Tk.readChar ([48, 39] ++ [c] ++ rest) 0 = .tok 4 [c] 3 := by
    unfold Tk.readChar
    rw [hbs, if_neg (by decide), if_pos (by simp), hb, if_pos hc, if_pos hs, ofNat_byte]
  unfold Tk.read
  rw [hr]
  rfl

/-- What must stand behind a token. -/
structure Tk.Behind (k : Int) (t : List UInt8) (bare adj : Bool) (rest : List UInt8) : Prop where
  lead : bare = true → k = 1 ∧ Tk.bangPair t = true ∧ ∃ c r, rest = c :: r ∧ Tk.capital (c.toNat : Int) = true
  fol : bare = false → k ≠ 7 → Tk.Fol rest
  stop : k = 7 → ∃ r, rest = 10 :: r
  pair : bare = false → k = 1 → t ≠ [33, 46]
  args : k = 6 → t = [40, 40] → adj = true
  plain : k = 6 → t = [40] → adj = false
theorem check_form_of {k : Int} {t : List UInt8} (h : Tk.check k t = 0) : 0 ≤ k ∧ k ≤ 7 ∧ Tk.hasForm k t = true := by
  unfold Tk.check at h
  split at h
  · omega
  split at h
  · omega
  split at h
  · rename_i hf; exact ⟨by omega, by omega, hf⟩
  · omega
theorem rd_written {k : Int} {t rest : List UInt8} {bare adj : Bool} (hk : Tk.check k t = 0) (h0 : k ≠ 0) (hB : Tk.Behind k t bare adj rest) : Tk.read (Tk.written k t bare ++ rest) 0 0 adj = .tok k t (Tk.written k t bare).length := by
  obtain ⟨g1, g2, hf⟩ := check_form_of hk
  have hk8 : k = 1 ∨ k = 2 ∨ k = 3 ∨ k = 4 ∨ k = 5 ∨ k = 6 ∨ k = 7 := by omega
  cases hb : bare
  · rw [hb] at hB
    rcases hk8 with rfl | rfl | rfl | rfl | rfl | rfl | rfl
    · rw [show Tk.written 1 t false = Tk.name t from rfl]
      have hfol := hB.fol rfl (by decide)
      unfold Tk.name
      cases hba : Tk.bare t
      · rw [if_neg (by decide)]
        have hqu : Tk.quotable t = true := by
          rw [show Tk.hasForm 1 t = (Tk.bare t || Tk.bangPair t || Tk.quotable t) from rfl, hba, Bool.false_or] at hf
          cases hp : Tk.bangPair t
          · rw [hp] at hf; exact hf
          · simp only [Tk.bangPair, Bool.or_eq_true, beq_iff_eq] at hp
            rcases hp with rfl | rfl
            · exact absurd rfl (hB.pair rfl rfl)
            · rfl
        exact rd_quoted hqu
      · rw [if_pos rfl]
        unfold Tk.bare at hba
        split at hba
        · rename_i hbg
          simp only [Tk.bang, Bool.or_eq_true, beq_iff_eq] at hbg
          rcases hbg with rfl | rfl
          · exact rd_bang (.inl rfl) hfol
          · exact rd_bang (.inr rfl) hfol
        · split at hba
          · rename_i hev
            rw [Bool.and_eq_true] at hba
            exact rd_sign hev (by simpa using hba.1) hfol
          · exact rd_dotted hba hfol
    · rw [show Tk.written 2 t false = t from rfl]
      rw [show Tk.hasForm 2 t = (Tk.every Tk.inWord t && Tk.capital (Tk.bt t 0)) from rfl, Bool.and_eq_true] at hf
      exact rd_var hf.1 hf.2 ((hB.fol rfl (by decide)).stops _ rfl rfl rfl)
    · exact rd_int hf (hB.fol rfl (by decide))
    · rw [show Tk.hasForm 4 t = (t.length == 1 && Tk.inText (Tk.bt t 0)) from rfl, Bool.and_eq_true] at hf
      match t, hf with
      | [c], hf => exact rd_char hf.2
      | [], hf => exact absurd hf.1 (by decide)
      | _ :: _ :: _, hf => exact absurd hf.1 (by simp)
    · rw [show Tk.hasForm 5 t = (t.isEmpty || Tk.every Tk.inText t) from rfl] at hf
      refine rd_text ?_
      cases t with
      | nil => intro c hc; cases hc
      | cons c u => exact every_all hf
    · rw [show Tk.hasForm 6 t = (t == [40, 40] || (t.length == 1 && Tk.punct (Tk.bt t 0))) from rfl] at hf
      by_cases h44 : t = [40, 40]
      · subst h44
        rw [hB.args rfl rfl]
        exact rd_args
      · have e44 : (t == [40, 40]) = false := by simpa using h44
        rw [e44, Bool.false_or, Bool.and_eq_true] at hf
        match t, hf with
        | [c], hf =>
          have hw : Tk.written 6 [c] false = [c] := by simp [Tk.written, Tk.isArg]
          rw [hw]
          exact rd_punct hf.2 (fun e => hB.plain rfl (by rw [e]))
        | [], hf => exact absurd hf.1 (by decide)
        | _ :: _ :: _, hf => exact absurd hf.1 (by simp)
    · rw [show Tk.hasForm 7 t = (t == [46]) from rfl, beq_iff_eq] at hf
      subst hf
      obtain ⟨r, rfl⟩ := hB.stop rfl
      exact rd_stop
  · rw [hb] at hB
    obtain ⟨rfl, hp, c, r, rfl, hc⟩ := hB.lead rfl
    simp only [Tk.bangPair, Bool.or_eq_true, beq_iff_eq] at hp
    rcases hp with rfl | rfl
    · exact rd_pair (.inl rfl) hc
    · exact rd_pair (.inr rfl) hc
end Go.Proofs.YtnkmefnbhfghgaaGreatDoor
