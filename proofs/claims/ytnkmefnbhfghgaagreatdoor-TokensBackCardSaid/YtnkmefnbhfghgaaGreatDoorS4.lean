import Derived.Test.YtnkmefnbhfghgaaGreatDoorS3
set_option linter.unusedSimpArgs false
set_option linter.unusedVariables false
namespace Go.Proofs.YtnkmefnbhfghgaaGreatDoor
open Go.RowKit

/-! What is written is read back. -/
theorem rd_none (adj : Bool) : Tk.read [] 0 0 adj = .fault 0 2 := rfl
theorem rd_blank (c : UInt8) (r : List UInt8) (adj : Bool) (h : c = 32 ∨ c = 9 ∨ c = 10 ∨ c = 37) : Tk.read (c :: r) 0 0 adj = .fault 0 2 := by
  rcases h with rfl | rfl | rfl | rfl <;> rfl
theorem prefix_form {l : List UInt8} {a b : UInt8} (h : Lib.hasPrefix l [a, b] = true) : ∃ r, l = a :: b :: r := by
  unfold Lib.hasPrefix at h
  obtain ⟨r, hr⟩ := List.isPrefixOf_iff_prefix.1 h
  exact ⟨r, hr.symm⟩
/-- A token that is read with a form of its own does not begin as a blank or a comment does. -/
structure Tk.Begins (L : List UInt8) : Prop where
  pos : 0 < L.length
  blank : Tk.blank (Tk.bt L 0) = false
  line : ¬ Tk.bt L 0 = 37
  com : Lib.hasPrefix L [47, 42] = false
theorem begins_written {k : Int} {t rest : List UInt8} {bare adj : Bool} (hk : Tk.check k t = 0) (h0 : k ≠ 0) (hB : Tk.Behind k t bare adj rest) : Tk.Begins (Tk.written k t bare ++ rest) := by
  have hr := rd_written hk h0 hB
  obtain ⟨w, hw⟩ : ∃ w, Tk.written k t bare = w := ⟨_, rfl⟩
  rw [hw] at hr ⊢
  obtain ⟨L, hL⟩ : ∃ L, w ++ rest = L := ⟨_, rfl⟩
  rw [hL] at hr ⊢
  cases L with
  | nil => rw [rd_none] at hr; cases hr
  | cons c r =>
    have hne : ¬ (c = 32 ∨ c = 9 ∨ c = 10 ∨ c = 37) := fun h => by rw [rd_blank c r adj h] at hr; cases hr
    refine ⟨by simp, ?_, fun e => hne ?_, ?_⟩
    · have := byte_fact (fun n => !(Tk.blank n) || n == 32 || n == 9 || n == 10) (by decide +kernel) c
      cases hb : Tk.blank (Tk.bt (c :: r) 0)
      · rfl
      · rw [show Tk.bt (c :: r) 0 = (c.toNat : Int) from rfl] at hb
        rw [hb] at this
        simp only [Bool.not_true, Bool.false_or, Bool.or_eq_true, beq_iff_eq] at this
        exfalso; apply hne
        have e32 : (32 : UInt8).toNat = 32 := rfl
        have e9 : (9 : UInt8).toNat = 9 := rfl
        have e10 : (10 : UInt8).toNat = 10 := rfl
        rcases this with (h | h) | h
        · exact .inl (UInt8.toNat_inj.1 (by omega))
        · exact .inr (.inl (UInt8.toNat_inj.1 (by omega)))
        · exact .inr (.inr (.inl (UInt8.toNat_inj.1 (by omega))))
    · have e37 : (37 : UInt8).toNat = 37 := rfl
      exact .inr (.inr (.inr (UInt8.toNat_inj.1 (by rw [show Tk.bt (c :: r) 0 = (c.toNat : Int) from rfl] at e; omega))))
    · rw [← Bool.not_eq_true]
      intro hp
      obtain ⟨u, hu⟩ := prefix_form hp
      rw [hu] at hr hL
      have hz : 2 ≤ Tk.run Tk.sign (47 :: 42 :: u) 0 := by
        rw [Tk.run_yes (by simp) rfl, Tk.run_yes (by simp) rfl]
        exact Tk.run_ge _ _ _
      have hs : Tk.read (47 :: 42 :: u) 0 0 adj = Tk.readSigns (47 :: 42 :: u) 0 := rfl
      obtain ⟨z, hzz⟩ : ∃ z, Tk.run Tk.sign (47 :: 42 :: u) 0 = z := ⟨_, rfl⟩
      rw [hzz] at hz
      obtain ⟨j, rfl⟩ : ∃ j, z = j + 2 := ⟨z - 2, by omega⟩
      have hsub : Tk.sub (47 :: 42 :: u) 0 (j + 2) = 47 :: 42 :: u.take j := rfl
      have hq : Tk.readSigns (47 :: 42 :: u) 0 = .tok 1 (47 :: 42 :: u.take j) (j + 2) := by
        unfold Tk.readSigns
        dsimp only
        rw [hzz, hsub, if_neg (by simp)]
      rw [hs, hq] at hr
      simp only [Tk.R.tok.injEq] at hr
      obtain ⟨rfl, rfl, hlen⟩ := hr
      have hwt : ∃ v, w = 47 :: v := by
        cases w with
        | nil => simp at hlen
        | cons d v =>
          rw [List.cons_append] at hL
          exact ⟨v, by rw [(List.cons.inj hL).1]⟩
      obtain ⟨v, rfl⟩ := hwt
      cases hb : bare
      · rw [hb] at hw
        have hw' : Tk.name (47 :: 42 :: u.take j) = 47 :: v := hw
        unfold Tk.name at hw'
        cases hba : Tk.bare (47 :: 42 :: u.take j)
        · rw [hba, if_neg (by decide)] at hw'
          exact absurd (List.cons.inj hw').1 (by decide)
        · unfold Tk.bare at hba
          rw [if_neg (by simp [Tk.bang])] at hba
          split at hba
          · have : Lib.hasPrefix (47 :: 42 :: u.take j) [47, 42] = true := rfl
            rw [this] at hba
            simp at hba
          · unfold Tk.dotted at hba
            rw [Tk.starts_yes (by simp)] at hba
            exact absurd hba (by rw [show Tk.small (Tk.bt (47 :: 42 :: u.take j) 0) = false from rfl]; simp)
      · rw [hb] at hB
        obtain ⟨_, hp2, _⟩ := hB.lead rfl
        simp [Tk.bangPair] at hp2

theorem skip_blanks (l m : List UInt8) (hm : m = [] ∨ Tk.Begins m) : ∀ (bl : List UInt8) (f k : Nat), (∀ c ∈ bl, Tk.blank (c.toNat : Int) = true) → l.drop k = bl ++ m → k ≤ l.length → bl.length < f → Tk.skip f l k = (k + bl.length, 0, 0)
  | [], 0, k, _, _, _, hf => by simp at hf
  | [], f + 1, k, _, h, hk, _ => by
    rw [List.nil_append] at h
    rw [Tk.skip]
    rcases hm with rfl | hm
    · have : ¬ k < l.length := by
        have := congrArg List.length h
        rw [List.length_drop] at this
        simp at this; omega
      rw [if_neg this]; rfl
    · have hlt : k < l.length := by
        have h1 := congrArg List.length h
        have h2 := hm.pos
        rw [List.length_drop] at h1; omega
      have hb : Tk.bt l k = Tk.bt m 0 := by
        have := bt_drop l k 0
        rwa [Nat.add_zero, h] at this
      rw [if_pos hlt, hb, hm.blank, h, hm.com, if_neg (by decide), if_neg hm.line, if_neg (by decide)]; rfl
  | c :: bl, 0, k, _, _, _, hf => by simp at hf
  | c :: bl, f + 1, k, hbl, h, hk, hf => by
    rw [List.cons_append] at h
    rw [Tk.skip, if_pos (drop_lt h), bt_at h, if_pos (hbl c (by simp)), skip_blanks l m hm bl f (k + 1) (fun x hx => hbl x (by simp [hx])) (drop_next h) (drop_lt h) (by simp at hf; omega)]
    simp; omega
end Go.Proofs.YtnkmefnbhfghgaaGreatDoor
