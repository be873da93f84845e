import Derived.Test.YtaefonagbcnmdaaGreatDoorA21
set_option linter.unusedSimpArgs false
set_option linter.unusedVariables false
namespace Go.Proofs.YtaefonagbcnmdaaGreatDoor
open Go.RowKit

theorem Tk.run_gt {p : Int → Bool} {l : List UInt8} {a : Nat} (h : a < l.length) (hp : p (Tk.bt l a) = true) : a < Tk.run p l a := by
  rw [Tk.run_yes h hp]
  have := Tk.run_ge p l (a + 1)
  omega
theorem Tk.sub_len (l : List UInt8) (a z : Nat) : (Tk.sub l a z).length ≤ z - a := by
  unfold Tk.sub
  rw [List.length_take]
  exact Nat.min_le_left _ _
theorem Tk.readChar_ok {l : List UInt8} {a : Nat} {k : Int} {t : List UInt8} {z : Nat} (h : Tk.readChar l a = .tok k t z) : a < z ∧ z ≤ l.length ∧ t.length = 1 ∧ k = 4 := by
  unfold Tk.readChar at h
  split at h
  · split at h
    · split at h
      · split at h
        · simp only [Tk.R.tok.injEq] at h
          obtain ⟨rfl, rfl, rfl⟩ := h
          exact ⟨by omega, by omega, rfl, rfl⟩
        · cases h
      · cases h
    · cases h
  · split at h
    · split at h
      · split at h
        · simp only [Tk.R.tok.injEq] at h
          obtain ⟨rfl, rfl, rfl⟩ := h
          exact ⟨by omega, by omega, rfl, rfl⟩
        · cases h
      · cases h
    · cases h
theorem Tk.readChar_bad {l : List UInt8} {a : Nat} {p : Nat} {c : Int} (h : Tk.readChar l a = .fault p c) : c = 12 ∨ c = 11 ∨ c = 2 := by
  unfold Tk.readChar at h
  split at h <;> (repeat' (split at h)) <;> simp only [Tk.R.fault.injEq, reduceCtorEq] at h <;> omega
theorem Tk.readSigns_ok {l : List UInt8} {a : Nat} {k : Int} {t : List UInt8} {z : Nat} (h : Tk.readSigns l a = .tok k t z) (ha : a < l.length) (hs : Tk.sign (Tk.bt l a) = true) :
    a < z ∧ z ≤ l.length ∧ t = Tk.sub l a z ∧ z = Tk.run Tk.sign l a := by
  have h1 := Tk.run_gt ha hs
  have h2 := Tk.run_le (p := Tk.sign) (Nat.le_of_lt ha)
  simp only [Tk.readSigns] at h
  split at h
  · split at h
    · simp only [Tk.R.tok.injEq] at h
      obtain ⟨rfl, rfl, rfl⟩ := h
      exact ⟨h1, h2, rfl, rfl⟩
    · split at h
      · simp only [Tk.R.tok.injEq] at h
        obtain ⟨rfl, rfl, rfl⟩ := h
        exact ⟨h1, h2, rfl, rfl⟩
      · split at h
        · simp only [Tk.R.tok.injEq] at h
          obtain ⟨rfl, rfl, rfl⟩ := h
          exact ⟨h1, h2, rfl, rfl⟩
        · cases h
  · simp only [Tk.R.tok.injEq] at h
    obtain ⟨rfl, rfl, rfl⟩ := h
    exact ⟨h1, h2, rfl, rfl⟩
theorem Tk.readSigns_bad {l : List UInt8} {a : Nat} {p : Nat} {c : Int} (h : Tk.readSigns l a = .fault p c) : c = 12 ∨ c = 11 ∨ c = 2 := by
  simp only [Tk.readSigns] at h
  split at h <;> (repeat' (split at h)) <;> simp only [Tk.R.fault.injEq, reduceCtorEq] at h <;> omega
theorem Tk.enc_ok {kind : Int} {l : List UInt8} {a : Nat} {m : Int} {k : Int} {t : List UInt8} {z : Nat} : ∀ {f i : Nat} {acc : List UInt8}, Tk.enc kind l a m f i acc = .tok k t z → acc.length ≤ i → i < z ∧ z ≤ l.length ∧ t.length ≤ z ∧ k = kind
  | 0, i, acc, h, _ => by simp [Tk.enc] at h
  | f + 1, i, acc, h, hi => by
    rw [Tk.enc] at h
    split at h
    · split at h
      · simp only [Tk.R.tok.injEq] at h
        obtain ⟨rfl, rfl, rfl⟩ := h
        exact ⟨by omega, by omega, by omega, rfl⟩
      · split at h
        · split at h
          · split at h
            · split at h
              · split at h
                · split at h
                  · have := Tk.enc_ok h (by simp; omega); omega
                  · cases h
                · cases h
              · have := Tk.enc_ok h (by omega); omega
            · have := Tk.enc_ok h (by simp; omega); omega
          · cases h
        · cases h
    · cases h
theorem Tk.readName_ok {l : List UInt8} {a : Nat} {k : Int} {t : List UInt8} {z : Nat} (h : Tk.readName l a = .tok k t z) : Tk.readEnclosed 1 l a = .tok k t z ∧ Tk.badName t = false := by
  unfold Tk.readName at h
  cases he : Tk.readEnclosed 1 l a with
  | tok k' t' z' =>
    rw [he] at h
    dsimp only at h
    cases hb : Tk.badName t' with
    | true => rw [hb, if_pos rfl] at h; cases h
    | false =>
      rw [hb, if_neg (by decide)] at h
      simp only [Tk.R.tok.injEq] at h
      obtain ⟨rfl, rfl, rfl⟩ := h
      exact ⟨rfl, hb⟩
  | fault p c => rw [he] at h; cases h
theorem Tk.readName_bad {l : List UInt8} {a : Nat} {p : Nat} {c : Int} (h : Tk.readName l a = .fault p c) : c = 12 ∨ c = 11 ∨ c = 2 := by
  unfold Tk.readName at h
  cases he : Tk.readEnclosed 1 l a with
  | tok k' t' z' =>
    rw [he] at h
    dsimp only at h
    split at h
    · simp only [Tk.R.fault.injEq] at h; omega
    · cases h
  | fault p' c' =>
    rw [he] at h
    simp only [Tk.R.fault.injEq] at h
    obtain ⟨rfl, rfl⟩ := h
    exact Tk.enc_code he
theorem Tk.inWord_small {c : Int} (h : Tk.small c = true) : Tk.inWord c = true := by simp [Tk.inWord, h]
theorem Tk.inWord_capital {c : Int} (h : Tk.capital c = true) : Tk.inWord c = true := by simp [Tk.inWord, h]

theorem Tk.read_ok {l : List UInt8} {a en : Nat} {b : Bool} {k : Int} {t : List UInt8} {z : Nat} (hl : l.length ≤ 65536) (ha : a < l.length) (h : Tk.read l a en b = .tok k t z) : a < z ∧ z ≤ l.length ∧ t.length ≤ 65536 := by
  have hsub : ∀ z', (Tk.sub l a z').length ≤ z' := fun z' => Nat.le_trans (Tk.sub_len l a z') (Nat.sub_le _ _)
  unfold Tk.read at h
  split at h
  · rename_i hc
    simp only [Tk.R.tok.injEq] at h
    obtain ⟨rfl, rfl, rfl⟩ := h
    have h1 := Tk.dottedEnd_le (l := l) (i := a) (Nat.le_of_lt ha)
    have h2 : a < Tk.dottedEnd l a := Nat.lt_of_lt_of_le (Tk.run_gt ha (Tk.inWord_small hc)) (Tk.dots_ge _ _ _)
    exact ⟨h2, h1, Nat.le_trans (hsub _) (by omega)⟩
  split at h
  · rename_i hc
    simp only [Tk.R.tok.injEq] at h
    obtain ⟨rfl, rfl, rfl⟩ := h
    have h1 := Tk.run_le (p := Tk.inWord) (Nat.le_of_lt ha)
    exact ⟨Tk.run_gt ha (Tk.inWord_capital hc), h1, Nat.le_trans (hsub _) (by omega)⟩
  split at h
  · have := Tk.readChar_ok h
    omega
  split at h
  · rename_i hc
    simp only [Tk.R.tok.injEq] at h
    obtain ⟨rfl, rfl, rfl⟩ := h
    have h1 := Tk.run_le (p := Tk.digit) (Nat.le_of_lt ha)
    exact ⟨Tk.run_gt ha hc, h1, Nat.le_trans (hsub _) (by omega)⟩
  split at h
  · rename_i hc
    obtain ⟨h1, h2, rfl, _⟩ := Tk.readSigns_ok h ha hc
    exact ⟨h1, h2, Nat.le_trans (hsub _) (by omega)⟩
  split at h
  · simp only [Tk.R.tok.injEq] at h
    obtain ⟨rfl, rfl, rfl⟩ := h
    exact ⟨by omega, by omega, Nat.le_trans (hsub _) (by omega)⟩
  split at h
  · simp only [Tk.R.tok.injEq] at h
    obtain ⟨rfl, rfl, rfl⟩ := h
    have h1 := Tk.bangEnd_le ha
    have h2 := Tk.bangEnd_ge l a
    exact ⟨by omega, h1, Nat.le_trans (hsub _) (by omega)⟩
  split at h
  · have := Tk.enc_ok (Tk.readName_ok h).1 (by simp)
    omega
  split at h
  · have := Tk.enc_ok h (by simp)
    omega
  split at h
  · simp only [Tk.R.tok.injEq] at h
    obtain ⟨rfl, rfl, rfl⟩ := h
    refine ⟨by omega, by omega, ?_⟩
    unfold Tk.punctText
    split
    · simp
    · exact Nat.le_trans (hsub _) (by omega)
  · cases h
theorem Tk.read_bad {l : List UInt8} {a en : Nat} {b : Bool} {p : Nat} {c : Int} (h : Tk.read l a en b = .fault p c) : c ≠ 0 := by
  unfold Tk.read at h
  split at h
  · cases h
  split at h
  · cases h
  split at h
  · have := Tk.readChar_bad h; omega
  split at h
  · cases h
  split at h
  · have := Tk.readSigns_bad h; omega
  split at h
  · cases h
  split at h
  · cases h
  split at h
  · have := Tk.readName_bad h; omega
  split at h
  · have := Tk.enc_code h; omega
  split at h
  · cases h
  · simp only [Tk.R.fault.injEq] at h; omega

/-- A token: its kind, its text, its place. -/
abbrev Tk.T := Int × List UInt8 × Nat
/-- The tokens from an index on, behind those that have been read; or the place and the code of the first fault. -/
def Tk.toks : Nat → List UInt8 → Nat → Nat → Bool → List Tk.T → Except (Nat × Int) (List Tk.T)
  | 0, _, _, _, _, _ => .error (0, 0)
  | f + 1, l, a, en, b, acc =>
    if (Tk.skipped l a).2.2 = 0 then
      if (Tk.skipped l a).1 = l.length then .ok (acc ++ [(0, [], l.length)])
      else match Tk.read l (Tk.skipped l a).1 en b with
        | .fault p c => .error (p, c)
        | .tok k t z =>
          if Tk.check k t = 0 then Tk.toks f l z z (k == 1 || k == 2) (acc ++ [(k, t, (Tk.skipped l a).1)])
          else .error ((Tk.skipped l a).1, Tk.check k t)
    else .error (Tk.skipped l a).2
def Tk.tokens (l : List UInt8) : Except (Nat × Int) (List Tk.T) :=
  if 65536 < l.length then .error (0, 6) else Tk.toks (l.length + 2) l 0 0 false []
def Tk.flat (ts : List Tk.T) : List Value := ts.flatMap fun t => [.int .i64 t.1, .string ⟨t.2.1.toArray⟩, .int .i64 (t.2.2 : Int)]
theorem Tk.flat_snoc (ts : List Tk.T) (t : Tk.T) : Tk.flat (ts ++ [t]) = Tk.flat ts ++ [.int .i64 t.1, .string ⟨t.2.1.toArray⟩, .int .i64 (t.2.2 : Int)] := by simp [Tk.flat]
end Go.Proofs.YtaefonagbcnmdaaGreatDoor
