import Derived.Test.YtnkmefnbhfghgaaGreatDoorA30
set_option linter.unusedSimpArgs false
set_option linter.unusedVariables false
namespace Go.Proofs.YtnkmefnbhfghgaaGreatDoor
open Go.RowKit

theorem Tk.read_kind {l : List UInt8} {a en : Nat} {b : Bool} {k : Int} {t : List UInt8} {z : Nat} (h : Tk.read l a en b = .tok k t z) : k ≠ 0 := by
  unfold Tk.read at h
  split at h
  · simp only [Tk.R.tok.injEq] at h; omega
  split at h
  · simp only [Tk.R.tok.injEq] at h; omega
  split at h
  · have := Tk.readChar_ok h; omega
  split at h
  · simp only [Tk.R.tok.injEq] at h; omega
  split at h
  · simp only [Tk.readSigns] at h
    repeat' split at h
    all_goals (simp only [Tk.R.tok.injEq, reduceCtorEq] at h; try omega)
  split at h
  · simp only [Tk.R.tok.injEq] at h; omega
  split at h
  · simp only [Tk.R.tok.injEq] at h; omega
  split at h
  · have := Tk.enc_ok (Tk.readName_ok h).1 (by simp); omega
  split at h
  · have := Tk.enc_ok h (by simp); omega
  split at h
  · simp only [Tk.R.tok.injEq] at h; omega
  · cases h

/-- Tokens that have been read in front of an index. -/
def Tk.Good (acc : List Tk.T) (a : Nat) : Prop :=
  (∀ t ∈ acc, Tk.check t.1 t.2.1 = 0 ∧ t.1 ≠ 0 ∧ t.2.1.length ≤ 65536 ∧ t.2.2 < a) ∧ acc.Pairwise (fun x y => x.2.2 < y.2.2)
theorem Tk.Good.more {acc : List Tk.T} {a b : Nat} (h : Tk.Good acc a) (hab : a ≤ b) : Tk.Good acc b :=
  ⟨fun t ht => by have := h.1 t ht; exact ⟨this.1, this.2.1, this.2.2.1, by omega⟩, h.2⟩
theorem Tk.Good.snoc {acc : List Tk.T} {a z : Nat} {t : Tk.T} (h : Tk.Good acc a) (ha : a ≤ t.2.2) (hz : t.2.2 < z) (h1 : Tk.check t.1 t.2.1 = 0) (h2 : t.1 ≠ 0) (h3 : t.2.1.length ≤ 65536) : Tk.Good (acc ++ [t]) z := by
  refine ⟨fun x hx => ?_, ?_⟩
  · rcases List.mem_append.1 hx with hx | hx
    · have := h.1 x hx; exact ⟨this.1, this.2.1, this.2.2.1, by omega⟩
    · obtain rfl := List.mem_singleton.1 hx
      exact ⟨h1, h2, h3, hz⟩
  · rw [List.pairwise_append]
    refine ⟨h.2, by simp, fun x hx y hy => ?_⟩
    obtain rfl := List.mem_singleton.1 hy
    have := h.1 x hx
    omega
theorem Tk.toks_good {l : List UInt8} (hl : l.length ≤ 65536) : ∀ {f a en : Nat} {b : Bool} {acc ts : List Tk.T}, Tk.toks f l a en b acc = .ok ts → Tk.Good acc a → a ≤ l.length → (Tk.skipped l a).1 ≤ l.length →
    (∀ k, k ≤ l.length → (Tk.skipped l k).1 ≤ l.length) → ∃ acc', ts = acc' ++ [(0, [], l.length)] ∧ Tk.Good acc' l.length
  | 0, a, en, b, acc, ts, h, _, _, _, _ => by simp [Tk.toks] at h
  | f + 1, a, en, b, acc, ts, h, hg, ha, hs, hall => by
    have hge := Tk.skip_ge (l := l) (l.length + 1) a
    rw [show Tk.skip (l.length + 1) l a = Tk.skipped l a from rfl] at hge
    rw [Tk.toks] at h
    split at h
    · split at h
      · simp only [Except.ok.injEq] at h
        exact ⟨acc, h.symm, hg.more ha⟩
      · rename_i hne
        have hlt : (Tk.skipped l a).1 < l.length := by omega
        split at h
        · cases h
        · rename_i k t z hr
          obtain ⟨hz1, hz2, hz3⟩ := Tk.read_ok hl hlt hr
          split at h
          · rename_i hc
            exact Tk.toks_good hl h (hg.snoc hge hz1 hc (Tk.read_kind hr) hz3) hz2 (hall z hz2) hall
          · cases h
    · cases h
theorem Tk.com_le {l : List UInt8} {b : Nat} : ∀ (f k : Nat), k ≤ l.length → (Tk.com f l b k).1 ≤ l.length
  | 0, k, h => h
  | f + 1, k, h => by
    rw [Tk.com]
    split
    · split
      · rename_i hp
        have := prefix_len hp
        simp at this ⊢
        omega
      · split
        · exact Tk.com_le f (k + 1) (by omega)
        · exact h
    · exact h
theorem Tk.skip_le {l : List UInt8} : ∀ (f k : Nat), k ≤ l.length → (Tk.skip f l k).1 ≤ l.length
  | 0, k, h => h
  | f + 1, k, h => by
    rw [Tk.skip]
    split
    · split
      · exact Tk.skip_le f (k + 1) (by omega)
      · split
        · split
          · exact Tk.skip_le f _ (Tk.lineEnd_le h)
          · exact Tk.lineEnd_le h
        · split
          · rename_i hp
            have h2 : k + 2 ≤ l.length := by have := prefix_len hp; simp at this; omega
            have h3 : (Tk.comment l k).1 ≤ l.length := Tk.com_le _ _ h2
            split
            · exact Tk.skip_le f _ h3
            · exact h3
          · exact h
    · exact h
theorem Tk.tokens_good {l : List UInt8} {ts : List Tk.T} (h : Tk.tokens l = .ok ts) : ∃ acc, ts = acc ++ [(0, [], l.length)] ∧ Tk.Good acc l.length := by
  unfold Tk.tokens at h
  split at h
  · cases h
  · have hall : ∀ k, k ≤ l.length → (Tk.skipped l k).1 ≤ l.length := fun k hk => Tk.skip_le _ k hk
    exact Tk.toks_good (by omega) h ⟨by simp, by simp⟩ (by omega) (hall 0 (by omega)) hall
end Go.Proofs.YtnkmefnbhfghgaaGreatDoor
