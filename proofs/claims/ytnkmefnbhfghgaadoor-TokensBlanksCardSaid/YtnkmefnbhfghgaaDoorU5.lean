import Derived.Test.YtnkmefnbhfghgaaDoorU4
import Derived.Test.YtnkmefnbhfghgaaDoorS5
set_option linter.unusedSimpArgs false
set_option linter.unusedVariables false
namespace Go.Proofs.YtnkmefnbhfghgaaDoor
open Go.RowKit

/-! A gap in front of a token changes nothing but places. -/
theorem skip_stop (l : List UInt8) : ∀ (f k : Nat), (Tk.skip f l k).2.2 = 0 → (Tk.skip f l k).1 < l.length → l.length - k < f → Tk.Begins (l.drop (Tk.skip f l k).1)
  | 0, k, _, _, hf => by omega
  | f + 1, k, h, hlt, hf => by
    obtain ⟨R, hR⟩ : ∃ R, Tk.skip (f + 1) l k = R := ⟨_, rfl⟩
    rw [hR] at h hlt ⊢
    rw [Tk.skip] at hR
    by_cases hk : k < l.length
    · rw [if_pos hk] at hR
      by_cases hb : Tk.blank (Tk.bt l k) = true
      · rw [if_pos hb] at hR; subst hR
        exact skip_stop l f (k + 1) h hlt (by omega)
      · rw [if_neg hb] at hR
        by_cases h37 : Tk.bt l k = 37
        · rw [if_pos h37] at hR
          have h1 := Tk.lineEnd_gt hk h37
          by_cases hf2 : (Tk.lineFault l k).2 = 0
          · rw [if_pos hf2] at hR; subst hR
            exact skip_stop l f _ h hlt (by omega)
          · rw [if_neg hf2] at hR; subst hR
            exact absurd h hf2
        · rw [if_neg h37] at hR
          by_cases hp : Lib.hasPrefix (l.drop k) [47, 42] = true
          · rw [if_pos hp] at hR
            by_cases hc : (Tk.comment l k).2.2 = 0
            · have h1 := Tk.comment_gt hc
              rw [if_pos hc] at hR; subst hR
              exact skip_stop l f _ h hlt (by omega)
            · rw [if_neg hc] at hR; subst hR
              exact absurd h hc
          · rw [if_neg hp] at hR; subst hR
            have hb0 : Tk.bt (l.drop k) 0 = Tk.bt l k := by have := bt_drop l k 0; rw [Nat.add_zero] at this; exact this.symm
            exact ⟨by rw [List.length_drop]; omega, by rw [hb0]; simpa using hb, by rw [hb0]; exact h37, by simpa using hp⟩
    · rw [if_neg hk] at hR; subst hR
      exact absurd hlt hk
theorem adj_no {m : List UInt8} {adj : Bool} {k : Int} {t : List UInt8} {z : Nat} (h : Tk.read m 0 0 adj = .tok k t z) (ht : t ≠ [40, 40]) : Tk.read m 0 0 false = .tok k t z := by
  cases adj
  · exact h
  · by_cases hb : Tk.bt m 0 = 40
    · unfold Tk.read at h
      have hpt : Tk.punctText m 0 0 true = [40, 40] := by unfold Tk.punctText Tk.isArgs; rw [hb]; rfl
      cases m with
      | nil => exact absurd hb (by decide)
      | cons c r =>
        have hc : c = 40 := UInt8.toNat_inj.1 (by have : (40 : UInt8).toNat = 40 := rfl; rw [show Tk.bt (c :: r) 0 = (c.toNat : Int) from rfl] at hb; omega)
        subst hc
        rw [hpt] at h
        have h2 : Tk.R.tok 6 [40, 40] 1 = .tok k t z := h
        simp only [Tk.R.tok.injEq] at h2
        exact absurd h2.2.1.symm ht
    · have hpt : Tk.punctText m 0 0 true = Tk.punctText m 0 0 false := by
        unfold Tk.punctText Tk.isArgs
        rw [decide_eq_false hb]; rfl
      unfold Tk.read at h ⊢
      rw [← hpt]
      exact h
/-- One step of the reader. -/
theorem toks_step {f : Nat} {l : List UInt8} {a en : Nat} {b : Bool} {acc out : List Tk.T} (h : Tk.toks (f + 1) l a en b acc = .ok out) :
    (Tk.skipped l a).2.2 = 0 ∧ (((Tk.skipped l a).1 = l.length ∧ out = acc ++ [(0, [], l.length)]) ∨
      ((Tk.skipped l a).1 ≠ l.length ∧ ∃ k t z, Tk.read l (Tk.skipped l a).1 en b = .tok k t z ∧ Tk.check k t = 0 ∧ Tk.toks f l z z (k == 1 || k == 2) (acc ++ [(k, t, (Tk.skipped l a).1)]) = .ok out)) := by
  rw [Tk.toks] at h
  by_cases hc : (Tk.skipped l a).2.2 = 0
  · rw [if_pos hc] at h
    refine ⟨hc, ?_⟩
    by_cases he : (Tk.skipped l a).1 = l.length
    · rw [if_pos he] at h
      simp only [Except.ok.injEq] at h
      exact .inl ⟨he, h.symm⟩
    · rw [if_neg he] at h
      right
      refine ⟨he, ?_⟩
      cases hr : Tk.read l (Tk.skipped l a).1 en b with
      | fault p c => rw [hr] at h; cases h
      | tok k t z =>
        rw [hr] at h
        dsimp only at h
        by_cases hk : Tk.check k t = 0
        · rw [if_pos hk] at h
          exact ⟨k, t, z, rfl, hk, h⟩
        · rw [if_neg hk] at h; cases h
  · rw [if_neg hc] at h; cases h
theorem skipped_le {l : List UInt8} {a : Nat} (ha : a ≤ l.length) : (Tk.skipped l a).1 ≤ l.length := Tk.skip_le _ a ha
theorem skipped_ge (l : List UInt8) (a : Nat) : a ≤ (Tk.skipped l a).1 := Tk.skip_ge _ a
theorem skipped_sx (l : List UInt8) (a : Nat) (ha : a ≤ l.length) : (Tk.skipped l a).1 = a + (Tk.sx (l.drop a)).1 ∧ (Tk.skipped l a).2.2 = (Tk.sx (l.drop a)).2 := skipped_drop l a ha
def Tk.lean (r : List Tk.T) : List (Int × List UInt8) := r.map fun t => (t.1, t.2.1)

/-- From the same rest on the same tokens are read. -/
theorem toks_rest : ∀ (f : Nat) {l : List UInt8} {a : Nat} {b : Bool} {acc out : List Tk.T}, Tk.toks f l a a b acc = .ok out → a ≤ l.length → l.length ≤ 65536 →
    ∃ r, out = acc ++ r ∧ (∀ t ∈ r, a ≤ t.2.2) ∧ ∀ (f' : Nat) (l' : List UInt8) (a' : Nat) (acc' : List Tk.T), f ≤ f' → l'.drop a' = l.drop a → a' ≤ l'.length →
      ∃ r', Tk.toks f' l' a' a' b acc' = .ok (acc' ++ r') ∧ Tk.lean r' = Tk.lean r
  | 0, l, a, b, acc, out, h, _, _ => by rw [Tk.toks] at h; cases h
  | f + 1, l, a, b, acc, out, h, ha, hl6 => by
    obtain ⟨hc, hh⟩ := toks_step h
    have hs := skipped_sx l a ha
    have hsl := skipped_le ha
    have hsg := skipped_ge l a
    rcases hh with ⟨he, rfl⟩ | ⟨hne, k, t, z, hr, hk, hrec⟩
    · refine ⟨_, rfl, fun t ht => by simp only [List.mem_singleton] at ht; subst ht; exact ha, fun f' l' a' acc' hf hd ha' => ?_⟩
      cases f' with
      | zero => omega
      | succ f' =>
        have hs' := skipped_sx l' a' ha'
        have hlen := congrArg List.length hd
        rw [List.length_drop, List.length_drop] at hlen
        refine ⟨[(0, [], l'.length)], ?_, rfl⟩
        rw [hd] at hs'
        rw [Tk.toks, if_pos (by rw [hs'.2, ← hs.2]; exact hc), if_pos (by rw [hs'.1]; rw [hs.1] at he; omega)]
    · have hslt : (Tk.skipped l a).1 < l.length := by omega
      have hok := Tk.read_ok hl6 hslt hr
      obtain ⟨r, rfl, hpos, hsame⟩ := toks_rest f hrec hok.2.1 hl6
      refine ⟨(k, t, (Tk.skipped l a).1) :: r, by simp, fun τ hτ => ?_, fun f' l' a' acc' hf hd ha' => ?_⟩
      · rcases List.mem_cons.1 hτ with rfl | hτ
        · exact hsg
        · have := hpos τ hτ; omega
      · cases f' with
        | zero => omega
        | succ f' =>
          have hs' := skipped_sx l' a' ha'
          have hlen := congrArg List.length hd
          rw [List.length_drop, List.length_drop] at hlen
          rw [hd] at hs'
          obtain ⟨d, hdd⟩ : ∃ d, (Tk.sx (l.drop a)).1 = d := ⟨_, rfl⟩
          rw [hdd] at hs hs'
          have hdr : l'.drop (Tk.skipped l' a').1 = l.drop (Tk.skipped l a).1 := by
            rw [hs'.1, hs.1, ← List.drop_drop, ← List.drop_drop, hd]
          have hrd := read_drop l (Tk.skipped l a).1 a b hsl
          rw [hr] at hrd
          have hadj : (b && decide (a' = (Tk.skipped l' a').1)) = (b && decide (a = (Tk.skipped l a).1)) := by
            rw [hs'.1, hs.1, show decide (a' = a' + d) = decide (a = a + d) from decide_eq_decide.2 (by omega)]
          cases hm : Tk.read (l.drop (Tk.skipped l a).1) 0 0 (b && decide (a = (Tk.skipped l a).1)) with
          | fault p c => rw [hm] at hrd; cases hrd
          | tok k0 t0 z0 =>
            rw [hm] at hrd
            simp only [Tk.R.shift, Tk.R.tok.injEq] at hrd
            obtain ⟨rfl, rfl, rfl⟩ := hrd
            have hr' : Tk.read l' (Tk.skipped l' a').1 a' b = .tok k t ((Tk.skipped l' a').1 + z0) := by
              rw [read_drop l' _ a' b (by rw [hs'.1]; omega), hdr, hadj, hm]; rfl
            obtain ⟨r', h1, h2⟩ := hsame f' l' ((Tk.skipped l' a').1 + z0) (acc' ++ [(k, t, (Tk.skipped l' a').1)]) (by omega) (by rw [← List.drop_drop, hdr, List.drop_drop]) (by have := hok.2.1; rw [hs'.1]; rw [hs.1] at this; omega)
            refine ⟨(k, t, (Tk.skipped l' a').1) :: r', ?_, by simp only [Tk.lean, List.map_cons, List.cons.injEq, true_and]; exact h2⟩
            rw [Tk.toks, if_pos (by rw [hs'.2, ← hs.2]; exact hc), if_neg (by rw [hs'.1]; rw [hs.1] at hne; omega), hr']
            dsimp only
            rw [if_pos hk, h1]
            simp
end Go.Proofs.YtnkmefnbhfghgaaDoor
