import Derived.Test.YtnkmefnbhfghgaaGreatDoorX2
set_option linter.unusedSimpArgs false
set_option linter.unusedVariables false
namespace Go.Proofs.YtnkmefnbhfghgaaGreatDoor
open Go.RowKit

theorem qcalled_snoc (acc : List Tk.T) (k : Int) (t : List UInt8) (p z x : Nat) : Tk.qcalled (acc ++ [(k, t, p)]) z x = ((k == 1 || k == 2) && decide (z = x)) := by
  unfold Tk.qcalled
  simp
theorem qnext_blank {l : List UInt8} {p : Nat} {b : Bool} (h : Tk.blank (Tk.bt l p) = true) : Tk.qnext l p b = .move (p + 1) := by
  have := bt_all (fun n => !(Tk.blank n) || Tk.inText n) (by decide +kernel) l p
  rw [h] at this
  unfold Tk.qnext
  rw [if_pos (by simpa using this), if_pos h]
theorem qnext_line {l : List UInt8} {p : Nat} {b : Bool} (h : Tk.bt l p = 37) : Tk.qnext l p b = Tk.qline l p := by
  unfold Tk.qnext
  rw [if_pos (c := Tk.inText (Tk.bt l p) = true) (by rw [h]; decide), if_neg (c := Tk.blank (Tk.bt l p) = true) (by rw [h]; decide), if_pos h]
theorem qnext_com {l : List UInt8} {p : Nat} {b : Bool} (h : Tk.bt l p = 47) (h2 : Tk.bt l (p + 1) = 42) : Tk.qnext l p b = Tk.qcom l p (l.length + 1) (p + 1) := by
  unfold Tk.qnext
  rw [if_pos (c := Tk.inText (Tk.bt l p) = true) (by rw [h]; decide), if_neg (c := Tk.blank (Tk.bt l p) = true) (by rw [h]; decide), if_neg (c := Tk.bt l p = 37) (by rw [h]; decide), if_pos ⟨h, h2⟩]
theorem skipped_end (l : List UInt8) : Tk.skipped l l.length = (l.length, 0, 0) := by
  unfold Tk.skipped
  rw [Tk.skip, if_neg (by omega)]
theorem toks_bad {l : List UInt8} {p en : Nat} {b : Bool} {acc : List Tk.T} {q : Nat} {c : Int} (hc : c ≠ 0) (h : (Tk.skipped l p).2 = (q, c)) (g : Nat) : Tk.toks (g + 1) l p en b acc = .error (q, c) := by
  rw [Tk.toks, h, if_neg hc]

/-- The reference's reader is the program's. -/
theorem toks_eq {l : List UInt8} (hl : l.length ≤ 65536) (hq1 : ∀ p, p < l.length → Tk.bt l p = 39 → Tk.qquoted l p = Tk.convR (Tk.readName l p) p) (hq2 : ∀ p, p < l.length → Tk.bt l p = 34 → Tk.qquoted l p = Tk.convR (Tk.readEnclosed 5 l p) p) :
    ∀ (f g p en : Nat) (b : Bool) (acc : List Tk.T), p ≤ l.length → l.length - p < f → l.length - p < g → (∀ x, Tk.qcalled acc en x = (b && decide (en = x))) → Tk.qtoks f l p acc en = Tk.toks g l p en b acc
  | 0, _, _, _, _, _, _, hf, _, _ => by omega
  | _ + 1, 0, _, _, _, _, _, _, hg, _ => by omega
  | f + 1, g + 1, p, en, b, acc, hp, hf, hg, hcal => by
    rw [Tk.qtoks]
    by_cases hlt : p < l.length
    · rw [if_pos hlt]
      have hgo : ∀ z, p < z → z ≤ l.length → Tk.skipped l p = Tk.skipped l z → Tk.qtoks f l z acc en = Tk.toks (g + 1) l p en b acc := by
        intro z h1 h2 h3
        rw [toks_skip h3]
        exact toks_eq hl hq1 hq2 f (g + 1) z en b acc h2 (by omega) (by omega) hcal
      cases hbl : Tk.blank (Tk.bt l p)
      case true =>
        rw [qnext_blank hbl]
        exact hgo _ (by omega) (by omega) (skip_blank hlt hbl)
      by_cases h37 : Tk.bt l p = 37
      · rw [qnext_line h37]
        rcases skip_line hlt h37 with ⟨h1, h2, h3, h4⟩ | ⟨q, c, hc, h1, h2⟩
        · rw [h1]; exact hgo _ h2 h3 h4
        · rw [h1, toks_bad hc h2]
      by_cases h47 : Tk.bt l p = 47 ∧ Tk.bt l (p + 1) = 42
      · rw [qnext_com h47.1 h47.2]
        rcases skip_com h47.1 h47.2 with ⟨h1, h2, h3, h4⟩ | ⟨q, c, hc, h1, h2⟩
        · rw [h1]; exact hgo _ h2 h3 h4
        · rw [h1, toks_bad hc h2]
      rw [hcal p, next_eq hlt hbl h37 h47 (hq1 p hlt) (hq2 p hlt), Tk.toks, skip_here hbl h37 h47, if_pos rfl]
      dsimp only
      rw [if_neg (by omega)]
      cases hr : Tk.read l p en b with
      | fault q c => rfl
      | tok k t z =>
        obtain ⟨hz1, hz2, _⟩ := Tk.read_ok hl hlt hr
        dsimp only [Tk.convR]
        unfold Tk.qadd
        by_cases hc : Tk.check k t = 0
        · rw [if_pos hc, if_pos hc]
          exact toks_eq hl hq1 hq2 f g z z (k == 1 || k == 2) (acc ++ [(k, t, p)]) hz2 (by omega) (by omega) (fun x => qcalled_snoc acc k t p z x)
        · rw [if_neg hc, if_neg hc]
    · obtain rfl : p = l.length := by omega
      rw [if_neg hlt, Tk.toks, skipped_end, if_pos rfl]
      dsimp only
      rw [if_pos rfl]
end Go.Proofs.YtnkmefnbhfghgaaGreatDoor
