import Derived.Test.YtnkmefnbhfghgaaGreatDoorA31
import Derived.Deep.RegionHeld3
set_option linter.unusedSimpArgs false
set_option linter.unusedVariables false
namespace Go.Proofs.YtnkmefnbhfghgaaGreatDoor
open Go.RowKit

/-- What the statement asks of a list of tokens. -/
structure Tk.Fine (ts : List Tk.T) (n : Nat) : Prop where
  pos : 0 < ts.length
  last : (Tk.at_ ts (ts.length - 1)).2.2 = n
  check : ∀ i, i < ts.length → Tk.check (Tk.at_ ts i).1 (Tk.at_ ts i).2.1 = 0
  kind : ∀ i, i < ts.length → (((Tk.at_ ts i).1 == 0) = decide (i = ts.length - 1))
  len : ∀ i, i < ts.length → (Tk.at_ ts i).2.1.length ≤ 65536
  up : ∀ j, j + 1 < ts.length → (Tk.at_ ts j).2.2 < (Tk.at_ ts (j + 1)).2.2
theorem Tk.tokens_fine {l : List UInt8} {ts : List Tk.T} (h : Tk.tokens l = .ok ts) : Tk.Fine ts l.length := by
  obtain ⟨acc, rfl, hg⟩ := Tk.tokens_good h
  have hl : (acc ++ [((0, [], l.length) : Tk.T)]).length = acc.length + 1 := by simp
  have hin : ∀ i, i < acc.length → Tk.at_ (acc ++ [((0, [], l.length) : Tk.T)]) i ∈ acc := fun i hi => by
    rw [Tk.at_eq (by omega), List.getElem_append_left hi]
    exact List.getElem_mem hi
  have hlast : Tk.at_ (acc ++ [((0, [], l.length) : Tk.T)]) acc.length = (0, [], l.length) := by
    rw [Tk.at_eq (by omega), List.getElem_append_right (Nat.le_refl _)]
    simp
  refine ⟨by omega, by rw [hl, Nat.add_sub_cancel, hlast], fun i hi => ?_, fun i hi => ?_, fun i hi => ?_, fun j hj => ?_⟩
  · by_cases h : i < acc.length
    · exact (hg.1 _ (hin i h)).1
    · obtain rfl : i = acc.length := by omega
      rw [hlast]; rfl
  · by_cases h : i < acc.length
    · have := (hg.1 _ (hin i h)).2.1
      rw [decide_eq_false (by omega)]
      simpa using this
    · obtain rfl : i = acc.length := by omega
      rw [hlast, decide_eq_true (by omega)]; rfl
  · by_cases h : i < acc.length
    · exact (hg.1 _ (hin i h)).2.2.1
    · obtain rfl : i = acc.length := by omega
      rw [hlast]; simp
  · by_cases h : j + 1 < acc.length
    · rw [Tk.at_eq (by omega), Tk.at_eq (by omega), List.getElem_append_left (by omega), List.getElem_append_left h]
      exact List.pairwise_iff_getElem.1 hg.2 j (j + 1) (by omega) h (by omega)
    · have he : j + 1 = acc.length := by omega
      rw [he, hlast]
      exact (hg.1 _ (hin j (by omega))).2.2.2

theorem Tk.Fine.ge {ts : List Tk.T} {n : Nat} (h : Tk.Fine ts n) : ∀ i, i < ts.length → i ≤ (Tk.at_ ts i).2.2
  | 0, _ => Nat.zero_le _
  | i + 1, hi => by
    have := Tk.Fine.ge h i (by omega)
    have := h.up i hi
    omega
theorem Tk.Fine.size {ts : List Tk.T} {n : Nat} (h : Tk.Fine ts n) : ts.length ≤ n + 1 := by
  have := h.ge (ts.length - 1) (by have := h.pos; omega)
  rw [h.last] at this
  omega
theorem Tk.toks_bad {l : List UInt8} (hl : l.length ≤ 65536) : ∀ {f a en : Nat} {b : Bool} {acc : List Tk.T} {x : Nat × Int}, Tk.toks f l a en b acc = .error x → a ≤ l.length → l.length + 1 - a < f → x.2 ≠ 0
  | 0, a, en, b, acc, x, h, _, hf => by omega
  | f + 1, a, en, b, acc, x, h, ha, hf => by
    have hge := Tk.skip_ge (l := l) (l.length + 1) a
    rw [show Tk.skip (l.length + 1) l a = Tk.skipped l a from rfl] at hge
    have hle : (Tk.skipped l a).1 ≤ l.length := Tk.skip_le _ a ha
    rw [Tk.toks] at h
    split at h
    · split at h
      · cases h
      · rename_i hne
        have hlt : (Tk.skipped l a).1 < l.length := by omega
        split at h
        · rename_i p c hr
          simp only [Except.error.injEq] at h
          subst h
          exact Tk.read_bad hr
        · rename_i k t z hr
          obtain ⟨hz1, hz2, hz3⟩ := Tk.read_ok hl hlt hr
          split at h
          · exact Tk.toks_bad hl h hz2 (by omega)
          · rename_i hc
            simp only [Except.error.injEq] at h
            subst h
            exact hc
    · rename_i hc
      simp only [Except.error.injEq] at h
      subst h
      exact hc
theorem Tk.tokens_bad {l : List UInt8} {x : Nat × Int} (h : Tk.tokens l = .error x) : x.2 ≠ 0 := by
  unfold Tk.tokens at h
  split at h
  · simp only [Except.error.injEq] at h
    subst h
    decide
  · exact Tk.toks_bad (by omega) h (by omega) (by omega)

end Go.Proofs.YtnkmefnbhfghgaaGreatDoor
