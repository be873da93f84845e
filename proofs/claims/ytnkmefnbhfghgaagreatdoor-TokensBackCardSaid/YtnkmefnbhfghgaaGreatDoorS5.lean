import Derived.Test.YtnkmefnbhfghgaaGreatDoorS4
set_option linter.unusedSimpArgs false
set_option linter.unusedVariables false
namespace Go.Proofs.YtnkmefnbhfghgaaGreatDoor
open Go.RowKit

def Tk.pend (ts : List Tk.T) (i : Nat) : List UInt8 := if i = 0 then [] else Tk.step ts (i - 1)
def Tk.wtext : Nat → List Tk.T → Nat → List UInt8
  | 0, _, _ => []
  | f + 1, ts, i => if i < ts.length then Tk.gap ts i ++ Tk.written (Tk.at_ ts i).1 (Tk.at_ ts i).2.1 (Tk.leads ts i) ++ Tk.step ts i ++ Tk.wtext f ts (i + 1) else []
theorem textGo_ok (ts : List Tk.T) : ∀ (f i : Nat) (acc s : List UInt8), acc.length ≤ 65536 → Tk.textGo f ts i acc = .ok s → s = acc ++ Tk.wtext f ts i ∧ s.length ≤ 65536
  | 0, i, acc, s, ha, h => by
    rw [Tk.textGo] at h; cases h; exact ⟨by simp [Tk.wtext], ha⟩
  | f + 1, i, acc, s, ha, h => by
    rw [Tk.textGo] at h
    rw [Tk.wtext]
    split at h
    · rename_i hi
      rw [if_pos hi]
      split at h
      · cases h
      · rename_i hl
        obtain ⟨h1, h2⟩ := textGo_ok ts f (i + 1) _ s (by omega) h
        exact ⟨by rw [h1]; simp only [List.append_assoc], h2⟩
    · rename_i hi
      rw [if_neg hi]; cases h; exact ⟨by simp, ha⟩
theorem formBad_all {ts : List Tk.T} : ∀ (f i : Nat), Tk.formBad f ts i = 0 → ts.length - i < f → ∀ j, i ≤ j → j < ts.length → Tk.badAt ts j = false
  | 0, i, _, hf, _, _, _ => by omega
  | f + 1, i, h, hf, j, h1, h2 => by
    rw [Tk.formBad, if_pos (by omega)] at h
    split at h
    · cases h
    · rename_i hb
      by_cases e : i = j
      · subst e; simpa using hb
      · exact formBad_all f (i + 1) h (by omega) j (by omega) h2
theorem firstBad_all : ∀ {ts : List Tk.T}, Tk.firstBad ts = 0 → ∀ t ∈ ts, Tk.check t.1 t.2.1 = 0
  | [], _, _, ht => by cases ht
  | t :: r, h, x, hx => by
    rw [Tk.firstBad] at h
    split at h
    · rename_i h1
      rcases List.mem_cons.1 hx with rfl | hx
      · exact h1
      · exact firstBad_all h x hx
    · exact absurd h ‹_›
/-- What is known of tokens that are written. -/
structure Tk.Ok (ts : List Tk.T) : Prop where
  check : ∀ i, i < ts.length → Tk.check (Tk.at_ ts i).1 (Tk.at_ ts i).2.1 = 0
  kind : ∀ i, i < ts.length → (Tk.at_ ts i).1 ≠ 0
  bad : ∀ i, i < ts.length → Tk.badAt ts i = false
theorem takeWhile_mem {α : Type} {p : α → Bool} {l : List α} {x : α} (h : x ∈ l.takeWhile p) : p x = true := by
  have ha : (l.takeWhile p).all p = true := List.all_takeWhile
  exact List.all_eq_true.1 ha x h
theorem Tk.cut_eq (ts : List Tk.T) : Tk.cut ts = ts.takeWhile fun t => !(t.1 == 0) := by
  unfold Tk.cut Tk.endIdx
  exact (List.prefix_iff_eq_take.1 (List.takeWhile_prefix _)).symm
theorem Tk.cut_ok {ts : List Tk.T} (h : Tk.checkAll (Tk.cut ts) = 0) : Tk.Ok (Tk.cut ts) := by
  unfold Tk.checkAll at h
  split at h
  · rename_i h1
    refine ⟨fun i hi => ?_, fun i hi => ?_, fun i hi => formBad_all _ 0 h (by omega) i (Nat.zero_le _) hi⟩
    · rw [Tk.at_eq hi]; exact firstBad_all h1 _ (List.getElem_mem hi)
    · rw [Tk.at_eq hi]
      have hx : ∀ x ∈ Tk.cut ts, x.1 ≠ 0 := by
        intro x hx
        rw [Tk.cut_eq] at hx
        have := takeWhile_mem hx
        simpa using this
      exact hx _ (List.getElem_mem hi)
  · exact absurd h ‹_›
theorem step_seven {ts : List Tk.T} {i : Nat} (h : (Tk.at_ ts i).1 = 7) : Tk.step ts i = [10] := by unfold Tk.step; rw [h]; rfl
theorem step_other {ts : List Tk.T} {i : Nat} (h : (Tk.at_ ts i).1 ≠ 7) : Tk.step ts i = [] := by unfold Tk.step; rw [if_neg (by simpa using h)]
theorem written_var (t : List UInt8) (b : Bool) : Tk.written 2 t b = t := rfl
theorem gap_blank (ts : List Tk.T) (i : Nat) : ∀ c ∈ Tk.gap ts i, Tk.blank (c.toNat : Int) = true := by
  intro c hc
  unfold Tk.gap at hc
  repeat' split at hc
  all_goals first | (cases hc; done) | (simp only [List.mem_singleton] at hc; subst hc; rfl)
theorem pend_blank (ts : List Tk.T) (i : Nat) : ∀ c ∈ Tk.pend ts i, Tk.blank (c.toNat : Int) = true := by
  intro c hc
  unfold Tk.pend Tk.step at hc
  repeat' split at hc
  all_goals first | (cases hc; done) | (simp only [List.mem_singleton] at hc; subst hc; rfl)

theorem behind_at {ts : List Tk.T} (ho : Tk.Ok ts) {i m : Nat} (hi : i < ts.length) (hm : i + 1 + m = ts.length) :
    Tk.Behind (Tk.at_ ts i).1 (Tk.at_ ts i).2.1 (Tk.leads ts i) (Tk.follows ts i && decide ((Tk.pend ts i ++ Tk.gap ts i).length = 0)) (Tk.step ts i ++ Tk.wtext (m + 1) ts (i + 1)) := by
  have hbad := ho.bad i hi
  refine ⟨fun hl => ?_, fun hl h7 => ?_, fun h7 => ?_, fun hl h1 ht => ?_, fun h6 ht => ?_, fun h6 ht => ?_⟩
  · have hl2 := hl
    unfold Tk.leads at hl
    simp only [Bool.and_eq_true, beq_iff_eq, decide_eq_true_eq] at hl
    obtain ⟨⟨⟨h1, h2⟩, h3⟩, h4⟩ := hl
    refine ⟨h1, h2, ?_⟩
    obtain ⟨_, _, hf⟩ := check_form_of (ho.check (i + 1) h3)
    rw [h4, show Tk.hasForm 2 (Tk.at_ ts (i + 1)).2.1 = (Tk.every Tk.inWord (Tk.at_ ts (i + 1)).2.1 && Tk.capital (Tk.bt (Tk.at_ ts (i + 1)).2.1 0)) from rfl, Bool.and_eq_true] at hf
    have hg : Tk.gap ts (i + 1) = [] := by
      unfold Tk.gap
      rw [if_neg (by omega), Nat.add_sub_cancel, hl2]
      split <;> rfl
    rw [step_other (by omega), Tk.wtext, if_pos h3, hg, h4, written_var]
    cases ht : (Tk.at_ ts (i + 1)).2.1 with
    | nil => rw [ht] at hf; exact absurd hf.1 (by decide)
    | cons c r =>
      rw [ht] at hf
      exact ⟨c, _, by simp only [List.nil_append, List.append_assoc, List.cons_append]; rfl, hf.2⟩
  · rw [step_other h7, List.nil_append, Tk.wtext]
    split
    · rename_i h3
      by_cases ha : Tk.isArg (Tk.at_ ts (i + 1)).1 (Tk.at_ ts (i + 1)).2.1 = true
      · have hg : Tk.gap ts (i + 1) = [] := by
          unfold Tk.gap
          rw [if_neg (by omega), if_pos ha]
        have ha2 := ha
        unfold Tk.isArg at ha2
        simp only [Bool.and_eq_true, beq_iff_eq] at ha2
        have hw : Tk.written (Tk.at_ ts (i + 1)).1 (Tk.at_ ts (i + 1)).2.1 (Tk.leads ts (i + 1)) = [40] := by
          rw [ha2.1, ha2.2]; rfl
        rw [hg, hw]
        exact .inr ⟨_, .inr (.inl rfl)⟩
      · have hg : Tk.gap ts (i + 1) = [32] := by
          unfold Tk.gap
          rw [if_neg (by omega), if_neg ha, Nat.add_sub_cancel, hl, if_neg (by decide), if_neg (by simpa using h7)]
        rw [hg]
        exact .inr ⟨_, .inl (by simp only [List.append_assoc, List.singleton_append]; rfl)⟩
    · exact .inl rfl
  · rw [step_seven h7]
    exact ⟨_, rfl⟩
  · unfold Tk.badAt at hbad
    rw [h1, ht, hl] at hbad
    simp [Tk.isArg] at hbad
  · have ha : Tk.isArg (Tk.at_ ts i).1 (Tk.at_ ts i).2.1 = true := by rw [h6, ht]; rfl
    unfold Tk.badAt at hbad
    rw [ha, if_pos rfl] at hbad
    have hfo : Tk.follows ts i = true := by simpa using hbad
    have hfo2 := hfo
    unfold Tk.follows at hfo2
    simp only [Bool.and_eq_true, decide_eq_true_eq, Bool.or_eq_true, beq_iff_eq] at hfo2
    have hg : Tk.gap ts i = [] := by
      unfold Tk.gap
      rw [if_neg (by omega), if_pos ha]
    have hp : Tk.pend ts i = [] := by
      unfold Tk.pend
      rw [if_neg (by omega), step_other (by rcases hfo2.2 with h | h <;> omega)]
    rw [hfo, hg, hp]; rfl
  · cases hfo : Tk.follows ts i
    · rfl
    · have hfo2 := hfo
      unfold Tk.follows at hfo2
      simp only [Bool.and_eq_true, decide_eq_true_eq, Bool.or_eq_true, beq_iff_eq] at hfo2
      have hg : Tk.gap ts i = [32] := by
        unfold Tk.gap
        have hnl : Tk.leads ts (i - 1) = false := by
          unfold Tk.leads
          rw [show i - 1 + 1 = i by omega, h6, Bool.and_comm]
          rfl
        rw [if_neg (by omega), h6, ht, if_neg (by decide), hnl, if_neg (by decide), if_neg (by rcases hfo2.2 with h | h <;> rw [h] <;> decide)]
      rw [hg]
      simp

theorem toks_back {ts : List Tk.T} (ho : Tk.Ok ts) (l : List UInt8) : ∀ (m i f a : Nat) (b : Bool) (acc : List Tk.T), i + m = ts.length → l.drop a = Tk.pend ts i ++ Tk.wtext (m + 1) ts i → a ≤ l.length → b = Tk.follows ts i → m < f →
    ∃ ts' : List Tk.T, Tk.toks f l a a b acc = .ok (acc ++ ts' ++ [(0, [], l.length)]) ∧ ts'.map (fun t => (t.1, t.2.1)) = (ts.drop i).map (fun t => (t.1, t.2.1))
  | 0, i, 0, a, b, acc, _, _, _, _, hf => by omega
  | 0, i, f + 1, a, b, acc, hi, hd, ha, hb, _ => by
    have hw : Tk.wtext (0 + 1) ts i = [] := by rw [Tk.wtext, if_neg (by omega)]
    rw [hw] at hd
    have hsk : Tk.skipped l a = (l.length, 0, 0) := by
      have hl := congrArg List.length hd
      rw [List.length_drop] at hl
      simp only [List.append_nil] at hl
      have := skip_blanks l [] (.inl rfl) (Tk.pend ts i) (l.length + 1) a (pend_blank ts i) hd ha (by omega)
      unfold Tk.skipped
      rw [this, ← hl]; congr 1; omega
    refine ⟨[], ?_, by rw [List.drop_of_length_le (by omega)]⟩
    rw [Tk.toks, hsk]
    simp
  | m + 1, i, 0, a, b, acc, _, _, _, _, hf => by omega
  | m + 1, i, f + 1, a, b, acc, hi, hd, ha, hb, hf => by
    have hlt : i < ts.length := by omega
    have hbe := behind_at ho (m := m) hlt (by omega)
    have hck := ho.check i hlt
    have hkd := ho.kind i hlt
    have hbg := begins_written hck hkd hbe
    have hrd := rd_written hck hkd hbe
    obtain ⟨w, hw⟩ : ∃ w, Tk.written (Tk.at_ ts i).1 (Tk.at_ ts i).2.1 (Tk.leads ts i) = w := ⟨_, rfl⟩
    obtain ⟨bl, hbl⟩ : ∃ bl, Tk.pend ts i ++ Tk.gap ts i = bl := ⟨_, rfl⟩
    obtain ⟨rest, hrest⟩ : ∃ rest, Tk.step ts i ++ Tk.wtext (m + 1) ts (i + 1) = rest := ⟨_, rfl⟩
    have hd2 : l.drop a = bl ++ (w ++ rest) := by
      rw [hd, Tk.wtext, if_pos hlt, hw, ← hbl, ← hrest]
      simp only [List.append_assoc]
    rw [hw, hbl, hrest] at hrd
    rw [hw, hrest] at hbg
    have hlen := congrArg List.length hd2
    rw [List.length_drop, List.length_append] at hlen
    have hpos := hbg.pos
    have hblank : ∀ c ∈ bl, Tk.blank (c.toNat : Int) = true := by
      intro c hc
      rw [← hbl] at hc
      rcases List.mem_append.1 hc with h | h
      · exact pend_blank ts i c h
      · exact gap_blank ts i c h
    have hsk : Tk.skipped l a = (a + bl.length, 0, 0) := skip_blanks l _ (.inr hbg) bl (l.length + 1) a hblank hd2 ha (by omega)
    have hd3 : l.drop (a + bl.length) = w ++ rest := by
      rw [← List.drop_drop, hd2, List.drop_left']; rfl
    have hrl : Tk.read l (a + bl.length) a b = .tok (Tk.at_ ts i).1 (Tk.at_ ts i).2.1 (a + bl.length + w.length) := by
      rw [read_drop l _ a b (by omega), hd3, show decide (a = a + bl.length) = decide (bl.length = 0) from decide_eq_decide.2 (by omega), hb, hrd]
      rfl
    have hd4 : l.drop (a + bl.length + w.length) = Tk.pend ts (i + 1) ++ Tk.wtext (m + 1) ts (i + 1) := by
      rw [← List.drop_drop, hd3, List.drop_left' rfl, ← hrest]
      unfold Tk.pend
      rw [if_neg (by omega), Nat.add_sub_cancel]
    have hlw : (w ++ rest).length = w.length + rest.length := List.length_append
    obtain ⟨ts', h1, h2⟩ := toks_back ho l m (i + 1) f (a + bl.length + w.length) ((Tk.at_ ts i).1 == 1 || (Tk.at_ ts i).1 == 2) (acc ++ [((Tk.at_ ts i).1, (Tk.at_ ts i).2.1, a + bl.length)]) (by omega) hd4 (by omega)
      (by unfold Tk.follows; rw [Nat.add_sub_cancel, decide_eq_true (by omega), Bool.true_and]) (by omega)
    refine ⟨((Tk.at_ ts i).1, (Tk.at_ ts i).2.1, a + bl.length) :: ts', ?_, ?_⟩
    · rw [Tk.toks, hsk, if_pos rfl, if_neg (by dsimp only; omega)]
      dsimp only
      rw [hrl]
      dsimp only
      rw [if_pos hck, h1]
      simp
    · rw [List.map_cons, h2, List.drop_eq_getElem_cons hlt, List.map_cons, Tk.at_eq hlt]

theorem wtext_ge {ts : List Tk.T} (ho : Tk.Ok ts) : ∀ (m i : Nat), i + m = ts.length → (Tk.wtext (m + 1) ts i).length ≤ 65536 → m ≤ (Tk.wtext (m + 1) ts i).length
  | 0, _, _, _ => Nat.zero_le _
  | m + 1, i, hi, hl => by
    have hlt : i < ts.length := by omega
    have hbe := behind_at ho (m := m) hlt (by omega)
    have hck := ho.check i hlt
    have hkd := ho.kind i hlt
    have hrd := rd_written hck hkd hbe
    have hbg := begins_written hck hkd hbe
    rw [Tk.wtext, if_pos hlt, List.append_assoc, List.append_assoc, List.length_append] at hl ⊢
    have h1 := (Tk.read_ok (by omega) hbg.pos hrd).1
    have h2 := wtext_ge ho m (i + 1) (by omega) (by simp only [List.length_append] at hl; omega)
    simp only [List.length_append]
    omega
/-- What Text writes is read as the same tokens, with an end. -/
theorem text_back {ts : List Tk.T} {s : List UInt8} (h : Tk.text ts = .ok s) : s.length ≤ 65536 ∧ ∃ ts' : List Tk.T, Tk.tokens s = .ok (ts' ++ [(0, [], s.length)]) ∧ ts'.map (fun t => (t.1, t.2.1)) = (Tk.cut ts).map (fun t => (t.1, t.2.1)) := by
  unfold Tk.text at h
  split at h
  · rename_i hc
    obtain ⟨h1, h2⟩ := textGo_ok (Tk.cut ts) _ 0 [] s (by simp) h
    rw [List.nil_append] at h1
    refine ⟨h2, ?_⟩
    obtain ⟨ts', h3, h4⟩ := toks_back (Tk.cut_ok hc) s (Tk.cut ts).length 0 (s.length + 2) 0 false [] (by omega) (by rw [List.drop_zero, h1]; rfl) (Nat.zero_le _) rfl (by have := wtext_ge (Tk.cut_ok hc) (Tk.cut ts).length 0 (by omega) (by rw [← h1]; exact h2); rw [← h1] at this; omega)
    refine ⟨ts', ?_, h4⟩
    unfold Tk.tokens
    rw [if_neg (by omega), h3]
    simp
  · cases h
end Go.Proofs.YtnkmefnbhfghgaaGreatDoor
