import Derived.Test.YtaefonagbcnmdaaGreatDoorM2
import Derived.Test.YtaefonagbcnmdaaGreatDoorM3
import Derived.Test.YtaefonagbcnmdaaGreatDoorM1
import Derived.Recover
import Derived.Defers
import Derived.BigQuiet
set_option linter.unusedSimpArgs false
set_option linter.unusedVariables false
namespace Go.Proofs.YtaefonagbcnmdaaGreatDoor
open Go.RowKit

/-- What holds of an open term that waits for a part. -/
def Tm.O.Wait (o : Tm.O) : Prop :=
  0 ≤ o.kind ∧ o.kind ≤ 6 ∧ (o.kind = 5 → o.places.length = o.parts.length + 1) ∧ (o.kind = 6 → o.parts.length = o.places.length ∧ 0 < o.places.length)
/-- What holds of the reader; b: 1 if a term is complete. -/
def Tm.S.Tight (n : Nat) (s : Tm.S) (b : Nat) : Prop := s.i ≤ n ∧ ∀ o ∈ s.stack, o.Wait ∧ o.parts.length + b ≤ s.i
theorem Tm.opn_wait {k m a : Int} {n : List UInt8} {l : List Tm} {p : List Int} (h0 : 0 ≤ k) (h4 : k ≤ 4) : (Tm.opn k m n a l p).Wait := by
  refine ⟨h0, ?_, ?_, ?_⟩
  · show k ≤ 6; omega
  · intro h; have h' : k = 5 := h; omega
  · intro h; have h' : k = 6 := h; omega
theorem Tm.opn_wait5 {m a p : Int} {n : List UInt8} : (Tm.opn 5 m n a [] [p]).Wait := ⟨by show (0 : Int) ≤ 5; omega, by show (5 : Int) ≤ 6; omega, fun _ => rfl, fun h => by have h' : (5 : Int) = 6 := h; omega⟩
section
variable {ts : List Tm.T} {en : Tm.T} {s s' : Tm.S}
theorem Tm.Good.of_kind (h : Tm.Good ts en) {i : Nat} (hk : (Tm.peek ts en i).1 ≠ 0) : i < ts.length := (h.peek hk).1
theorem Tm.Good.of_punct (h : Tm.Good ts en) {i : Nat} {l : List UInt8} (hk : Tm.punct (Tm.peek ts en i) = l) (hl : l ≠ []) : i < ts.length := by
  refine h.of_kind ?_
  intro h0
  apply hl
  rw [← hk]
  unfold Tm.punct
  rw [h0]
  rfl
theorem Tm.Good.of_infix (h : Tm.Good ts en) {i : Nat} (hk : (Tm.infixOf (Tm.peek ts en i)).1 ≠ 0) : i < ts.length := by
  refine h.of_kind ?_
  intro h0
  apply hk
  unfold Tm.infixOf Tm.punct
  rw [h0]
  rfl
theorem Tm.Good.of_stands (h : Tm.Good ts en) {i : Nat} (hk : Tm.standsFirst (Tm.peek ts en i) = true) : i < ts.length := by
  refine h.of_kind ?_
  intro h0
  rw [Tm.stands_kind h0] at hk
  cases hk
theorem Tight.pushed {n : Nat} {b : Nat} {o : Tm.O} (h : s.Tight n b) {i : Nat} (hi : s.i + 1 ≤ i) (hn : i ≤ n) (hw : o.Wait) (hp : o.parts.length ≤ i) : Tm.S.Tight n ⟨i, o :: s.stack, s.term, s.prio⟩ 0 := by
  refine ⟨hn, fun x hx => ?_⟩
  rcases List.mem_cons.1 hx with rfl | hx
  · exact ⟨hw, hp⟩
  · have := h.2 x hx
    exact ⟨this.1, by show x.parts.length + 0 ≤ i; omega⟩
theorem Tight.had {n : Nat} (h : s.Tight n 0) {i : Nat} (hi : s.i + 1 ≤ i) (hn : i ≤ n) (t : Tm) : Tm.S.Tight n ⟨i, s.stack, t, 0⟩ 1 :=
  ⟨hn, fun x hx => ⟨(h.2 x hx).1, by have := (h.2 x hx).2; show x.parts.length + 1 ≤ i; omega⟩⟩
/-- What a beginning leaves. -/
theorem Tm.begin_tight (hg : Tm.Good ts en) (h : s.Tight ts.length 0) {b : Bool} (hb : Tm.begin_ ts en s = .ok (s', b)) : s'.Tight ts.length (if b then 1 else 0) ∧ s.i + 1 ≤ s'.i := by
  unfold Tm.begin_ at hb
  simp only at hb
  split at hb
  · cases hb
  rename_i hst
  have hst' : Tm.standsFirst (Tm.peek ts en s.i) = true := by simpa using hst
  have hi := hg.of_stands hst'
  split at hb
  · cases hb
  have hn1 : s.i + 1 ≤ ts.length := hi
  split at hb
  · unfold Tm.beginName at hb
    simp only at hb
    split at hb
    · rename_i hx
      have h2 := hg.of_punct (i := s.next.i) (beq_iff_eq.1 hx) (by simp)
      injection hb with hb; injection hb with h3 h4; subst h3; subst h4
      have h2' : s.i + 1 + 1 ≤ ts.length := h2
      exact ⟨Tight.pushed h (i := s.i + 1 + 1) (by omega) h2' (Tm.opn_wait (by omega) (by omega)) (by simp [Tm.opn]), by show s.i + 1 ≤ s.i + 1 + 1; omega⟩
    split at hb
    · rename_i hx
      rw [Bool.and_eq_true, beq_iff_eq, beq_iff_eq] at hx
      have h2 := hg.of_kind (i := s.next.i) (by rw [hx.2]; decide)
      injection hb with hb; injection hb with h3 h4; subst h3; subst h4
      have h2' : s.i + 1 + 1 ≤ ts.length := h2
      exact ⟨Tight.had h (i := s.i + 1 + 1) (by omega) h2' _, by show s.i + 1 ≤ s.i + 1 + 1; omega⟩
    split at hb
    · rename_i hx
      rw [Bool.and_eq_true, beq_iff_eq] at hx
      have h2 := hg.of_kind (i := s.next.i) (by rw [hx.2]; decide)
      injection hb with hb; injection hb with h3 h4; subst h3; subst h4
      have h2' : s.i + 1 + 1 ≤ ts.length := h2
      exact ⟨Tight.had h (i := s.i + 1 + 1) (by omega) h2' _, by show s.i + 1 ≤ s.i + 1 + 1; omega⟩
    split at hb
    · split at hb
      · injection hb with hb; injection hb with h3 h4; subst h3; subst h4
        exact ⟨Tight.had h (i := s.i + 1) (by omega) hn1 _, Nat.le_refl _⟩
      · cases hb
    · injection hb with hb; injection hb with h3 h4; subst h3; subst h4
      exact ⟨Tight.pushed h (i := s.i + 1) (by omega) hn1 ⟨by simp, by simp, fun h => by simp at h, fun h => by simp at h⟩ (by simp), Nat.le_refl _⟩
  split at hb
  · injection hb with hb
    unfold Tm.beginVariable at hb
    split at hb
    · rename_i hx
      have h2 := hg.of_punct (i := s.next.i) (beq_iff_eq.1 hx) (by simp)
      injection hb with h3 h4; subst h3; subst h4
      have h2' : s.i + 1 + 1 ≤ ts.length := h2
      exact ⟨Tight.pushed h (i := s.i + 1 + 1) (by omega) h2' (Tm.opn_wait (by omega) (by omega)) (by simp [Tm.opn]), by show s.i + 1 ≤ s.i + 1 + 1; omega⟩
    · injection hb with h3 h4; subst h3; subst h4
      exact ⟨Tight.had h (i := s.i + 1) (by omega) hn1 _, Nat.le_refl _⟩
  split at hb
  · injection hb with hb; injection hb with h3 h4; subst h3; subst h4
    exact ⟨Tight.had h (i := s.i + 1) (by omega) hn1 _, Nat.le_refl _⟩
  split at hb
  · injection hb with hb; injection hb with h3 h4; subst h3; subst h4
    exact ⟨Tight.had h (i := s.i + 1) (by omega) hn1 _, Nat.le_refl _⟩
  split at hb
  · injection hb with hb; injection hb with h3 h4; subst h3; subst h4
    exact ⟨Tight.had h (i := s.i + 1) (by omega) hn1 _, Nat.le_refl _⟩
  · injection hb with hb
    unfold Tm.beginBracket at hb
    split at hb
    · injection hb with h3 h4; subst h3; subst h4
      exact ⟨Tight.pushed h (i := s.i + 1) (by omega) hn1 (Tm.opn_wait (by omega) (by omega)) (by simp [Tm.opn]), Nat.le_refl _⟩
    split at hb
    · injection hb with h3 h4; subst h3; subst h4
      exact ⟨Tight.pushed h (i := s.i + 1) (by omega) hn1 (Tm.opn_wait (by omega) (by omega)) (by simp [Tm.opn]), Nat.le_refl _⟩
    split at hb
    · rename_i hx
      have h2 := hg.of_punct (i := s.next.i) (beq_iff_eq.1 hx) (by simp)
      injection hb with h3 h4; subst h3; subst h4
      have h2' : s.i + 1 + 1 ≤ ts.length := h2
      exact ⟨Tight.had h (i := s.i + 1 + 1) (by omega) h2' _, by show s.i + 1 ≤ s.i + 1 + 1; omega⟩
    · injection hb with h3 h4; subst h3; subst h4
      exact ⟨Tight.pushed h (i := s.i + 1) (by omega) hn1 Tm.opn_wait5 (by simp [Tm.opn]), Nat.le_refl _⟩
theorem Tm.pushInfix_tight (hg : Tm.Good ts en) (h : s.Tight ts.length 1) {b : Bool} (hb : Tm.pushInfix ts en s = (s', b)) : (b = true → s'.Tight ts.length 0 ∧ s.i + 1 ≤ s'.i ∧ s.i < ts.length) ∧ (b = false → s' = s) := by
  unfold Tm.pushInfix at hb
  simp only at hb
  split at hb
  · injection hb with h3 h4; subst h3; subst h4
    exact ⟨fun h => (by cases h), fun _ => rfl⟩
  · rename_i hx
    have hi : s.i < ts.length := hg.of_infix (by intro h0; rw [h0] at hx; simp at hx)
    injection hb with h3 h4; subst h3; subst h4
    exact ⟨fun _ => ⟨Tight.pushed h (i := s.i + 1) (by omega) hi ⟨by simp, by simp, fun h => by simp at h, fun h => by simp at h⟩ (by simp), Nat.le_refl _, hi⟩, fun h => (by cases h)⟩
end
end Go.Proofs.YtaefonagbcnmdaaGreatDoor

namespace Go.Proofs.YtaefonagbcnmdaaGreatDoor
open Go.RowKit

theorem Tm.O.Wait.fed {o : Tm.O} (h : o.Wait) (t : Tm) : ({ o with parts := o.parts ++ [t] } : Tm.O).Fed := by
  obtain ⟨h0, h6, h5, h66⟩ := h
  refine ⟨by simp, h0, h6, fun hk => ?_, fun hk => ?_⟩
  · have := h5 hk
    simp [this]
  · have := h66 hk
    simp [this]
theorem Tm.O.Wait.low {o : Tm.O} (h0 : 0 ≤ o.kind) (h4 : o.kind ≤ 4) : o.Wait := ⟨h0, by omega, fun h => by omega, fun h => by omega⟩
section
variable {ts : List Tm.T} {en : Tm.T}
theorem Tm.goOn_tight (hg : Tm.Good ts en) {o o' : Tm.O} {i i' : Nat} {r : Option Tm} (hf : o.Fed) (hi : i ≤ ts.length) (h : Tm.goOn ts en i o = .ok (i', o', r)) :
    i ≤ i' ∧ i' ≤ ts.length ∧ o'.parts.length = o.parts.length ∧ (r = none → o'.Wait) := by
  obtain ⟨h1, h0, h6, h5, h66⟩ := hf
  have key : ∀ {l : List UInt8}, (Tm.punct (Tm.peek ts en i) == l) = true → l ≠ [] → i + 1 ≤ ts.length := fun hx hl => hg.of_punct (i := i) (beq_iff_eq.1 hx) hl
  unfold Tm.goOn at h
  simp only at h
  split at h
  · rename_i hk
    rw [beq_iff_eq] at hk
    injection h with h; injection h with a1 a2; injection a2 with a2 a3; subst a1; subst a2
    exact ⟨Nat.le_refl _, hi, rfl, fun _ => .low (by show 0 ≤ o.kind; omega) (by show o.kind ≤ 4; omega)⟩
  split at h
  · rename_i hk
    rw [beq_iff_eq] at hk
    split at h
    · rename_i hx
      have := key hx (by simp)
      injection h with h; injection h with a1 a2; injection a2 with a2 a3; subst a1; subst a2
      exact ⟨by omega, this, rfl, fun _ => .low (by omega) (by omega)⟩
    · split at h
      · rename_i hx
        have := key hx (by simp)
        split at h
        · injection h with h; injection h with a1 a2; injection a2 with a2 a3; subst a1; subst a2; subst a3
          exact ⟨by omega, this, rfl, fun h => by cases h⟩
        · cases h
      · cases h
  split at h
  · split at h
    · rename_i hx
      have := key hx (by simp)
      injection h with h; injection h with a1 a2; injection a2 with a2 a3; subst a1; subst a2; subst a3
      exact ⟨by omega, this, rfl, fun h => by cases h⟩
    · cases h
  split at h
  · split at h
    · rename_i hx
      have := key hx (by simp)
      injection h with h; injection h with a1 a2; injection a2 with a2 a3; subst a1; subst a2; subst a3
      exact ⟨by omega, this, rfl, fun h => by cases h⟩
    · cases h
  split at h
  · rename_i hk
    rw [beq_iff_eq] at hk
    have h5' := h5 hk
    split at h
    · rename_i hx
      have := key hx (by simp)
      injection h with h; injection h with a1 a2; injection a2 with a2 a3; subst a1; subst a2; subst a3
      exact ⟨by omega, this, rfl, fun _ => ⟨h0, h6, fun _ => by simp [h5'], fun h => by have h' : o.kind = 6 := h; omega⟩⟩
    · split at h
      · rename_i hx
        have := key hx (by simp)
        injection h with h; injection h with a1 a2; injection a2 with a2 a3; subst a1; subst a2; subst a3
        exact ⟨by omega, this, rfl, fun _ => ⟨by show (0 : Int) ≤ 6; omega, by show (6 : Int) ≤ 6; omega, fun h => by have h' : (6 : Int) = 5 := h; omega, fun _ => ⟨h5'.symm, by show 0 < o.places.length; omega⟩⟩⟩
      · split at h
        · rename_i hx
          have := key hx (by simp)
          injection h with h; injection h with a1 a2; injection a2 with a2 a3; subst a1; subst a2; subst a3
          exact ⟨by omega, this, rfl, fun h => by cases h⟩
        · cases h
  split at h
  · split at h
    · rename_i hx
      have := key hx (by simp)
      injection h with h; injection h with a1 a2; injection a2 with a2 a3; subst a1; subst a2; subst a3
      exact ⟨by omega, this, rfl, fun h => by cases h⟩
    · cases h
  · injection h with h; injection h with a1 a2; injection a2 with a2 a3; subst a1; subst a2; subst a3
    exact ⟨Nat.le_refl _, hi, rfl, fun h => by cases h⟩
theorem Tm.give_tight (hg : Tm.Good ts en) {s s' : Tm.S} {o : Tm.O} {r : List Tm.O} (h : s.Tight ts.length 1) (hs : s.stack = o :: r) {b : Bool} (hb : Tm.give ts en s = .ok (s', b)) :
    s.i ≤ s'.i ∧ (b = false → s'.Tight ts.length 0 ∧ s'.stack ≠ []) ∧ (b = true → s'.Tight ts.length 1 ∧ s'.stack = r) := by
  rw [Tm.give_eq hs] at hb
  obtain ⟨hw, hp⟩ := h.2 o (by rw [hs]; simp)
  cases hgo : Tm.goOn ts en s.i { o with parts := o.parts ++ [s.term] } with
  | error f => rw [hgo] at hb; cases hb
  | ok x =>
    obtain ⟨i', o', t⟩ := x
    obtain ⟨h1, h2, h3, h4⟩ := Tm.goOn_tight hg (hw.fed s.term) h.1 hgo
    simp only [List.length_append, List.length_singleton] at h3
    rw [hgo] at hb
    cases t with
    | none =>
      have hb' : (Except.ok ({ s with i := i', stack := o' :: r }, false) : Except Tm.F (Tm.S × Bool)) = .ok (s', b) := hb
      injection hb' with hb'; injection hb' with a1 a2; subst a1; subst a2
      refine ⟨h1, fun _ => ⟨⟨h2, fun x hx => ?_⟩, by simp⟩, (fun h => by cases h)⟩
      rcases List.mem_cons.1 hx with rfl | hx
      · exact ⟨h4 rfl, by show x.parts.length + 0 ≤ i'; omega⟩
      · have := h.2 x (by rw [hs]; exact List.mem_cons_of_mem _ hx)
        exact ⟨this.1, by have := this.2; show x.parts.length + 0 ≤ i'; omega⟩
    | some t =>
      have hb' : (Except.ok (⟨i', r, t, o'.prio⟩, true) : Except Tm.F (Tm.S × Bool)) = .ok (s', b) := hb
      injection hb' with hb'; injection hb' with a1 a2; subst a1; subst a2
      refine ⟨h1, (fun h => by cases h), fun _ => ⟨⟨h2, fun x hx => ?_⟩, rfl⟩⟩
      have := h.2 x (by rw [hs]; exact List.mem_cons_of_mem _ hx)
      exact ⟨this.1, by have := this.2; show x.parts.length + 1 ≤ i'; omega⟩
end
end Go.Proofs.YtaefonagbcnmdaaGreatDoor

namespace Go.Proofs.YtaefonagbcnmdaaGreatDoor
open Go.RowKit

theorem pushInfix_any {w : World} {κ : Nat → Nat} {g : Nat} {ts : List Tm.T} {en : Tm.T} {s : Tm.S} {e : Tm.E} {es : List Tm.E} {tv sv av : Value} (h : RInv w κ g ts en s (e :: es) tv sv av) (hg : Tm.Good ts en) :
    Calls Tryz.prog 74 #[.pointer (some ⟨g, 0, none⟩)] w (BPost w κ g ts en tv (Tm.pushInfix ts en s)) := by
  have hmost : s.most = e.1.most := by simp [Tm.S.most, h.stack]
  obtain ⟨T, hT⟩ : ∃ T, Tm.peek ts en s.i = T := ⟨_, rfl⟩
  obtain ⟨I, hI⟩ : ∃ I, Tm.infixOf T = I := ⟨_, rfl⟩
  have hu : Tm.pushInfix ts en s = if I.1 == 0 || decide (e.1.most < I.1) || decide (I.2.1 < s.prio) then (s, false) else (s.next.push ⟨1, I.2.2, T.2.1, T.2.2, [s.term], [], 2, I.2.2, I.1⟩, true) := by
    unfold Tm.pushInfix
    simp only [hT, hI, hmost]
  have no : ∀ {r : Ending} {w' : World}, (r = .returned (.bool false) ∧ Below w.heap.size w w') → Tm.pushInfix ts en s = (s, false) → BPost w κ g ts en tv (Tm.pushInfix ts en s) r w' := fun hr hq => by
    rw [hq]
    exact ⟨hr.1, κ, e :: es, sv, av, h.below hr.2, .below hr.2⟩
  cases h0 : (I.1 == 0)
  · cases h1 : decide (e.1.most < I.1)
    · cases h2 : decide (I.2.1 < s.prio)
      · have hq : Tm.pushInfix ts en s = (s.next.push ⟨1, I.2.2, T.2.1, T.2.2, [s.term], [], 2, I.2.2, I.1⟩, true) := by rw [hu, h0, h1, h2]; rfl
        have hi : s.i < ts.length := hg.of_infix (i := s.i) (by rw [hT, hI]; intro h3; rw [h3] at h0; simp at h0)
        rw [hq]
        refine (pushInfix_yes h T hT I hI h0 h1 h2 hi).mono ?_
        rintro r w' ⟨rfl, κ', e', sv', hR, hK, he⟩
        rw [he] at hR
        exact ⟨rfl, κ', _, sv', av, hR, hK⟩
      · have hq : Tm.pushInfix ts en s = (s, false) := by rw [hu, h0, h1, h2]; rfl
        exact (pushInfix_left h T hT I hI h0 h1 h2).mono (fun _ _ hr => no hr hq)
    · have hq : Tm.pushInfix ts en s = (s, false) := by rw [hu, h0, h1]; rfl
      exact (pushInfix_most h T hT I hI h0 h1).mono (fun _ _ hr => no hr hq)
  · have hq : Tm.pushInfix ts en s = (s, false) := by rw [hu, h0]; rfl
    exact (pushInfix_zero h T hT I hI h0).mono (fun _ _ hr => no hr hq)
/-- What read leaves. -/
def RPost (w : World) (κ : Nat → Nat) (g : Nat) (ts : List Tm.T) (en : Tm.T) (tv : Value) (r : Except Tm.F Tm.S) (e : Ending) (w' : World) : Prop :=
  match r with
  | .error f => e = Tm.thrown f.1 f.2 ∧ ∃ κ', Kept κ κ' w w'
  | .ok s => ∃ v, e = .returned (Tm.val s.term v) ∧ ∃ κ' sv', RInv w' κ' g ts en s [] tv sv' v ∧ Kept κ κ' w w' ∧ s.i ≤ ts.length
/-- The rest of the inner loop. -/
def Tm.onward (ts : List Tm.T) (en : Tm.T) (f : Nat) : Except Tm.F Tm.S → Except Tm.F Tm.S
  | .error x => .error x
  | .ok s2 => Tm.loop ts en f s2
theorem Tm.loop_nil {ts : List Tm.T} {en : Tm.T} {f : Nat} {s : Tm.S} (h : s.stack = []) : Tm.loop ts en f s = .ok s := by
  cases f with
  | zero => rfl
  | succ f => rw [Tm.loop]; rw [h]
theorem Tm.loop_cons {ts : List Tm.T} {en : Tm.T} {f : Nat} {s : Tm.S} (h : s.stack ≠ []) : Tm.loop ts en (f + 1) s = (match Tm.begin_ ts en s with
    | .error x => .error x
    | .ok (s', false) => Tm.loop ts en f s'
    | .ok (s', true) => Tm.onward ts en f (Tm.climb ts en (s'.stack.length + 1) s')) := by
  rw [Tm.loop]
  cases hs : s.stack with
  | nil => exact absurd hs h
  | cons o r =>
    dsimp only
    rcases Tm.begin_ ts en s with x | ⟨s', b⟩
    · rfl
    · cases b
      · rfl
      · dsimp only
        cases Tm.climb ts en (s'.stack.length + 1) s' <;> rfl
theorem Tm.climb_nil {ts : List Tm.T} {en : Tm.T} {f : Nat} {s : Tm.S} (h : s.stack = []) : Tm.climb ts en f s = .ok s := by
  cases f with
  | zero => rfl
  | succ f => rw [Tm.climb]; rw [h]
theorem Tm.climb_cons {ts : List Tm.T} {en : Tm.T} {f : Nat} {s : Tm.S} (h : s.stack ≠ []) : Tm.climb ts en (f + 1) s = (match Tm.pushInfix ts en s with
    | (s', true) => .ok s'
    | (s', false) => match Tm.give ts en s' with
      | .error x => .error x
      | .ok (s2, true) => Tm.climb ts en f s2
      | .ok (s2, false) => .ok s2) := by
  rw [Tm.climb]
  cases hs : s.stack with
  | nil => exact absurd hs h
  | cons o r => rfl
end Go.Proofs.YtaefonagbcnmdaaGreatDoor

namespace Go.Proofs.YtaefonagbcnmdaaGreatDoor
open Go.RowKit

/-- What is left to be done in the inner loop: b: a term is complete. -/
def Tm.inner (ts : List Tm.T) (en : Tm.T) (f : Nat) : Bool → Nat → Tm.S → Except Tm.F Tm.S
  | true, f2, s => Tm.onward ts en f (Tm.climb ts en f2 s)
  | false, _, s => Tm.loop ts en f s
def Tm.b01 : Bool → Nat | true => 1 | false => 0
def Tm.lenAt (w : World) (g : Nat) : Nat := match (w.cell? ⟨g, 5, none⟩).getD undef with | .slice _ n _ => n | _ => 0
def Tm.boolAt : Value → Nat | .bool true => 1 | _ => 0
def Tm.left2 (c : Value) (w : World) (g : Nat) : Nat := Tm.boolAt c * (Tm.lenAt w g + 1)
section
variable {w : World} {κ : Nat → Nat} {g : Nat} {ts : List Tm.T} {en : Tm.T} {s : Tm.S} {es : List Tm.E} {tv sv av : Value}
theorem RInv.atI (h : RInv w κ g ts en s es tv sv av) : Tk.cellAt w g 1 = s.i := by
  have := h.facts.2.2.1
  unfold Tk.cellAt
  rw [this]
  rfl
theorem RInv.atLen (h : RInv w κ g ts en s es tv sv av) : Tm.lenAt w g = es.length := by
  have h5 := h.facts.2.2.2.2.2.2.1
  obtain ⟨A, c, hv⟩ := own_slice h.own
  unfold Tm.lenAt
  rw [h5, hv]
  rfl
set_option maxRecDepth 100000 in
set_option maxHeartbeats 8000000 in
theorem pread_any (h : RInv w κ g ts en s [] tv sv av) (hgd : Tm.Good ts en) (hi : s.i ≤ ts.length) :
    Calls Tryz.prog 46 #[.pointer (some ⟨g, 0, none⟩)] w (RPost w κ g ts en tv (Tm.read ts en s)) := by
  obtain ⟨R, hR⟩ : ∃ R, Tm.read ts en s = R := ⟨_, rfl⟩
  rw [hR]
  have hR0 : Tm.loop ts en (ts.length + 2) (s.push (Tm.opn 0 1200 [] 0 [] [])) = R := hR
  have HR0 := Lib.hid hR0
  have HG := Lib.hid hgd
  have hn := h.hn
  have hst0 : s.stack = [] := h.stack
  obtain ⟨κ1, hR1, hK1, hc⟩ := h.boxed (.cells #[.int .i64 0, .string ⟨#[]⟩, .int .i64 0, .slice none 0 0, .int .i64 0] 32)
  have HR1 := Lib.hid hR1
  have HK1 := Lib.hid hK1
  have HC := Lib.hid hc
  clear h hR1 hK1 hc hR hR0 hgd
  go_enter Tryz.func46, Tryz.ntmps46
  go_wp2_with fail
  refine (ppush_any HR1.out (Tm.opn 0 1200 [] 0 [] []) (.slice none 0 0) (.slice none 0 0) (open_none rfl rfl) (by simp) (by simp [Tm.opn])).mono ?_
  rintro r w2 ⟨rfl, κ2, sv2, hR2, hK2⟩
  have HR2 := Lib.hid hR2
  have HK2 := Lib.hid hK2
  have hgl2 := hR2.blk.lt
  clear hR2 hK2
  go_wp2_with fail
  have HBN := Lib.hid (Blk.new w 32 #[.int .i64 0, .string ⟨#[]⟩, .int .i64 0, .slice none 0 0, .int .i64 0])
  generalize hW0 : w.alloc (.cells #[.int .i64 0, .string ⟨#[]⟩, .int .i64 0, .slice none 0 0, .int .i64 0] 32) = W0 at *
  go_loopw [3] (fun c wr => ∃ (f : Nat) (s' : Tm.S) (es' : List Tm.E) (sv' av' : Value) (κ' : Nat → Nat), Hid (RInv wr κ' g ts en s' es' tv sv' av') ∧ Hid (Kept κ1 κ' W0 wr) ∧ s'.Tight ts.length 0 ∧ ts.length < f + s'.i ∧ Hid (Tm.loop ts en f s' = R))
    (fun _ wr => ts.length + 1 - (Tk.cellAt wr g 1).toNat)
  case atStart =>
    exact ⟨ts.length + 2, _, _, _, _, κ2, HR2, HK2, ⟨hi, fun o ho => by
      rcases List.mem_cons.1 ho with rfl | ho
      · exact ⟨Tm.opn_wait (by omega) (by omega), by simp [Tm.opn]⟩
      · rw [hst0] at ho; cases ho⟩, by omega, HR0⟩
  case round =>
    obtain ⟨f, s1, es1, sv1, av1, κ3, HR3, HK3, hT, hf, hL⟩ := hrel
    obtain ⟨A1, c1, hs1⟩ := own_slice HR3.out.own
    subst hs1
    have hg5 := HR3.out.facts.2.2.2.2.2.2.1
    have hgl3 := HR3.out.blk.lt
    have hstk := HR3.out.stack
    cases es1 with
    | nil =>
      have hnil : s1.stack = [] := hstk
      have hRR : R = .ok s1 := by rw [← hL.out, Tm.loop_nil hnil]
      obtain ⟨Av, cv, rfl⟩ := HR3.out.term.form
      have hgb := HR3.out.blk
      obtain ⟨g6, g7, g8, g9, g10⟩ : wr.cell? ⟨g, 6, none⟩ = some (.int .i64 s1.term.kind) ∧ wr.cell? ⟨g, 7, none⟩ = some (.string ⟨s1.term.name.toArray⟩) ∧ wr.cell? ⟨g, 8, none⟩ = some (.int .i64 s1.term.num) ∧ wr.cell? ⟨g, 9, none⟩ = some (.slice Av s1.term.args.length cv) ∧ wr.cell? ⟨g, 10, none⟩ = some (.int .i64 s1.term.at_) :=
        ⟨by simpa using hgb.cell 6, by simpa using hgb.cell 7, by simpa using hgb.cell 8, by simpa using hgb.cell 9, by simpa using hgb.cell 10⟩
      have hb := HBN.out.kept HK3.out HC.out
      have hcN : κ3 w.heap.size = 1 := (HK3.out.block w.heap.size HBN.out.lt (by rw [HC.out]; exact Nat.le_refl 1)).2.trans HC.out
      obtain ⟨r0, r1, r2, r3, r4⟩ : wr.cell? ⟨w.heap.size, 0, none⟩ = some (.int .i64 0) ∧ wr.cell? ⟨w.heap.size, 1, none⟩ = some (.string ⟨#[]⟩) ∧ wr.cell? ⟨w.heap.size, 2, none⟩ = some (.int .i64 0) ∧ wr.cell? ⟨w.heap.size, 3, none⟩ = some (.slice none 0 0) ∧ wr.cell? ⟨w.heap.size, 4, none⟩ = some (.int .i64 0) :=
        ⟨by simpa using hb.cell 0, by simpa using hb.cell 1, by simpa using hb.cell 2, by simpa using hb.cell 3, by simpa using hb.cell 4⟩
      have hfr := hb.frozen
      have hrl := hb.lt
      have HB := Lib.hid hb
      have HCN := Lib.hid hcN
      clear hgb hb hcN HR2 HK2
      go_wp2_with fail
      obtain ⟨w6, hw6, _, hG6, _, q0, q1, q2, q3, q4⟩ := HB.out.term5 s1.term.kind ⟨s1.term.name.toArray⟩ s1.term.num (.slice Av s1.term.args.length cv) s1.term.at_
      rw [hw6, hRR]
      exact bodyPost_ret (v := Tm.val s1.term (.slice Av s1.term.args.length cv)) (by simp [results, Tryz.results46, go_sem, q0, q1, q2, q3, q4, Tm.val]) rfl ⟨_, rfl, κ3, _, HR3.out.aside hG6 HCN.out, (HK1.out.trans HK3.out).above hG6 (Nat.le_refl _), hT.1⟩
    | cons e1 es1 =>
      obtain ⟨f1, rfl⟩ : ∃ f1, f = f1 + 1 := ⟨f - 1, by have := hT.1; omega⟩
      have hne : s1.stack ≠ [] := by rw [hstk]; simp
      have hlc := Tm.loop_cons (ts := ts) (en := en) (f := f1) hne
      have hix : (0 : Int) < ((es1.length : Nat) : Int) + 1 := by omega
      have hbt := fun (s' : Tm.S) (b : Bool) (hb : Tm.begin_ ts en s1 = .ok (s', b)) => Tm.begin_tight HG.out hT hb
      have HBT := Lib.hid hbt
      clear hbt
      rcases hb : Tm.begin_ ts en s1 with x | ⟨s2, b⟩
      · have hRR : R = .error x := by rw [← hL.out, hlc, hb]
        have hca := begin_any HR3.out hT.1 HG.out
        rw [hb] at hca
        have HCA := Lib.hid hca
        clear hca HBT hlc hb HR2 HK2
        go_wp2_with fail
        refine HCA.out.mono ?_
        rintro r w4 ⟨hr, κ4, hK4⟩
        unfold Tm.thrown at hr
        subst hr
        go_wp2_with fail
        rw [hRR]
        exact ⟨rfl, rfl, κ4, (HK1.out.trans HK3.out).trans hK4⟩
      · obtain ⟨hT2, hi2⟩ := HBT.out s2 b hb
        have hca := begin_any HR3.out hT.1 HG.out
        rw [hb] at hca hlc
        have hin : Tm.inner ts en f1 b (s2.stack.length + 1) s2 = R := by
          rw [← hL.out, hlc]
          cases b <;> rfl
        have HIN := Lib.hid hin
        have HCA := Lib.hid hca
        clear hca HBT hlc hb HR2 HK2 hL hin
        go_wp2_with fail
        refine HCA.out.mono ?_
        rintro r w4 ⟨hr, κ4, es4, sv4, av4, hR4, hK4⟩
        subst hr
        have HR4 := Lib.hid hR4
        have HK4 := Lib.hid (HK3.out.trans hK4)
        have hgl4 := hR4.blk.lt
        clear hR4 hK4 HCA
        go_wp2_with fail
        have hii : s1.i + 1 ≤ s2.i := hi2
        go_loopw [3] (fun c wr2 => ∃ (b2 : Bool) (f2 : Nat) (s5 : Tm.S) (es5 : List Tm.E) (sv5 av5 : Value) (κ5 : Nat → Nat), c = .bool b2 ∧ Hid (RInv wr2 κ5 g ts en s5 es5 tv sv5 av5) ∧ Hid (Kept κ1 κ5 W0 wr2) ∧ s1.i + 1 ≤ s5.i ∧ s5.Tight ts.length (Tm.b01 b2) ∧ es5.length < f2 ∧ Hid (Tm.inner ts en f1 b2 f2 s5 = R))
          (fun c wr2 => Tm.left2 c wr2 g)
        case atStart =>
          refine ⟨b, s2.stack.length + 1, s2, es4, sv4, av4, κ4, rfl, HR4, HK4, hii, ?_, ?_, HIN⟩
          · cases b
            · exact hT2
            · exact hT2
          · have := HR4.out.stack
            rw [this]
            simp
        case round =>
          rename_i c2 wr2
          obtain ⟨b2, f2, s5, es5, sv5, av5, κ5, rfl, HR5, HK5, hi5, hT5, hf5, hL5⟩ := hrel
          obtain ⟨A5, c5, hs5⟩ := own_slice HR5.out.own
          subst hs5
          have hg55 := HR5.out.facts.2.2.2.2.2.2.1
          have hgl5 := HR5.out.blk.lt
          have hstk5 := HR5.out.stack
          cases b2 with
          | false =>
            go_wp2_with fail
            go_roundw
            case rel => exact ⟨f1, s5, es5, _, av5, κ5, HR5, HK5, hT5, by omega, hL5⟩
            case measure => rw [HR3.out.atI, HR5.out.atI]; have := hT.1; have := hT5.1; omega
          | true =>
            cases es5 with
            | nil =>
              go_wp2_with fail
              go_roundw
              case rel =>
                refine ⟨f1, s5, [], _, av5, κ5, HR5, HK5, ⟨hT5.1, fun o ho => by rw [hstk5] at ho; cases ho⟩, by omega, Lib.hid ?_⟩
                have := hL5.out
                rw [Tm.inner, Tm.climb_nil hstk5] at this
                exact this
              case measure => rw [HR3.out.atI, HR5.out.atI]; have := hT.1; have := hT5.1; omega
            | cons e5 es5 =>
              obtain ⟨f6, rfl⟩ : ∃ f6, f2 = f6 + 1 := ⟨f2 - 1, by omega⟩
              have hne5 : s5.stack ≠ [] := by rw [hstk5]; simp
              have hix5 : (0 : Int) < ((es5.length : Nat) : Int) + 1 := by omega
              have hcl := Tm.climb_cons (ts := ts) (en := en) (f := f6) hne5
              have hpa := pushInfix_any HR5.out HG.out
              obtain ⟨s6, b6, hpu⟩ : ∃ s6 b6, Tm.pushInfix ts en s5 = (s6, b6) := ⟨_, _, rfl⟩
              obtain ⟨hy, hz⟩ := Tm.pushInfix_tight HG.out hT5 hpu
              rw [hpu] at hpa hcl
              have HPA := Lib.hid hpa
              clear hpa hpu
              cases b6 with
              | true =>
                obtain ⟨hT6, hi6, _⟩ := hy rfl
                have hL6 : Tm.loop ts en f1 s6 = R := by
                  have := hL5.out
                  rw [Tm.inner, hcl] at this
                  exact this
                have HL6 := Lib.hid hL6
                clear hcl hL6 hy hz hL5
                go_wp2_with fail
                refine HPA.out.mono ?_
                rintro r w7 ⟨hr, κ7, es7, sv7, av7, hR7, hK7⟩
                subst hr
                have HR7 := Lib.hid hR7
                have HK7 := Lib.hid (HK5.out.trans hK7)
                clear hR7 hK7 HPA
                go_wp2_with fail
                go_roundw
                case rel => exact ⟨false, es7.length + 1, s6, es7, sv7, av7, κ7, rfl, HR7, HK7, by omega, hT6, by omega, HL6⟩
                case measure => rw [Tm.left2, Tm.left2, HR5.out.atLen]; show 0 * _ < 1 * (_ + 1); omega
              | false =>
                have hs6 := hz rfl
                subst hs6
                have hcl2 : Tm.climb ts en (f6 + 1) s6 = (match Tm.give ts en s6 with | .error x => .error x | .ok (s2, true) => Tm.climb ts en f6 s2 | .ok (s2, false) => .ok s2) := hcl
                have hgt := fun (s' : Tm.S) (b : Bool) (hb : Tm.give ts en s6 = .ok (s', b)) => Tm.give_tight (o := e5.1) (r := es5.map (·.1)) HG.out hT5 (by rw [hstk5]; rfl) hb
                have HGT := Lib.hid hgt
                have hw5 := hT5.2 e5.1 (by rw [hstk5]; simp)
                have HW5 := Lib.hid hw5
                clear hy hz hgt hw5 hcl
                go_wp2_with fail
                refine HPA.out.mono ?_
                rintro r w7 ⟨hr, κ7, es7, sv7, av7, hR7, hK7⟩
                subst hr
                have hst7 := hR7.stack
                rw [hstk5] at hst7
                cases es7 with
                | nil => simp at hst7
                | cons e7 es7 =>
                  simp only [List.map_cons, List.cons.injEq] at hst7
                  obtain ⟨he7, hes7⟩ := hst7
                  have hga := give_any hR7 hT5.1 (by have h0 : e5.1.parts.length + 1 ≤ s6.i := HW5.out.2; rw [← he7]; show e5.1.parts.length ≤ s6.i; omega) (by rw [← he7]; exact HW5.out.1.fed _)
                  have hl7 : es7.length = es5.length := by have := congrArg List.length hes7; simpa using this.symm
                  have HGA := Lib.hid hga
                  have HK7 := Lib.hid (HK5.out.trans hK7)
                  clear hga hR7 hK7 HPA he7 hes7 HW5
                  rcases hgi : Tm.give ts en s6 with x | ⟨s8, b8⟩
                  · have hRR : R = .error x := by
                      rw [hgi] at hcl2
                      have h0 : Tm.climb ts en (f6 + 1) s6 = .error x := hcl2
                      have := hL5.out
                      rw [Tm.inner, h0] at this
                      exact this.symm
                    rw [hgi] at HGA
                    clear hcl2 hgi HGT
                    go_wp2_with fail
                    refine HGA.out.mono ?_
                    rintro r w8 ⟨hr, κ8, hK8⟩
                    unfold Tm.thrown at hr
                    subst hr
                    go_wp2_with fail
                    rw [hRR]
                    exact ⟨rfl, rfl, κ8, (HK1.out.trans HK7.out).trans hK8⟩
                  · obtain ⟨hi8, ht0, ht1⟩ := HGT.out s8 b8 hgi
                    have hL8 : Tm.inner ts en f1 b8 f6 s8 = R := by
                      rw [hgi] at hcl2
                      rw [← hL5.out, Tm.inner, hcl2]
                      cases b8 <;> rfl
                    rw [hgi] at HGA
                    have HL8 := Lib.hid hL8
                    have HT8 := Lib.hid (show s8.Tight ts.length (Tm.b01 b8) ∧ (b8 = true → s8.stack = es5.map (·.1)) by
                      cases b8
                      · exact ⟨(ht0 rfl).1, fun h => by cases h⟩
                      · exact ⟨(ht1 rfl).1, fun _ => (ht1 rfl).2⟩)
                    clear hcl2 hgi HGT hL8 ht0 ht1
                    go_wp2_with fail
                    refine HGA.out.mono ?_
                    rintro r w8 ⟨hr, κ8, es8, sv8, av8, hR8, hK8⟩
                    subst hr
                    have HR8 := Lib.hid hR8
                    have HK8 := Lib.hid (HK7.out.trans hK8)
                    clear hR8 hK8 HGA
                    go_wp2_with fail
                    go_roundw
                    case rel =>
                      cases b8
                      · exact ⟨false, es8.length + 1, s8, es8, sv8, av8, κ8, rfl, HR8, HK8, by omega, HT8.out.1, by omega, HL8⟩
                      · have h0 := HT8.out.2 rfl
                        rw [HR8.out.stack] at h0
                        have h1 := congrArg List.length h0
                        simp only [List.length_map] at h1
                        simp only [List.length_cons] at hf5
                        exact ⟨true, f6, s8, es8, sv8, av8, κ8, rfl, HR8, HK8, by omega, HT8.out.1, by omega, HL8⟩
                    case measure =>
                      rw [Tm.left2, Tm.left2, HR5.out.atLen, HR8.out.atLen]
                      cases b8
                      · show 0 * _ < 1 * (_ + 1); omega
                      · have h0 := HT8.out.2 rfl
                        rw [HR8.out.stack] at h0
                        have h1 := congrArg List.length h0
                        simp only [List.length_map] at h1
                        show 1 * (es8.length + 1) < 1 * ((e5 :: es5).length + 1)
                        rw [h1, List.length_cons]
                        omega
end
end Go.Proofs.YtaefonagbcnmdaaGreatDoor

namespace Go.Proofs.YtaefonagbcnmdaaGreatDoor
open Go.RowKit

theorem isEnd_any (k : Int) (s : ByteArray) (a : Int) (w : World) :
    Calls Tryz.prog 71 #[.agg #[.int .i64 k, .string s, .int .i64 a]] w fun e w' => e = .returned (.bool (k == 0)) ∧ Below w.heap.size w w' := by
  go_enter Tryz.func71, Tryz.ntmps71
  go_wp2
  go_ret
  exact ⟨rfl, (Below.refl _ _).alloc (Nat.le_refl _) _⟩
/-- Where the first end is. -/
def Tm.endIdx (ts : List Tm.T) : Nat := (ts.takeWhile fun t => !(t.1 == 0)).length
def Tm.endInt (ts : List Tm.T) : Int := if Tm.endIdx ts < ts.length then (Tm.endIdx ts : Int) else -1
set_option maxRecDepth 100000 in
set_option maxHeartbeats 1000000 in
theorem pIndexFunc_any (v : Value) (ts : List Tm.T) {κ : Nat → Nat} (w : World) (hn : ts.length ≤ 1000000) (hT : TokR w κ v ts) :
    Calls Tryz.prog 70 #[v, .func (.func 71) #[] #[]] w fun e w' => e = .returned (.int .i64 (Tm.endInt ts)) ∧ Below w.heap.size w w' := by
  obtain ⟨A, cap, rfl, hcap, hi⟩ := hT
  go_enter Tryz.func70, Tryz.ntmps70
  go_wp2_with fail
  go_loopw [8] (fun i wr => ∃ k : Nat, i = .int .i64 k ∧ k ≤ ts.length ∧ Below w.heap.size w wr ∧ Hid (∀ t ∈ ts.take k, (t.1 == 0) = false)) (fun i _ => ts.length - (intOf i).toNat)
  case atStart => exact ⟨0, by go_num, Nat.zero_le _, Below.refl _ _, Lib.hid (by simp)⟩
  case round =>
    obtain ⟨k, rfl, hk, hB, hH⟩ := hrel
    by_cases hlt : k < ts.length
    · obtain ⟨g, o, hA, hg, _, h0, h1, h2⟩ := hi k ts[k] (List.getElem?_eq_getElem hlt)
      have hA' := hA
      have c0 := (hB.cell (p := ⟨g, o + k * 3, none⟩) hg).trans h0
      have c1 := (hB.cell (p := ⟨g, o + k * 3 + 1, none⟩) hg).trans h1
      have c2 := (hB.cell (p := ⟨g, o + k * 3 + 2, none⟩) hg).trans h2
      clear h0 h1 h2
      have HI := Lib.hid hi; clear hi hA'
      subst hA
      cases hz : (ts[k].1 == 0)
      · have hnx : ∀ t ∈ ts.take (k + 1), (t.1 == 0) = false := by
          intro t ht
          rw [List.take_succ_eq_append_getElem hlt] at ht
          rcases List.mem_append.1 ht with h | h
          · exact hH.out t h
          · obtain rfl := List.mem_singleton.1 h
            exact hz
        have HNX := Lib.hid hnx; clear hnx
        go_wp2_with fail
        refine (isEnd_any _ _ _ _).mono ?_; rintro e w2 ⟨rfl, hB2⟩
        rw [hz]
        go_wp2_with fail
        go_roundw
        case rel => exact ⟨k + 1, by go_num, by omega, hB.trans (hB2.mono hB.size), HNX⟩
        case measure => simp [intOf]; omega
      · have hend : Tm.endInt ts = k := by
          have h1 : Tm.endIdx ts = k := by
            unfold Tm.endIdx
            have hs : ts = ts.take k ++ ts[k] :: ts.drop (k + 1) := by rw [← List.drop_eq_getElem_cons hlt, List.take_append_drop]
            rw [hs, List.takeWhile_append_of_pos (by intro t ht; rw [hH.out t ht]; rfl), List.takeWhile_cons, if_neg (by rw [hz]; decide)]
            simp; omega
          rw [Tm.endInt, h1, if_pos hlt]
        have HE := Lib.hid hend; clear hend
        go_wp2_with fail
        refine (isEnd_any _ _ _ _).mono ?_; rintro e w2 ⟨rfl, hB2⟩
        rw [hz]
        go_wp2_with fail
        go_ret
        exact ⟨ret_int (by rw [HE.out]), hB.trans (hB2.mono hB.size)⟩
    · have hend : Tm.endInt ts = -1 := by
        have h1 : Tm.endIdx ts = ts.length := by
          unfold Tm.endIdx
          have hthis := List.takeWhile_append_of_pos (p := fun t : Tm.T => !(t.1 == 0)) (l₁ := ts) (l₂ := []) (fun t ht => by rw [hH.out t (by rw [List.take_of_length_le (by omega)]; exact ht)]; rfl)
          simp only [List.append_nil, List.takeWhile_nil] at hthis
          rw [hthis]
        rw [Tm.endInt, h1, if_neg (by omega)]
      have HE := Lib.hid hend; clear hend
      go_wp2_with fail
      go_ret
      exact ⟨ret_int (by rw [HE.out]), hB⟩



/-- The tokens in front of the end, and what follows them. -/
def Tm.cut (ts : List Tm.T) : List Tm.T := ts.take (Tm.endIdx ts)
def Tm.endTok (ts : List Tm.T) : Tm.T := if Tm.endIdx ts < ts.length then (0, [], (ts.getD (Tm.endIdx ts) (0, [], 0)).2.2) else (0, [], 0)
/-- The fault of the first token that is not right. -/
def Tm.firstBad : List Tm.T → Option Tm.F
  | [] => none
  | t :: r => if Tk.check t.1 t.2.1 = 0 then Tm.firstBad r else some (t.2.2, Tk.check t.1 t.2.1)
theorem TokR.cut {w : World} {κ : Nat → Nat} {A : Option Addr} {cap : Nat} {ts : List Tm.T} (h : TokR w κ (.slice A ts.length cap) ts) {k : Nat} (hk : k ≤ ts.length) : TokR w κ (.slice A k cap) (ts.take k) := by
  obtain ⟨A', cap', hv, hc, hi⟩ := h
  injection hv with e1 e2 e3
  subst e1; subst e3
  refine ⟨A, cap, by rw [List.length_take, Nat.min_eq_left hk], by rw [List.length_take]; omega, fun i t ht => ?_⟩
  have hik : i < k := by
    have := (List.getElem?_eq_some_iff.1 ht).1
    rw [List.length_take] at this
    omega
  exact hi i t (by rw [List.getElem?_take_of_lt hik] at ht; exact ht)
end Go.Proofs.YtaefonagbcnmdaaGreatDoor

namespace Go.Proofs.YtaefonagbcnmdaaGreatDoor
open Go.RowKit

/-- What newReader leaves. -/
def NPost (w : World) (κ : Nat → Nat) (ts : List Tm.T) (e : Ending) (w' : World) : Prop :=
  Below w.heap.size w w' ∧ match Tm.firstBad (Tm.cut ts) with
  | some f => e = Tm.thrown f.1 f.2
  | none => ∃ g κ' v, e = .returned (.pointer (some ⟨g, 0, none⟩)) ∧ w.heap.size ≤ g ∧ RInv w' κ' g (Tm.cut ts) (Tm.endTok ts) Tm.start [] v (.slice none 0 0) (.slice none 0 0) ∧ Kept κ κ' w w'
theorem Tm.firstBad_drop {c : List Tm.T} {k : Nat} (hk : k < c.length) : Tm.firstBad (c.drop k) = if Tk.check c[k].1 c[k].2.1 = 0 then Tm.firstBad (c.drop (k + 1)) else some (c[k].2.2, Tk.check c[k].1 c[k].2.1) := by
  rw [List.drop_eq_getElem_cons hk]
  rfl
/-- A new reader. -/
theorem RInv.start {w : World} {κ : Nat → Nat} {v : Value} {c : List Tm.T} {en : Tm.T} (hT : TokR w κ v c) (hn : c.length ≤ 1000000) :
    RInv (w.alloc (.cells #[v, .int .i64 0, .int .i64 en.1, .string ⟨en.2.1.toArray⟩, .int .i64 en.2.2, .slice none 0 0, .int .i64 0, .string ⟨#[]⟩, .int .i64 0, .slice none 0 0, .int .i64 0, .int .i64 0] 106)) (fun b => if b = w.heap.size then 2 else κ b) w.heap.size c en Tm.start [] v (.slice none 0 0) (.slice none 0 0) := by
  have hK : Kept κ (fun b => if b = w.heap.size then 2 else κ b) w (w.alloc (.cells #[v, .int .i64 0, .int .i64 en.1, .string ⟨en.2.1.toArray⟩, .int .i64 en.2.2, .slice none 0 0, .int .i64 0, .string ⟨#[]⟩, .int .i64 0, .slice none 0 0, .int .i64 0, .int .i64 0] 106)) :=
    ⟨rfl, rfl, rfl, by simp, fun b hb _ => ⟨Below.heap_alloc _ _ _ hb, if_neg (by omega)⟩⟩
  exact ⟨Blk.new _ _ _, if_pos rfl, hT.kept hK, World.ownsRow_nil _ _ _ _, (fun k e => by cases e), trivial, .nil none 0, rfl, Nat.zero_le _, hn, Nat.zero_le _, (fun e he => by cases he)⟩
set_option maxRecDepth 100000 in
set_option maxHeartbeats 4000000 in
theorem newReader_any (v : Value) (ts : List Tm.T) {κ : Nat → Nat} (w : World) (hn : ts.length ≤ 1000000) (hT : TokR w κ v ts) (hsz : ∀ t ∈ ts, t.2.1.length ≤ 65536) (hG : Glob w) :
    Calls Tryz.prog 45 #[v] w (NPost w κ ts) := by
  have HT := Lib.hid hT
  have HSZ := Lib.hid hsz
  have hgl := hG.lt
  obtain ⟨A, cap, rfl, hcap, hi⟩ := hT
  have hlen : (Tm.cut ts).length ≤ ts.length := by unfold Tm.cut; rw [List.length_take]; omega
  have HCM := Lib.hid (show ∀ t ∈ Tm.cut ts, t.2.1.length ≤ 65536 from fun t ht => hsz t (List.mem_of_mem_take ht))
  obtain ⟨Z, hZ⟩ : ∃ Z, Tm.endInt ts = Z := ⟨_, rfl⟩
  have HZ := Lib.hid hZ
  obtain ⟨P, hP⟩ : ∃ P, NPost w κ ts = P := ⟨_, rfl⟩
  have HP := Lib.hid hP
  rw [hP]
  clear hP hsz
  go_enter Tryz.func45, Tryz.ntmps45
  go_wp2_with fail
  have hB1 := (Below.refl w.heap.size w).alloc (Nat.le_refl _) (.cells #[.int .i64 0, .string ⟨#[]⟩, .int .i64 0] 48)
  have hb1 := Blk.new w 48 #[.int .i64 0, .string ⟨#[]⟩, .int .i64 0]
  refine (pIndexFunc_any _ ts _ hn (HT.out.kept (.below hB1))).mono ?_
  rintro r w2 ⟨rfl, hB2⟩
  rw [hZ]
  have hb2 := hb1.below hB2 hb1.lt
  have hB3 := hB1.trans (hB2.mono hB1.size)
  have hz : (Tm.endIdx ts < ts.length ∧ Z = (Tm.endIdx ts : Int)) ∨ (¬ Tm.endIdx ts < ts.length ∧ Z = -1) := by
    rw [← hZ]
    unfold Tm.endInt
    split
    · exact .inl ⟨by assumption, rfl⟩
    · exact .inr ⟨by assumption, rfl⟩
  clear hZ hb1 hB1 hB2
  rcases hz with ⟨hlt, rfl⟩ | ⟨hge, rfl⟩
  · obtain ⟨g, o, hA, hg, _, c0, c1, c2⟩ := hi (Tm.endIdx ts) ts[Tm.endIdx ts] (List.getElem?_eq_getElem hlt)
    subst hA
    have hc2 := (hB3.cell (p := ⟨g, _, none⟩) hg).trans c2
    have hix0 : (0 : Int) ≤ (Tm.endIdx ts : Int) := by omega
    have hix1 : (Tm.endIdx ts : Int) < (ts.length : Int) := by omega
    have hix2 : (Tm.endIdx ts : Int) ≤ (cap : Int) := by omega
    have hgN : g ≠ w.heap.size := by omega
    have hNg := hgN.symm
    have n2 : w2.cell? ⟨w.heap.size, 2, none⟩ = some (.int .i64 0) := by simpa using hb2.cell 2
    have hf2 := hb2.frozen
    have hl2 := hb2.lt
    have hcl : (Tm.cut ts).length = Tm.endIdx ts := by unfold Tm.cut; rw [List.length_take]; omega
    have het : (Tm.endTok ts).2.2 = ts[Tm.endIdx ts].2.2 := by unfold Tm.endTok; rw [if_pos hlt, List.getD_eq_getElem?_getD, List.getElem?_eq_getElem hlt]; rfl
    have HE0 := Lib.hid (show (Tm.endTok ts).1 = 0 ∧ (Tm.endTok ts).2.1 = [] by unfold Tm.endTok; rw [if_pos hlt]; exact ⟨rfl, rfl⟩)
    rw [← het] at hc2
    have htc : TokR w κ (.slice (some ⟨g, o, none⟩) (Tm.endIdx ts) cap) (Tm.cut ts) := HT.out.cut (Nat.le_of_lt hlt)
    have HTW := Lib.hid htc
    rw [← hcl] at htc
    have HTW' := Lib.hid htc
    have HHI := Lib.hid hi
    clear hi
    clear c0 c1 c2 het htc
    go_wp2_with fail
    go_region
    rw [← hcl]
    clear hcl
    generalize hw3 : (w2.setCell ⟨w.heap.size, 2, none⟩ (.int .i64 (Tm.endTok ts).2.2)).drew = w3
    have HB3 := Lib.hid (show Below w.heap.size w w3 by rw [← hw3]; exact (hB3.setCell (p := ⟨w.heap.size, 2, none⟩) (Nat.le_refl _) _).drew)
    have HBE := Lib.hid (show Blk w3 w.heap.size 48 #[.int .i64 0, .string ⟨#[]⟩, .int .i64 (Tm.endTok ts).2.2] by rw [← hw3]; have := hb2.put 2 (.int .i64 (Tm.endTok ts).2.2); simp at this; exact this.drew)
    have HTC := Lib.hid (HTW'.out.kept (.below HB3.out))
    clear hw3 hb2 hB3 hc2 n2 hf2 hl2 HTW HTW' HHI
    clear HT
    generalize (some (⟨g, o, none⟩ : Addr)) = A0 at *
    go_wp2_with fail
    go_loopw [24] (fun i wr => ∃ k : Nat, i = .int .i64 k ∧ k ≤ (Tm.cut ts).length ∧ Below w3.heap.size w3 wr ∧ Hid (Tm.firstBad (Tm.cut ts) = Tm.firstBad ((Tm.cut ts).drop k))) (fun i _ => (Tm.cut ts).length - (intOf i).toNat)
    case atStart => exact ⟨0, by go_num, Nat.zero_le _, Below.refl _ _, Lib.hid rfl⟩
    case round =>
      obtain ⟨k, rfl, hk, hB, hH⟩ := hrel
      have hB5 := HB3.out.trans (hB.mono HB3.out.size)
      by_cases hkl : k < (Tm.cut ts).length
      · obtain ⟨A', cap', hv', hcap', hi'⟩ := HTC.out.kept (.below hB)
        injection hv' with e1 e2 e3
        subst e1; subst e3
        obtain ⟨g, o, hA, hg, _, c0, c1, c2⟩ := hi' k (Tm.cut ts)[k] (List.getElem?_eq_getElem hkl)
        subst hA
        have hTT := Blk.new wr 48 #[.int .i64 (Tm.cut ts)[k].1, .string ⟨(Tm.cut ts)[k].2.1.toArray⟩, .int .i64 (Tm.cut ts)[k].2.2]
        have hB6 := hB.alloc hB.size (.cells #[.int .i64 (Tm.cut ts)[k].1, .string ⟨(Tm.cut ts)[k].2.1.toArray⟩, .int .i64 (Tm.cut ts)[k].2.2] 48)
        have hG6 := hG.below (HB3.out.trans (hB6.mono HB3.out.size)) hgl
        have htl : (Tm.cut ts)[k].2.1.length ≤ 65536 := HCM.out _ (List.getElem_mem hkl)
        have HDR := Lib.hid (Tm.firstBad_drop hkl)
        clear hi' hcap'
        have hk2 : (k : Int) < ((Tm.cut ts).length : Int) := by omega
        go_wp2_with fail
        refine (check_any _ ⟨(Tm.cut ts)[k].2.1.toArray⟩ _ _ (by simpa [ByteArray.size] using htl) hG6).mono ?_
        rintro r w5 ⟨rfl, hB7⟩
        rw [show ({ data := (Tm.cut ts)[k].2.1.toArray } : ByteArray).data.toList = (Tm.cut ts)[k].2.1 from rfl]
        obtain ⟨cc, hcc⟩ : ∃ cc, Tk.check (Tm.cut ts)[k].1 (Tm.cut ts)[k].2.1 = cc := ⟨_, rfl⟩
        have HCC := Lib.hid hcc
        rw [hcc]
        clear hcc
        have hB8 := hB6.trans (hB7.mono hB6.size)
        have hT5 := hTT.below hB7 hTT.lt
        have d2 : w5.cell? ⟨wr.heap.size, 2, none⟩ = some (.int .i64 (Tm.cut ts)[k].2.2) := by simpa using hT5.cell 2
        by_cases hz : cc = 0
        · subst hz
          go_wp2_with fail
          go_roundw
          case rel => exact ⟨k + 1, by go_num, by omega, hB8, Lib.hid (by rw [hH.out, HDR.out, HCC.out, if_pos rfl])⟩
          case measure => simp [intOf]; omega
        · have ez : (cc != 0) = true := by rw [bne_iff_ne]; exact hz
          have hfb : Tm.firstBad (Tm.cut ts) = some ((Tm.cut ts)[k].2.2, cc) := by rw [hH.out, HDR.out, HCC.out, if_neg hz]
          have HFB := Lib.hid hfb; clear hfb
          go_wp2_with fail
          rw [← HP.out]
          refine ⟨rfl, HB3.out.trans (hB8.mono HB3.out.size), ?_⟩
          rw [HFB.out]
          rfl
      · have hfb : Tm.firstBad (Tm.cut ts) = none := by rw [hH.out, List.drop_of_length_le (by omega)]; rfl
        have HFB := Lib.hid hfb; clear hfb
        have hb5 := HBE.out.below hB (by exact HBE.out.lt)
        obtain ⟨n0, n1, n2⟩ : wr.cell? ⟨w.heap.size, 0, none⟩ = some (.int .i64 0) ∧ wr.cell? ⟨w.heap.size, 1, none⟩ = some (.string ⟨#[]⟩) ∧ wr.cell? ⟨w.heap.size, 2, none⟩ = some (.int .i64 (Tm.endTok ts).2.2) := ⟨by simpa using hb5.cell 0, by simpa using hb5.cell 1, by simpa using hb5.cell 2⟩
        have hk3 : ¬ (k : Int) < ((Tm.cut ts).length : Int) := by omega
        go_wp2_with fail
        rw [← HP.out]
        have hRS := RInv.start (en := Tm.endTok ts) (HTC.out.kept (.below hB)) (by omega)
        rw [HE0.out.1, HE0.out.2] at hRS
        have hBF : Below w.heap.size w (wr.alloc (.cells #[.slice A0 (Tm.cut ts).length cap, .int .i64 0, .int .i64 0, .string ⟨#[]⟩, .int .i64 (Tm.endTok ts).2.2, .slice none 0 0, .int .i64 0, .string ⟨#[]⟩, .int .i64 0, .slice none 0 0, .int .i64 0, .int .i64 0] 106)) := hB5.alloc hB5.size _
        refine ⟨hBF, ?_⟩
        rw [HFB.out]
        exact ⟨wr.heap.size, _, _, rfl, hB5.size, hRS, ⟨hBF.os, hBF.tape, hBF.output, hBF.size, fun b hb _ => ⟨hBF.block b hb, if_neg (by have := hB5.size; omega)⟩⟩⟩
  · have hcut : Tm.cut ts = ts := by
      unfold Tm.cut
      exact List.take_of_length_le (by omega)
    have HE0 := Lib.hid (show (Tm.endTok ts).1 = 0 ∧ (Tm.endTok ts).2.1 = [] by unfold Tm.endTok; rw [if_neg hge]; exact ⟨rfl, rfl⟩)
    have het : (Tm.endTok ts).2.2 = 0 := by unfold Tm.endTok; rw [if_neg hge]
    have hcl : ts.length = (Tm.cut ts).length := by rw [hcut]
    have HTC := Lib.hid (show TokR w2 κ (.slice A (Tm.cut ts).length cap) (Tm.cut ts) by rw [hcut]; exact HT.out.kept (.below hB3))
    have HBE := Lib.hid (show Blk w2 w.heap.size 48 #[.int .i64 0, .string ⟨#[]⟩, .int .i64 (Tm.endTok ts).2.2] by rw [het]; exact hb2)
    have HB3 := Lib.hid hB3
    clear hb2 hB3 het hcut hi hge
    generalize w2 = w3 at *
    generalize A = A0 at *
    go_wp2_with fail
    clear hcl HT
    go_loopw [24] (fun i wr => ∃ k : Nat, i = .int .i64 k ∧ k ≤ (Tm.cut ts).length ∧ Below w3.heap.size w3 wr ∧ Hid (Tm.firstBad (Tm.cut ts) = Tm.firstBad ((Tm.cut ts).drop k))) (fun i _ => (Tm.cut ts).length - (intOf i).toNat)
    case atStart => exact ⟨0, by go_num, Nat.zero_le _, Below.refl _ _, Lib.hid rfl⟩
    case round =>
      obtain ⟨k, rfl, hk, hB, hH⟩ := hrel
      have hB5 := HB3.out.trans (hB.mono HB3.out.size)
      by_cases hkl : k < (Tm.cut ts).length
      · obtain ⟨A', cap', hv', hcap', hi'⟩ := HTC.out.kept (.below hB)
        injection hv' with e1 e2 e3
        subst e1; subst e3
        obtain ⟨g, o, hA, hg, _, c0, c1, c2⟩ := hi' k (Tm.cut ts)[k] (List.getElem?_eq_getElem hkl)
        subst hA
        have hTT := Blk.new wr 48 #[.int .i64 (Tm.cut ts)[k].1, .string ⟨(Tm.cut ts)[k].2.1.toArray⟩, .int .i64 (Tm.cut ts)[k].2.2]
        have hB6 := hB.alloc hB.size (.cells #[.int .i64 (Tm.cut ts)[k].1, .string ⟨(Tm.cut ts)[k].2.1.toArray⟩, .int .i64 (Tm.cut ts)[k].2.2] 48)
        have hG6 := hG.below (HB3.out.trans (hB6.mono HB3.out.size)) hgl
        have htl : (Tm.cut ts)[k].2.1.length ≤ 65536 := HCM.out _ (List.getElem_mem hkl)
        have HDR := Lib.hid (Tm.firstBad_drop hkl)
        clear hi' hcap'
        have hk2 : (k : Int) < ((Tm.cut ts).length : Int) := by omega
        go_wp2_with fail
        refine (check_any _ ⟨(Tm.cut ts)[k].2.1.toArray⟩ _ _ (by simpa [ByteArray.size] using htl) hG6).mono ?_
        rintro r w5 ⟨rfl, hB7⟩
        rw [show ({ data := (Tm.cut ts)[k].2.1.toArray } : ByteArray).data.toList = (Tm.cut ts)[k].2.1 from rfl]
        obtain ⟨cc, hcc⟩ : ∃ cc, Tk.check (Tm.cut ts)[k].1 (Tm.cut ts)[k].2.1 = cc := ⟨_, rfl⟩
        have HCC := Lib.hid hcc
        rw [hcc]
        clear hcc
        have hB8 := hB6.trans (hB7.mono hB6.size)
        have hT5 := hTT.below hB7 hTT.lt
        have d2 : w5.cell? ⟨wr.heap.size, 2, none⟩ = some (.int .i64 (Tm.cut ts)[k].2.2) := by simpa using hT5.cell 2
        by_cases hz : cc = 0
        · subst hz
          go_wp2_with fail
          go_roundw
          case rel => exact ⟨k + 1, by go_num, by omega, hB8, Lib.hid (by rw [hH.out, HDR.out, HCC.out, if_pos rfl])⟩
          case measure => simp [intOf]; omega
        · have ez : (cc != 0) = true := by rw [bne_iff_ne]; exact hz
          have hfb : Tm.firstBad (Tm.cut ts) = some ((Tm.cut ts)[k].2.2, cc) := by rw [hH.out, HDR.out, HCC.out, if_neg hz]
          have HFB := Lib.hid hfb; clear hfb
          go_wp2_with fail
          rw [← HP.out]
          refine ⟨rfl, HB3.out.trans (hB8.mono HB3.out.size), ?_⟩
          rw [HFB.out]
          rfl
      · have hfb : Tm.firstBad (Tm.cut ts) = none := by rw [hH.out, List.drop_of_length_le (by omega)]; rfl
        have HFB := Lib.hid hfb; clear hfb
        have hb5 := HBE.out.below hB (by exact HBE.out.lt)
        obtain ⟨n0, n1, n2⟩ : wr.cell? ⟨w.heap.size, 0, none⟩ = some (.int .i64 0) ∧ wr.cell? ⟨w.heap.size, 1, none⟩ = some (.string ⟨#[]⟩) ∧ wr.cell? ⟨w.heap.size, 2, none⟩ = some (.int .i64 (Tm.endTok ts).2.2) := ⟨by simpa using hb5.cell 0, by simpa using hb5.cell 1, by simpa using hb5.cell 2⟩
        have hk3 : ¬ (k : Int) < ((Tm.cut ts).length : Int) := by omega
        go_wp2_with fail
        rw [← HP.out]
        have hRS := RInv.start (en := Tm.endTok ts) (HTC.out.kept (.below hB)) (by omega)
        rw [HE0.out.1, HE0.out.2] at hRS
        have hBF : Below w.heap.size w (wr.alloc (.cells #[.slice A0 (Tm.cut ts).length cap, .int .i64 0, .int .i64 0, .string ⟨#[]⟩, .int .i64 (Tm.endTok ts).2.2, .slice none 0 0, .int .i64 0, .string ⟨#[]⟩, .int .i64 0, .slice none 0 0, .int .i64 0, .int .i64 0] 106)) := hB5.alloc hB5.size _
        refine ⟨hBF, ?_⟩
        rw [HFB.out]
        exact ⟨wr.heap.size, _, _, rfl, hB5.size, hRS, ⟨hBF.os, hBF.tape, hBF.output, hBF.size, fun b hb _ => ⟨hBF.block b hb, if_neg (by have := hB5.size; omega)⟩⟩⟩
end Go.Proofs.YtaefonagbcnmdaaGreatDoor

namespace Go.Proofs.YtaefonagbcnmdaaGreatDoor
open Go.RowKit

theorem assert_fault (a c : Int) (w : World) : (Instr.typeAssert (.iface 26 (.agg #[.int .i64 a, .int .i64 c])) 20 26 true).run Tryz.prog w = .ok (.tuple #[.agg #[.int .i64 a, .int .i64 c], .bool true]) w := by kernel_rfl
theorem assert_nil (w : World) : (Instr.typeAssert .nilIface 20 26 true).run Tryz.prog w = .ok (.tuple #[.agg #[.int .i64 0, .int .i64 0], .bool false]) w := by kernel_rfl
set_option maxRecDepth 100000 in
set_option maxHeartbeats 2000000 in
theorem catch_fault (N : Nat) (a c : Int) (older : List PanicEntry) (w : World) (hb : Blk w N 26 #[.int .i64 0, .int .i64 0]) :
    CallsD Tryz.prog 69 #[.pointer (some ⟨N, 0, none⟩)] (.panicking ({ v := .iface 26 (.agg #[.int .i64 a, .int .i64 c]), recovered := false } :: older)) w fun e u' w' =>
      e = .returned (.tuple #[]) ∧ u' = .panicking ({ v := .iface 26 (.agg #[.int .i64 a, .int .i64 c]), recovered := true } :: older) ∧ Blk w' N 26 #[.int .i64 a, .int .i64 c] ∧ w.grownBy w' (some N) := by
  have c0 : w.cell? ⟨N, 0, none⟩ = some (.int .i64 0) := by simpa using hb.cell 0
  have c1 : w.cell? ⟨N, 1, none⟩ = some (.int .i64 0) := by simpa using hb.cell 1
  have hf := hb.frozen
  have hl := hb.lt
  refine callsD_of_wpS Tryz.func69 rfl fun c₀ cs hu => ?_
  simp only [Tryz.ntmps69, List.size_toArray, List.length_cons, List.length_nil, Nat.reduceAdd, Nat.reduceSub, Array.replicate_succ, Array.replicate_zero, List.push_toArray, List.append_toArray, List.nil_append, List.cons_append]
  apply wpS_seq
  apply wpS_region
  simp [wpOpsS, go_sem, recoverD, hu, Exit.thenS, assert_fault, Oper.upon]
  apply wpS_seq
  apply wpS_region
  simp [wpOpsS, go_sem, Exit.thenS, Oper.upon]
  refine wpS_cond (t := true) (by simp [Act.eval]) ?_
  simp only [if_true]
  apply wpS_region
  have hN : N ≠ w.heap.size := by omega
  have hN' := hN.symm
  simp [wpOpsS, go_sem, Oper.upon, c0, c1, hf, hl, hN, hN']
  refine ⟨rfl, _, rfl, .tuple #[], by simp [results, Tryz.results69], rfl, rfl, ?_, ?_⟩
  · refine Blk.alloc ?_ _
    simpa using (hb.put 0 (.int .i64 a)).put 1 (.int .i64 c)
  · exact gb_alloc (gb_set (gb_set (gb_refl w (some N)) (p := ⟨N, 0, none⟩) (.inl rfl) _) (p := ⟨N, 1, none⟩) (.inl rfl) _) _
theorem catch_idle (N : Nat) (w : World) :
    CallsD Tryz.prog 69 #[.pointer (some ⟨N, 0, none⟩)] .returning w fun e u' w' => e = .returned (.tuple #[]) ∧ u' = .returning ∧ Below w.heap.size w w' := by
  refine callsD_of_wpS Tryz.func69 rfl fun c₀ cs hu => ?_
  simp only [Tryz.ntmps69, List.size_toArray, List.length_cons, List.length_nil, Nat.reduceAdd, Nat.reduceSub, Array.replicate_succ, Array.replicate_zero, List.push_toArray, List.append_toArray, List.nil_append, List.cons_append]
  apply wpS_seq
  apply wpS_region
  simp [wpOpsS, go_sem, recoverD, hu, Exit.thenS, assert_nil, Oper.upon]
  apply wpS_seq
  apply wpS_region
  simp [wpOpsS, go_sem, Exit.thenS, Oper.upon]
  refine wpS_cond (t := false) (by simp [Act.eval]) ?_
  simp only [Bool.false_eq_true, if_false]
  refine wpS_of_wp (wp_skip ?_)
  refine ⟨rfl, .returning, by cases c₀; simp_all, .tuple #[], by simp [results, Tryz.results69], rfl, rfl, (Below.refl _ _).alloc (Nat.le_refl _) _⟩
set_option maxRecDepth 100000 in
set_option maxHeartbeats 1000000 in
/-- A function that is run, and whose fault is caught: X: what it leaves when it returns; Y: when a fault leaves it. -/
theorem caught_any (f : FuncId) (bx : Array Value) (w : World) (X : World → Prop) (Y : Int → Int → World → Prop) (he : ∀ w : World, (callFunc f bx).run Tryz.prog w = .ok (.enter f bx) w)
    (hY : ∀ a c w1, Y a c w1 → Blk w1 w.heap.size 26 #[.int .i64 0, .int .i64 0]) (hX : ∀ w1, X w1 → Blk w1 w.heap.size 26 #[.int .i64 0, .int .i64 0])
    (h : Calls Tryz.prog f bx (w.alloc (.cells #[.int .i64 0, .int .i64 0] 26)) fun e w1 => (e = .returned (.tuple #[]) ∧ X w1) ∨ (∃ a c, e = Tm.thrown a c ∧ Y a c w1)) :
    Calls Tryz.prog 43 #[.func (.func f) #[] bx] w fun e w' => ∃ a c w1, e = .returned (.agg #[.int .i64 a, .int .i64 c]) ∧ w1.grownBy w' (some w.heap.size) ∧ ((a = 0 ∧ c = 0 ∧ X w1) ∨ Y a c w1) := by
  have hmf : ∀ (fn : Fn) (first cap : Array Value) (w : World), (Instr.makeFunc fn first cap).run Tryz.prog w = .ok (.func fn first cap) w := fun _ _ _ _ => rfl
  go_enter_defers Tryz.func43, Tryz.ntmps43
  go_wp2_with fail
  refine h.mono ?_
  rintro e w1 (⟨rfl, hx⟩ | ⟨a, c, he1, hy⟩)
  · have hb := hX w1 hx
    have c0 : w1.cell? ⟨w.heap.size, 0, none⟩ = some (.int .i64 0) := by simpa using hb.cell 0
    have c1 : w1.cell? ⟨w.heap.size, 1, none⟩ = some (.int .i64 0) := by simpa using hb.cell 1
    have hf := hb.frozen
    have hl := hb.lt
    have HB := Lib.hid hb
    have HX := Lib.hid hx
    clear h hX hY hb hx
    go_wp2_with fail
    refine leaves_cons (f := 69) (args := #[.pointer (some ⟨w.heap.size, 0, none⟩)]) (by simp) (by simp [go_sem]) ?_
    refine (catch_idle w.heap.size _).mono ?_
    rintro e u' w2 ⟨rfl, rfl, hB2⟩
    have hb2 := ((HB.out.put 0 (.int .i64 0)).put 1 (.int .i64 0)).below hB2 (by simp; exact hl)
    have hg2 := gb_below (gb_set (gb_set (gb_refl w1 (some w.heap.size)) (p := ⟨w.heap.size, 0, none⟩) (.inl rfl) (.int .i64 0)) (p := ⟨w.heap.size, 1, none⟩) (.inl rfl) (.int .i64 0)) hB2
    have d0 : w2.cell? ⟨w.heap.size, 0, none⟩ = some (.int .i64 0) := by simpa using hb2.cell 0
    have d1 : w2.cell? ⟨w.heap.size, 1, none⟩ = some (.int .i64 0) := by simpa using hb2.cell 1
    simp only [Leaves, settle]
    exact ⟨.agg #[.int .i64 0, .int .i64 0], by simp [results, Tryz.results43, go_sem, d0, d1], 0, 0, w1, rfl, hg2, .inl ⟨rfl, rfl, HX.out⟩⟩
  · have hb := hY a c w1 hy
    unfold Tm.thrown at he1
    subst he1
    have HB := Lib.hid hb
    have HY := Lib.hid hy
    clear h hX hY hb hy
    go_wp2_with fail
    refine leaves_cons (f := 69) (args := #[.pointer (some ⟨w.heap.size, 0, none⟩)]) (by simp) (by simp [go_sem]) ?_
    refine (catch_fault w.heap.size a c [] _ HB.out).mono ?_
    rintro e u' w2 ⟨rfl, rfl, hb2, hg2⟩
    have d0 : w2.cell? ⟨w.heap.size, 0, none⟩ = some (.int .i64 a) := by simpa using hb2.cell 0
    have d1 : w2.cell? ⟨w.heap.size, 1, none⟩ = some (.int .i64 c) := by simpa using hb2.cell 1
    simp only [Leaves, settle]
    exact ⟨.agg #[.int .i64 a, .int .i64 c], by simp [results, Tryz.results43, go_sem, d0, d1], a, c, w1, rfl, hg2, .inr HY.out⟩
end Go.Proofs.YtaefonagbcnmdaaGreatDoor

namespace Go.Proofs.YtaefonagbcnmdaaGreatDoor
open Go.RowKit

/-- Whether a term goes on with its second argument without being nested deeper. -/
def Tm.isChain (t : Tm) : Bool := t.kind == 4 && t.args.length == 2 && (t.name == [44] || t.name == [59] || t.name == [38] || t.name == [91, 124, 93])
set_option maxRecDepth 100000 in
set_option maxHeartbeats 2000000 in
theorem isChain_any (t : Tm) (A : Option Addr) (c : Nat) (w : World) :
    Calls Tryz.prog 64 #[.agg #[.int .i64 t.kind, .string ⟨t.name.toArray⟩, .int .i64 t.num, .slice A t.args.length c, .int .i64 t.at_]] w fun e w' => e = .returned (.bool (Tm.isChain t)) ∧ Below w.heap.size w w' := by
  have HL := Lib.hid (show (⟨t.name.toArray⟩ : ByteArray).toList = t.name from str_list _)
  obtain ⟨S, hS⟩ : ∃ S : ByteArray, ⟨t.name.toArray⟩ = S := ⟨_, rfl⟩
  have hSl : S.toList = t.name := by rw [← hS]; exact HL.out
  rw [hS]
  have hB : ∀ o : Obj, Below w.heap.size w (w.alloc o) := fun o => (Below.refl _ _).alloc (Nat.le_refl _) _
  obtain ⟨R, hR⟩ : ∃ R, Tm.isChain t = R := ⟨_, rfl⟩
  rw [hR]
  unfold Tm.isChain at hR
  rw [← hSl] at hR
  have hl : (t.args.length == 2) = ((t.args.length : Int) == 2) := by
    rw [Bool.eq_iff_iff, beq_iff_eq, beq_iff_eq]
    omega
  rw [hl] at hR
  have HR := Lib.hid hR
  clear hR hl hSl hS
  cases hk : (t.kind == 4)
  · have hk' : (t.kind != 4) = true := by rw [bne, hk]; rfl
    go_enter Tryz.func64, Tryz.ntmps64
    go_wp2_with fail
    go_ret
    refine ⟨?_, hB _⟩
    rw [← HR.out, hk]
    rfl
  · have hk' : (t.kind != 4) = false := by rw [bne, hk]; rfl
    cases h2 : ((t.args.length : Int) == 2)
    · have h2' : ((t.args.length : Int) != 2) = true := by rw [bne, h2]; rfl
      go_enter Tryz.func64, Tryz.ntmps64
      go_wp2_with fail
      go_ret
      refine ⟨?_, hB _⟩
      rw [← HR.out, hk, h2]
      rfl
    · have h2' : ((t.args.length : Int) != 2) = false := by rw [bne, h2]; rfl
      go_enter Tryz.func64, Tryz.ntmps64
      go_wp2_with fail
      all_goals
        go_ret
        refine ⟨?_, hB _⟩
        have HR' := HR.out
        clear HR HL
        rw [hk, h2] at HR'
        (try simp only [beq_iff_eq, beq_eq_false_iff_ne, ne_eq, Bool.not_eq_true] at *)
        first | contradiction | (subst HR'; simp_all)
end Go.Proofs.YtaefonagbcnmdaaGreatDoor

