import Derived.Test.YtgmfhcnhpkeapaaGreatDoorM8
import Derived.Test.YtgmfhcnhpkeapaaGreatDoorP2t
set_option linter.unusedSimpArgs false
set_option linter.unusedVariables false
namespace Go.Proofs.YtgmfhcnhpkeapaaGreatDoor
open Go.RowKit

theorem Tm.suits_other {n : List UInt8} (l : List Tm) (h1 : ¬ n = [33, 46]) (h2 : ¬ n = [123, 125]) (h3 : ¬ n = [91, 124, 93]) (h4 : ¬ n = [91, 93]) : Tm.suits n l = true := by
  unfold Tm.suits
  rw [if_neg (by rw [beq_iff_eq]; exact h2), if_neg (by rw [beq_iff_eq]; exact h3), if_neg (by rw [beq_iff_eq]; exact h4), if_neg (by rw [beq_iff_eq]; exact h1)]

/-! What is read is right. -/
mutual
def Tm.rt : Tm → Prop
  | .mk k n m ts a => Tm.one (.mk k n m ts a) = 0 ∧ n.length ≤ 65536 ∧ Tm.rts ts
def Tm.rts : List Tm → Prop
  | [] => True
  | a :: ts => Tm.rt a ∧ Tm.rts ts
end
theorem Tm.rt_eq (t : Tm) : Tm.rt t = (Tm.one t = 0 ∧ t.name.length ≤ 65536 ∧ Tm.rts t.args) := by cases t; rw [Tm.rt]; rfl
theorem Tm.rts_append : ∀ (a b : List Tm), Tm.rts (a ++ b) ↔ Tm.rts a ∧ Tm.rts b
  | [], b => by simp [Tm.rts]
  | x :: a, b => by rw [List.cons_append, Tm.rts, Tm.rts, Tm.rts_append a b, and_assoc]
theorem Tm.rts_one (t : Tm) : Tm.rts [t] ↔ Tm.rt t := by simp [Tm.rts]
theorem Tm.rts_snoc {l : List Tm} {t : Tm} (h : Tm.rts l) (ht : Tm.rt t) : Tm.rts (l ++ [t]) := (Tm.rts_append _ _).2 ⟨h, (Tm.rts_one t).2 ht⟩
theorem Tm.rts_mem : ∀ {l : List Tm}, Tm.rts l → ∀ t ∈ l, Tm.rt t
  | [], _, t, ht => by cases ht
  | a :: l, h, t, ht => by
    rw [Tm.rts] at h
    rcases List.mem_cons.1 ht with rfl | ht
    · exact h.1
    · exact Tm.rts_mem h.2 t ht
mutual
theorem Tm.rck_right : ∀ t : Tm, Tm.rt t → Tm.rck t = 0
  | .mk k n m ts a, h => by rw [Tm.rt] at h; rw [Tm.rck, if_pos h.1]; exact Tm.rcks_right _ h.2.2
theorem Tm.rcks_right : ∀ ts : List Tm, Tm.rts ts → Tm.rcks ts = 0
  | [], _ => by rw [Tm.rcks]
  | a :: ts, h => by rw [Tm.rts] at h; rw [Tm.rcks, if_pos (Tm.rck_right a h.1)]; exact Tm.rcks_right ts h.2
end
mutual
theorem Tm.rt_walk : ∀ (t : Tm) (l : Int), Tm.rt t → ∀ e ∈ Tm.walk t l, Tm.rt e.2 ∧ Tm.siz e.2 ≤ Tm.siz t
  | .mk k n m ts a, l, h, e, he => by
    rw [Tm.walk] at he
    rcases List.mem_cons.1 he with rfl | he
    · exact ⟨h, Nat.le_refl _⟩
    · have h2 := h
      rw [Tm.rt] at h2
      have := Tm.rt_walks _ _ _ _ h2.2.2 e he
      rw [Tm.siz]
      exact ⟨this.1, by omega⟩
theorem Tm.rt_walks : ∀ (c : Bool) (l : Int) (i : Nat) (ts : List Tm), Tm.rts ts → ∀ e ∈ Tm.walks c l i ts, Tm.rt e.2 ∧ Tm.siz e.2 ≤ Tm.sizs ts
  | c, l, i, [], _, e, he => by rw [Tm.walks] at he; cases he
  | c, l, i, a :: ts, h, e, he => by
    rw [Tm.walks] at he
    rw [Tm.rts] at h
    rw [Tm.sizs]
    rcases List.mem_append.1 he with he | he
    · have := Tm.rt_walk _ _ h.1 e he; exact ⟨this.1, by omega⟩
    · have := Tm.rt_walks _ _ _ _ h.2 e he; exact ⟨this.1, by omega⟩
end
theorem Tm.rt_slim {t : Tm} (h : Tm.rt t) (hs : Tm.siz t ≤ 1099511627776) : ∀ e ∈ Tm.walk t 1, Tm.Slim e.2 := fun e he => by
  obtain ⟨h1, h2⟩ := Tm.rt_walk t 1 h e he
  rw [Tm.rt_eq] at h1
  have h3 := Tm.sizs_len e.2.args
  have h4 := Tm.siz_eq e.2
  exact ⟨h1.2.1, by omega⟩

/-! Each kind of term that is made. -/
theorem Tm.one_app {n : List UInt8} {l : List Tm} (a : Int) (h1 : Tk.check 1 n = 0) (h2 : Tm.suits n l = true) (h3 : l.length ≤ Tm.maxArgs n l) : Tm.one (Tm.app n a l) = 0 := by
  have h4 : ¬ Tm.maxArgs n l < l.length := by omega
  simp [Tm.one, Tm.app, Tm.kind, Tm.fields, Tm.name, Tm.num, Tm.args, Tm.appCode, h1, h2, h4]
theorem Tm.rt_app {n : List UInt8} {l : List Tm} (a : Int) (h0 : n.length ≤ 65536) (h1 : Tk.check 1 n = 0) (h2 : Tm.suits n l = true) (h3 : l.length ≤ Tm.maxArgs n l) (h4 : Tm.rts l) : Tm.rt (Tm.app n a l) := by
  rw [Tm.rt_eq]; exact ⟨Tm.one_app a h1 h2 h3, h0, h4⟩
theorem Tm.maxArgs_ge (n : List UInt8) (l : List Tm) : 32 ≤ Tm.maxArgs n l := by
  unfold Tm.maxArgs
  repeat' split
  all_goals omega
theorem Tm.maxArgs_snoc {n : List UInt8} {l : List Tm} (t : Tm) (h : l.length < Tm.maxArgs n l) : (l ++ [t]).length ≤ Tm.maxArgs n (l ++ [t]) := by
  match l, h with
  | [], _ => have := Tm.maxArgs_ge n ([] ++ [t]); simp at this ⊢; omega
  | a :: l, h =>
    have e : Tm.maxArgs n ((a :: l) ++ [t]) = Tm.maxArgs n (a :: l) := rfl
    rw [e, List.length_append, List.length_singleton]
    omega
theorem Tm.rt_var {n : List UInt8} (a : Int) (h0 : n.length ≤ 65536) (h : Tk.check 2 n = 0) : Tm.rt (.mk 0 n 0 [] a) := by
  rw [Tm.rt_eq]
  refine ⟨?_, h0, trivial⟩
  simp [Tm.one, Tm.kind, Tm.fields, Tm.name, Tm.num, Tm.args, h]
theorem Tm.rt_int {m : Int} (a : Int) (h1 : -4611686018427387903 ≤ m) (h2 : m ≤ 4611686018427387903) : Tm.rt (.mk 1 [] m [] a) := by
  rw [Tm.rt_eq]
  refine ⟨?_, by show 0 ≤ 65536; omega, trivial⟩
  have hf : Tm.far m = false := by unfold Tm.far; rw [decide_eq_false (by omega), decide_eq_false (by omega)]; rfl
  simp [Tm.one, Tm.kind, Tm.fields, Tm.name, Tm.num, Tm.args, hf]
theorem Tm.rt_char {m : Int} (a : Int) (h : Tm.isCh m = true) : Tm.rt (.mk 2 [] m [] a) := by
  rw [Tm.rt_eq]
  refine ⟨?_, by show 0 ≤ 65536; omega, trivial⟩
  simp [Tm.one, Tm.kind, Tm.fields, Tm.name, Tm.num, Tm.args, h]
theorem Tm.rt_text {n : List UInt8} (a : Int) (h0 : n.length ≤ 65536) (h : Tm.textOk n = true) : Tm.rt (.mk 3 n 0 [] a) := by
  rw [Tm.rt_eq]
  refine ⟨?_, h0, trivial⟩
  simp [Tm.one, Tm.kind, Tm.fields, Tm.name, Tm.num, Tm.args, h]
theorem inText_isCh (c : UInt8) : Tk.inText (c.toNat : Int) = true → Tm.isCh (c.toNat : Int) = true := by
  have h := c.toNat_lt
  unfold Tk.inText Tk.shown Tk.blank Tm.isCh
  simp only [Bool.or_eq_true, Bool.and_eq_true, decide_eq_true_eq, beq_iff_eq]
  omega
theorem tok_form {k : Int} {l : List UInt8} (h0 : ¬ k < 0) (h7 : ¬ 7 < k) (h : Tk.check k l = 0) : Tk.hasForm k l = true := by
  unfold Tk.check at h
  rw [if_neg h0, if_neg h7] at h
  split at h
  · assumption
  · cases h
theorem rall_text {l : List UInt8} (h : Tk.rall true l = true) : Tm.textOk l = true := by
  rw [rall_true] at h
  unfold Tk.allB at h
  unfold Tm.textOk
  rw [List.all_eq_true] at h ⊢
  exact fun c hc => inText_isCh c (h c hc)
theorem Tm.tok_int {l : List UInt8} (h : Tk.check 3 l = 0) : 0 ≤ Tm.digits l ∧ Tm.digits l ≤ 4611686018427387903 := by
  obtain ⟨_, _, _, _, _, u, _, h1, h2⟩ := int_right h
  omega
theorem Tm.tok_char {l : List UInt8} (h : Tk.check 4 l = 0) : Tm.isCh ((l.getD 0 0).toNat : Int) = true := by
  have hf := tok_form (by decide) (by decide) h
  rw [Tk.form4, Bool.and_eq_true, beq_iff_eq] at hf
  have ht := rall_text hf.2
  match l, hf.1, ht with
  | [c], _, ht =>
    unfold Tm.textOk at ht
    simpa using ht
theorem Tm.tok_text {l : List UInt8} (h : Tk.check 5 l = 0) : Tm.textOk l = true := by
  have hf := tok_form (by decide) (by decide) h
  rw [Tk.form5] at hf
  exact rall_text hf
theorem Tm.suits_pre {n : List UInt8} (h : (Tm.prefix_ n).1 ≠ 0) (l : List Tm) : Tm.suits n l = true := by
  refine Tm.suits_other l ?_ ?_ ?_ ?_ <;> (intro e; subst e; exact h (by decide))
theorem Tm.suits_infx {n : List UInt8} (h : (Tm.infx n).1 ≠ 0) (l : List Tm) : Tm.suits n l = true := by
  refine Tm.suits_other l ?_ ?_ ?_ ?_ <;> (intro e; subst e; exact h (by decide))
theorem Tm.rt_list {e : Tm} (he : Tm.rt e) : ∀ (l : List Tm) (places : List Int), Tm.rts l → Tm.rt (Tm.list l places e)
  | [], places, _ => by unfold Tm.list; simpa using he
  | t :: ts, [], _ => by unfold Tm.list; simpa using he
  | t :: ts, p :: ps, h => by
    rw [Tm.rts] at h
    have ih := Tm.rt_list he ts ps h.2
    unfold Tm.list at ih ⊢
    rw [List.zip_cons_cons, List.foldr_cons]
    exact Tm.rt_app _ (by decide) (by decide) rfl (Nat.le_trans (show 2 ≤ 32 by omega) (Tm.maxArgs_ge _ _)) ⟨h.1, ih, trivial⟩
theorem Tm.rts_getD {l : List Tm} (h : Tm.rts l) (hl : l ≠ []) : Tm.rt (l.getD 0 Tm.zero) := by
  match l, h, hl with
  | a :: l, h, _ => rw [Tm.rts] at h; exact h.1
theorem Tm.rts_last {l : List Tm} {t : Tm} (h : Tm.rts (l ++ [t])) : Tm.rts (l ++ [t]).dropLast ∧ Tm.rt ((l ++ [t]).getLastD Tm.zero) := by
  rw [List.dropLast_concat, List.getLastD_concat]
  have := (Tm.rts_append _ _).1 h
  exact ⟨this.1, (Tm.rts_one t).1 this.2⟩
end Go.Proofs.YtgmfhcnhpkeapaaGreatDoor

namespace Go.Proofs.YtgmfhcnhpkeapaaGreatDoor
open Go.RowKit

/-- An open term between its parts. -/
def Tm.O.R (o : Tm.O) : Prop :=
  Tm.rts o.parts ∧ o.name.length ≤ 65536 ∧ (o.kind = 1 → Tk.check 1 o.name = 0 ∧ (∀ l, Tm.suits o.name l = true) ∧ o.need ≤ 2) ∧ (o.kind = 2 → Tk.check 1 o.name = 0 ∧ o.parts.length ≤ Tm.maxArgs o.name o.parts) ∧ (o.kind = 4 → o.parts = [])
/-- An open term that takes one more part. -/
def Tm.O.Less (o : Tm.O) : Prop := o.kind = 2 → o.parts.length < Tm.maxArgs o.name o.parts
/-- The reader where a term begins. -/
def Tm.S.Rt0 (s : Tm.S) : Prop := (∀ o ∈ s.stack, o.R) ∧ ∀ o ∈ s.stack.tail, o.Less
/-- The reader where a term is complete. -/
def Tm.S.Rt1 (s : Tm.S) : Prop := (∀ o ∈ s.stack, o.R ∧ o.Less) ∧ Tm.rt s.term
theorem Tm.goOn_right {ts : List Tm.T} {en : Tm.T} {i i' : Nat} {o o' : Tm.O} {t : Tm} {r : Option Tm} (ho : o.R) (hl : o.Less) (ht : Tm.rt t)
    (h : Tm.goOn ts en i { o with parts := o.parts ++ [t] } = .ok (i', o', r)) : (r = none → o'.R) ∧ ∀ u, r = some u → Tm.rt u := by
  obtain ⟨h0, hn, h1, h2, h4⟩ := ho
  have hp := Tm.rts_snoc h0 ht
  have hg := Tm.rts_getD hp (by simp)
  obtain ⟨hd, hq⟩ := Tm.rts_last hp
  have hs : o.kind = 2 → (o.parts ++ [t]).length ≤ Tm.maxArgs o.name (o.parts ++ [t]) := fun hk => Tm.maxArgs_snoc t (hl hk)
  unfold Tm.goOn at h
  dsimp only at h
  repeat' split at h
  all_goals first | (cases h; done) | skip
  all_goals
    simp only [Except.ok.injEq, Prod.mk.injEq] at h
    obtain ⟨rfl, rfl, rfl⟩ := h
    simp only [beq_iff_eq] at *
    refine ⟨?_, ?_⟩
  all_goals first
    | (intro h; cases h; done)
    | (intro u hu; cases hu; done)
    | (intro u hu; cases hu; exact hg)
    | skip
  all_goals first
    | (intro u hu; cases hu
       have hk := h1 (by assumption)
       have hlen : ((o.parts ++ [t]).length : Int) = o.need := by assumption
       exact Tm.rt_app _ hn hk.1 (hk.2.1 _) (by have := hk.2.2; have := Tm.maxArgs_ge o.name (o.parts ++ [t]); omega) hp)
    | (intro u hu; cases hu
       have hk2 : o.kind = 2 := by assumption
       exact Tm.rt_app _ hn (h2 hk2).1 (by assumption) (hs hk2) hp)
    | (intro u hu; cases hu
       have hk4 : o.kind = 4 := by assumption
       exact Tm.rt_app _ (by decide) (by decide) (by rw [h4 hk4]; rfl) (by rw [h4 hk4]; exact Nat.le_trans (show 1 ≤ 32 by omega) (Tm.maxArgs_ge _ _)) hp)
    | (intro u hu; cases hu; refine Tm.rt_list ?_ _ _ hp; exact Tm.rt_app _ (by decide) (by decide) rfl (Nat.zero_le _) trivial)
    | (intro u hu; cases hu; exact Tm.rt_list hq _ _ hd)
    | (intro _
       refine ⟨hp, hn, fun hk => ?_, fun hk => ?_, fun hk => ?_⟩
       · first | exact h1 hk | exact absurd hk (by show ¬ ((6 : Int) = 1); decide)
       · first | exact ⟨(h2 hk).1, hs hk⟩ | exact absurd hk (by show ¬ ((6 : Int) = 2); decide)
       · have hk' : o.kind = 4 ∨ (6 : Int) = 4 := by first | exact .inl hk | exact .inr hk
         omega)
theorem Tm.give_right {ts : List Tm.T} {en : Tm.T} {s s' : Tm.S} {b : Bool} (h : Tm.give ts en s = .ok (s', b)) (hs : s.Rt1) (hn : s.stack ≠ []) : (b = false → s'.Rt0) ∧ (b = true → s'.Rt1) := by
  unfold Tm.give at h
  split at h
  · rename_i he; exact absurd he hn
  · rename_i o r he
    have ho := hs.1 o (by rw [he]; exact List.mem_cons_self ..)
    have hr : ∀ x ∈ r, x.R ∧ x.Less := fun x hx => hs.1 x (by rw [he]; exact List.mem_cons_of_mem _ hx)
    split at h
    · cases h
    · rename_i i' o' hg
      cases h
      have h1 := Tm.goOn_right ho.1 ho.2 hs.2 hg
      refine ⟨fun _ => ⟨fun x hx => ?_, fun x hx => (hr x hx).2⟩, fun h => (by cases h)⟩
      rcases List.mem_cons.1 hx with rfl | hx
      · exact h1.1 rfl
      · exact (hr x hx).1
    · rename_i i' o' t hg
      cases h
      have h1 := Tm.goOn_right ho.1 ho.2 hs.2 hg
      exact ⟨fun h => (by cases h), fun _ => ⟨hr, h1.2 _ rfl⟩⟩
theorem Tm.pushInfix_right {ts : List Tm.T} {en : Tm.T} {s s' : Tm.S} {b : Bool} (hg : Tm.Good ts en) (h : Tm.pushInfix ts en s = (s', b)) (hs : s.Rt1) : (b = true → s'.Rt0) ∧ (b = false → s' = s) := by
  unfold Tm.pushInfix at h
  dsimp only at h
  split at h
  · cases h; exact ⟨fun h => (by cases h), fun _ => rfl⟩
  · rename_i hc
    cases h
    refine ⟨fun _ => ⟨fun x hx => ?_, fun x hx => (hs.1 x hx).2⟩, fun h => (by cases h)⟩
    rcases List.mem_cons.1 hx with rfl | hx
    · have h0 : (Tm.infixOf (Tm.peek ts en s.i)).1 ≠ 0 := by
        intro e
        apply hc
        rw [e]
        rfl
      have hk : (Tm.peek ts en s.i).1 ≠ 0 := by
        intro e
        apply h0
        unfold Tm.infixOf Tm.punct
        rw [e]
        rfl
      obtain ⟨_, h1, h2⟩ := hg.peek hk
      generalize Tm.peek ts en s.i = t at h0 h1 h2
      unfold Tm.infixOf at h0
      split at h0
      · rename_i hc2
        have h3 : Tk.check 1 t.2.1 = 0 := by
          simp only [Bool.or_eq_true, Bool.and_eq_true, beq_iff_eq] at hc2
          rcases hc2 with hc2 | hc2
          · unfold Tm.punct at hc2
            split at hc2
            · rw [hc2]; decide
            · cases hc2
          · rw [hc2.1] at h1; exact h1
        exact ⟨(Tm.rts_one _).2 hs.2, h2, fun _ => ⟨h3, Tm.suits_infx h0, by show (2 : Int) ≤ 2; omega⟩, fun hk => absurd hk (by show ¬ ((1 : Int) = 2); decide), fun hk => absurd hk (by show ¬ ((1 : Int) = 4); decide)⟩
      · exact absurd rfl h0
    · exact (hs.1 x hx).1
/-- An open term that has no parts yet. -/
theorem Tm.O.fresh {o : Tm.O} (h : o.parts = []) (hn : o.name.length ≤ 65536) (h1 : o.kind = 1 → Tk.check 1 o.name = 0 ∧ (∀ l, Tm.suits o.name l = true) ∧ o.need ≤ 2) (h2 : o.kind = 2 → Tk.check 1 o.name = 0) : o.R :=
  ⟨by rw [h]; trivial, hn, h1, fun hk => ⟨h2 hk, by rw [h]; exact Nat.zero_le _⟩, fun _ => h⟩
theorem Tm.S.Rt1.push {s : Tm.S} {o : Tm.O} {i : Nat} (h : ∀ o ∈ s.stack, o.R ∧ o.Less) (ho : o.R) : Tm.S.Rt0 ⟨i, o :: s.stack, s.term, s.prio⟩ :=
  ⟨fun x hx => by
    rcases List.mem_cons.1 hx with rfl | hx
    · exact ho
    · exact (h x hx).1, fun x hx => (h x hx).2⟩
theorem Tm.not_full {s : Tm.S} (h : ¬ Tm.full s = true) (hs : s.Rt0) : ∀ o ∈ s.stack, o.R ∧ o.Less := by
  intro o ho
  refine ⟨hs.1 o ho, ?_⟩
  cases hst : s.stack with
  | nil => rw [hst] at ho; cases ho
  | cons x r =>
    rw [hst] at ho
    rcases List.mem_cons.1 ho with rfl | ho
    · intro hk
      have h3 := ((hs.1 o (by rw [hst]; exact List.mem_cons_self ..)).2.2.2.1 hk).2
      refine Nat.lt_of_le_of_ne h3 (fun e => h ?_)
      unfold Tm.full
      rw [hst]
      simp [hk, e]
    · exact hs.2 o (by rw [hst]; exact ho)
theorem Tm.begin_right {ts : List Tm.T} {en : Tm.T} {s s' : Tm.S} {b : Bool} (hg : Tm.Good ts en) (h : Tm.begin_ ts en s = .ok (s', b)) (hs : s.Rt0) : (b = false → s'.Rt0) ∧ (b = true → s'.Rt1) := by
  unfold Tm.begin_ at h
  dsimp only at h
  split at h
  · cases h
  split at h
  · cases h
  rename_i hst hfull
  have hA := Tm.not_full hfull hs
  have hk : (Tm.peek ts en s.i).1 ≠ 0 := by
    intro e
    apply hst
    rw [Tm.stands_kind e]
    rfl
  obtain ⟨_, hc, hl⟩ := hg.peek hk
  have hv : ∀ i, (Tm.peek ts en i).1 = 2 → Tm.rt (Tm.variable_ (Tm.peek ts en i)) := fun i hi => by
    obtain ⟨_, h1, h2⟩ := hg.peek (i := i) (by rw [hi]; decide)
    rw [hi] at h1
    exact Tm.rt_var _ h2 h1
  have hi3 : ∀ i, (Tm.peek ts en i).1 = 3 → 0 ≤ Tm.digits (Tm.peek ts en i).2.1 ∧ Tm.digits (Tm.peek ts en i).2.1 ≤ 4611686018427387903 := fun i hi => by
    obtain ⟨_, h1, h2⟩ := hg.peek (i := i) (by rw [hi]; decide)
    rw [hi] at h1
    exact Tm.tok_int h1
  split at h
  · rename_i h1
    rw [beq_iff_eq] at h1
    rw [h1] at hc
    unfold Tm.beginName at h
    dsimp only at h
    split at h
    · cases h
      exact ⟨fun _ => Tm.S.Rt1.push hA (Tm.O.fresh rfl hl (fun hk => absurd hk (by show ¬ ((2 : Int) = 1); decide)) (fun _ => hc)), fun h => (by cases h)⟩
    split at h
    · rename_i h2
      cases h
      rw [Bool.and_eq_true, beq_iff_eq, beq_iff_eq] at h2
      have := hi3 _ h2.2
      exact ⟨fun h => (by cases h), fun _ => ⟨hA, Tm.rt_int _ (by omega) (by omega)⟩⟩
    split at h
    · rename_i h2
      cases h
      rw [Bool.and_eq_true, beq_iff_eq] at h2
      refine ⟨fun h => (by cases h), fun _ => ⟨hA, Tm.rt_app _ hl hc ?_ (Nat.le_trans (show 1 ≤ 32 by omega) (Tm.maxArgs_ge _ _)) ⟨hv _ h2.2, trivial⟩⟩⟩
      have h3 := h2.1
      unfold Tm.isBang at h3
      simp only [Bool.or_eq_true, beq_iff_eq] at h3
      rcases h3 with (h3 | h3) | h3 <;> rw [h3] <;> rfl
    split at h
    · split at h
      · rename_i h4
        cases h
        exact ⟨fun h => (by cases h), fun _ => ⟨hA, Tm.rt_app _ hl hc h4 (Nat.zero_le _) trivial⟩⟩
      · cases h
    · rename_i h4
      cases h
      have h0 : (Tm.prefix_ (Tm.peek ts en s.i).2.1).1 ≠ 0 := by
        intro e
        apply h4
        rw [e]
        rfl
      refine ⟨fun _ => Tm.S.Rt1.push hA (Tm.O.fresh rfl hl (fun _ => ⟨hc, Tm.suits_pre h0, ?_⟩) (fun hk => absurd hk (by show ¬ ((1 : Int) = 2); decide))), fun h => (by cases h)⟩
      show (if _ then (2 : Int) else 1) ≤ 2
      split <;> omega
  split at h
  · rename_i h1
    rw [beq_iff_eq] at h1
    unfold Tm.beginVariable at h
    split at h
    · cases h
      refine ⟨fun _ => Tm.S.Rt1.push hA ⟨(Tm.rts_one _).2 (hv _ h1), by show 4 ≤ 65536; omega, fun hk => absurd hk (by show ¬ ((2 : Int) = 1); decide), fun _ => ⟨show Tk.check 1 [99, 97, 108, 108] = 0 by decide, Nat.le_trans (show 1 ≤ 32 by omega) (Tm.maxArgs_ge _ _)⟩, fun hk => absurd hk (by show ¬ ((2 : Int) = 4); decide)⟩, fun h => (by cases h)⟩
    · cases h
      exact ⟨fun h => (by cases h), fun _ => ⟨hA, hv _ h1⟩⟩
  split at h
  · rename_i h1
    rw [beq_iff_eq] at h1
    cases h
    have := hi3 _ h1
    exact ⟨fun h => (by cases h), fun _ => ⟨hA, Tm.rt_int _ (by omega) (by omega)⟩⟩
  split at h
  · rename_i h1
    rw [beq_iff_eq] at h1
    cases h
    rw [h1] at hc
    exact ⟨fun h => (by cases h), fun _ => ⟨hA, Tm.rt_char _ (Tm.tok_char hc)⟩⟩
  split at h
  · rename_i h1
    rw [beq_iff_eq] at h1
    cases h
    rw [h1] at hc
    exact ⟨fun h => (by cases h), fun _ => ⟨hA, Tm.rt_text _ hl (Tm.tok_text hc)⟩⟩
  · unfold Tm.beginBracket at h
    split at h
    · cases h
      exact ⟨fun _ => Tm.S.Rt1.push hA (Tm.O.fresh rfl (Nat.zero_le _) (fun hk => absurd hk (by show ¬ ((3 : Int) = 1); decide)) (fun hk => absurd hk (by show ¬ ((3 : Int) = 2); decide))), fun h => (by cases h)⟩
    split at h
    · cases h
      exact ⟨fun _ => Tm.S.Rt1.push hA (Tm.O.fresh rfl (Nat.zero_le _) (fun hk => absurd hk (by show ¬ ((4 : Int) = 1); decide)) (fun hk => absurd hk (by show ¬ ((4 : Int) = 2); decide))), fun h => (by cases h)⟩
    split at h
    · cases h
      exact ⟨fun h => (by cases h), fun _ => ⟨hA, Tm.rt_app _ (by decide) (by decide) rfl (Nat.zero_le _) trivial⟩⟩
    · cases h
      exact ⟨fun _ => Tm.S.Rt1.push hA (Tm.O.fresh rfl (Nat.zero_le _) (fun hk => absurd hk (by show ¬ ((5 : Int) = 1); decide)) (fun hk => absurd hk (by show ¬ ((5 : Int) = 2); decide))), fun h => (by cases h)⟩
theorem Tm.climb_right {ts : List Tm.T} {en : Tm.T} (hg : Tm.Good ts en) (f : Nat) {s s' : Tm.S} (hf : s.stack.length < f) (h : Tm.climb ts en f s = .ok s') (hs : s.Rt1) : s'.Rt0 ∧ (s'.stack = [] → Tm.rt s'.term) := by
  induction f generalizing s with
  | zero => omega
  | succ f ih =>
    by_cases hn : s.stack = []
    · rw [Tm.climb_nil hn] at h; cases h
      exact ⟨⟨fun o ho => (hs.1 o ho).1, fun o ho => by rw [hn] at ho; cases ho⟩, fun _ => hs.2⟩
    · rw [Tm.climb_cons hn] at h
      rcases hp : Tm.pushInfix ts en s with ⟨s1, b⟩
      rw [hp] at h
      have h1 := Tm.pushInfix_right hg hp hs
      cases b with
      | true =>
        cases h
        refine ⟨h1.1 rfl, fun e => ?_⟩
        unfold Tm.pushInfix at hp
        dsimp only at hp
        split at hp
        · cases hp
        · cases hp
          cases e
      | false =>
        dsimp only at h
        obtain rfl := h1.2 rfl
        split at h
        · cases h
        · rename_i s2 hgv
          have h2 := (Tm.give_right hgv hs hn).2 rfl
          refine ih ?_ h h2
          unfold Tm.give at hgv
          split at hgv
          · rename_i he; exact absurd he hn
          · rename_i o r he
            rw [he, List.length_cons] at hf
            split at hgv
            · cases hgv
            · cases hgv
            · cases hgv
              show r.length < f
              omega
        · rename_i s2 hgv
          cases h
          refine ⟨(Tm.give_right hgv hs hn).1 rfl, fun e => ?_⟩
          unfold Tm.give at hgv
          split at hgv
          · rename_i he; exact absurd he hn
          · split at hgv
            · cases hgv
            · cases hgv; cases e
            · cases hgv
theorem Tm.begin_stack {ts : List Tm.T} {en : Tm.T} {s s' : Tm.S} (h : Tm.begin_ ts en s = .ok (s', false)) : s'.stack ≠ [] := by
  unfold Tm.begin_ at h
  dsimp only at h
  repeat' split at h
  all_goals first | (cases h; done) | skip
  all_goals (try unfold Tm.beginName at h); (try unfold Tm.beginVariable at h); (try unfold Tm.beginBracket at h)
  all_goals (try dsimp only at h)
  all_goals repeat' split at h
  all_goals first | (cases h; done) | skip
  all_goals
    simp only [Except.ok.injEq, Prod.mk.injEq] at h
    obtain ⟨rfl, h⟩ := h
  all_goals first | (cases h; done) | (intro e; cases e)
/-- What the reader's loop leaves, where no open term is left. -/
theorem Tm.loop_right {ts : List Tm.T} {en : Tm.T} (hg : Tm.Good ts en) (f : Nat) {s s' : Tm.S} (h : Tm.loop ts en f s = .ok s') (hs : s.Rt0) (hz : s.stack = [] → Tm.rt s.term) : s'.stack = [] → Tm.rt s'.term := by
  induction f generalizing s with
  | zero => cases h; exact hz
  | succ f ih =>
    by_cases hn : s.stack = []
    · rw [Tm.loop_nil hn] at h; cases h; exact hz
    · rw [Tm.loop_cons hn] at h
      split at h
      · cases h
      · rename_i s1 hb
        exact ih h ((Tm.begin_right hg hb hs).1 rfl) (fun e => absurd e (Tm.begin_stack hb))
      · rename_i s1 hb
        have h1 := (Tm.begin_right hg hb hs).2 rfl
        unfold Tm.onward at h
        split at h
        · cases h
        · rename_i s2 hc
          obtain ⟨h2, h3⟩ := Tm.climb_right hg _ (Nat.lt_succ_self _) hc h1
          exact ih h h2 h3
end Go.Proofs.YtgmfhcnhpkeapaaGreatDoor

namespace Go.Proofs.YtgmfhcnhpkeapaaGreatDoor
open Go.RowKit

theorem Tm.begin_lt {ts : List Tm.T} {en : Tm.T} {s s' : Tm.S} {b : Bool} (hg : Tm.Good ts en) (h : Tm.begin_ ts en s = .ok (s', b)) : s.i + 1 ≤ s'.i ∧ s.i < ts.length := by
  refine ⟨?_, ?_⟩
  · unfold Tm.begin_ at h
    dsimp only at h
    repeat' split at h
    all_goals first | (cases h; done) | skip
    all_goals (try unfold Tm.beginName at h); (try unfold Tm.beginVariable at h); (try unfold Tm.beginBracket at h)
    all_goals (try dsimp only at h)
    all_goals repeat' split at h
    all_goals first | (cases h; done) | skip
    all_goals
      simp only [Except.ok.injEq, Prod.mk.injEq] at h
      obtain ⟨rfl, rfl⟩ := h
      simp only [Tm.S.have_, Tm.S.push, Tm.S.next]
      omega
  · unfold Tm.begin_ at h
    dsimp only at h
    split at h
    · cases h
    rename_i hst
    exact hg.of_stands (by simpa using hst)
/-- The reader's loop leaves no open term. -/
theorem Tm.loop_ends {ts : List Tm.T} {en : Tm.T} (hg : Tm.Good ts en) (f : Nat) {s s' : Tm.S} (hf : ts.length + 1 - s.i ≤ f) (h1 : 1 ≤ f) (h : Tm.loop ts en f s = .ok s') : s'.stack = [] := by
  induction f generalizing s with
  | zero => omega
  | succ f ih =>
    by_cases hn : s.stack = []
    · rw [Tm.loop_nil hn] at h; cases h; exact hn
    · rw [Tm.loop_cons hn] at h
      split at h
      · cases h
      · rename_i s1 hb
        have := Tm.begin_lt hg hb
        exact ih (by omega) (by omega) h
      · rename_i s1 hb
        have := Tm.begin_lt hg hb
        unfold Tm.onward at h
        split at h
        · cases h
        · rename_i s2 hc
          have := Tm.climb_le _ hc
          exact ih (by omega) (by omega) h
theorem Tm.read_right {ts : List Tm.T} {en : Tm.T} {s s' : Tm.S} (hg : Tm.Good ts en) (h : Tm.read ts en s = .ok s') (h0 : s.stack = []) : Tm.rt s'.term ∧ s'.stack = [] := by
  unfold Tm.read at h
  have hs := Tm.loop_ends hg _ (by show ts.length + 1 - s.i ≤ ts.length + 2; omega) (by omega) h
  refine ⟨Tm.loop_right hg _ h (Tm.S.Rt1.push (by rw [h0]; intro o ho; cases ho) (Tm.O.fresh rfl (Nat.zero_le _) (fun hk => absurd hk (by show ¬ ((0 : Int) = 1); decide)) (fun hk => absurd hk (by show ¬ ((0 : Int) = 2); decide)))) (fun e => by cases e) hs, hs⟩
theorem Tm.all_right {ts : List Tm.T} {en : Tm.T} (hg : Tm.Good ts en) (f : Nat) {s : Tm.S} {acc l : List Tm} (h : Tm.all ts en f s acc = .ok l) (h0 : s.stack = []) (hz : Tm.siz s.term ≤ 4 * s.i + 4)
    (ha : ∀ t ∈ acc, Tm.rt t ∧ Tm.siz t ≤ 4 * ts.length + 4) : ∀ t ∈ l, Tm.rt t ∧ Tm.siz t ≤ 4 * ts.length + 4 := by
  induction f generalizing s acc with
  | zero => rw [Tm.all] at h; cases h; exact ha
  | succ f ih =>
    by_cases hk : (Tm.peek ts en s.i).1 = 0
    · rw [Tm.all_stop hk] at h; cases h; exact ha
    · cases hr : Tm.read ts en s with
      | error x => rw [Tm.all_bad hk hr] at h; cases h
      | ok s' =>
        obtain ⟨h1, h2⟩ := Tm.read_right hg hr h0
        have h3 := Tm.read_siz hr h0 hz
        by_cases h7 : (Tm.peek ts en s'.i).1 = 7
        · rw [Tm.all_on hk hr h7] at h
          have h4 := (hg.peek (i := s'.i) (by rw [h7]; decide)).1
          refine ih h h2 (by show Tm.siz s'.term ≤ 4 * (s'.i + 1) + 4; omega) (fun t ht => ?_)
          rcases List.mem_append.1 ht with ht | ht
          · exact ha t ht
          · rw [List.mem_singleton.1 ht]
            exact ⟨h1, by omega⟩
        · rw [Tm.all_off hk hr h7] at h; cases h
theorem Tm.tooDeep_none : ∀ {l : List Tm}, Tm.tooDeep l = none → ∀ t ∈ l, ¬ 64 < Tm.depth t
  | [], _, t, ht => by cases ht
  | a :: l, h, t, ht => by
    rw [Tm.tooDeep] at h
    split at h
    · cases h
    · rcases List.mem_cons.1 ht with rfl | ht
      · assumption
      · exact Tm.tooDeep_none h t ht
theorem Tm.rt_check {t : Tm} (h : Tm.rt t) (hd : ¬ 64 < Tm.depth t) : Tm.checkT t = 0 := by
  rw [Tm.checkT_eq, ← Tm.depth_dep, if_neg hd, Tm.rck_right t h]
theorem Tm.terms_right {ts : List Tm.T} {l : List Tm} (hz : ∀ t ∈ ts, t.2.1.length ≤ 65536) (h : Tm.terms ts = .ok l) : ∀ t ∈ l, Tm.rt t ∧ Tm.siz t ≤ 4 * ts.length + 4 ∧ Tm.checkT t = 0 := by
  unfold Tm.terms at h
  split at h
  · cases h
  · rename_i hb
    have hlen : (Tm.cut ts).length ≤ ts.length := by unfold Tm.cut; rw [List.length_take]; omega
    have hg : Tm.Good (Tm.cut ts) (Tm.endTok ts) := ⟨Tm.endTok_kind ts, fun t ht => ⟨Tm.firstBad_none hb t ht, hz t (List.mem_of_mem_take ht)⟩⟩
    unfold Tm.nested at h
    split at h
    · cases h
    · rename_i l' hall
      split at h
      · cases h
      · rename_i hd
        cases h
        have h1 := Tm.all_right hg _ hall rfl (by show Tm.siz Tm.zero ≤ 4 * 0 + 4; rw [Tm.zero, Tm.siz_mk0]; omega) (fun t ht => by cases ht)
        intro t ht
        obtain ⟨h2, h3⟩ := h1 t ht
        exact ⟨h2, by omega, Tm.rt_check h2 (Tm.tooDeep_none hd t ht)⟩
/-- The terms of a text are right. -/
theorem Tm.text_right {s : List UInt8} {l : List Tm} (hs : s.length ≤ 65536) (h : Tm.text s = .ok l) : ∀ t ∈ l, Tm.rt t ∧ Tm.siz t ≤ 1099511627776 ∧ Tm.checkT t = 0 := by
  unfold Tm.text at h
  split at h
  · cases h
  · rename_i ts ht
    have hf := Tk.tokens_fine ht
    have hsz := hf.size
    intro t hm
    obtain ⟨h1, h2, h3⟩ := Tm.terms_right (fun t ht => by
      obtain ⟨u, hu, rfl⟩ := List.mem_map.1 ht
      obtain ⟨i, hi, rfl⟩ := List.getElem_of_mem hu
      have := hf.len i hi
      rw [Tk.at_eq hi] at this
      exact this) h t hm
    rw [List.length_map] at h2
    exact ⟨h1, by omega, h3⟩
theorem Tm.all_len {ts : List Tm.T} {en : Tm.T} (f : Nat) {s : Tm.S} {acc l : List Tm} (h : Tm.all ts en f s acc = .ok l) : l.length ≤ acc.length + f := by
  induction f generalizing s acc with
  | zero => rw [Tm.all] at h; cases h; omega
  | succ f ih =>
    by_cases hk : (Tm.peek ts en s.i).1 = 0
    · rw [Tm.all_stop hk] at h; cases h; omega
    · cases hr : Tm.read ts en s with
      | error x => rw [Tm.all_bad hk hr] at h; cases h
      | ok s' =>
        by_cases h7 : (Tm.peek ts en s'.i).1 = 7
        · rw [Tm.all_on hk hr h7] at h
          have := ih h
          rw [List.length_append, List.length_singleton] at this
          omega
        · rw [Tm.all_off hk hr h7] at h; cases h
theorem Tm.text_len {s : List UInt8} {l : List Tm} (h : Tm.text s = .ok l) : l.length ≤ s.length + 3 := by
  unfold Tm.text at h
  split at h
  · cases h
  · rename_i ts ht
    have hsz := (Tk.tokens_fine ht).size
    unfold Tm.terms at h
    split at h
    · cases h
    · have hlen : (Tm.cut (ts.map Tm.tok)).length ≤ ts.length := by unfold Tm.cut; rw [List.length_take, List.length_map]; omega
      unfold Tm.nested at h
      split at h
      · cases h
      · rename_i l' hall
        split at h
        · cases h
        · cases h
          have := Tm.all_len _ hall
          rw [List.length_nil] at this
          omega
end Go.Proofs.YtgmfhcnhpkeapaaGreatDoor

