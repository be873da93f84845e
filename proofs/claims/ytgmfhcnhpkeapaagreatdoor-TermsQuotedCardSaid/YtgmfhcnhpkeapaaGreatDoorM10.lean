import Derived.Test.YtgmfhcnhpkeapaaGreatDoorM9
import Derived.Test.YtgmfhcnhpkeapaaGreatDoorM5
set_option linter.unusedSimpArgs false
set_option linter.unusedVariables false
namespace Go.Proofs.YtgmfhcnhpkeapaaGreatDoor
open Go.RowKit

theorem Tm.same_rfl (N : Nat) : ∀ (l : List Tm), Tm.sizs l < N → Tm.sames l l = true := by
  induction N with
  | zero => intro l h; omega
  | succ N ih =>
    intro l
    induction l with
    | nil => intro _; rw [Tm.sames]
    | cons t ts iht =>
      intro h
      rw [Tm.sizs, Tm.siz_eq] at h
      rw [Tm.sames, Tm.same_eq, ih t.args (by omega), iht (by omega)]
      simp
/-! The reader over tokens that differ in their places and in their index alone: it does the same steps. -/
theorem Tm.sames_append : ∀ {a a' b b' : List Tm}, Tm.sames a a' = true → Tm.sames b b' = true → Tm.sames (a ++ b) (a' ++ b') = true
  | [], [], b, b', _, h => h
  | x :: a, y :: a', b, b', h1, h2 => by
    rw [Tm.sames, Bool.and_eq_true] at h1
    rw [List.cons_append, List.cons_append, Tm.sames, h1.1, Bool.true_and]
    exact Tm.sames_append h1.2 h2
  | [], _ :: _, _, _, h, _ => by rw [Tm.sames] at h; cases h
  | _ :: _, [], _, _, h, _ => by rw [Tm.sames] at h; cases h
theorem Tm.sames_length {a b : List Tm} (h : Tm.sames a b = true) : a.length = b.length := by
  by_cases hl : a.length = b.length
  · exact hl
  · rw [Tm.sames_len _ _ hl] at h; cases h
theorem Tm.same_self (t : Tm) : Tm.same t t = true := by rw [Tm.same_eq, Tm.same_rfl _ _ (Nat.lt_succ_self _)]; simp
theorem Tm.same_app (n : List UInt8) (a b : Int) {l m : List Tm} (h : Tm.sames l m = true) : Tm.same (Tm.app n a l) (Tm.app n b m) = true := by
  rw [Tm.same_eq]; simp [Tm.app, Tm.kind, Tm.name, Tm.num, Tm.args, h]
theorem Tm.sames_one {t u : Tm} (h : Tm.same t u = true) : Tm.sames [t] [u] = true := by rw [Tm.sames, h]; rfl
theorem Tm.same_kind {t u : Tm} (h : Tm.same t u = true) : t.kind = u.kind := by
  rw [Tm.same_eq] at h
  simp only [Bool.and_eq_true, beq_iff_eq] at h
  exact h.1.1.1
theorem Tm.sames_suits (n : List UInt8) {l m : List Tm} (h : Tm.sames l m = true) : Tm.suits n l = Tm.suits n m := by
  match l, m, h with
  | [], [], _ => rfl
  | [t], [u], h =>
    rw [Tm.sames, Bool.and_eq_true] at h
    unfold Tm.suits
    dsimp only
    unfold Tm.isVar
    rw [Tm.same_kind h.1]
    rfl
  | _ :: _ :: _, _ :: _ :: _, h =>
    unfold Tm.suits
    dsimp only
    rw [Tm.sames_length h]
  | [], _ :: _, h => rw [Tm.sames] at h; cases h
  | _ :: _, [], h => rw [Tm.sames] at h; cases h
  | [_], _ :: _ :: _, h => simp [Tm.sames] at h
  | _ :: _ :: _, [_], h => simp [Tm.sames] at h
theorem Tm.sames_maxArgs (n : List UInt8) {l m : List Tm} (h : Tm.sames l m = true) : Tm.maxArgs n l = Tm.maxArgs n m := by
  match l, m, h with
  | [], [], _ => rfl
  | t :: _, u :: _, h =>
    rw [Tm.sames, Bool.and_eq_true] at h
    have hk := Tm.same_kind h.1
    have hv : t.isVar = u.isVar := by unfold Tm.isVar; rw [hk]
    show (if (n == [99, 97, 108, 108] && t.isVar) = true then 33 else 32) = (if (n == [99, 97, 108, 108] && u.isVar) = true then 33 else 32)
    rw [hv]
  | [], _ :: _, h => rw [Tm.sames] at h; cases h
  | _ :: _, [], h => rw [Tm.sames] at h; cases h
theorem Tm.sames_getD {l m : List Tm} (h : Tm.sames l m = true) : Tm.same (l.getD 0 Tm.zero) (m.getD 0 Tm.zero) = true := by
  match l, m, h with
  | [], [], _ => exact Tm.same_self _
  | t :: _, u :: _, h => rw [Tm.sames, Bool.and_eq_true] at h; exact h.1
  | [], _ :: _, h => rw [Tm.sames] at h; cases h
  | _ :: _, [], h => rw [Tm.sames] at h; cases h
theorem Tm.sames_last : ∀ {l m : List Tm}, Tm.sames l m = true → Tm.sames l.dropLast m.dropLast = true ∧ Tm.same (l.getLastD Tm.zero) (m.getLastD Tm.zero) = true
  | [], [], _ => ⟨by rfl, Tm.same_self _⟩
  | [t], [u], h => by rw [Tm.sames, Bool.and_eq_true] at h; exact ⟨by rfl, h.1⟩
  | t :: a :: l, u :: b :: m, h => by
    rw [Tm.sames, Bool.and_eq_true] at h
    obtain ⟨h1, h2⟩ := Tm.sames_last h.2
    refine ⟨?_, ?_⟩
    · show Tm.sames (t :: (a :: l).dropLast) (u :: (b :: m).dropLast) = true
      rw [Tm.sames, h.1, h1]; rfl
    · simpa using h2
  | [], _ :: _, h => by rw [Tm.sames] at h; cases h
  | _ :: _, [], h => by rw [Tm.sames] at h; cases h
  | [_], _ :: _ :: _, h => by simp [Tm.sames] at h
  | _ :: _ :: _, [_], h => by simp [Tm.sames] at h
theorem Tm.same_list {e f : Tm} (he : Tm.same e f = true) : ∀ {l m : List Tm} {p q : List Int}, Tm.sames l m = true → p.length = q.length → Tm.same (Tm.list l p e) (Tm.list m q f) = true
  | [], [], p, q, _, _ => by unfold Tm.list; simpa using he
  | t :: l, u :: m, [], [], _, _ => by unfold Tm.list; simpa using he
  | t :: l, u :: m, a :: p, b :: q, h, hl => by
    rw [Tm.sames, Bool.and_eq_true] at h
    have ih := Tm.same_list he (l := l) (m := m) (p := p) (q := q) h.2 (by simpa using hl)
    unfold Tm.list at ih ⊢
    rw [List.zip_cons_cons, List.zip_cons_cons, List.foldr_cons, List.foldr_cons]
    exact Tm.same_app _ _ _ (by rw [Tm.sames, Tm.sames, ih, h.1]; rfl)
  | t :: l, u :: m, [], _ :: _, _, hl => by simp at hl
  | t :: l, u :: m, _ :: _, [], _, hl => by simp at hl
  | [], _ :: _, _, _, h, _ => by rw [Tm.sames] at h; cases h
  | _ :: _, [], _, _, h, _ => by rw [Tm.sames] at h; cases h
/-- Tokens that differ in their places alone. -/
def Tm.Tlike (t u : Tm.T) : Prop := t.1 = u.1 ∧ t.2.1 = u.2.1
/-- Open terms that differ in places alone. -/
structure Tm.O.Like (o q : Tm.O) : Prop where
  kind : o.kind = q.kind
  most : o.most = q.most
  name : o.name = q.name
  need : o.need = q.need
  last : o.last = q.last
  prio : o.prio = q.prio
  parts : Tm.sames o.parts q.parts = true
  places : o.places.length = q.places.length
def Tm.Olikes : List Tm.O → List Tm.O → Prop
  | [], [] => True
  | o :: r, q :: z => o.Like q ∧ Tm.Olikes r z
  | [], _ :: _ => False
  | _ :: _, [] => False
/-- Readers that differ in places, and whose index differs by d. -/
structure Tm.S.Like (d : Nat) (s z : Tm.S) : Prop where
  i : z.i = s.i + d
  stack : Tm.Olikes s.stack z.stack
/-- The terms that are complete are the same, but for places. -/
def Tm.Done (s z : Tm.S) : Prop := Tm.same s.term z.term = true ∧ s.prio = z.prio
def Tm.Rlike (d : Nat) : Except Tm.F (Tm.S × Bool) → Except Tm.F (Tm.S × Bool) → Prop
  | .error f, .error g => f.2 = g.2
  | .ok (s, b), .ok (z, c) => b = c ∧ s.Like d z ∧ (b = true → Tm.Done s z)
  | _, _ => False
theorem Tm.S.Like.most {d : Nat} {s z : Tm.S} (h : s.Like d z) : s.most = z.most := by
  unfold Tm.S.most
  have := h.stack
  match hs : s.stack, hz : z.stack, this with
  | [], [], _ => rfl
  | o :: _, q :: _, h => exact h.1.most
theorem Tm.S.Like.full {d : Nat} {s z : Tm.S} (h : s.Like d z) : Tm.full s = Tm.full z := by
  unfold Tm.full
  have := h.stack
  match hs : s.stack, hz : z.stack, this with
  | [], [], _ => rfl
  | o :: _, q :: _, h =>
    dsimp only
    rw [h.1.kind, h.1.name, Tm.sames_length h.1.parts, Tm.sames_maxArgs _ h.1.parts]
/-- What stands behind a part: the same, but for places; both go on by as much. -/
def Tm.Glike (i j : Nat) : Except Tm.F (Nat × Tm.O × Option Tm) → Except Tm.F (Nat × Tm.O × Option Tm) → Prop
  | .error f, .error g => f.2 = g.2
  | .ok (i', o', none), .ok (j', q', none) => (∃ k, i' = i + k ∧ j' = j + k) ∧ o'.Like q'
  | .ok (i', o', some t), .ok (j', q', some v) => (∃ k, i' = i + k ∧ j' = j + k) ∧ o'.Like q' ∧ Tm.same t v = true
  | _, _ => False
theorem Tm.goOn_like {ts us : List Tm.T} {en eu : Tm.T} {i j : Nat} {o q : Tm.O} (ho : o.Like q) (h0 : Tm.Tlike (Tm.peek ts en i) (Tm.peek us eu j)) :
    Tm.Glike i j (Tm.goOn ts en i o) (Tm.goOn us eu j q) := by
  obtain ⟨h1, h2, h3, h4, h5, h6, h7, h8⟩ := ho
  obtain ⟨ok, om, on, oa, op, ol, od, oz, opr⟩ := o
  obtain ⟨qk, qm, qn, qa, qp, ql, qd, qz, qpr⟩ := q
  dsimp only at h1 h2 h3 h4 h5 h6 h7 h8
  subst h1 h2 h3 h4 h5 h6
  unfold Tm.goOn
  dsimp only
  have hpu : Tm.punct (Tm.peek us eu j) = Tm.punct (Tm.peek ts en i) := by unfold Tm.punct; rw [h0.1, h0.2]
  have hre : (Tm.refusal (Tm.peek ts en i)).2 = (Tm.refusal (Tm.peek us eu j)).2 := by unfold Tm.refusal; rw [h0.1]
  have hlen := Tm.sames_length h7
  have hsu := Tm.sames_suits on h7
  have hgd := Tm.sames_getD h7
  obtain ⟨hd, hl⟩ := Tm.sames_last h7
  have hs : Tm.O.Like ⟨ok, om, on, oa, op, ol, od, oz, opr⟩ ⟨ok, om, on, qa, qp, ql, od, oz, opr⟩ := ⟨rfl, rfl, rfl, rfl, rfl, rfl, h7, h8⟩
  have hz : ∃ k, i = i + k ∧ j = j + k := ⟨0, rfl, rfl⟩
  have hn : ∃ k, i + 1 = i + k ∧ j + 1 = j + k := ⟨1, rfl, rfl⟩
  rw [hpu, ← hlen, ← hsu]
  by_cases k1 : (ok == 1) = true
  · rw [if_pos k1, if_pos k1]
    by_cases c : ((op.length : Int) == od) = true
    · rw [if_pos c, if_pos c]; exact ⟨hz, ⟨rfl, rfl, rfl, rfl, rfl, rfl, h7, h8⟩, Tm.same_app _ _ _ h7⟩
    · rw [if_neg c, if_neg c]; exact ⟨hz, ⟨rfl, rfl, rfl, rfl, rfl, rfl, h7, h8⟩⟩
  rw [if_neg k1, if_neg k1]
  by_cases k2 : (ok == 2) = true
  · rw [if_pos k2, if_pos k2]
    by_cases c : (Tm.punct (Tm.peek ts en i) == [44]) = true
    · rw [if_pos c, if_pos c]; exact ⟨hn, hs⟩
    rw [if_neg c, if_neg c]
    by_cases c2 : (Tm.punct (Tm.peek ts en i) == [41]) = true
    · rw [if_pos c2, if_pos c2]
      by_cases c3 : Tm.suits on op = true
      · rw [if_pos c3, if_pos c3]; exact ⟨hn, hs, Tm.same_app _ _ _ h7⟩
      · rw [if_neg c3, if_neg c3]; rfl
    · rw [if_neg c2, if_neg c2]; exact hre
  rw [if_neg k2, if_neg k2]
  by_cases k3 : (ok == 3) = true
  · rw [if_pos k3, if_pos k3]
    by_cases c : (Tm.punct (Tm.peek ts en i) == [41]) = true
    · rw [if_pos c, if_pos c]; exact ⟨hn, hs, hgd⟩
    · rw [if_neg c, if_neg c]; exact hre
  rw [if_neg k3, if_neg k3]
  by_cases k4 : (ok == 4) = true
  · rw [if_pos k4, if_pos k4]
    by_cases c : (Tm.punct (Tm.peek ts en i) == [125]) = true
    · rw [if_pos c, if_pos c]; exact ⟨hn, hs, Tm.same_app _ _ _ h7⟩
    · rw [if_neg c, if_neg c]; exact hre
  rw [if_neg k4, if_neg k4]
  by_cases k5 : (ok == 5) = true
  · rw [if_pos k5, if_pos k5]
    by_cases c : (Tm.punct (Tm.peek ts en i) == [44]) = true
    · rw [if_pos c, if_pos c]; exact ⟨hn, ⟨rfl, rfl, rfl, rfl, rfl, rfl, h7, by simp [h8]⟩⟩
    rw [if_neg c, if_neg c]
    by_cases c2 : (Tm.punct (Tm.peek ts en i) == [124]) = true
    · rw [if_pos c2, if_pos c2]; exact ⟨hn, ⟨rfl, rfl, rfl, rfl, rfl, rfl, h7, h8⟩⟩
    rw [if_neg c2, if_neg c2]
    by_cases c3 : (Tm.punct (Tm.peek ts en i) == [93]) = true
    · rw [if_pos c3, if_pos c3]; exact ⟨hn, hs, Tm.same_list (Tm.same_app _ _ _ rfl) h7 h8⟩
    · rw [if_neg c3, if_neg c3]; exact hre
  rw [if_neg k5, if_neg k5]
  by_cases k6 : (ok == 6) = true
  · rw [if_pos k6, if_pos k6]
    by_cases c : (Tm.punct (Tm.peek ts en i) == [93]) = true
    · rw [if_pos c, if_pos c]; exact ⟨hn, hs, Tm.same_list hl hd h8⟩
    · rw [if_neg c, if_neg c]; exact hre
  rw [if_neg k6, if_neg k6]
  exact ⟨hz, hs, hgd⟩
end Go.Proofs.YtgmfhcnhpkeapaaGreatDoor

namespace Go.Proofs.YtgmfhcnhpkeapaaGreatDoor
open Go.RowKit

theorem Tm.Olikes.tail {o q : Tm.O} {r z : List Tm.O} (h : Tm.Olikes (o :: r) (q :: z)) : o.Like q ∧ Tm.Olikes r z := h
theorem Tm.Tlike.punct {t u : Tm.T} (h : Tm.Tlike t u) : Tm.punct u = Tm.punct t := by unfold Tm.punct; rw [h.1, h.2]
theorem Tm.Tlike.infixOf {t u : Tm.T} (h : Tm.Tlike t u) : Tm.infixOf u = Tm.infixOf t := by unfold Tm.infixOf; rw [h.punct, h.1, h.2]
theorem Tm.Tlike.stands {t u : Tm.T} (h : Tm.Tlike t u) : Tm.standsFirst u = Tm.standsFirst t := by unfold Tm.standsFirst; rw [h.punct, h.1]
theorem Tm.Tlike.begins {t u : Tm.T} (h : Tm.Tlike t u) : Tm.beginsOperand u = Tm.beginsOperand t := by unfold Tm.beginsOperand; rw [h.infixOf, h.stands, h.2]
theorem Tm.Tlike.refusal {t u : Tm.T} (h : Tm.Tlike t u) : (Tm.refusal t).2 = (Tm.refusal u).2 := by unfold Tm.refusal; rw [h.1]
theorem Tm.same_mk (k : Int) (n : List UInt8) (m : Int) (a b : Int) : Tm.same (.mk k n m [] a) (.mk k n m [] b) = true := by
  rw [Tm.same_eq]; simp [Tm.kind, Tm.name, Tm.num, Tm.args, Tm.sames]
theorem Tm.Tlike.var {t u : Tm.T} (h : Tm.Tlike t u) : Tm.same (Tm.variable_ t) (Tm.variable_ u) = true := by unfold Tm.variable_; rw [h.2]; exact Tm.same_mk _ _ _ _ _
section
variable {ts us : List Tm.T} {en eu : Tm.T} {d : Nat} {s z : Tm.S}
theorem Tm.S.Like.push (h : s.Like d z) {o q : Tm.O} (ho : o.Like q) (k : Nat) : Tm.S.Like d ⟨s.i + k, o :: s.stack, s.term, s.prio⟩ ⟨z.i + k, q :: z.stack, z.term, z.prio⟩ :=
  ⟨by show z.i + k = s.i + k + d; have := h.i; omega, ⟨ho, h.stack⟩⟩
theorem Tm.S.Like.had (h : s.Like d z) {t u : Tm} (k : Nat) : Tm.S.Like d ⟨s.i + k, s.stack, t, 0⟩ ⟨z.i + k, z.stack, u, 0⟩ :=
  ⟨by show z.i + k = s.i + k + d; have := h.i; omega, h.stack⟩
theorem Tm.pushInfix_like (h : s.Like d z) (ht : Tm.Done s z) (h0 : Tm.Tlike (Tm.peek ts en s.i) (Tm.peek us eu z.i)) :
    (Tm.pushInfix ts en s).2 = (Tm.pushInfix us eu z).2 ∧ (Tm.pushInfix ts en s).1.Like d (Tm.pushInfix us eu z).1 ∧ Tm.Done (Tm.pushInfix ts en s).1 (Tm.pushInfix us eu z).1 := by
  unfold Tm.pushInfix
  dsimp only
  rw [h0.infixOf, ← h.most, ← ht.2]
  by_cases c : ((Tm.infixOf (Tm.peek ts en s.i)).1 == 0 || decide (s.most < (Tm.infixOf (Tm.peek ts en s.i)).1) || decide ((Tm.infixOf (Tm.peek ts en s.i)).2.1 < s.prio)) = true
  · rw [if_pos c, if_pos c]; exact ⟨rfl, h, ht⟩
  · rw [if_neg c, if_neg c]
    exact ⟨rfl, h.push (o := ⟨1, _, _, _, [s.term], [], 2, _, _⟩) (q := ⟨1, _, _, _, [z.term], [], 2, _, _⟩) ⟨rfl, rfl, h0.2, rfl, rfl, rfl, Tm.sames_one ht.1, rfl⟩ 1, ht⟩
theorem Tm.give_like (h : s.Like d z) (ht : Tm.Done s z) (h0 : Tm.Tlike (Tm.peek ts en s.i) (Tm.peek us eu z.i)) : Tm.Rlike d (Tm.give ts en s) (Tm.give us eu z) := by
  unfold Tm.give
  have hst := h.stack
  match hs : s.stack, hz : z.stack, hst with
  | [], [], _ => exact ⟨rfl, h, fun _ => ht⟩
  | o :: r, q :: y, hst =>
    have ho : Tm.O.Like { o with parts := o.parts ++ [s.term] } { q with parts := q.parts ++ [z.term] } :=
      ⟨hst.1.kind, hst.1.most, hst.1.name, hst.1.need, hst.1.last, hst.1.prio, Tm.sames_append hst.1.parts (Tm.sames_one ht.1), hst.1.places⟩
    have hg := Tm.goOn_like (ts := ts) (us := us) (en := en) (eu := eu) ho h0
    dsimp only
    match e1 : Tm.goOn ts en s.i { o with parts := o.parts ++ [s.term] }, e2 : Tm.goOn us eu z.i { q with parts := q.parts ++ [z.term] }, hg with
    | .error f, .error g, hg => exact hg
    | .ok (i', o', none), .ok (j', q', none), hg =>
      obtain ⟨⟨k, rfl, rfl⟩, h1⟩ := hg
      exact ⟨rfl, ⟨by show z.i + k = s.i + k + d; have := h.i; omega, ⟨h1, hst.2⟩⟩, fun e => by cases e⟩
    | .ok (i', o', some t), .ok (j', q', some v), hg =>
      obtain ⟨⟨k, rfl, rfl⟩, h1, h2⟩ := hg
      exact ⟨rfl, ⟨by show z.i + k = s.i + k + d; have := h.i; omega, hst.2⟩, fun _ => ⟨h2, h1.prio⟩⟩
    | .ok (_, _, none), .ok (_, _, some _), hg => exact (show False from hg).elim
    | .ok (_, _, some _), .ok (_, _, none), hg => exact (show False from hg).elim
    | .ok (_, _, none), .error _, hg => exact (show False from hg).elim
    | .ok (_, _, some _), .error _, hg => exact (show False from hg).elim
    | .error _, .ok (_, _, none), hg => exact (show False from hg).elim
    | .error _, .ok (_, _, some _), hg => exact (show False from hg).elim
theorem Tm.begin_like (h : s.Like d z) (h0 : Tm.Tlike (Tm.peek ts en s.i) (Tm.peek us eu z.i)) (h1 : Tm.Tlike (Tm.peek ts en (s.i + 1)) (Tm.peek us eu (z.i + 1))) : Tm.Rlike d (Tm.begin_ ts en s) (Tm.begin_ us eu z) := by
  unfold Tm.begin_
  dsimp only
  rw [h0.stands, ← h.full, ← h0.1]
  by_cases c1 : (!Tm.standsFirst (Tm.peek ts en s.i)) = true
  · rw [if_pos c1, if_pos c1]; exact h0.refusal
  rw [if_neg c1, if_neg c1]
  by_cases c2 : Tm.full s = true
  · rw [if_pos c2, if_pos c2]; rfl
  rw [if_neg c2, if_neg c2]
  have hx : (Tm.peek us eu z.i).2.1 = (Tm.peek ts en s.i).2.1 := h0.2.symm
  by_cases k1 : ((Tm.peek ts en s.i).1 == 1) = true
  · rw [if_pos k1, if_pos k1]
    unfold Tm.beginName
    dsimp only
    have h1 : Tm.Tlike (Tm.peek ts en s.next.i) (Tm.peek us eu z.next.i) := h1
    rw [h1.punct, hx, ← h1.1, h1.begins]
    by_cases c3 : (Tm.punct (Tm.peek ts en s.next.i) == [40, 40]) = true
    · rw [if_pos c3, if_pos c3]
      refine ⟨rfl, h.push ?_ 2, fun e => by cases e⟩
      exact ⟨rfl, rfl, rfl, rfl, rfl, rfl, rfl, rfl⟩
    rw [if_neg c3, if_neg c3]
    by_cases c4 : ((Tm.peek ts en s.i).2.1 == [45] && (Tm.peek ts en s.next.i).1 == 3) = true
    · rw [if_pos c4, if_pos c4]
      exact ⟨rfl, h.had 2, fun _ => ⟨by show Tm.same (Tm.mk _ _ _ _ _) (Tm.mk _ _ _ _ _) = true; rw [h1.2]; exact Tm.same_mk _ _ _ _ _, rfl⟩⟩
    rw [if_neg c4, if_neg c4]
    by_cases c5 : (Tm.isBang (Tm.peek ts en s.i).2.1 && (Tm.peek ts en s.next.i).1 == 2) = true
    · rw [if_pos c5, if_pos c5]
      exact ⟨rfl, h.had 2, fun _ => ⟨Tm.same_app _ _ _ (Tm.sames_one h1.var), rfl⟩⟩
    rw [if_neg c5, if_neg c5]
    have hm : z.next.most = s.next.most := h.most.symm
    rw [hm]
    by_cases c6 : ((Tm.prefix_ (Tm.peek ts en s.i).2.1).1 == 0 || decide (s.next.most < (Tm.prefix_ (Tm.peek ts en s.i).2.1).1) || !Tm.beginsOperand (Tm.peek ts en s.next.i)) = true
    · rw [if_pos c6, if_pos c6]
      by_cases c7 : Tm.suits (Tm.peek ts en s.i).2.1 [] = true
      · rw [if_pos c7, if_pos c7]
        exact ⟨rfl, h.had 1, fun _ => ⟨Tm.same_app _ _ _ rfl, rfl⟩⟩
      · rw [if_neg c7, if_neg c7]; rfl
    · rw [if_neg c6, if_neg c6]
      refine ⟨rfl, h.push ?_ 1, fun e => by cases e⟩
      exact ⟨rfl, rfl, rfl, rfl, rfl, rfl, rfl, rfl⟩
  rw [if_neg k1, if_neg k1]
  by_cases k2 : ((Tm.peek ts en s.i).1 == 2) = true
  · rw [if_pos k2, if_pos k2]
    unfold Tm.beginVariable
    have h1 : Tm.Tlike (Tm.peek ts en s.next.i) (Tm.peek us eu z.next.i) := h1
    rw [h1.punct]
    by_cases c3 : (Tm.punct (Tm.peek ts en s.next.i) == [40, 40]) = true
    · rw [if_pos c3, if_pos c3]
      refine ⟨rfl, h.push ?_ 2, fun e => by cases e⟩
      exact ⟨rfl, rfl, rfl, rfl, rfl, rfl, Tm.sames_one h0.var, rfl⟩
    · rw [if_neg c3, if_neg c3]
      exact ⟨rfl, h.had 1, fun _ => ⟨h0.var, rfl⟩⟩
  rw [if_neg k2, if_neg k2]
  by_cases k3 : ((Tm.peek ts en s.i).1 == 3) = true
  · rw [if_pos k3, if_pos k3]; exact ⟨rfl, h.had 1, fun _ => ⟨by show Tm.same (Tm.mk _ _ _ _ _) (Tm.mk _ _ _ _ _) = true; rw [hx]; exact Tm.same_mk _ _ _ _ _, rfl⟩⟩
  rw [if_neg k3, if_neg k3]
  by_cases k4 : ((Tm.peek ts en s.i).1 == 4) = true
  · rw [if_pos k4, if_pos k4]; exact ⟨rfl, h.had 1, fun _ => ⟨by show Tm.same (Tm.mk _ _ _ _ _) (Tm.mk _ _ _ _ _) = true; rw [hx]; exact Tm.same_mk _ _ _ _ _, rfl⟩⟩
  rw [if_neg k4, if_neg k4]
  by_cases k5 : ((Tm.peek ts en s.i).1 == 5) = true
  · rw [if_pos k5, if_pos k5]; exact ⟨rfl, h.had 1, fun _ => ⟨by show Tm.same (Tm.mk _ _ _ _ _) (Tm.mk _ _ _ _ _) = true; rw [hx]; exact Tm.same_mk _ _ _ _ _, rfl⟩⟩
  rw [if_neg k5, if_neg k5]
  unfold Tm.beginBracket
  have h1 : Tm.Tlike (Tm.peek ts en s.next.i) (Tm.peek us eu z.next.i) := h1
  rw [hx, h1.punct]
  by_cases c3 : ((Tm.peek ts en s.i).2.1 == [40]) = true
  · rw [if_pos c3, if_pos c3]
    refine ⟨rfl, h.push ?_ 1, fun e => by cases e⟩
    exact ⟨rfl, rfl, rfl, rfl, rfl, rfl, rfl, rfl⟩
  rw [if_neg c3, if_neg c3]
  by_cases c4 : ((Tm.peek ts en s.i).2.1 == [123]) = true
  · rw [if_pos c4, if_pos c4]
    refine ⟨rfl, h.push ?_ 1, fun e => by cases e⟩
    exact ⟨rfl, rfl, rfl, rfl, rfl, rfl, rfl, rfl⟩
  rw [if_neg c4, if_neg c4]
  by_cases c5 : (Tm.punct (Tm.peek ts en s.next.i) == [93]) = true
  · rw [if_pos c5, if_pos c5]
    exact ⟨rfl, h.had 2, fun _ => ⟨Tm.same_app _ _ _ rfl, rfl⟩⟩
  · rw [if_neg c5, if_neg c5]
    refine ⟨rfl, h.push ?_ 1, fun e => by cases e⟩
    exact ⟨rfl, rfl, rfl, rfl, rfl, rfl, rfl, rfl⟩
end
end Go.Proofs.YtgmfhcnhpkeapaaGreatDoor

namespace Go.Proofs.YtgmfhcnhpkeapaaGreatDoor
open Go.RowKit

section
variable {ts us : List Tm.T} {en eu : Tm.T} {d : Nat}
theorem Tm.Olikes.length : ∀ {a b : List Tm.O}, Tm.Olikes a b → a.length = b.length
  | [], [], _ => rfl
  | _ :: a, _ :: b, h => by rw [List.length_cons, List.length_cons, Tm.Olikes.length h.2]
  | [], _ :: _, h => (show False from h).elim
  | _ :: _, [], h => (show False from h).elim
theorem Tm.S.Like.nil {s z : Tm.S} (h : s.Like d z) : s.stack = [] ↔ z.stack = [] := by
  have := h.stack.length
  constructor <;> intro e <;> rw [e] at this
  · exact List.eq_nil_of_length_eq_zero this.symm
  · exact List.eq_nil_of_length_eq_zero this
theorem Tm.climb_like (f : Nat) {s s' z : Tm.S} (h : s.Like d z) (ht : Tm.Done s z) (hc : Tm.climb ts en f s = .ok s') (hp : ∀ k, k ≤ s'.i → Tm.Tlike (Tm.peek ts en k) (Tm.peek us eu (k + d))) :
    ∃ z', Tm.climb us eu f z = .ok z' ∧ s'.Like d z' ∧ (s'.stack = [] → Tm.Done s' z') := by
  induction f generalizing s z with
  | zero => cases hc; exact ⟨z, rfl, h, fun _ => ht⟩
  | succ f ih =>
    by_cases hn : s.stack = []
    · rw [Tm.climb_nil hn] at hc; cases hc
      exact ⟨z, Tm.climb_nil (h.nil.1 hn), h, fun _ => ht⟩
    · have hle := Tm.climb_le _ hc
      have h0 := hp s.i hle
      rw [← h.i] at h0
      have hpi := Tm.pushInfix_like (ts := ts) (us := us) (en := en) (eu := eu) h ht h0
      rw [Tm.climb_cons hn] at hc
      rw [Tm.climb_cons (fun e => hn (h.nil.2 e))]
      rcases hp1 : Tm.pushInfix ts en s with ⟨s1, b⟩
      rcases hp2 : Tm.pushInfix us eu z with ⟨z1, c⟩
      rw [hp1, hp2] at hpi
      obtain ⟨rfl, hL, hT⟩ : b = c ∧ s1.Like d z1 ∧ Tm.Done s1 z1 := hpi
      rw [hp1] at hc
      cases b with
      | true =>
        cases hc
        refine ⟨z1, rfl, hL, fun _ => hT⟩
      | false =>
        dsimp only at hc ⊢
        have hi1 : s1.i ≤ s'.i := by
          split at hc
          · cases hc
          · rename_i s2 hg; exact Nat.le_trans (Tm.give_le hg) (Tm.climb_le _ hc)
          · rename_i s2 hg; cases hc; exact Tm.give_le hg
        have h1 := hp s1.i hi1
        rw [← hL.i] at h1
        have hgl := Tm.give_like (ts := ts) (us := us) (en := en) (eu := eu) hL hT h1
        match e1 : Tm.give ts en s1, e2 : Tm.give us eu z1, hgl with
        | .error x, _, _ => rw [e1] at hc; cases hc
        | .ok (s2, true), .ok (z2, c), hgl =>
          obtain ⟨rfl, hL2, hT2⟩ := hgl
          rw [e1] at hc
          exact ih hL2 (hT2 rfl) hc
        | .ok (s2, false), .ok (z2, c), hgl =>
          obtain ⟨rfl, hL2, -⟩ := hgl
          rw [e1] at hc
          cases hc
          refine ⟨z2, rfl, hL2, fun e => ?_⟩
          have hs1 : s1.stack ≠ [] := by
            unfold Tm.pushInfix at hp1
            dsimp only at hp1
            split at hp1
            · cases hp1; exact hn
            · cases hp1
          unfold Tm.give at e1
          split at e1
          · rename_i he; exact absurd he hs1
          · split at e1
            · cases e1
            · cases e1; cases e
            · cases e1
        | .ok (_, _), .error _, hgl => exact (show False from hgl).elim
theorem Tm.loop_like (hg : Tm.Good ts en) (f : Nat) {f' : Nat} {s s' z : Tm.S} (h : s.Like d z) (hf : f ≤ f') (hz : s.stack = [] → Tm.Done s z) (hl : Tm.loop ts en f s = .ok s') (he : s'.stack = []) (hp : ∀ k, k ≤ s'.i → Tm.Tlike (Tm.peek ts en k) (Tm.peek us eu (k + d))) :
    ∃ z', Tm.loop us eu f' z = .ok z' ∧ s'.Like d z' ∧ Tm.Done s' z' := by
  induction f generalizing s z f' with
  | zero =>
    cases hl
    exact ⟨z, Tm.loop_nil (h.nil.1 he), h, hz he⟩
  | succ f ih =>
    by_cases hn : s.stack = []
    · rw [Tm.loop_nil hn] at hl; cases hl
      exact ⟨z, Tm.loop_nil (h.nil.1 hn), h, hz hn⟩
    · obtain ⟨g, rfl⟩ : ∃ g, f' = g + 1 := ⟨f' - 1, by omega⟩
      have hle := Tm.loop_le _ hl
      rw [Tm.loop_cons hn] at hl
      rw [Tm.loop_cons (fun e => hn (h.nil.2 e))]
      have hi2 : s.i + 1 ≤ s'.i := by
        split at hl
        · cases hl
        · rename_i s1 hb; exact Nat.le_trans (Tm.begin_lt hg hb).1 (Tm.loop_le _ hl)
        · rename_i s1 hb
          unfold Tm.onward at hl
          split at hl
          · cases hl
          · rename_i s2 hc; exact Nat.le_trans (Tm.begin_lt hg hb).1 (Nat.le_trans (Tm.climb_le _ hc) (Tm.loop_le _ hl))
      have h0 := hp s.i hle
      have h1 := hp (s.i + 1) hi2
      rw [show s.i + 1 + d = z.i + 1 by rw [h.i]; omega] at h1
      rw [← h.i] at h0
      have hbl := Tm.begin_like (ts := ts) (us := us) (en := en) (eu := eu) h h0 h1
      match e1 : Tm.begin_ ts en s, e2 : Tm.begin_ us eu z, hbl with
      | .error x, _, _ => rw [e1] at hl; cases hl
      | .ok (s1, false), .ok (z1, c), hbl =>
        obtain ⟨rfl, hL, -⟩ := hbl
        rw [e1] at hl
        exact ih hL (by omega) (fun e => absurd e (Tm.begin_stack e1)) hl
      | .ok (s1, true), .ok (z1, c), hbl =>
        obtain ⟨rfl, hL, hT⟩ := hbl
        rw [e1] at hl
        dsimp only at hl ⊢
        unfold Tm.onward at hl ⊢
        have hlen : z1.stack.length = s1.stack.length := hL.stack.length.symm
        split at hl
        · cases hl
        · rename_i s2 hc
          obtain ⟨z2, hz2, hL2, hT2⟩ := Tm.climb_like (us := us) (eu := eu) _ hL (hT rfl) hc (fun k hk => hp k (Nat.le_trans hk (Tm.loop_le _ hl)))
          rw [hlen, hz2]
          exact ih hL2 (by omega) hT2 hl
      | .ok (_, _), .error _, hbl => exact (show False from hbl).elim
/-- A term that is read is read alike where the tokens differ in places alone. -/
theorem Tm.read_like (hg : Tm.Good ts en) {s s' z : Tm.S} (h : s.Like d z) (h0 : s.stack = []) (hle : ts.length ≤ us.length) (hl : Tm.read ts en s = .ok s') (hp : ∀ k, k ≤ s'.i → Tm.Tlike (Tm.peek ts en k) (Tm.peek us eu (k + d))) :
    ∃ z', Tm.read us eu z = .ok z' ∧ s'.Like d z' ∧ Tm.Done s' z' := by
  have hs := (Tm.read_right hg hl h0).2
  unfold Tm.read at hl ⊢
  have hL : Tm.S.Like d (s.push (Tm.opn 0 1200 [] 0 [] [])) (z.push (Tm.opn 0 1200 [] 0 [] [])) := ⟨h.i, ⟨⟨rfl, rfl, rfl, rfl, rfl, rfl, rfl, rfl⟩, h.stack⟩⟩
  exact Tm.loop_like hg (ts.length + 2) (f' := us.length + 2) hL (by omega) (fun e => by cases e) hl hs hp
end
end Go.Proofs.YtgmfhcnhpkeapaaGreatDoor

namespace Go.Proofs.YtgmfhcnhpkeapaaGreatDoor
open Go.RowKit

section
variable {ts us : List Tm.T} {en eu : Tm.T} {d : Nat}
/-- The terms of tokens are read alike where the same tokens, but for places, stand among others: the reader then stands behind them. -/
theorem Tm.all_like (hg : Tm.Good ts en) (hk : ∀ t ∈ ts, t.1 ≠ 0) (hle : ts.length ≤ us.length) (hp : ∀ k, k < ts.length → Tm.Tlike (Tm.peek ts en k) (Tm.peek us eu (k + d))) (f : Nat) {s z : Tm.S} {acc acc' l : List Tm}
    (h : s.Like d z) (h0 : s.stack = []) (hi : s.i ≤ ts.length) (hf : ts.length - s.i < f) (ha : Tm.sames acc acc' = true) (hl : Tm.all ts en f s acc = .ok l) :
    ∃ z1 acc1 n, n ≤ ts.length - s.i ∧ (∀ F, Tm.all us eu (F + n) z acc' = Tm.all us eu F z1 acc1) ∧ z1.i = ts.length + d ∧ z1.stack = [] ∧ Tm.sames l acc1 = true := by
  induction f generalizing s z acc acc' with
  | zero => omega
  | succ f ih =>
    by_cases hend : s.i = ts.length
    · have hpk : (Tm.peek ts en s.i).1 = 0 := by rw [Tm.peek_end (by omega)]; exact hg.1
      rw [Tm.all_stop hpk] at hl
      cases hl
      exact ⟨z, acc', 0, Nat.zero_le _, fun F => rfl, by rw [h.i, hend], h.nil.1 h0, ha⟩
    · have hlt : s.i < ts.length := by omega
      have hpk : (Tm.peek ts en s.i).1 ≠ 0 := by rw [Tm.peek_at hlt]; exact hk _ (List.getElem_mem hlt)
      have hpz : (Tm.peek us eu z.i).1 ≠ 0 := by rw [h.i, ← (hp s.i hlt).1]; exact hpk
      cases hr : Tm.read ts en s with
      | error x => rw [Tm.all_bad hpk hr] at hl; cases hl
      | ok s' =>
        by_cases h7 : (Tm.peek ts en s'.i).1 = 7
        · rw [Tm.all_on hpk hr h7] at hl
          have hlt' := (hg.peek (i := s'.i) (by rw [h7]; decide)).1
          obtain ⟨z', hz', hL, hT⟩ := Tm.read_like (us := us) (eu := eu) hg h h0 hle hr (fun k hk' => hp k (by omega))
          have hs' := (Tm.read_right hg hr h0).2
          have hle' := Tm.read_le hr
          have h7z : (Tm.peek us eu z'.i).1 = 7 := by rw [hL.i, ← (hp s'.i hlt').1]; exact h7
          have hLn : s'.next.Like d z'.next := ⟨by show z'.i + 1 = s'.i + 1 + d; have := hL.i; omega, hL.stack⟩
          have hin : s'.next.i ≤ ts.length := hlt'
          have hni : s'.next.i = s'.i + 1 := rfl
          obtain ⟨z1, acc1, n, hn, hF, h1, h2, h3⟩ := ih hLn hs' hin (by omega) (Tm.sames_append ha (Tm.sames_one hT.1)) hl
          refine ⟨z1, acc1, n + 1, by omega, fun F => ?_, h1, h2, h3⟩
          rw [← Nat.add_assoc, Tm.all_on hpz hz' h7z]
          exact hF F
        · rw [Tm.all_off hpk hr h7] at hl; cases hl
end
theorem Tm.all_acc {ts : List Tm.T} {en : Tm.T} (p : List Tm) (f : Nat) {s : Tm.S} {acc l : List Tm} (h : Tm.all ts en f s acc = .ok l) : Tm.all ts en f s (p ++ acc) = .ok (p ++ l) := by
  induction f generalizing s acc with
  | zero => rw [Tm.all] at h ⊢; cases h; rfl
  | succ f ih =>
    by_cases hk : (Tm.peek ts en s.i).1 = 0
    · rw [Tm.all_stop hk] at h ⊢; cases h; rfl
    · cases hr : Tm.read ts en s with
      | error x => rw [Tm.all_bad hk hr] at h; cases h
      | ok s' =>
        by_cases h7 : (Tm.peek ts en s'.i).1 = 7
        · rw [Tm.all_on hk hr h7] at h ⊢
          rw [List.append_assoc]
          exact ih h
        · rw [Tm.all_off hk hr h7] at h; cases h
theorem Tm.peek_left {a b : List Tm.T} {en eu : Tm.T} {k : Nat} (h : k < a.length) : Tm.peek (a ++ b) eu k = Tm.peek a en k := by
  rw [Tm.peek_at h, Tm.peek_at (by rw [List.length_append]; omega), List.getElem_append_left h]
/-- The terms of two rows of tokens, one behind the other, are those of both. -/
theorem Tm.all_both {a b b' : List Tm.T} {ea eb eu : Tm.T} (ha : Tm.Good a ea) (hb : Tm.Good b eb) (ka : ∀ t ∈ a, t.1 ≠ 0) (kb : ∀ t ∈ b, t.1 ≠ 0) (he : eu.1 = 0)
    (hlen : b'.length = b.length) (hbb : ∀ k, k < b.length → Tm.Tlike (Tm.peek b eb k) (Tm.peek b' eu k)) {fa fb : Nat} {la lb : List Tm} (hfa : a.length < fa) (hfb : b.length < fb)
    (h1 : Tm.all a ea fa Tm.start [] = .ok la) (h2 : Tm.all b eb fb Tm.start [] = .ok lb) {F : Nat} (hF : (a ++ b').length < F) :
    ∃ l, Tm.all (a ++ b') eu F Tm.start [] = .ok l ∧ Tm.sames (la ++ lb) l = true := by
  obtain ⟨z1, acc1, n1, hn1, hF1, hi1, hs1, hm1⟩ := Tm.all_like (us := a ++ b') (eu := eu) (d := 0) ha ka (by rw [List.length_append]; omega) (fun k hk => by rw [Nat.add_zero, Tm.peek_left (en := ea) hk]; exact ⟨rfl, rfl⟩) fa
    (s := Tm.start) (z := Tm.start) (acc := []) (acc' := []) ⟨rfl, trivial⟩ rfl (Nat.zero_le _) (by omega) rfl h1
  have hi0 : Tm.start.i = 0 := rfl
  obtain ⟨z2, acc2, n2, hn2, hF2, hi2, hs2, hm2⟩ := Tm.all_like (us := a ++ b') (eu := eu) (d := a.length) hb kb (by rw [List.length_append]; omega) (fun k hk => by
      have h3 := hbb k hk
      have hk' : k < b'.length := by omega
      have h4 : Tm.peek (a ++ b') eu (k + a.length) = Tm.peek b' eu k := by
        rw [Tm.peek_at hk', Tm.peek_at (by rw [List.length_append]; omega), List.getElem_append_right (by omega)]
        congr 1
        omega
      rw [h4]
      exact h3) fb (s := Tm.start) (z := z1) (acc := la) (acc' := acc1) ⟨by rw [hi1, hi0]; omega, by rw [hs1]; exact trivial⟩ rfl (Nat.zero_le _) (by omega) hm1 (by have := Tm.all_acc la fb h2; rwa [List.append_nil] at this)
  have hlab : (a ++ b').length = a.length + b.length := by rw [List.length_append, hlen]
  obtain ⟨G, rfl⟩ : ∃ G, F = G + 1 + n2 + n1 := ⟨F - n1 - n2 - 1, by omega⟩
  refine ⟨acc2, ?_, hm2⟩
  rw [hF1, hF2, Tm.all_stop]
  rw [Tm.peek_end (by omega)]
  exact he
end Go.Proofs.YtgmfhcnhpkeapaaGreatDoor

namespace Go.Proofs.YtgmfhcnhpkeapaaGreatDoor
open Go.RowKit

mutual
theorem Tm.same_dep : ∀ t u : Tm, Tm.same t u = true → Tm.dep t = Tm.dep u
  | .mk k n m ts a, .mk k' n' m' us b, h => by
    have h1 := h
    rw [Tm.same, Bool.and_eq_true, Bool.and_eq_true, Bool.and_eq_true, beq_iff_eq, beq_iff_eq, beq_iff_eq] at h1
    obtain ⟨⟨⟨rfl, rfl⟩, rfl⟩, h2⟩ := h1
    have hl := Tm.sames_length h2
    have hc : Tm.isChain (.mk k n m ts a) = Tm.isChain (.mk k n m us b) := by
      unfold Tm.isChain
      simp only [Tm.kind, Tm.name, Tm.args, hl]
    rw [Tm.dep, Tm.dep, hc]
    exact Tm.sames_dep _ _ ts us h2
theorem Tm.sames_dep : ∀ (c : Bool) (i : Nat) (ts us : List Tm), Tm.sames ts us = true → Tm.deps c i ts = Tm.deps c i us
  | c, i, [], [], _ => rfl
  | c, i, t :: ts, u :: us, h => by
    rw [Tm.sames, Bool.and_eq_true] at h
    rw [Tm.deps, Tm.deps, Tm.same_dep t u h.1, Tm.sames_dep c (i + 1) ts us h.2]
  | c, i, [], _ :: _, h => by rw [Tm.sames] at h; cases h
  | c, i, _ :: _, [], h => by rw [Tm.sames] at h; cases h
end
theorem Tm.tooDeep_of : ∀ {l : List Tm}, (∀ t ∈ l, ¬ 64 < Tm.depth t) → Tm.tooDeep l = none
  | [], _ => rfl
  | a :: l, h => by
    rw [Tm.tooDeep, if_neg (h a (List.mem_cons_self ..))]
    exact Tm.tooDeep_of fun t ht => h t (List.mem_cons_of_mem _ ht)
theorem Tm.tooDeep_sames : ∀ {l m : List Tm}, Tm.sames l m = true → Tm.tooDeep l = none → Tm.tooDeep m = none
  | [], [], _, h => h
  | t :: l, u :: m, hs, h => by
    rw [Tm.sames, Bool.and_eq_true] at hs
    rw [Tm.tooDeep] at h ⊢
    have hd : Tm.depth u = Tm.depth t := by rw [Tm.depth_dep, Tm.depth_dep, Tm.same_dep _ _ hs.1]
    rw [hd]
    split at h
    · cases h
    · rename_i hn
      rw [if_neg hn]
      exact Tm.tooDeep_sames hs.2 h
  | [], _ :: _, h, _ => by rw [Tm.sames] at h; cases h
  | _ :: _, [], h, _ => by rw [Tm.sames] at h; cases h
theorem Tm.tooDeep_append {l m : List Tm} (hl : Tm.tooDeep l = none) (hm : Tm.tooDeep m = none) : Tm.tooDeep (l ++ m) = none :=
  Tm.tooDeep_of fun t ht => by
    rcases List.mem_append.1 ht with ht | ht
    · exact Tm.tooDeep_none hl t ht
    · exact Tm.tooDeep_none hm t ht
theorem Tm.firstBad_of : ∀ {l : List Tm.T}, (∀ t ∈ l, Tk.check t.1 t.2.1 = 0) → Tm.firstBad l = none
  | [], _ => rfl
  | a :: l, h => by
    rw [Tm.firstBad, if_pos (h a (List.mem_cons_self ..))]
    exact Tm.firstBad_of fun t ht => h t (List.mem_cons_of_mem _ ht)
/-- Tokens with their end: what is cut, and the end. -/
theorem Tm.cut_end {a : List Tm.T} (ka : ∀ t ∈ a, t.1 ≠ 0) (p : Int) : Tm.cut (a ++ [(0, [], p)]) = a ∧ Tm.endTok (a ++ [(0, [], p)]) = (0, [], p) := by
  have hi : Tm.endIdx (a ++ [(0, [], p)]) = a.length := by
    unfold Tm.endIdx
    rw [List.takeWhile_append_of_pos (by intro t ht; simpa using ka t ht)]
    simp
  unfold Tm.cut Tm.endTok
  rw [hi]
  refine ⟨List.take_left' rfl, ?_⟩
  rw [if_pos (by simp)]
  simp
/-- What Terms answers to two rows of tokens, one behind the other. -/
theorem Tm.terms_both {a b b' : List Tm.T} {p q r : Int} {la lb : List Tm} (ka : ∀ t ∈ a, t.1 ≠ 0) (kb : ∀ t ∈ b, t.1 ≠ 0) (ca : ∀ t ∈ a, Tk.check t.1 t.2.1 = 0 ∧ t.2.1.length ≤ 65536) (cb : ∀ t ∈ b, Tk.check t.1 t.2.1 = 0 ∧ t.2.1.length ≤ 65536)
    (hlen : b'.length = b.length) (hbb : ∀ k (h : k < b.length) (h' : k < b'.length), Tm.Tlike b[k] b'[k])
    (h1 : Tm.terms (a ++ [(0, [], p)]) = .ok la) (h2 : Tm.terms (b ++ [(0, [], q)]) = .ok lb) : ∃ l, Tm.terms (a ++ b' ++ [(0, [], r)]) = .ok l ∧ Tm.sames (la ++ lb) l = true := by
  have kb' : ∀ t ∈ b', t.1 ≠ 0 := fun t ht => by
    obtain ⟨k, hk, rfl⟩ := List.getElem_of_mem ht
    have := hbb k (by omega) hk
    rw [← this.1]
    exact kb _ (List.getElem_mem _)
  have cb' : ∀ t ∈ b', Tk.check t.1 t.2.1 = 0 ∧ t.2.1.length ≤ 65536 := fun t ht => by
    obtain ⟨k, hk, rfl⟩ := List.getElem_of_mem ht
    have := hbb k (by omega) hk
    rw [← this.1, ← this.2]
    exact cb _ (List.getElem_mem _)
  have kab : ∀ t ∈ a ++ b', t.1 ≠ 0 := fun t ht => (List.mem_append.1 ht).elim (ka t) (kb' t)
  unfold Tm.terms at h1 h2 ⊢
  rw [(Tm.cut_end ka p).1, (Tm.cut_end ka p).2, Tm.firstBad_of (fun t ht => (ca t ht).1)] at h1
  rw [(Tm.cut_end kb q).1, (Tm.cut_end kb q).2, Tm.firstBad_of (fun t ht => (cb t ht).1)] at h2
  rw [(Tm.cut_end kab r).1, (Tm.cut_end kab r).2, Tm.firstBad_of (fun t ht => (List.mem_append.1 ht).elim (fun h => (ca t h).1) (fun h => (cb' t h).1))]
  dsimp only at h1 h2 ⊢
  have hget : ∀ {ts : List Tm.T} {en : Tm.T} {l : List Tm}, Tm.nested (Tm.all ts en (ts.length + 2) Tm.start []) = .ok l → Tm.all ts en (ts.length + 2) Tm.start [] = .ok l ∧ Tm.tooDeep l = none := by
    intro ts en l h
    unfold Tm.nested at h
    split at h
    · cases h
    · rename_i l' hall
      split at h
      · cases h
      · rename_i hd
        cases h
        exact ⟨hall, hd⟩
  obtain ⟨a1, a2⟩ := hget h1
  obtain ⟨b1, b2⟩ := hget h2
  obtain ⟨l, hl, hs⟩ := Tm.all_both (b' := b') (eu := (0, [], r)) ⟨rfl, ca⟩ ⟨rfl, cb⟩ ka kb rfl hlen (fun k hk => by
    rw [Tm.peek_at hk, Tm.peek_at (by omega)]
    exact hbb k hk (by omega)) (by omega) (by omega) a1 b1 (F := (a ++ b').length + 2) (by omega)
  refine ⟨l, ?_, hs⟩
  rw [hl]
  unfold Tm.nested
  dsimp only
  rw [Tm.tooDeep_sames hs (Tm.tooDeep_append a2 b2)]
end Go.Proofs.YtgmfhcnhpkeapaaGreatDoor

namespace Go.Proofs.YtgmfhcnhpkeapaaGreatDoor
open Go.RowKit

/-! What the reader reads at an index hangs on what stands from there on alone. -/
theorem bt_drop (l : List UInt8) (a i : Nat) : Tk.bt l (a + i) = Tk.bt (l.drop a) i := by
  unfold Tk.bt
  simp [List.getD_eq_getElem?_getD, List.getElem?_drop]
theorem run_drop (p : Int → Bool) (l : List UInt8) (a i : Nat) : Tk.run p l (a + i) = a + Tk.run p (l.drop a) i := by
  unfold Tk.run
  rw [List.drop_drop]; omega
theorem starts_drop (p : Int → Bool) (l : List UInt8) (a i : Nat) : Tk.startsAt p l (a + i) = Tk.startsAt p (l.drop a) i := by
  unfold Tk.startsAt
  rw [bt_drop, List.length_drop, show decide (a + i < l.length) = decide (i < l.length - a) from decide_eq_decide.2 (by omega)]
theorem sub_drop (l : List UInt8) (a i j : Nat) : Tk.sub l (a + i) (a + j) = Tk.sub (l.drop a) i j := by
  unfold Tk.sub
  rw [List.drop_drop, show a + j - (a + i) = j - i by omega]
theorem dots_fuel : ∀ (f g : Nat) (l : List UInt8) (e : Nat), l.length - e ≤ f → l.length - e ≤ g → Tk.dots f l e = Tk.dots g l e
  | f, g, l, e, hf, hg => by
    by_cases h1 : Tk.startsAt Tk.point l e = true
    · by_cases h2 : Tk.startsAt Tk.small l (e + 1) = true
      · obtain ⟨f', rfl, _, e1, g1⟩ := Tk.dots_yes hf h1 h2
        obtain ⟨g', rfl, _, e2, g2⟩ := Tk.dots_yes hg h1 h2
        rw [e1, e2]
        exact dots_fuel f' g' l _ g1 g2
      · rw [Tk.dots_no2 (by simpa using h2), Tk.dots_no2 (by simpa using h2)]
    · rw [Tk.dots_no1 (by simpa using h1), Tk.dots_no1 (by simpa using h1)]
termination_by f => f
theorem dots_drop : ∀ (f : Nat) (l : List UInt8) (a e : Nat), Tk.dots f l (a + e) = a + Tk.dots f (l.drop a) e
  | 0, _, _, _ => rfl
  | f + 1, l, a, e => by
    rw [Tk.dots, Tk.dots, starts_drop, Nat.add_assoc, starts_drop, run_drop]
    split
    · exact dots_drop f l a _
    · rfl
theorem dottedEnd_drop (l : List UInt8) (a : Nat) : Tk.dottedEnd l a = a + Tk.dottedEnd (l.drop a) 0 := by
  unfold Tk.dottedEnd
  have h := run_drop Tk.inWord l a 0
  rw [Nat.add_zero] at h
  rw [h, dots_drop, dots_fuel l.length (l.drop a).length (l.drop a) _ (by simp; omega) (by omega)]
def Tk.R.shift (r : Tk.R) (a : Nat) : Tk.R := match r with
  | .tok k t z => .tok k t (a + z)
  | .fault p c => .fault (a + p) c
theorem readSigns_drop (l : List UInt8) (a : Nat) (ha : a ≤ l.length) : Tk.readSigns l a = (Tk.readSigns (l.drop a) 0).shift a := by
  unfold Tk.readSigns
  have h := run_drop Tk.sign l a 0
  rw [Nat.add_zero] at h
  have h2 := sub_drop l a 0 (Tk.run Tk.sign (l.drop a) 0)
  rw [Nat.add_zero] at h2
  have h3 : (a + Tk.run Tk.sign (l.drop a) 0 = l.length) = (Tk.run Tk.sign (l.drop a) 0 = (l.drop a).length) := propext (by rw [List.length_drop]; omega)
  dsimp only
  rw [h]
  simp only [h2, bt_drop, h3]
  repeat' split
  all_goals rfl
theorem bangEnd_drop (l : List UInt8) (a : Nat) : Tk.bangEnd l a = a + Tk.bangEnd (l.drop a) 0 := by
  unfold Tk.bangEnd
  rw [starts_drop, starts_drop]
  split <;> simp_all
theorem readChar_drop (l : List UInt8) (a : Nat) : Tk.readChar l a = (Tk.readChar (l.drop a) 0).shift a := by
  unfold Tk.readChar
  rw [starts_drop, bt_drop, bt_drop]
  have h3 : (a + 3 < l.length) = (0 + 3 < (l.drop a).length) := propext (by rw [List.length_drop]; omega)
  have h2 : (a + 2 < l.length) = (0 + 2 < (l.drop a).length) := propext (by rw [List.length_drop]; omega)
  simp only [h3, h2]
  simp only [Nat.zero_add]
  repeat' split
  all_goals rfl
theorem enc_fuel (kind : Int) (l : List UInt8) (a : Nat) (m : Int) : ∀ (f g i : Nat) (acc : List UInt8), l.length - i < f → l.length - i < g → Tk.enc kind l a m f i acc = Tk.enc kind l a m g i acc
  | 0, g, i, acc, hf, hg => by omega
  | f + 1, 0, i, acc, hf, hg => by omega
  | f + 1, g + 1, i, acc, hf, hg => by
    rw [Tk.enc, Tk.enc]
    by_cases hi : i < l.length
    · rw [if_pos hi, if_pos hi, enc_fuel kind l a m f g (i + 2) _ (by omega) (by omega), enc_fuel kind l a m f g (i + 1) _ (by omega) (by omega), enc_fuel kind l a m f g (i + 1) _ (by omega) (by omega)]
    · rw [if_neg hi, if_neg hi]
theorem enc_drop (kind : Int) (l : List UInt8) (a : Nat) (m : Int) : ∀ (f i : Nat) (acc : List UInt8), Tk.enc kind l a m f (a + i) acc = (Tk.enc kind (l.drop a) 0 m f i acc).shift a
  | 0, i, acc => rfl
  | f + 1, i, acc => by
    rw [Tk.enc, Tk.enc, bt_drop, Nat.add_assoc, bt_drop, enc_drop kind l a m f (i + 1), enc_drop kind l a m f (i + 1), Nat.add_assoc, enc_drop kind l a m f (i + 2)]
    have h1 : (a + i < l.length) = (i < (l.drop a).length) := propext (by rw [List.length_drop]; omega)
    have h2 : (a + (i + 1) < l.length) = (i + 1 < (l.drop a).length) := propext (by rw [List.length_drop]; omega)
    simp only [h1, h2]
    repeat' split
    all_goals rfl
theorem readEnclosed_drop (kind : Int) (l : List UInt8) (a : Nat) : Tk.readEnclosed kind l a = (Tk.readEnclosed kind (l.drop a) 0).shift a := by
  unfold Tk.readEnclosed
  have h := bt_drop l a 0
  rw [Nat.add_zero] at h
  rw [h, enc_drop, enc_fuel kind (l.drop a) 0 _ (l.length + 1) ((l.drop a).length + 1) _ _ (by simp; omega) (by omega)]
theorem readName_drop (l : List UInt8) (a : Nat) : Tk.readName l a = (Tk.readName (l.drop a) 0).shift a := by
  unfold Tk.readName
  rw [readEnclosed_drop]
  cases Tk.readEnclosed 1 (l.drop a) 0 with
  | tok k t z =>
    dsimp only [Tk.R.shift]
    split <;> rfl
  | fault p c => rfl
theorem shift_ite (c : Prop) [Decidable c] (x y : Tk.R) (a : Nat) : (if c then x else y).shift a = if c then x.shift a else y.shift a := by split <;> rfl
/-- What is read at an index is what is read at the head of what stands there. -/
theorem read_drop (l : List UInt8) (a en : Nat) (b : Bool) (ha : a ≤ l.length) : Tk.read l a en b = (Tk.read (l.drop a) 0 0 (b && decide (en = a))).shift a := by
  unfold Tk.read
  have h0 := bt_drop l a 0
  have h1 := sub_drop l a 0
  have h2 := run_drop Tk.inWord l a 0
  have h3 := run_drop Tk.digit l a 0
  rw [Nat.add_zero] at h0 h2 h3
  simp only [Nat.add_zero] at h1
  rw [h0, dottedEnd_drop, h2, h3, bangEnd_drop, readSigns_drop l a ha, readChar_drop, readName_drop, readEnclosed_drop, h1, h1, h1, h1, h1]
  have hp : Tk.punctText l a en b = Tk.punctText (l.drop a) 0 0 (b && decide (en = a)) := by
    unfold Tk.punctText Tk.isArgs
    rw [h0, h1]
    cases b <;> simp
  rw [hp]
  simp only [shift_ite, List.drop_zero]
  rfl
/-! A token that is written, with what may stand behind it, is read as itself. -/
theorem byte_fact (P : Int → Bool) (h : ∀ n : Fin 256, P (n.val : Int) = true) (c : UInt8) : P (c.toNat : Int) = true :=
  h ⟨c.toNat, c.toNat_lt⟩
def Tk.Stops (p : Int → Bool) (rest : List UInt8) : Prop := rest = [] ∨ p (Tk.bt rest 0) = false
theorem takeWhile_app {α : Type} (p : α → Bool) (y : List α) (hy : y.takeWhile p = []) : ∀ x : List α, (x ++ y).takeWhile p = x.takeWhile p
  | [] => by simpa using hy
  | a :: x => by
    rw [List.cons_append, List.takeWhile_cons, List.takeWhile_cons, takeWhile_app p y hy x]
theorem Tk.Stops.take {p : Int → Bool} {rest : List UInt8} (h : Tk.Stops p rest) : (rest.takeWhile fun c => p (c.toNat : Int)) = [] := by
  rcases h with rfl | h
  · rfl
  · cases rest with
    | nil => rfl
    | cons c r =>
      have : p (c.toNat : Int) = false := h
      rw [List.takeWhile_cons, this]; rfl
theorem run_app {p : Int → Bool} {t rest : List UInt8} {e : Nat} (he : e ≤ t.length) (h : Tk.Stops p rest) : Tk.run p (t ++ rest) e = Tk.run p t e := by
  unfold Tk.run
  rw [List.drop_append_of_le_length he, takeWhile_app _ _ h.take]
theorem bt_app {t rest : List UInt8} {e : Nat} (he : e < t.length) : Tk.bt (t ++ rest) e = Tk.bt t e := by
  unfold Tk.bt
  rw [List.getD_eq_getElem?_getD, List.getD_eq_getElem?_getD, List.getElem?_append_left he]
theorem bt_app_end (t rest : List UInt8) : Tk.bt (t ++ rest) t.length = Tk.bt rest 0 := by
  rw [← Nat.add_zero t.length, bt_drop, List.drop_left']; rfl
theorem starts_app {p : Int → Bool} {t rest : List UInt8} {e : Nat} (he : e ≤ t.length) (h : Tk.Stops p rest) : Tk.startsAt p (t ++ rest) e = Tk.startsAt p t e := by
  by_cases hlt : e < t.length
  · rw [Tk.starts_yes hlt, Tk.starts_yes (by rw [List.length_append]; omega), bt_app hlt]
  · obtain rfl : e = t.length := by omega
    rw [Tk.starts_no hlt]
    rcases h with rfl | h
    · rw [Tk.starts_no (by simp)]
    · unfold Tk.startsAt
      rw [bt_app_end, h, Bool.and_false]
theorem sub_app (t rest : List UInt8) : Tk.sub (t ++ rest) 0 t.length = t := by
  unfold Tk.sub; simp
theorem prefix_form {l : List UInt8} {a b : UInt8} (h : Lib.hasPrefix l [a, b] = true) : ∃ r, l = a :: b :: r := by
  unfold Lib.hasPrefix at h
  obtain ⟨r, hr⟩ := List.isPrefixOf_iff_prefix.1 h
  exact ⟨r, hr.symm⟩
/-- A token that is read with a form of its own does not begin as a blank or a comment does. -/
structure Tk.Begins (L : List UInt8) : Prop where
  pos : 0 < L.length
  blank : Tk.blank (Tk.bt L 0) = false
  line : ¬ Tk.bt L 0 = 37
  com : Lib.hasPrefix L [47, 42] = false

/-! What is skipped at an index hangs on what stands from there on alone. -/
theorem com_fuel (l : List UInt8) (b : Nat) : ∀ (f g k : Nat), l.length - k < f → l.length - k < g → Tk.com f l b k = Tk.com g l b k
  | 0, g, k, hf, hg => by omega
  | f + 1, 0, k, hf, hg => by omega
  | f + 1, g + 1, k, hf, hg => by
    rw [Tk.com, Tk.com]
    by_cases hk : k < l.length
    · rw [if_pos hk, if_pos hk, com_fuel l b f g (k + 1) (by omega) (by omega)]
    · rw [if_neg hk, if_neg hk]
theorem com_drop (l : List UInt8) (a b : Nat) : ∀ (f k : Nat), (Tk.com f l (a + b) (a + k)).1 = a + (Tk.com f (l.drop a) b k).1 ∧ (Tk.com f l (a + b) (a + k)).2.2 = (Tk.com f (l.drop a) b k).2.2
  | 0, k => ⟨rfl, rfl⟩
  | f + 1, k => by
    have ih := com_drop l a b f (k + 1)
    rw [Tk.com, Tk.com, bt_drop, ← List.drop_drop, Nat.add_assoc]
    have h1 : (a + k < l.length) = (k < (l.drop a).length) := propext (by rw [List.length_drop]; omega)
    simp only [h1]
    repeat' split
    all_goals first | exact ih | exact ⟨rfl, rfl⟩
theorem comment_drop (l : List UInt8) (a k : Nat) : (Tk.comment l (a + k)).1 = a + (Tk.comment (l.drop a) k).1 ∧ (Tk.comment l (a + k)).2.2 = (Tk.comment (l.drop a) k).2.2 := by
  unfold Tk.comment
  have h := com_drop l a k (l.length + 1) (k + 2)
  rw [← Nat.add_assoc] at h
  rw [com_fuel (l.drop a) k ((l.drop a).length + 1) (l.length + 1) (k + 2) (by simp; omega) (by simp; omega)]
  exact h
theorem lineFault_code (l : List UInt8) (a k : Nat) : (Tk.lineFault l (a + k)).2 = (Tk.lineFault (l.drop a) k).2 := by
  unfold Tk.lineFault Tk.lineEnd
  dsimp only
  rw [run_drop, bt_drop]
  have h1 : (a + Tk.run Tk.inLine (l.drop a) k < l.length) = (Tk.run Tk.inLine (l.drop a) k < (l.drop a).length) := propext (by rw [List.length_drop]; omega)
  simp only [h1]
  split <;> rfl
theorem skip_fuel (l : List UInt8) : ∀ (f g k : Nat), k ≤ l.length → l.length - k < f → l.length - k < g → Tk.skip f l k = Tk.skip g l k
  | 0, g, k, _, hf, hg => by omega
  | f + 1, 0, k, _, hf, hg => by omega
  | f + 1, g + 1, k, hk, hf, hg => by
    rw [Tk.skip, Tk.skip]
    by_cases hlt : k < l.length
    · rw [if_pos hlt, if_pos hlt, skip_fuel l f g (k + 1) (by omega) (by omega) (by omega)]
      by_cases h37 : Tk.bt l k = 37
      · have h1 := Tk.lineEnd_gt hlt h37
        have h2 := Tk.lineEnd_le (l := l) (k := k) (by omega)
        rw [skip_fuel l f g (Tk.lineEnd l k) h2 (by omega) (by omega), if_pos h37, if_pos h37]
      · rw [if_neg h37, if_neg h37]
        by_cases hc : (Tk.comment l k).2.2 = 0
        · have h1 := Tk.comment_gt hc
          by_cases hp : Lib.hasPrefix (l.drop k) [47, 42] = true
          · have h2 : (Tk.comment l k).1 ≤ l.length := Tk.com_le _ _ (by have := prefix_len hp; rw [List.length_drop] at this; simp at this; omega)
            rw [skip_fuel l f g (Tk.comment l k).1 h2 (by omega) (by omega)]
          · rw [if_neg hp, if_neg hp]
        · rw [if_neg hc, if_neg hc]
    · rw [if_neg hlt, if_neg hlt]
theorem skip_drop (l : List UInt8) (a : Nat) : ∀ (f k : Nat), (Tk.skip f l (a + k)).1 = a + (Tk.skip f (l.drop a) k).1 ∧ (Tk.skip f l (a + k)).2.2 = (Tk.skip f (l.drop a) k).2.2
  | 0, k => ⟨rfl, rfl⟩
  | f + 1, k => by
    have i1 := skip_drop l a f (k + 1)
    have hle : Tk.lineEnd l (a + k) = a + Tk.lineEnd (l.drop a) k := run_drop _ _ _ _
    have i2 := skip_drop l a f (Tk.lineEnd (l.drop a) k)
    rw [← hle] at i2
    have i3 := skip_drop l a f (Tk.comment (l.drop a) k).1
    have hc := comment_drop l a k
    rw [← hc.1] at i3
    have hlf := lineFault_code l a k
    rw [Tk.skip, Tk.skip, bt_drop, ← List.drop_drop, Nat.add_assoc]
    have h1 : (a + k < l.length) = (k < (l.drop a).length) := propext (by rw [List.length_drop]; omega)
    simp only [h1, hlf, hc.2]
    repeat' split
    all_goals first | exact i1 | exact i2 | exact i3 | exact ⟨rfl, rfl⟩ | exact ⟨hle, hlf⟩ | exact hc
theorem skipped_drop (l : List UInt8) (a : Nat) (ha : a ≤ l.length) : (Tk.skipped l a).1 = a + (Tk.skipped (l.drop a) 0).1 ∧ (Tk.skipped l a).2.2 = (Tk.skipped (l.drop a) 0).2.2 := by
  unfold Tk.skipped
  have h := skip_drop l a (l.length + 1) 0
  rw [Nat.add_zero] at h
  rw [skip_fuel (l.drop a) ((l.drop a).length + 1) (l.length + 1) 0 (by omega) (by omega) (by simp; omega)]
  exact h
end Go.Proofs.YtgmfhcnhpkeapaaGreatDoor

namespace Go.Proofs.YtgmfhcnhpkeapaaGreatDoor
open Go.RowKit

/-! A token is read as before where what stands behind it is another text that begins with a blank or an apostrophe. -/
/-- rest' is rest with another text behind x: it begins with c, a blank or an apostrophe. A blank alone stands where a stop could be; no capital letter stands where it stood; no apostrophe stands behind a 0. -/
structure Tk.Mid (w x rest rest' : List UInt8) : Prop where
  split : ∃ (v g : List UInt8) (c : UInt8), rest = x ++ v ∧ rest' = x ++ (c :: g) ∧ (Tk.blank (c.toNat : Int) = true ∨ c = 39) ∧ ((v = [] ∨ Tk.blank (Tk.bt v 0) = true ∨ Tk.bt v 0 = 37) → Tk.blank (c.toNat : Int) = true) ∧ Tk.startsAt Tk.capital v 0 = false ∧ (c = 39 → x = [] → w ≠ [48])
def Tk.Soft (p : Int → Bool) : Prop := p 32 = false ∧ p 9 = false ∧ p 10 = false ∧ p 39 = false
theorem Tk.Soft.no {p : Int → Bool} (h : Tk.Soft p) {c : UInt8} (hc : Tk.blank (c.toNat : Int) = true ∨ c = 39) : p (c.toNat : Int) = false := by
  rcases hc with hc | rfl
  · simp only [Tk.blank, Bool.or_eq_true, beq_iff_eq] at hc
    rcases hc with (hc | hc) | hc
    · rw [hc]; exact h.1
    · rw [hc]; exact h.2.1
    · rw [hc]; exact h.2.2.1
  · exact h.2.2.2
theorem Tk.Mid.stops {w x rest rest' : List UInt8} (h : Tk.Mid w x rest rest') {p : Int → Bool} (hp : Tk.Soft p) (hs : Tk.Stops p rest) : Tk.Stops p rest' := by
  obtain ⟨v, g, c, rfl, rfl, hc, hst, hcap, hz⟩ := h.split
  cases x with
  | nil => exact .inr (hp.no hc)
  | cons d y =>
    rcases hs with hs | hs
    · cases hs
    · exact .inr hs
theorem takeWhile_all_app {α : Type} (p : α → Bool) : ∀ (a y : List α), (a.takeWhile p).length = a.length → (a ++ y).takeWhile p = a ++ y.takeWhile p
  | [], y, _ => rfl
  | d :: a, y, h => by
    rw [List.takeWhile_cons] at h
    rw [List.cons_append, List.takeWhile_cons]
    split at h
    · rename_i hd
      rw [if_pos hd, takeWhile_all_app p a y (by simpa using h)]; rfl
    · simp at h
theorem takeWhile_part_app {α : Type} (p : α → Bool) : ∀ (a y : List α), (a.takeWhile p).length < a.length → (a ++ y).takeWhile p = a.takeWhile p
  | [], y, h => by simp at h
  | d :: a, y, h => by
    rw [List.takeWhile_cons] at h
    rw [List.cons_append, List.takeWhile_cons, List.takeWhile_cons]
    split at h
    · rename_i hd
      rw [if_pos hd, if_pos hd, takeWhile_part_app p a y (by simpa using h)]
    · rename_i hd
      rw [if_neg hd, if_neg hd]
theorem run_mid {p : Int → Bool} (hp : Tk.Soft p) {w x rest rest' : List UInt8} (h : Tk.Mid w x rest rest') {e : Nat} (he : e ≤ w.length) (hr : Tk.run p (w ++ rest) e ≤ w.length) : Tk.run p (w ++ rest') e = Tk.run p (w ++ rest) e := by
  have hle : ((w.drop e).takeWhile fun c => p (c.toNat : Int)).length ≤ (w.drop e).length := (List.takeWhile_sublist _).length_le
  unfold Tk.run at hr ⊢
  rw [List.drop_append_of_le_length he] at hr ⊢
  rw [List.drop_append_of_le_length he]
  by_cases hall : ((w.drop e).takeWhile fun c => p (c.toNat : Int)).length = (w.drop e).length
  · rw [takeWhile_all_app _ _ _ hall] at hr ⊢
    rw [takeWhile_all_app _ _ _ hall]
    have hnil : rest.takeWhile (fun c => p (c.toNat : Int)) = [] := by
      apply List.eq_nil_of_length_eq_zero
      rw [List.length_append, List.length_drop] at hr
      omega
    have hst : Tk.Stops p rest := by
      cases rest with
      | nil => exact .inl rfl
      | cons c r =>
        right
        cases hc : p (c.toNat : Int)
        · exact hc
        · rw [List.takeWhile_cons, hc] at hnil; cases hnil
    rw [hnil, (h.stops hp hst).take]
  · rw [takeWhile_part_app _ _ _ (by omega), takeWhile_part_app _ _ _ (by omega)]
theorem bt_two {w r r' : List UInt8} {i : Nat} (hi : i < w.length) : Tk.bt (w ++ r) i = Tk.bt (w ++ r') i := by rw [bt_app hi, bt_app hi]
theorem starts_two {p : Int → Bool} {w r r' : List UInt8} {i : Nat} (hi : i < w.length) : Tk.startsAt p (w ++ r) i = Tk.startsAt p (w ++ r') i := by
  rw [Tk.starts_yes (by rw [List.length_append]; omega), Tk.starts_yes (by rw [List.length_append]; omega), bt_two hi]
/-- A mark behind a token, and what must not stand behind the mark. -/
theorem pair_mid {p q : Int → Bool} (hp : Tk.Soft p) (hq : Tk.Soft q) {w x rest rest' : List UInt8} (h : Tk.Mid w x rest rest') (hn : (Tk.startsAt p (w ++ rest) w.length && Tk.startsAt q (w ++ rest) (w.length + 1)) = false) :
    (Tk.startsAt p (w ++ rest') w.length && Tk.startsAt q (w ++ rest') (w.length + 1)) = false := by
  obtain ⟨v, g, c, rfl, rfl, hc, hst, hcap, hz⟩ := h.split
  have d0 : ∀ r : List UInt8, Tk.startsAt p (w ++ r) w.length = Tk.startsAt p r 0 := fun r => by
    have := starts_drop p (w ++ r) w.length 0
    rwa [Nat.add_zero, List.drop_left' rfl] at this
  have d1 : ∀ r : List UInt8, Tk.startsAt q (w ++ r) (w.length + 1) = Tk.startsAt q r 1 := fun r => by
    have := starts_drop q (w ++ r) w.length 1
    rwa [List.drop_left' rfl] at this
  rw [d0, d1] at hn ⊢
  cases x with
  | nil =>
    rw [List.nil_append, Tk.starts_yes (by simp), show Tk.bt (c :: g) 0 = (c.toNat : Int) from rfl, hp.no hc]; rfl
  | cons d y =>
    rw [List.cons_append, Tk.starts_yes (by simp), show Tk.bt (d :: (y ++ v)) 0 = (d.toNat : Int) from rfl] at hn
    rw [List.cons_append, Tk.starts_yes (by simp), show Tk.bt (d :: (y ++ (c :: g))) 0 = (d.toNat : Int) from rfl]
    cases hd : p (d.toNat : Int)
    · rfl
    · rw [hd, Bool.true_and] at hn
      rw [Bool.true_and]
      cases y with
      | nil =>
        rw [List.nil_append, Tk.starts_yes (by simp), show Tk.bt (d :: (c :: g)) 1 = (c.toNat : Int) from rfl]
        exact hq.no hc
      | cons b z =>
        rw [List.cons_append, Tk.starts_yes (by simp)] at hn
        rw [List.cons_append, Tk.starts_yes (by simp)]
        exact hn
theorem dots_mid {w x rest rest' : List UInt8} (h : Tk.Mid w x rest rest') : ∀ (f e : Nat), e ≤ w.length → (w ++ rest).length - e ≤ f → Tk.dots f (w ++ rest) e = w.length → ∀ g, (w ++ rest').length - e ≤ g → Tk.dots g (w ++ rest') e = w.length
  | f, e, he, hf, hd, g, hg => by
    by_cases hc : (Tk.startsAt Tk.point (w ++ rest) e && Tk.startsAt Tk.small (w ++ rest) (e + 1)) = true
    · rw [Bool.and_eq_true] at hc
      obtain ⟨f', hff, _, hdd, hf'⟩ := Tk.dots_yes hf hc.1 hc.2
      · rw [hdd] at hd
        have hge := Tk.dots_ge f' (w ++ rest) (Tk.run Tk.inWord (w ++ rest) (e + 1))
        rw [hd] at hge
        have hlt : e + 1 < w.length := by
          rcases Nat.lt_or_ge (e + 1) w.length with h1 | h1
          · exact h1
          · exfalso
            have h2 := hc.2
            unfold Tk.startsAt at h2
            simp only [Bool.and_eq_true, decide_eq_true_eq] at h2
            have := Tk.run_gt h2.1 (Tk.inWord_small h2.2)
            omega
        have e1 := starts_two (p := Tk.point) (w := w) (r := rest) (r' := rest') (i := e) (by omega)
        have e2 := starts_two (p := Tk.small) (w := w) (r := rest) (r' := rest') (i := e + 1) hlt
        obtain ⟨g', rfl, _, hgo, hg'⟩ := Tk.dots_yes hg (e1 ▸ hc.1) (e2 ▸ hc.2)
        rw [hgo]
        have hri := run_mid (p := Tk.inWord) ⟨rfl, rfl, rfl, rfl⟩ h (w := w) (e := e + 1) (by omega) hge
        rw [hri] at hg' ⊢
        exact dots_mid h f' _ hge hf' hd g' hg'
    · have hc' : (Tk.startsAt Tk.point (w ++ rest) e && Tk.startsAt Tk.small (w ++ rest) (e + 1)) = false := by simpa using hc
      have hee : e = w.length := by
        cases f with
        | zero => exact hd
        | succ f => rw [Tk.dots, hc'] at hd; exact hd
      subst hee
      have hn := pair_mid (p := Tk.point) (q := Tk.small) ⟨rfl, rfl, rfl, rfl⟩ ⟨rfl, rfl, rfl, rfl⟩ h hc'
      cases g with
      | zero => rfl
      | succ g => rw [Tk.dots, hn]; rfl
termination_by f => f

theorem Tk.Mid.ne {w x rest rest' : List UInt8} (h : Tk.Mid w x rest rest') : rest' ≠ [] := by
  obtain ⟨v, g, c, rfl, rfl, hc, hst, hcap, hz⟩ := h.split
  intro e; cases (List.append_eq_nil_iff.1 e).2
theorem dottedEnd_mid {w x rest rest' : List UInt8} (h : Tk.Mid w x rest rest') (hd : Tk.dottedEnd (w ++ rest) 0 = w.length) : Tk.dottedEnd (w ++ rest') 0 = w.length := by
  unfold Tk.dottedEnd at hd ⊢
  have h1 := Tk.dots_ge (w ++ rest).length (w ++ rest) (Tk.run Tk.inWord (w ++ rest) 0)
  rw [hd] at h1
  rw [run_mid ⟨rfl, rfl, rfl, rfl⟩ h (Nat.zero_le _) h1]
  exact dots_mid h (w ++ rest).length _ h1 (by omega) hd _ (by omega)
theorem enc_mid (kind : Int) (a : Nat) (m : Int) (w r r' : List UInt8) (k : Int) (t : List UInt8) : ∀ (f i : Nat) (acc : List UInt8), acc.length ≤ i → i ≤ w.length → Tk.enc kind (w ++ r) a m f i acc = .tok k t w.length → ∀ g, (w ++ r').length - i < g → Tk.enc kind (w ++ r') a m g i acc = .tok k t w.length
  | 0, i, acc, _, _, h, _, _ => by rw [Tk.enc] at h; cases h
  | f + 1, i, acc, ha, hi, h, 0, hg => by omega
  | f + 1, i, acc, ha, hi, h, g + 1, hg => by
    have hz := (Tk.enc_ok h ha).1
    rw [Tk.enc] at h
    have hll : (w ++ r').length = w.length + r'.length := List.length_append
    have hl0 : (w ++ r).length = w.length + r.length := List.length_append
    rw [if_pos (by omega), bt_two (r' := r') (by omega)] at h
    rw [Tk.enc, if_pos (by omega)]
    by_cases h1 : Tk.bt (w ++ r') i = m
    · rw [if_pos h1] at h ⊢; exact h
    · rw [if_neg h1] at h ⊢
      by_cases h2 : Tk.inText (Tk.bt (w ++ r') i) = true
      · rw [if_pos h2] at h ⊢
        by_cases h3 : Tk.shown (Tk.bt (w ++ r') i) = true
        · rw [if_pos h3] at h ⊢
          by_cases h4 : Tk.bt (w ++ r') i = 92
          · rw [if_pos h4] at h ⊢
            by_cases h5 : i + 1 < (w ++ r).length
            · rw [if_pos h5] at h
              by_cases h7 : Tk.inText (Tk.bt (w ++ r) (i + 1)) = true
              · rw [if_pos h7] at h
                by_cases h6 : Tk.meantOk (Tk.bt (w ++ r) (i + 1)) m = true
                · rw [if_pos h6] at h
                  have hz2 := (Tk.enc_ok h (by simp; omega)).1
                  have hb : Tk.bt (w ++ r) (i + 1) = Tk.bt (w ++ r') (i + 1) := bt_two (by omega)
                  rw [hb] at h h6 h7
                  rw [if_pos (by omega), if_pos h7, if_pos h6]
                  exact enc_mid kind a m w r r' k t f (i + 2) _ (by simp; omega) (by omega) h g (by omega)
                · rw [if_neg h6] at h; cases h
              · rw [if_neg h7] at h; cases h
            · rw [if_neg h5] at h
              have hz2 := (Tk.enc_ok h (by omega)).1
              omega
          · rw [if_neg h4] at h ⊢
            exact enc_mid kind a m w r r' k t f (i + 1) _ (by simp; omega) (by omega) h g (by omega)
        · rw [if_neg h3] at h; cases h
      · rw [if_neg h2] at h; cases h
theorem readEnclosed_mid {kind : Int} {w r r' : List UInt8} {k : Int} {t : List UInt8} (hw : 0 < w.length) (h : Tk.readEnclosed kind (w ++ r) 0 = .tok k t w.length) : Tk.readEnclosed kind (w ++ r') 0 = .tok k t w.length := by
  unfold Tk.readEnclosed at h ⊢
  rw [bt_two (r' := r') hw] at h
  exact enc_mid kind 0 _ w r r' k t _ (0 + 1) [] (by simp) hw h _ (by omega)
theorem prefix_mid {w x rest rest' : List UInt8} (hw : 0 < w.length) (h : Tk.Mid w x rest rest') (hp : Lib.hasPrefix (w ++ rest) [48, 39] = false) : Lib.hasPrefix (w ++ rest') [48, 39] = false := by
  rw [← Bool.not_eq_true] at hp ⊢
  intro h1
  apply hp
  obtain ⟨u, hu⟩ := prefix_form h1
  obtain ⟨v, g, c, rfl, rfl, hc, hst, hcap, hz⟩ := h.split
  match w, hw with
  | [a], _ =>
    cases x with
    | nil =>
      have : c = 39 := by
        have h2 : a :: c :: g = 48 :: 39 :: u := hu
        exact (List.cons.inj (List.cons.inj h2).2).1
      subst this
      have ha : a = 48 := by
        have h2 : a :: 39 :: g = 48 :: 39 :: u := hu
        exact (List.cons.inj h2).1
      subst ha
      exact absurd rfl (hz rfl rfl)
    | cons d y =>
      have h2 : a :: d :: (y ++ (c :: g)) = 48 :: 39 :: u := hu
      obtain ⟨e1, e2⟩ := List.cons.inj h2
      obtain ⟨e3, _⟩ := List.cons.inj e2
      rw [e1, e3]; rfl
  | a :: b :: w', _ =>
    have h2 : a :: b :: (w' ++ (x ++ (c :: g))) = 48 :: 39 :: u := hu
    obtain ⟨e1, e2⟩ := List.cons.inj h2
    obtain ⟨e3, _⟩ := List.cons.inj e2
    rw [e1, e3]; rfl
theorem readChar_mid {w r r' : List UInt8} {k : Int} {t : List UInt8} (h : Tk.readChar (w ++ r) 0 = .tok k t w.length) : Tk.readChar (w ++ r') 0 = .tok k t w.length := by
  have hl : ∀ r : List UInt8, (w ++ r).length = w.length + r.length := fun r => List.length_append
  unfold Tk.readChar at h
  split at h
  · rename_i h1
    split at h
    · split at h
      · split at h
        · have hz : w.length = 4 := by simp only [Tk.R.tok.injEq] at h; omega
          rename_i h2 h3 h4
          unfold Tk.readChar
          rw [starts_two (r' := r') (by omega)] at h1
          rw [bt_two (r' := r') (by omega)] at h3 h4 h
          rw [if_pos h1, if_pos (by rw [hl]; omega), if_pos h3, if_pos h4]
          exact h
        · cases h
      · cases h
    · cases h
  · rename_i h1
    split at h
    · split at h
      · split at h
        · have hz : w.length = 3 := by simp only [Tk.R.tok.injEq] at h; omega
          rename_i h2 h3 h4
          unfold Tk.readChar
          rw [starts_two (r' := r') (by omega)] at h1
          rw [bt_two (r' := r') (by omega)] at h3 h4 h
          rw [if_neg h1, if_pos (by rw [hl]; omega), if_pos h3, if_pos h4]
          exact h
        · cases h
      · cases h
    · cases h
theorem readSigns_mid {w x rest rest' : List UInt8} (h : Tk.Mid w x rest rest') {k : Int} {t : List UInt8} (hr : Tk.readSigns (w ++ rest) 0 = .tok k t w.length) (hz : Tk.run Tk.sign (w ++ rest) 0 = w.length) : Tk.readSigns (w ++ rest') 0 = .tok k t w.length := by
  have hz' : Tk.run Tk.sign (w ++ rest') 0 = w.length := by rw [run_mid ⟨rfl, rfl, rfl, rfl⟩ h (Nat.zero_le _) (by omega), hz]
  unfold Tk.readSigns at hr ⊢
  dsimp only at hr ⊢
  rw [hz, sub_app, bt_app_end] at hr
  rw [hz', sub_app, bt_app_end]
  by_cases h46 : w = [46]
  · rw [if_pos h46] at hr ⊢
    have n2 : ¬ w.length = (w ++ rest').length := by
      rw [List.length_append]
      have := h.ne
      have : 0 < rest'.length := List.length_pos_iff.2 this
      omega
    rw [if_neg n2]
    obtain ⟨v, g, c, rfl, rfl, hc, hst, hcap, hz0⟩ := h.split
    cases x with
    | nil =>
      have hk : (k = 7 ∧ t = w) ∧ (v = [] ∨ Tk.blank (Tk.bt v 0) = true ∨ Tk.bt v 0 = 37) := by
        rw [List.nil_append] at hr
        split at hr
        · rename_i hl
          simp only [Tk.R.tok.injEq] at hr
          refine ⟨⟨hr.1.symm, hr.2.1.symm⟩, .inl ?_⟩
          rw [List.length_append] at hl
          exact List.eq_nil_of_length_eq_zero (by omega)
        · split at hr
          · rename_i hbl
            simp only [Tk.R.tok.injEq] at hr; exact ⟨⟨hr.1.symm, hr.2.1.symm⟩, .inr (.inl hbl)⟩
          · split at hr
            · rename_i hbl
              simp only [Tk.R.tok.injEq] at hr; exact ⟨⟨hr.1.symm, hr.2.1.symm⟩, .inr (.inr hbl)⟩
            · cases hr
      rw [show Tk.bt ([] ++ (c :: g)) 0 = (c.toNat : Int) from rfl, hst hk.2, if_pos rfl, hk.1.1, hk.1.2]
    | cons d y =>
      rw [if_neg (by rw [List.length_append, List.cons_append, List.length_cons]; omega)] at hr
      exact hr
  · rw [if_neg h46] at hr ⊢; exact hr

theorem read_mid {w x rest rest' : List UInt8} {adj : Bool} {k : Int} {t : List UInt8} (hw : 0 < w.length) (h : Tk.Mid w x rest rest') (hr : Tk.read (w ++ rest) 0 0 adj = .tok k t w.length) : Tk.read (w ++ rest') 0 0 adj = .tok k t w.length := by
  have hb : Tk.bt (w ++ rest) 0 = Tk.bt (w ++ rest') 0 := bt_two hw
  have hsub : ∀ r, Tk.sub (w ++ r) 0 w.length = w := fun r => sub_app w r
  unfold Tk.read at hr ⊢
  rw [hb, List.drop_zero] at hr
  rw [List.drop_zero]
  split at hr
  · rename_i c1
    rw [if_pos c1]
    simp only [Tk.R.tok.injEq] at hr
    have hd := dottedEnd_mid h hr.2.2
    rw [hr.2.2, hsub] at hr
    rw [hd, hsub, hr.1, hr.2.1]
  rename_i c1
  rw [if_neg c1]
  split at hr
  · rename_i c2
    rw [if_pos c2]
    simp only [Tk.R.tok.injEq] at hr
    have hz := hr.2.2
    have hd := run_mid (p := Tk.inWord) (w := w) (e := 0) ⟨rfl, rfl, rfl, rfl⟩ h (Nat.zero_le _) (by omega)
    rw [hz, hsub] at hr
    rw [hd, hz, hsub, hr.1, hr.2.1]
  rename_i c2
  rw [if_neg c2]
  split at hr
  · rename_i c3
    have hc := readChar_mid (r' := rest') hr
    have hl : 3 ≤ w.length := by
      unfold Tk.readChar at hr
      repeat' split at hr
      all_goals first | (simp only [Tk.R.tok.injEq] at hr; omega) | (cases hr; done)
    have : Lib.hasPrefix (w ++ rest') [48, 39] = true := by
      obtain ⟨u, hu⟩ := prefix_form c3
      match w, hl with
      | a :: b :: w', _ =>
        have h2 : a :: b :: (w' ++ rest) = 48 :: 39 :: u := hu
        obtain ⟨e1, e2⟩ := List.cons.inj h2
        obtain ⟨e3, _⟩ := List.cons.inj e2
        rw [e1, e3]; rfl
    rw [this, if_pos rfl]; exact hc
  rename_i c3
  rw [prefix_mid hw h (by simpa using c3), if_neg (by decide)]
  split at hr
  · rename_i c4
    rw [if_pos c4]
    simp only [Tk.R.tok.injEq] at hr
    have hz := hr.2.2
    have hd := run_mid (p := Tk.digit) (w := w) (e := 0) ⟨rfl, rfl, rfl, rfl⟩ h (Nat.zero_le _) (by omega)
    rw [hz, hsub] at hr
    rw [hd, hz, hsub, hr.1, hr.2.1]
  rename_i c4
  rw [if_neg c4]
  split at hr
  · rename_i c5
    rw [if_pos c5]
    refine readSigns_mid h hr ?_
    have := Tk.readSigns_ok hr (by rw [List.length_append]; omega) (by rw [hb]; exact c5)
    exact this.2.2.2.symm
  rename_i c5
  rw [if_neg c5]
  split at hr
  · rename_i c6
    rw [if_pos c6]
    simp only [Tk.R.tok.injEq, Nat.zero_add] at hr
    have hz := hr.2.2
    rw [hz, hsub] at hr
    rw [Nat.zero_add, hz, hsub, hr.1, hr.2.1]
  rename_i c6
  rw [if_neg c6]
  split at hr
  · rename_i c7
    rw [if_pos c7]
    simp only [Tk.R.tok.injEq] at hr
    have hbe : Tk.bangEnd (w ++ rest') 0 = w.length := by
      have h2 := hr.2.2
      have ht : t = w := by rw [h2, hsub] at hr; exact hr.2.1.symm
      unfold Tk.bangEnd at h2 ⊢
      split at h2
      · rename_i hm
        rw [Bool.and_eq_true] at hm
        match w, h2 with
        | [a, d], _ =>
          have ha : a = 33 := by
            simp only [beq_iff_eq] at c7
            rw [show Tk.bt ([a, d] ++ rest') 0 = (a.toNat : Int) from rfl] at c7
            exact UInt8.toNat_inj.1 (by have : (33 : UInt8).toNat = 33 := rfl; omega)
          subst ha
          have hd := hm.1
          rw [Tk.starts_yes (by simp), show Tk.bt ([33, d] ++ rest) (0 + 1) = (d.toNat : Int) from rfl] at hd
          have hdd : d = 46 ∨ d = 58 := by
            simp only [Tk.bangMark, Bool.or_eq_true, beq_iff_eq] at hd
            have e46 : (46 : UInt8).toNat = 46 := rfl
            have e58 : (58 : UInt8).toNat = 58 := rfl
            rcases hd with hd | hd
            · exact .inl (UInt8.toNat_inj.1 (by omega))
            · exact .inr (UInt8.toNat_inj.1 (by omega))
          obtain ⟨v, g, c, rfl, rfl, hc, hst, hcap, hz⟩ := h.split
          cases x with
          | nil =>
            have h3 := hm.2
            have h4 := starts_drop Tk.capital ([33, d] ++ ([] ++ v)) 2 0
            rw [List.drop_left' (by rfl)] at h4
            rw [List.nil_append] at h3 h4
            have h5 : Tk.startsAt Tk.capital ([33, d] ++ v) (0 + 2) = Tk.startsAt Tk.capital v 0 := h4
            rw [h5, hcap] at h3
            cases h3
          | cons b y =>
            have h3 := hm.2
            rw [Tk.starts_yes (by simp), show Tk.bt ([33, d] ++ (b :: y ++ v)) (0 + 2) = (b.toNat : Int) from rfl] at h3
            rw [Tk.starts_yes (by simp), Tk.starts_yes (by simp), show Tk.bt ([33, d] ++ (b :: y ++ (c :: g))) (0 + 2) = (b.toNat : Int) from rfl, show Tk.bt ([33, d] ++ (b :: y ++ (c :: g))) (0 + 1) = (d.toNat : Int) from rfl, hd, h3]
            rfl
      · rename_i hm
        have hw1 : w.length = 1 := by omega
        have := pair_mid (p := Tk.bangMark) (q := Tk.capital) ⟨rfl, rfl, rfl, rfl⟩ ⟨rfl, rfl, rfl, rfl⟩ (w := w) h (by rw [hw1]; simpa using hm)
        rw [hw1] at this
        rw [show (0 + 1 : Nat) = 1 from rfl, show (0 + 2 : Nat) = 1 + 1 from rfl, this, hw1]; rfl
    rw [hr.2.2, hsub] at hr
    rw [hbe, hsub, hr.1, hr.2.1]
  rename_i c7
  rw [if_neg c7]
  split at hr
  · rename_i c8
    rw [if_pos c8]
    unfold Tk.readName at hr ⊢
    cases he : Tk.readEnclosed 1 (w ++ rest) 0 with
    | fault p c => rw [he] at hr; cases hr
    | tok k' t' z' =>
      rw [he] at hr
      dsimp only at hr
      split at hr
      · cases hr
      · rename_i hbad
        simp only [Tk.R.tok.injEq] at hr
        obtain ⟨rfl, rfl, rfl, rfl⟩ := hr
        rw [readEnclosed_mid (r' := rest') hw he]
        dsimp only
        rw [if_neg hbad]
  rename_i c8
  rw [if_neg c8]
  split at hr
  · rename_i c9
    rw [if_pos c9]
    exact readEnclosed_mid hw hr
  rename_i c9
  rw [if_neg c9]
  split at hr
  · rename_i c10
    rw [if_pos c10]
    simp only [Tk.R.tok.injEq, Nat.zero_add] at hr
    have hpt : Tk.punctText (w ++ rest) 0 0 adj = Tk.punctText (w ++ rest') 0 0 adj := by
      unfold Tk.punctText Tk.isArgs
      rw [hb, Nat.zero_add, hr.2.2, hsub, hsub]
    rw [hpt] at hr
    rw [hr.1, hr.2.1, Nat.zero_add, hr.2.2]
  · cases hr
end Go.Proofs.YtgmfhcnhpkeapaaGreatDoor

namespace Go.Proofs.YtgmfhcnhpkeapaaGreatDoor
open Go.RowKit

/-! Blanks and comments, and what stands behind them. -/
def Tk.sx (l : List UInt8) : Nat × Int := ((Tk.skipped l 0).1, (Tk.skipped l 0).2.2)
theorem skip_as (l : List UInt8) (f k : Nat) (hk : k ≤ l.length) (hf : l.length - k < f) : (Tk.skip f l k).1 = k + (Tk.sx (l.drop k)).1 ∧ (Tk.skip f l k).2.2 = (Tk.sx (l.drop k)).2 := by
  rw [skip_fuel l f (l.length + 1) k hk hf (by omega)]
  exact skipped_drop l k hk
theorem sx_nil : Tk.sx [] = (0, 0) := rfl
theorem sx_blank {c : UInt8} {r : List UInt8} (h : Tk.blank (c.toNat : Int) = true) : Tk.sx (c :: r) = (1 + (Tk.sx r).1, (Tk.sx r).2) := by
  have h1 := skip_as (c :: r) (c :: r).length 1 (by simp) (by simp)
  unfold Tk.sx Tk.skipped
  rw [Tk.skip, if_pos (by simp), show Tk.bt (c :: r) 0 = (c.toNat : Int) from rfl, if_pos h]
  exact Prod.ext h1.1 h1.2
theorem sx_line {r : List UInt8} : Tk.sx (37 :: r) = if (Tk.lineFault (37 :: r) 0).2 = 0 then (Tk.lineEnd (37 :: r) 0 + (Tk.sx ((37 :: r).drop (Tk.lineEnd (37 :: r) 0))).1, (Tk.sx ((37 :: r).drop (Tk.lineEnd (37 :: r) 0))).2) else (Tk.lineEnd (37 :: r) 0, (Tk.lineFault (37 :: r) 0).2) := by
  have hle : Tk.lineEnd (37 :: r) 0 ≤ (37 :: r).length := Tk.lineEnd_le (Nat.zero_le _)
  have hgt : 0 < Tk.lineEnd (37 :: r) 0 := Tk.lineEnd_gt (by simp) rfl
  have h1 := skip_as (37 :: r) (37 :: r).length (Tk.lineEnd (37 :: r) 0) hle (by omega)
  unfold Tk.sx Tk.skipped
  rw [Tk.skip, if_pos (by simp), show Tk.bt ((37 : UInt8) :: r) 0 = 37 from rfl, if_neg (by decide), if_pos rfl]
  split
  · exact Prod.ext h1.1 h1.2
  · rfl
theorem sx_com {l : List UInt8} (h : Lib.hasPrefix l [47, 42] = true) : Tk.sx l = if (Tk.comment l 0).2.2 = 0 then ((Tk.comment l 0).1 + (Tk.sx (l.drop (Tk.comment l 0).1)).1, (Tk.sx (l.drop (Tk.comment l 0).1)).2) else ((Tk.comment l 0).1, (Tk.comment l 0).2.2) := by
  obtain ⟨r, rfl⟩ := prefix_form h
  have hle : (Tk.comment (47 :: 42 :: r) 0).1 ≤ (47 :: 42 :: r : List UInt8).length := Tk.com_le _ _ (by simp)
  unfold Tk.sx Tk.skipped
  rw [Tk.skip, if_pos (by simp), show Tk.bt ((47 : UInt8) :: 42 :: r) 0 = 47 from rfl, if_neg (by decide), if_neg (by decide), List.drop_zero, if_pos h]
  split
  · rename_i hc
    have hgt := Tk.comment_gt hc
    have h1 := skip_as (47 :: 42 :: r) (47 :: 42 :: r : List UInt8).length (Tk.comment (47 :: 42 :: r) 0).1 hle (by simp only [List.length_cons] at hle ⊢; omega)
    exact Prod.ext h1.1 h1.2
  · rfl
theorem sx_stop {l : List UInt8} (h : Tk.Begins l) : Tk.sx l = (0, 0) := by
  unfold Tk.sx Tk.skipped
  rw [Tk.skip, if_pos h.pos, h.blank, if_neg (by decide), if_neg h.line, List.drop_zero, h.com, if_neg (by decide)]
theorem com_mid (u v v' : List UInt8) (b : Nat) : ∀ (f g k : Nat), (Tk.com f (u ++ v) b k).2.2 = 0 → (Tk.com f (u ++ v) b k).1 ≤ u.length → (u ++ v').length - k < g → (Tk.com g (u ++ v') b k).1 = (Tk.com f (u ++ v) b k).1 ∧ (Tk.com g (u ++ v') b k).2.2 = 0
  | 0, g, k, h, _, _ => by rw [Tk.com] at h; cases h
  | f + 1, 0, k, h, he, hg => by omega
  | f + 1, g + 1, k, h, he, hg => by
    have hku : k < u.length := Nat.lt_of_lt_of_le (Tk.com_gt (f + 1) h) he
    have hl : (u ++ v').length = u.length + v'.length := List.length_append
    have hl0 : (u ++ v).length = u.length + v.length := List.length_append
    obtain ⟨R, hR⟩ : ∃ R, Tk.com (f + 1) (u ++ v) b k = R := ⟨_, rfl⟩
    rw [hR] at h he ⊢
    rw [Tk.com, if_pos (show k < (u ++ v).length by omega), List.drop_append_of_le_length (by omega)] at hR
    rw [Tk.com, if_pos (show k < (u ++ v').length by omega), List.drop_append_of_le_length (by omega)]
    have two : ∀ y : List UInt8, k + 1 < u.length → Lib.hasPrefix (u.drop k ++ y) [42, 47] = Lib.hasPrefix (u.drop k) [42, 47] := fun y h2 => by
      rw [List.drop_eq_getElem_cons (by omega), List.drop_eq_getElem_cons h2]
      rfl
    by_cases hp : Lib.hasPrefix (u.drop k ++ v) [42, 47] = true
    · rw [if_pos hp] at hR
      subst hR
      dsimp only at he
      rw [two v (by omega)] at hp
      rw [two v' (by omega), if_pos hp]
      exact ⟨rfl, rfl⟩
    · rw [if_neg hp] at hR
      by_cases ht : Tk.inText (Tk.bt (u ++ v) k) = true
      · rw [if_pos ht] at hR
        subst hR
        have hgt2 := Tk.com_gt f h
        rw [two v (by omega)] at hp
        rw [bt_two (r' := v') (by omega)] at ht
        rw [two v' (by omega), if_neg hp, if_pos ht]
        exact com_mid u v v' b f g (k + 1) h he (by omega)
      · rw [if_neg ht] at hR
        subst hR
        cases h

theorem skip_mid (v v' : List UInt8) (hv : Tk.Begins v) : ∀ (n : Nat) (u : List UInt8), u.length ≤ n → Tk.sx (u ++ v) = (u.length, 0) → Tk.sx (u ++ v') = (u.length + (Tk.sx v').1, (Tk.sx v').2)
  | 0, u, hn, _ => by
    obtain rfl : u = [] := List.eq_nil_of_length_eq_zero (by omega)
    simp
  | n + 1, [], _, _ => by simp
  | n + 1, c :: u, hn, h => by
    have hun : u.length ≤ n := by simpa using hn
    by_cases hb : Tk.blank (c.toNat : Int) = true
    · rw [List.cons_append, sx_blank hb] at h ⊢
      have h1 : Tk.sx (u ++ v) = (u.length, 0) := by
        have e1 := congrArg Prod.fst h
        have e2 := congrArg Prod.snd h
        simp only [List.length_cons] at e1
        exact Prod.ext (by dsimp only at e1 ⊢; omega) e2
      rw [skip_mid v v' hv n u hun h1]
      simp only [List.length_cons, Prod.mk.injEq, and_true]
      omega
    · by_cases h37 : c = 37
      · subst h37
        rw [List.cons_append, sx_line] at h
        have hj0 := Tk.lineEnd_gt (l := 37 :: (u ++ v)) (k := 0) (by simp) rfl
        obtain ⟨j, hj⟩ : ∃ j, Tk.lineEnd (37 :: (u ++ v)) 0 = j := ⟨_, rfl⟩
        rw [hj] at h hj0
        have hf : (Tk.lineFault (37 :: (u ++ v)) 0).2 = 0 := by
          apply Decidable.byContradiction
          intro hne
          rw [if_neg hne] at h
          exact hne (congrArg Prod.snd h)
        rw [if_pos hf] at h
        have e1 := congrArg Prod.fst h
        have e2 := congrArg Prod.snd h
        dsimp only at e1 e2
        have hjl : j < (37 :: u).length := by
          rcases Nat.lt_or_ge j (37 :: u).length with h1 | h1
          · exact h1
          · exfalso
            have hje : j = (37 :: u).length := by simp only [List.length_cons] at e1 h1 ⊢; omega
            unfold Tk.lineFault at hf
            dsimp only at hf
            rw [hj] at hf
            have hpos := hv.pos
            have hb2 : Tk.bt (37 :: (u ++ v)) j = Tk.bt v 0 := by
              rw [hje, ← List.cons_append]
              exact bt_app_end _ _
            by_cases h10 : Tk.bt v 0 = 10
            · have := hv.blank
              rw [h10] at this
              exact absurd this (by decide)
            · rw [if_pos ⟨by rw [hje]; simp; exact hpos, by rw [hb2]; exact h10⟩] at hf
              cases hf
        have hrun : Tk.run Tk.inLine (37 :: u ++ v) 0 = j := hj
        have hru : ((37 :: u : List UInt8).takeWhile fun c => Tk.inLine (c.toNat : Int)).length = j := by
          unfold Tk.run at hrun
          rw [List.drop_zero, Nat.zero_add] at hrun
          by_cases hall : ((37 :: u : List UInt8).takeWhile fun c => Tk.inLine (c.toNat : Int)).length = (37 :: u).length
          · rw [takeWhile_all_app _ _ _ hall, List.length_append] at hrun
            omega
          · have hle : ((37 :: u : List UInt8).takeWhile fun c => Tk.inLine (c.toNat : Int)).length ≤ (37 :: u).length := (List.takeWhile_sublist _).length_le
            rw [takeWhile_part_app _ _ _ (by omega)] at hrun
            exact hrun
        have hrun' : Tk.lineEnd (37 :: u ++ v') 0 = j := by
          unfold Tk.lineEnd Tk.run
          rw [List.drop_zero, Nat.zero_add, takeWhile_part_app _ _ _ (by omega)]
          exact hru
        have hf' : (Tk.lineFault (37 :: u ++ v') 0).2 = 0 := by
          unfold Tk.lineFault at hf ⊢
          dsimp only at hf ⊢
          rw [hj] at hf
          rw [hrun']
          have hb3 : Tk.bt (37 :: u ++ v') j = Tk.bt (37 :: (u ++ v)) j := bt_two (w := 37 :: u) hjl
          by_cases h10 : Tk.bt (37 :: (u ++ v)) j = 10
          · rw [if_neg (fun hh => hh.2 (by rw [hb3]; exact h10))]
          · rw [if_pos ⟨by simp only [List.length_cons, List.length_append] at hjl ⊢; omega, h10⟩] at hf
            cases hf
        have hd : (37 :: (u ++ v)).drop j = (37 :: u).drop j ++ v := by rw [← List.cons_append, List.drop_append_of_le_length (by omega)]
        have hd' : (37 :: (u ++ v')).drop j = (37 :: u).drop j ++ v' := by rw [← List.cons_append, List.drop_append_of_le_length (by omega)]
        rw [hd] at e1 e2
        have hlj : ((37 :: u).drop j).length = (37 :: u).length - j := List.length_drop
        have ih := skip_mid v v' hv n ((37 :: u).drop j) (by rw [hlj]; simp only [List.length_cons]; omega) (Prod.ext (by rw [hlj]; dsimp only at e1 ⊢; omega) e2)
        rw [List.cons_append, sx_line]
        rw [List.cons_append] at hrun' hf'
        rw [if_pos hf', hrun', hd', ih, hlj]
        simp only [List.length_cons, Prod.mk.injEq, and_true] at hjl ⊢
        omega
      · by_cases hp : Lib.hasPrefix (c :: u ++ v) [47, 42] = true
        · rw [sx_com hp] at h
          have hc : (Tk.comment (c :: u ++ v) 0).2.2 = 0 := by
            apply Decidable.byContradiction
            intro hne
            rw [if_neg hne] at h
            exact hne (congrArg Prod.snd h)
          rw [if_pos hc] at h
          have e1 := congrArg Prod.fst h
          have e2 := congrArg Prod.snd h
          dsimp only at e1 e2
          have hgt := Tk.comment_gt hc
          obtain ⟨e, he⟩ : ∃ e, (Tk.comment (c :: u ++ v) 0).1 = e := ⟨_, rfl⟩
          rw [he] at e1 e2 hgt
          have hel : e ≤ (c :: u).length := by omega
          have hci := com_mid (c :: u) v v' 0 _ ((c :: u ++ v').length + 1) (0 + 2) hc (by rw [show (Tk.com ((c :: u ++ v).length + 1) (c :: u ++ v) 0 (0 + 2)).1 = e from he]; exact hel) (by omega)
          have he' : (Tk.comment (c :: u ++ v') 0).1 = e := hci.1.trans he
          have hc' : (Tk.comment (c :: u ++ v') 0).2.2 = 0 := hci.2
          have hp' : Lib.hasPrefix (c :: u ++ v') [47, 42] = true := by
            have h2 : 2 < e := by
              have := Tk.com_gt _ hc
              rw [show (Tk.com ((c :: u ++ v).length + 1) (c :: u ++ v) 0 (0 + 2)).1 = e from he] at this
              omega
            cases u with
            | nil => simp at hel; omega
            | cons d y => exact hp
          have hd : (c :: u ++ v).drop e = (c :: u).drop e ++ v := List.drop_append_of_le_length hel
          have hd' : (c :: u ++ v').drop e = (c :: u).drop e ++ v' := List.drop_append_of_le_length hel
          rw [hd] at e1 e2
          have hlj : ((c :: u).drop e).length = (c :: u).length - e := List.length_drop
          have ih := skip_mid v v' hv n ((c :: u).drop e) (by rw [hlj]; simp only [List.length_cons]; omega) (Prod.ext (by rw [hlj]; dsimp only at e1 ⊢; omega) e2)
          rw [sx_com hp', if_pos hc', he', hd', ih, hlj]
          simp only [List.length_cons, Prod.mk.injEq, and_true] at hel ⊢
          omega
        · have hst := sx_stop (l := c :: u ++ v) ⟨by simp, by rw [show Tk.bt (c :: u ++ v) 0 = (c.toNat : Int) from rfl]; simpa using hb, fun e => h37 (UInt8.toNat_inj.1 (by have : (37 : UInt8).toNat = 37 := rfl; rw [show Tk.bt (c :: u ++ v) 0 = (c.toNat : Int) from rfl] at e; omega)), by simpa using hp⟩
          rw [hst] at h
          have := congrArg Prod.fst h
          simp at this

/-! A gap in front of a token changes nothing but places. -/
theorem skip_stop (l : List UInt8) : ∀ (f k : Nat), (Tk.skip f l k).2.2 = 0 → (Tk.skip f l k).1 < l.length → l.length - k < f → Tk.Begins (l.drop (Tk.skip f l k).1)
  | 0, k, _, _, hf => by omega
  | f + 1, k, h, hlt, hf => by
    obtain ⟨R, hR⟩ : ∃ R, Tk.skip (f + 1) l k = R := ⟨_, rfl⟩
    rw [hR] at h hlt ⊢
    rw [Tk.skip] at hR
    by_cases hk : k < l.length
    · rw [if_pos hk] at hR
      by_cases hb : Tk.blank (Tk.bt l k) = true
      · rw [if_pos hb] at hR; subst hR
        exact skip_stop l f (k + 1) h hlt (by omega)
      · rw [if_neg hb] at hR
        by_cases h37 : Tk.bt l k = 37
        · rw [if_pos h37] at hR
          have h1 := Tk.lineEnd_gt hk h37
          by_cases hf2 : (Tk.lineFault l k).2 = 0
          · rw [if_pos hf2] at hR; subst hR
            exact skip_stop l f _ h hlt (by omega)
          · rw [if_neg hf2] at hR; subst hR
            exact absurd h hf2
        · rw [if_neg h37] at hR
          by_cases hp : Lib.hasPrefix (l.drop k) [47, 42] = true
          · rw [if_pos hp] at hR
            by_cases hc : (Tk.comment l k).2.2 = 0
            · have h1 := Tk.comment_gt hc
              rw [if_pos hc] at hR; subst hR
              exact skip_stop l f _ h hlt (by omega)
            · rw [if_neg hc] at hR; subst hR
              exact absurd h hc
          · rw [if_neg hp] at hR; subst hR
            have hb0 : Tk.bt (l.drop k) 0 = Tk.bt l k := by have := bt_drop l k 0; rw [Nat.add_zero] at this; exact this.symm
            exact ⟨by rw [List.length_drop]; omega, by rw [hb0]; simpa using hb, by rw [hb0]; exact h37, by simpa using hp⟩
    · rw [if_neg hk] at hR; subst hR
      exact absurd hlt hk
/-- One step of the reader. -/
theorem toks_step {f : Nat} {l : List UInt8} {a en : Nat} {b : Bool} {acc out : List Tk.T} (h : Tk.toks (f + 1) l a en b acc = .ok out) :
    (Tk.skipped l a).2.2 = 0 ∧ (((Tk.skipped l a).1 = l.length ∧ out = acc ++ [(0, [], l.length)]) ∨
      ((Tk.skipped l a).1 ≠ l.length ∧ ∃ k t z, Tk.read l (Tk.skipped l a).1 en b = .tok k t z ∧ Tk.check k t = 0 ∧ Tk.toks f l z z (k == 1 || k == 2) (acc ++ [(k, t, (Tk.skipped l a).1)]) = .ok out)) := by
  rw [Tk.toks] at h
  by_cases hc : (Tk.skipped l a).2.2 = 0
  · rw [if_pos hc] at h
    refine ⟨hc, ?_⟩
    by_cases he : (Tk.skipped l a).1 = l.length
    · rw [if_pos he] at h
      simp only [Except.ok.injEq] at h
      exact .inl ⟨he, h.symm⟩
    · rw [if_neg he] at h
      right
      refine ⟨he, ?_⟩
      cases hr : Tk.read l (Tk.skipped l a).1 en b with
      | fault p c => rw [hr] at h; cases h
      | tok k t z =>
        rw [hr] at h
        dsimp only at h
        by_cases hk : Tk.check k t = 0
        · rw [if_pos hk] at h
          exact ⟨k, t, z, rfl, hk, h⟩
        · rw [if_neg hk] at h; cases h
  · rw [if_neg hc] at h; cases h
theorem skipped_le {l : List UInt8} {a : Nat} (ha : a ≤ l.length) : (Tk.skipped l a).1 ≤ l.length := Tk.skip_le _ a ha
theorem skipped_ge (l : List UInt8) (a : Nat) : a ≤ (Tk.skipped l a).1 := Tk.skip_ge _ a
theorem skipped_sx (l : List UInt8) (a : Nat) (ha : a ≤ l.length) : (Tk.skipped l a).1 = a + (Tk.sx (l.drop a)).1 ∧ (Tk.skipped l a).2.2 = (Tk.sx (l.drop a)).2 := skipped_drop l a ha
def Tk.lean (r : List Tk.T) : List (Int × List UInt8) := r.map fun t => (t.1, t.2.1)

/-- From the same rest on the same tokens are read. -/
theorem toks_rest : ∀ (f : Nat) {l : List UInt8} {a : Nat} {b : Bool} {acc out : List Tk.T}, Tk.toks f l a a b acc = .ok out → a ≤ l.length → l.length ≤ 65536 →
    ∃ r, out = acc ++ r ∧ (∀ t ∈ r, a ≤ t.2.2) ∧ ∀ (f' : Nat) (l' : List UInt8) (a' : Nat) (acc' : List Tk.T), f ≤ f' → l'.drop a' = l.drop a → a' ≤ l'.length →
      ∃ r', Tk.toks f' l' a' a' b acc' = .ok (acc' ++ r') ∧ Tk.lean r' = Tk.lean r
  | 0, l, a, b, acc, out, h, _, _ => by rw [Tk.toks] at h; cases h
  | f + 1, l, a, b, acc, out, h, ha, hl6 => by
    obtain ⟨hc, hh⟩ := toks_step h
    have hs := skipped_sx l a ha
    have hsl := skipped_le ha
    have hsg := skipped_ge l a
    rcases hh with ⟨he, rfl⟩ | ⟨hne, k, t, z, hr, hk, hrec⟩
    · refine ⟨_, rfl, fun t ht => by simp only [List.mem_singleton] at ht; subst ht; exact ha, fun f' l' a' acc' hf hd ha' => ?_⟩
      cases f' with
      | zero => omega
      | succ f' =>
        have hs' := skipped_sx l' a' ha'
        have hlen := congrArg List.length hd
        rw [List.length_drop, List.length_drop] at hlen
        refine ⟨[(0, [], l'.length)], ?_, rfl⟩
        rw [hd] at hs'
        rw [Tk.toks, if_pos (by rw [hs'.2, ← hs.2]; exact hc), if_pos (by rw [hs'.1]; rw [hs.1] at he; omega)]
    · have hslt : (Tk.skipped l a).1 < l.length := by omega
      have hok := Tk.read_ok hl6 hslt hr
      obtain ⟨r, rfl, hpos, hsame⟩ := toks_rest f hrec hok.2.1 hl6
      refine ⟨(k, t, (Tk.skipped l a).1) :: r, by simp, fun τ hτ => ?_, fun f' l' a' acc' hf hd ha' => ?_⟩
      · rcases List.mem_cons.1 hτ with rfl | hτ
        · exact hsg
        · have := hpos τ hτ; omega
      · cases f' with
        | zero => omega
        | succ f' =>
          have hs' := skipped_sx l' a' ha'
          have hlen := congrArg List.length hd
          rw [List.length_drop, List.length_drop] at hlen
          rw [hd] at hs'
          obtain ⟨d, hdd⟩ : ∃ d, (Tk.sx (l.drop a)).1 = d := ⟨_, rfl⟩
          rw [hdd] at hs hs'
          have hdr : l'.drop (Tk.skipped l' a').1 = l.drop (Tk.skipped l a).1 := by
            rw [hs'.1, hs.1, ← List.drop_drop, ← List.drop_drop, hd]
          have hrd := read_drop l (Tk.skipped l a).1 a b hsl
          rw [hr] at hrd
          have hadj : (b && decide (a' = (Tk.skipped l' a').1)) = (b && decide (a = (Tk.skipped l a).1)) := by
            rw [hs'.1, hs.1, show decide (a' = a' + d) = decide (a = a + d) from decide_eq_decide.2 (by omega)]
          cases hm : Tk.read (l.drop (Tk.skipped l a).1) 0 0 (b && decide (a = (Tk.skipped l a).1)) with
          | fault p c => rw [hm] at hrd; cases hrd
          | tok k0 t0 z0 =>
            rw [hm] at hrd
            simp only [Tk.R.shift, Tk.R.tok.injEq] at hrd
            obtain ⟨rfl, rfl, rfl⟩ := hrd
            have hr' : Tk.read l' (Tk.skipped l' a').1 a' b = .tok k t ((Tk.skipped l' a').1 + z0) := by
              rw [read_drop l' _ a' b (by rw [hs'.1]; omega), hdr, hadj, hm]; rfl
            obtain ⟨r', h1, h2⟩ := hsame f' l' ((Tk.skipped l' a').1 + z0) (acc' ++ [(k, t, (Tk.skipped l' a').1)]) (by omega) (by rw [← List.drop_drop, hdr, List.drop_drop]) (by have := hok.2.1; rw [hs'.1]; rw [hs.1] at this; omega)
            refine ⟨(k, t, (Tk.skipped l' a').1) :: r', ?_, by simp only [Tk.lean, List.map_cons, List.cons.injEq, true_and]; exact h2⟩
            rw [Tk.toks, if_pos (by rw [hs'.2, ← hs.2]; exact hc), if_neg (by rw [hs'.1]; rw [hs.1] at hne; omega), hr']
            dsimp only
            rw [if_pos hk, h1]
            simp
theorem drop_split (l : List UInt8) (p a : Nat) (ha : a ≤ p) : l.drop a = (l.drop a).take (p - a) ++ l.drop p := by
  have h := (List.take_append_drop (p - a) (l.drop a)).symm
  rwa [List.drop_drop, show a + (p - a) = p by omega] at h
theorem begins_mid {w x rest rest' : List UInt8} (hw : 0 < w.length) (h : Tk.Mid w x rest rest') (hb : Tk.Begins (w ++ rest)) : Tk.Begins (w ++ rest') := by
  have h0 : Tk.bt (w ++ rest') 0 = Tk.bt (w ++ rest) 0 := bt_two hw
  refine ⟨by simp; omega, by rw [h0]; exact hb.blank, by rw [h0]; exact hb.line, ?_⟩
  rw [← Bool.not_eq_true]
  intro hp
  have hn := hb.com
  rw [← Bool.not_eq_true] at hn
  apply hn
  obtain ⟨u, hu⟩ := prefix_form hp
  obtain ⟨v, g, c, rfl, rfl, hc, hst, hcap, hz⟩ := h.split
  match w, hw with
  | [a], _ =>
    cases x with
    | nil =>
      have h2 : a :: c :: g = 47 :: 42 :: u := hu
      rw [(List.cons.inj (List.cons.inj h2).2).1] at hc
      exact absurd hc (by decide)
    | cons d y =>
      have h2 : a :: d :: (y ++ (c :: g)) = 47 :: 42 :: u := hu
      obtain ⟨e1, e2⟩ := List.cons.inj h2
      rw [e1, (List.cons.inj e2).1]; rfl
  | a :: b :: w', _ =>
    have h2 : a :: b :: (w' ++ (x ++ (c :: g))) = 47 :: 42 :: u := hu
    obtain ⟨e1, e2⟩ := List.cons.inj h2
    rw [e1, (List.cons.inj e2).1]; rfl

theorem skip_all (t : List UInt8) : ∀ (n : Nat) (u : List UInt8), u.length ≤ n → Tk.sx u = (u.length, 0) → Tk.sx (u ++ 10 :: t) = (u.length + 1 + (Tk.sx t).1, (Tk.sx t).2)
  | 0, u, hn, _ => by
    obtain rfl : u = [] := List.eq_nil_of_length_eq_zero (by omega)
    rw [List.nil_append, sx_blank rfl]; simp
  | n + 1, [], _, _ => by rw [List.nil_append, sx_blank rfl]; simp
  | n + 1, c :: u, hn, h => by
    have hun : u.length ≤ n := by simpa using hn
    by_cases hb : Tk.blank (c.toNat : Int) = true
    · rw [sx_blank hb] at h
      rw [List.cons_append, sx_blank hb]
      have h1 : Tk.sx u = (u.length, 0) := by
        have e1 := congrArg Prod.fst h
        have e2 := congrArg Prod.snd h
        simp only [List.length_cons] at e1
        exact Prod.ext (by dsimp only at e1 ⊢; omega) e2
      rw [skip_all t n u hun h1]
      simp only [List.length_cons, Prod.mk.injEq, and_true]
      omega
    · by_cases h37 : c = 37
      · subst h37
        rw [sx_line] at h
        have hj0 := Tk.lineEnd_gt (l := 37 :: u) (k := 0) (by simp) rfl
        have hjl : Tk.lineEnd (37 :: u) 0 ≤ (37 :: u).length := Tk.lineEnd_le (Nat.zero_le _)
        obtain ⟨j, hj⟩ : ∃ j, Tk.lineEnd (37 :: u) 0 = j := ⟨_, rfl⟩
        rw [hj] at h hj0 hjl
        have hf : (Tk.lineFault (37 :: u) 0).2 = 0 := by
          apply Decidable.byContradiction
          intro hne
          rw [if_neg hne] at h
          exact hne (congrArg Prod.snd h)
        rw [if_pos hf] at h
        have e1 := congrArg Prod.fst h
        have e2 := congrArg Prod.snd h
        dsimp only at e1 e2
        have hru : ((37 :: u : List UInt8).takeWhile fun c => Tk.inLine (c.toNat : Int)).length = j := by
          have : Tk.run Tk.inLine (37 :: u) 0 = j := hj
          unfold Tk.run at this
          rw [List.drop_zero, Nat.zero_add] at this
          exact this
        have hrun' : Tk.lineEnd (37 :: u ++ 10 :: t) 0 = j := by
          unfold Tk.lineEnd Tk.run
          rw [List.drop_zero, Nat.zero_add]
          by_cases hall : ((37 :: u : List UInt8).takeWhile fun c => Tk.inLine (c.toNat : Int)).length = (37 :: u).length
          · rw [takeWhile_all_app _ _ _ hall, List.takeWhile_cons, if_neg (by decide), List.append_nil, ← hall]
            exact hru
          · rw [takeWhile_part_app _ _ _ (by omega)]
            exact hru
        have hf' : (Tk.lineFault (37 :: u ++ 10 :: t) 0).2 = 0 := by
          unfold Tk.lineFault at hf ⊢
          dsimp only at hf ⊢
          rw [hj] at hf
          rw [hrun']
          by_cases hjj : j < (37 :: u).length
          · have hb3 : Tk.bt (37 :: u ++ 10 :: t) j = Tk.bt (37 :: u) j := bt_app hjj
            by_cases h10 : Tk.bt (37 :: u) j = 10
            · rw [if_neg (fun hh => hh.2 (by rw [hb3]; exact h10))]
            · rw [if_pos ⟨hjj, h10⟩] at hf
              cases hf
          · have hje : j = (37 :: u).length := by omega
            have hb3 : Tk.bt (37 :: u ++ 10 :: t) j = 10 := by rw [hje]; exact bt_app_end _ _
            rw [if_neg (fun hh => hh.2 hb3)]
        have hd' : (37 :: u ++ 10 :: t).drop j = (37 :: u).drop j ++ 10 :: t := List.drop_append_of_le_length hjl
        have hlj : ((37 :: u).drop j).length = (37 :: u).length - j := List.length_drop
        have ih := skip_all t n ((37 :: u).drop j) (by rw [hlj]; simp only [List.length_cons]; omega) (Prod.ext (by rw [hlj]; dsimp only at e1 ⊢; omega) e2)
        rw [List.cons_append, sx_line]
        rw [List.cons_append] at hrun' hf' hd'
        rw [if_pos hf', hrun', hd', ih, hlj]
        simp only [List.length_cons, Prod.mk.injEq, and_true] at hjl ⊢
        omega
      · by_cases hp : Lib.hasPrefix (c :: u) [47, 42] = true
        · rw [sx_com hp] at h
          have hc : (Tk.comment (c :: u) 0).2.2 = 0 := by
            apply Decidable.byContradiction
            intro hne
            rw [if_neg hne] at h
            exact hne (congrArg Prod.snd h)
          rw [if_pos hc] at h
          have e1 := congrArg Prod.fst h
          have e2 := congrArg Prod.snd h
          dsimp only at e1 e2
          have hgt := Tk.comment_gt hc
          obtain ⟨e, he⟩ : ∃ e, (Tk.comment (c :: u) 0).1 = e := ⟨_, rfl⟩
          rw [he] at e1 e2 hgt
          have hel : e ≤ (c :: u).length := by omega
          have hci := com_mid (c :: u) [] (10 :: t) 0 ((c :: u).length + 1) ((c :: u ++ 10 :: t).length + 1) (0 + 2) (by rw [List.append_nil]; exact hc) (by rw [List.append_nil, show (Tk.com ((c :: u).length + 1) (c :: u) 0 (0 + 2)).1 = e from he]; exact hel) (by omega)
          rw [List.append_nil] at hci
          have he' : (Tk.comment (c :: u ++ 10 :: t) 0).1 = e := hci.1.trans he
          have hc' : (Tk.comment (c :: u ++ 10 :: t) 0).2.2 = 0 := hci.2
          have hp' : Lib.hasPrefix (c :: u ++ 10 :: t) [47, 42] = true := by
            obtain ⟨r, hr⟩ := prefix_form hp
            rw [hr]; rfl
          have hd' : (c :: u ++ 10 :: t).drop e = (c :: u).drop e ++ 10 :: t := List.drop_append_of_le_length hel
          have hlj : ((c :: u).drop e).length = (c :: u).length - e := List.length_drop
          have ih := skip_all t n ((c :: u).drop e) (by rw [hlj]; simp only [List.length_cons]; omega) (Prod.ext (by rw [hlj]; dsimp only at e1 ⊢; omega) e2)
          rw [sx_com hp', if_pos hc', he', hd', ih, hlj]
          simp only [List.length_cons, Prod.mk.injEq, and_true] at hel ⊢
          omega
        · have hst := sx_stop (l := c :: u) ⟨by simp, by rw [show Tk.bt (c :: u) 0 = (c.toNat : Int) from rfl]; simpa using hb, fun e => h37 (UInt8.toNat_inj.1 (by have : (37 : UInt8).toNat = 37 := rfl; rw [show Tk.bt (c :: u) 0 = (c.toNat : Int) from rfl] at e; omega)), by simpa using hp⟩
          rw [hst] at h
          have := congrArg Prod.fst h
          simp at this
end Go.Proofs.YtgmfhcnhpkeapaaGreatDoor

namespace Go.Proofs.YtgmfhcnhpkeapaaGreatDoor
open Go.RowKit

/-! The tokens of two texts with a line's end between them. -/
theorem toks_move {l : List UInt8} {f a c : Nat} {acc out : List Tk.T} (h1 : (Tk.skipped l a).1 = (Tk.skipped l c).1) (h2 : (Tk.skipped l a).2.2 = (Tk.skipped l c).2.2) (hs : (Tk.skipped l c).1 ≤ l.length) (h : Tk.toks f l c c false acc = .ok out) : Tk.toks f l a a false acc = .ok out := by
  cases f with
  | zero => rw [Tk.toks] at h; cases h
  | succ f =>
    obtain ⟨hc, hh⟩ := toks_step h
    rw [Tk.toks, h1, if_pos (by rw [h2]; exact hc)]
    rcases hh with ⟨he, rfl⟩ | ⟨hne, k, t, z, hr, hk, hrec⟩
    · rw [if_pos he]
    · have hr' : Tk.read l (Tk.skipped l c).1 a false = .tok k t z := by
        rw [read_drop l _ a false hs]
        rw [read_drop l _ c false hs] at hr
        exact hr
      rw [if_neg hne, hr']
      dsimp only
      rw [if_pos hk]
      exact hrec
/-- The fuel does not matter, if there is enough of it. -/
theorem toks_fuel {l : List UInt8} (hl6 : l.length ≤ 65536) : ∀ (f : Nat) {a en : Nat} {b : Bool} {acc out : List Tk.T}, Tk.toks f l a en b acc = .ok out → a ≤ l.length → ∀ g, l.length - a < g → Tk.toks g l a en b acc = .ok out
  | 0, a, en, b, acc, out, h, _, _, _ => by rw [Tk.toks] at h; cases h
  | f + 1, a, en, b, acc, out, h, ha, 0, hg => by omega
  | f + 1, a, en, b, acc, out, h, ha, g + 1, hg => by
    obtain ⟨hc, hh⟩ := toks_step h
    have hsl := skipped_le ha
    have hsg := skipped_ge l a
    rw [Tk.toks, if_pos hc]
    rcases hh with ⟨he, rfl⟩ | ⟨hne, k, t, z, hr, hk, hrec⟩
    · rw [if_pos he]
    · have hok := Tk.read_ok hl6 (by omega) hr
      rw [if_neg hne, hr]
      dsimp only
      rw [if_pos hk]
      exact toks_fuel hl6 f hrec hok.2.1 g (by omega)
theorem toks_ext {l t : List UInt8} {rt : List Tk.T} {g : Nat} (hl6 : l.length ≤ 65536) (ht6 : t.length ≤ 65536) (hrt : Tk.toks g t 0 0 false [] = .ok rt) : ∀ (f : Nat) {a : Nat} {b : Bool} {acc out : List Tk.T}, Tk.toks f l a a b acc = .ok out → a ≤ l.length →
    ∃ r, out = acc ++ (r ++ [(0, [], l.length)]) ∧ ((r = [] → b = false) → (∀ τ, r.getLast? = some τ → τ.1 = 7) → ∀ (f' : Nat) (acc' : List Tk.T), f + g ≤ f' → ∃ r', Tk.toks f' (l ++ 10 :: t) a a b acc' = .ok (acc' ++ (r ++ r')) ∧ Tk.lean r' = Tk.lean rt)
  | 0, a, b, acc, out, h, _ => by rw [Tk.toks] at h; cases h
  | f + 1, a, b, acc, out, h, ha => by
    obtain ⟨hc, hh⟩ := toks_step h
    have hs := skipped_sx l a ha
    have hsl := skipped_le ha
    have hsg := skipped_ge l a
    have hll : (l ++ 10 :: t).length = l.length + 1 + t.length := by simp; omega
    have hal' : a ≤ (l ++ 10 :: t).length := by omega
    have hs' := skipped_sx (l ++ 10 :: t) a hal'
    rcases hh with ⟨he, rfl⟩ | ⟨hne, k, tx, z, hr, hk, hrec⟩
    · refine ⟨[], rfl, fun hb _ f' acc' hf => ?_⟩
      obtain rfl := hb rfl
      obtain ⟨r, hrr, -, hsame⟩ := toks_rest g hrt (Nat.zero_le _) ht6
      rw [List.nil_append] at hrr
      subst hrr
      obtain ⟨r', h1, h2⟩ := hsame f' (l ++ 10 :: t) (l.length + 1) acc' (by omega) (by rw [List.drop_zero, ← List.drop_drop, List.drop_left' rfl]; rfl) (by omega)
      refine ⟨r', ?_, h2⟩
      have hsx : Tk.sx (l.drop a) = ((l.drop a).length, 0) := Prod.ext (by rw [List.length_drop]; have := hs.1; dsimp only; omega) (by rw [← hs.2]; exact hc)
      have hsk := skip_all t _ (l.drop a) (Nat.le_refl _) hsx
      rw [List.drop_append_of_le_length ha, hsk, List.length_drop] at hs'
      have hs2 := skipped_sx (l ++ 10 :: t) (l.length + 1) (by omega)
      have hd : (l ++ 10 :: t).drop (l.length + 1) = t := by rw [← List.drop_drop, List.drop_left' rfl]; rfl
      rw [hd] at hs2
      dsimp only at hs'
      exact toks_move (by rw [hs'.1, hs2.1]; omega) (by rw [hs'.2, hs2.2]) (skipped_le (by omega)) h1
    · have hslt : (Tk.skipped l a).1 < l.length := by omega
      have hok := Tk.read_ok hl6 hslt hr
      have hbg : Tk.Begins (l.drop (Tk.skipped l a).1) := skip_stop l _ a hc hslt (by omega)
      obtain ⟨s, hss⟩ : ∃ s, (Tk.skipped l a).1 = s := ⟨_, rfl⟩
      rw [hss] at hs hsl hsg hne hr hrec hslt hok hbg
      have hrd := read_drop l s a b hsl
      rw [hr] at hrd
      cases hm : Tk.read (l.drop s) 0 0 (b && decide (a = s)) with
      | fault p c => rw [hm] at hrd; cases hrd
      | tok k0 t0 z0 =>
        rw [hm] at hrd
        simp only [Tk.R.shift, Tk.R.tok.injEq] at hrd
        obtain ⟨rfl, rfl, rfl⟩ := hrd
        obtain ⟨r, hout, hcont⟩ := toks_ext hl6 ht6 hrt f hrec hok.2.1
        refine ⟨(k, tx, s) :: r, by rw [hout]; simp, fun hb hlast f' acc' hf => ?_⟩
        have hsx : Tk.sx (l.drop a) = (s - a, 0) := Prod.ext (by have := hs.1; dsimp only; omega) (by rw [← hs.2]; exact hc)
        obtain ⟨w, hw⟩ : ∃ w, (l.drop s).take z0 = w := ⟨_, rfl⟩
        have hwl : w.length = z0 := by rw [← hw]; have := hok.2.1; simp; omega
        have hwp : 0 < w.length := by have := hok.1; omega
        have hvs : l.drop s = w ++ l.drop (s + z0) := by
          rw [← hw, ← List.drop_drop]; exact (List.take_append_drop z0 (l.drop s)).symm
        have hvs' : (l ++ 10 :: t).drop s = w ++ (l.drop (s + z0) ++ 10 :: t) := by
          rw [List.drop_append_of_le_length hsl, hvs, List.append_assoc]
        have hins : Tk.Mid w (l.drop (s + z0)) (l.drop (s + z0)) (l.drop (s + z0) ++ 10 :: t) :=
          ⟨[], t, 10, (List.append_nil _).symm, rfl, .inl rfl, fun _ => rfl, rfl, fun e => absurd e (by decide)⟩
        rw [hvs] at hm hbg
        have hbg' := begins_mid hwp hins hbg
        have hri := read_mid hwp hins (by rw [hwl]; exact hm)
        rw [← hvs', hwl] at hri
        rw [← hvs'] at hbg'
        have hd1 := drop_split l s a hsg
        obtain ⟨u, hu⟩ : ∃ u, (l.drop a).take (s - a) = u := ⟨_, rfl⟩
        have hul : u.length = s - a := by rw [← hu]; simp; omega
        rw [hu] at hd1
        have hd2 : (l ++ 10 :: t).drop a = u ++ (l ++ 10 :: t).drop s := by
          rw [List.drop_append_of_le_length ha, hd1, List.append_assoc, List.drop_append_of_le_length hsl]
        rw [hd1] at hsx
        have hsk := skip_mid (l.drop s) ((l ++ 10 :: t).drop s) (by rw [hvs]; exact hbg) u.length u (Nat.le_refl _) (by rw [hsx, hul])
        rw [sx_stop hbg', hul] at hsk
        rw [hd2, hsk] at hs'
        dsimp only at hs'
        have hsp' : (Tk.skipped (l ++ 10 :: t) a).1 = s := by rw [hs'.1]; omega
        have hr' : Tk.read (l ++ 10 :: t) s a b = .tok k tx (s + z0) := by
          rw [read_drop _ _ a b (by omega), hri]; rfl
        cases f' with
        | zero => omega
        | succ f' =>
          obtain ⟨r', h1, h2⟩ := hcont (fun e => by
              subst e
              have := hlast _ rfl
              rw [show k = 7 from this]; rfl) (fun τ hτ => hlast τ (by
              cases r with
              | nil => cases hτ
              | cons y r => rw [List.getLast?_cons_cons]; exact hτ)) f' (acc' ++ [(k, tx, s)]) (by omega)
          refine ⟨r', ?_, h2⟩
          rw [Tk.toks, if_pos hs'.2, hsp', if_neg (by omega), hr']
          dsimp only
          rw [if_pos hk, h1]; simp
/-- The tokens of two texts, one behind the other: those of the first one, and those of the second one, but for places. -/
theorem tokens_both {s t : List UInt8} {A rt : List Tk.T} {p : Nat} (hst : s.length + 1 + t.length ≤ 65536) (h1 : Tk.tokens s = .ok (A ++ [(0, [], p)])) (h2 : Tk.tokens t = .ok rt) (hA : ∀ τ, A.getLast? = some τ → τ.1 = 7) :
    ∃ r', Tk.tokens (s ++ 10 :: t) = .ok (A ++ r') ∧ Tk.lean r' = Tk.lean rt := by
  unfold Tk.tokens at h1 h2 ⊢
  rw [if_neg (by omega)] at h1 h2
  have hll : (s ++ 10 :: t).length = s.length + 1 + t.length := by simp; omega
  rw [if_neg (by omega)]
  obtain ⟨r, hout, hc⟩ := toks_ext (by omega) (by omega) h2 _ h1 (Nat.zero_le _)
  rw [List.nil_append] at hout
  have hr : A = r := (List.append_inj' hout rfl).1
  subst hr
  obtain ⟨r', h3, h4⟩ := hc (fun _ => rfl) hA ((s.length + 2) + (t.length + 2)) [] (Nat.le_refl _)
  exact ⟨r', by
    rw [List.nil_append] at h3
    rw [hll]
    exact toks_fuel (by omega) _ h3 (Nat.zero_le _) _ (by omega), h4⟩
end Go.Proofs.YtgmfhcnhpkeapaaGreatDoor

namespace Go.Proofs.YtgmfhcnhpkeapaaGreatDoor
open Go.RowKit

/-! The terms of two texts, one behind the other. -/
mutual
theorem Tm.same_symm : ∀ t u : Tm, Tm.same t u = true → Tm.same u t = true
  | .mk k n m ts a, .mk k' n' m' us b, h => by
    rw [Tm.same, Bool.and_eq_true, Bool.and_eq_true, Bool.and_eq_true, beq_iff_eq, beq_iff_eq, beq_iff_eq] at h
    obtain ⟨⟨⟨rfl, rfl⟩, rfl⟩, h2⟩ := h
    rw [Tm.same, Tm.sames_symm _ _ h2]
    simp
theorem Tm.sames_symm : ∀ ts us : List Tm, Tm.sames ts us = true → Tm.sames us ts = true
  | [], [], _ => rfl
  | t :: ts, u :: us, h => by
    rw [Tm.sames, Bool.and_eq_true] at h
    rw [Tm.sames, Tm.same_symm t u h.1, Tm.sames_symm ts us h.2]; rfl
  | [], _ :: _, h => by rw [Tm.sames] at h; cases h
  | _ :: _, [], h => by rw [Tm.sames] at h; cases h
end
/-- What is read without a fault ends with a stop. -/
theorem Tm.all_last {ts : List Tm.T} {en : Tm.T} (hg : Tm.Good ts en) (hk : ∀ t ∈ ts, t.1 ≠ 0) (f : Nat) {s : Tm.S} {acc l : List Tm} (h : Tm.all ts en f s acc = .ok l) (h0 : s.stack = []) (hi : s.i ≤ ts.length) (hf : ts.length - s.i < f) :
    s.i = ts.length ∨ ∀ τ, ts.getLast? = some τ → τ.1 = 7 := by
  induction f generalizing s acc with
  | zero => omega
  | succ f ih =>
    by_cases hend : s.i = ts.length
    · exact .inl hend
    · have hlt : s.i < ts.length := by omega
      have hpk : (Tm.peek ts en s.i).1 ≠ 0 := by rw [Tm.peek_at hlt]; exact hk _ (List.getElem_mem hlt)
      right
      cases hr : Tm.read ts en s with
      | error x => rw [Tm.all_bad hpk hr] at h; cases h
      | ok s' =>
        by_cases h7 : (Tm.peek ts en s'.i).1 = 7
        · rw [Tm.all_on hpk hr h7] at h
          have hlt' := (hg.peek (i := s'.i) (by rw [h7]; decide)).1
          have hs' := (Tm.read_right hg hr h0).2
          have hle' := Tm.read_le hr
          have hin : s'.next.i ≤ ts.length := hlt'
          have hni : s'.next.i = s'.i + 1 := rfl
          rcases ih h hs' hin (by omega) with e | e
          · intro τ hτ
            rw [List.getLast?_eq_getElem?, show ts.length - 1 = s'.i by omega, List.getElem?_eq_getElem hlt'] at hτ
            rw [Tm.peek_at hlt'] at h7
            cases hτ
            exact h7
          · exact e
        · rw [Tm.all_off hpk hr h7] at h; cases h
theorem Tm.nested_ok {ts : List Tm.T} {en : Tm.T} {l : List Tm} (h : Tm.nested (Tm.all ts en (ts.length + 2) Tm.start []) = .ok l) : Tm.all ts en (ts.length + 2) Tm.start [] = .ok l ∧ Tm.tooDeep l = none := by
  unfold Tm.nested at h
  split at h
  · cases h
  · rename_i l' hall
    split at h
    · cases h
    · rename_i hd
      cases h
      exact ⟨hall, hd⟩
/-- Tokens whose terms are read without a fault end with a stop. -/
theorem Tm.terms_last {a : List Tm.T} {p : Int} {la : List Tm} (ka : ∀ t ∈ a, t.1 ≠ 0) (ca : ∀ t ∈ a, Tk.check t.1 t.2.1 = 0 ∧ t.2.1.length ≤ 65536) (h : Tm.terms (a ++ [(0, [], p)]) = .ok la) : ∀ τ, a.getLast? = some τ → τ.1 = 7 := by
  unfold Tm.terms at h
  rw [(Tm.cut_end ka p).1, (Tm.cut_end ka p).2, Tm.firstBad_of (fun t ht => (ca t ht).1)] at h
  dsimp only at h
  rcases Tm.all_last ⟨rfl, ca⟩ ka _ (Tm.nested_ok h).1 rfl (Nat.zero_le _) (by show a.length - 0 < a.length + 2; omega) with e | e
  · have : a = [] := List.eq_nil_of_length_eq_zero e.symm
    subst this
    intro τ hτ
    cases hτ
  · exact e
theorem Tk.tokens_end {l : List UInt8} {ts : List Tk.T} (h : Tk.tokens l = .ok ts) : ∃ A, ts = A ++ [(0, [], l.length)] ∧ (∀ t ∈ A.map Tm.tok, t.1 ≠ 0) ∧ ∀ t ∈ A.map Tm.tok, Tk.check t.1 t.2.1 = 0 ∧ t.2.1.length ≤ 65536 := by
  obtain ⟨A, rfl, hA⟩ := Tk.tokens_good h
  refine ⟨A, rfl, fun t ht => ?_, fun t ht => ?_⟩
  · obtain ⟨u, hu, rfl⟩ := List.mem_map.1 ht
    exact (hA.1 u hu).2.1
  · obtain ⟨u, hu, rfl⟩ := List.mem_map.1 ht
    exact ⟨(hA.1 u hu).1, (hA.1 u hu).2.2.1⟩
theorem Tk.lean_app (a b : List Tk.T) : Tk.lean (a ++ b) = Tk.lean a ++ Tk.lean b := by unfold Tk.lean; rw [List.map_append]
theorem Tk.lean_end {r B : List Tk.T} {p : Nat} (h : Tk.lean r = Tk.lean (B ++ [(0, [], p)])) : ∃ B' q, r = B' ++ [(0, [], q)] ∧ B'.length = B.length ∧ ∀ k (h : k < B.length) (h' : k < B'.length), B[k].1 = B'[k].1 ∧ B[k].2.1 = B'[k].2.1 := by
  have hl : r.length = B.length + 1 := by have := congrArg List.length h; simpa [Tk.lean] using this
  have hn : r ≠ [] := by rintro rfl; simp at hl
  obtain ⟨B', e, rfl⟩ : ∃ B' e, r = B' ++ [e] := ⟨r.dropLast, r.getLast hn, (List.dropLast_concat_getLast hn).symm⟩
  rw [Tk.lean_app, Tk.lean_app] at h
  obtain ⟨h1, h2⟩ := List.append_inj' h rfl
  have h3 : (e.1, e.2.1) = ((0 : Int), ([] : List UInt8)) := by
    simp only [Tk.lean, List.map_cons, List.map_nil, List.cons.injEq, and_true] at h2
    exact h2
  obtain ⟨k, x, q⟩ := e
  simp only [Prod.mk.injEq] at h3
  obtain ⟨rfl, rfl⟩ := h3
  refine ⟨B', q, rfl, by simpa using hl, fun k hk hk' => ?_⟩
  have h4 : (Tk.lean B)[k]? = (Tk.lean B')[k]? := by rw [h1]
  unfold Tk.lean at h4
  rw [List.getElem?_map, List.getElem?_map, List.getElem?_eq_getElem hk, List.getElem?_eq_getElem hk'] at h4
  simp only [Option.map_some, Option.some.injEq, Prod.mk.injEq] at h4
  exact h4
/-- The terms of two texts, with a line's end between them, are those of both, but for places. -/
theorem Tm.text_both {s t : List UInt8} {la lb : List Tm} (hst : s.length + 1 + t.length ≤ 65536) (h1 : Tm.text s = .ok la) (h2 : Tm.text t = .ok lb) : ∃ l, Tm.text (s ++ 10 :: t) = .ok l ∧ Tm.sames l (la ++ lb) = true := by
  unfold Tm.text at h1 h2 ⊢
  cases e1 : Tk.tokens s with
  | error x => rw [e1] at h1; cases h1
  | ok ts1 =>
    cases e2 : Tk.tokens t with
    | error x => rw [e2] at h2; cases h2
    | ok ts2 =>
      rw [e1] at h1
      rw [e2] at h2
      dsimp only at h1 h2
      obtain ⟨A, rfl, ka, ca⟩ := Tk.tokens_end e1
      obtain ⟨B, rfl, kb, cb⟩ := Tk.tokens_end e2
      have m1 : ∀ (X : List Tk.T) (p : Nat), (X ++ [((0, [], p) : Tk.T)]).map Tm.tok = X.map Tm.tok ++ [(0, [], (p : Int))] := fun X p => by rw [List.map_append]; rfl
      rw [m1] at h1 h2
      have hlast : ∀ τ, A.getLast? = some τ → τ.1 = 7 := fun τ hτ => by
        have := Tm.terms_last ka ca h1 (Tm.tok τ) (by rw [List.getLast?_map, hτ]; rfl)
        exact this
      obtain ⟨r', h3, h4⟩ := tokens_both hst e1 e2 hlast
      obtain ⟨B', q, rfl, hl, hbb⟩ := Tk.lean_end h4
      rw [h3]
      dsimp only
      rw [← List.append_assoc, m1, List.map_append]
      obtain ⟨l, h5, h6⟩ := Tm.terms_both (b' := B'.map Tm.tok) (r := (q : Int)) ka kb ca cb (by rw [List.length_map, List.length_map, hl]) (fun k h h' => by
        rw [List.getElem_map, List.getElem_map]
        exact hbb k (by simpa using h) (by simpa using h')) h1 h2
      exact ⟨l, h5, Tm.sames_symm _ _ h6⟩
end Go.Proofs.YtgmfhcnhpkeapaaGreatDoor

namespace Go.Proofs.YtgmfhcnhpkeapaaGreatDoor
open Go.RowKit

/-! A fault has a code. -/
theorem Tm.refusal_bad (t : Tm.T) : (Tm.refusal t).2 ≠ 0 := by
  unfold Tm.refusal Tm.code
  dsimp only
  split <;> decide
section
variable {ts : List Tm.T} {en : Tm.T}
theorem Tm.begin_bad {s : Tm.S} {f : Tm.F} (h : Tm.begin_ ts en s = .error f) : f.2 ≠ 0 := by
  unfold Tm.begin_ at h
  dsimp only at h
  split at h
  · cases h; exact Tm.refusal_bad _
  split at h
  · cases h; exact (by decide : (6 : Int) ≠ 0)
  split at h
  · unfold Tm.beginName at h
    dsimp only at h
    repeat' split at h
    all_goals first | (cases h; exact (by decide : (11 : Int) ≠ 0)) | (cases h; done)
  repeat' split at h
  all_goals (cases h; done)
theorem Tm.goOn_bad {i : Nat} {o : Tm.O} {f : Tm.F} (h : Tm.goOn ts en i o = .error f) : f.2 ≠ 0 := by
  unfold Tm.goOn at h
  dsimp only at h
  repeat' split at h
  all_goals first | (cases h; exact Tm.refusal_bad _) | (cases h; exact (by decide : (11 : Int) ≠ 0)) | (cases h; done)
theorem Tm.give_bad {s : Tm.S} {f : Tm.F} (h : Tm.give ts en s = .error f) : f.2 ≠ 0 := by
  unfold Tm.give at h
  split at h
  · cases h
  · split at h
    · rename_i hg
      cases h
      exact Tm.goOn_bad hg
    · cases h
    · cases h
theorem Tm.climb_bad (n : Nat) {s : Tm.S} {f : Tm.F} (h : Tm.climb ts en n s = .error f) : f.2 ≠ 0 := by
  induction n generalizing s with
  | zero => cases h
  | succ n ih =>
    by_cases hn : s.stack = []
    · rw [Tm.climb_nil hn] at h; cases h
    · rw [Tm.climb_cons hn] at h
      split at h
      · cases h
      · split at h
        · rename_i hg
          cases h
          exact Tm.give_bad hg
        · exact ih h
        · cases h
theorem Tm.loop_bad (n : Nat) {s : Tm.S} {f : Tm.F} (h : Tm.loop ts en n s = .error f) : f.2 ≠ 0 := by
  induction n generalizing s with
  | zero => cases h
  | succ n ih =>
    by_cases hn : s.stack = []
    · rw [Tm.loop_nil hn] at h; cases h
    · rw [Tm.loop_cons hn] at h
      split at h
      · rename_i hb
        cases h
        exact Tm.begin_bad hb
      · exact ih h
      · unfold Tm.onward at h
        split at h
        · rename_i hc
          cases h
          exact Tm.climb_bad _ hc
        · exact ih h
theorem Tm.all_faults (n : Nat) {s : Tm.S} {acc : List Tm} {f : Tm.F} (h : Tm.all ts en n s acc = .error f) : f.2 ≠ 0 := by
  induction n generalizing s acc with
  | zero => cases h
  | succ n ih =>
    by_cases hk : (Tm.peek ts en s.i).1 = 0
    · rw [Tm.all_stop hk] at h; cases h
    · cases hr : Tm.read ts en s with
      | error x =>
        rw [Tm.all_bad hk hr] at h
        cases h
        unfold Tm.read at hr
        exact Tm.loop_bad _ hr
      | ok s' =>
        by_cases h7 : (Tm.peek ts en s'.i).1 = 7
        · rw [Tm.all_on hk hr h7] at h
          exact ih h
        · rw [Tm.all_off hk hr h7] at h
          cases h
          exact Tm.refusal_bad _
end
theorem Tm.firstBad_code : ∀ {l : List Tm.T} {f : Tm.F}, Tm.firstBad l = some f → f.2 ≠ 0
  | [], f, h => by cases h
  | t :: l, f, h => by
    rw [Tm.firstBad] at h
    split at h
    · exact Tm.firstBad_code h
    · rename_i hc
      cases h
      exact hc
theorem Tm.text_bad {l : List UInt8} {f : Tm.F} (h : Tm.text l = .error f) : f.2 ≠ 0 := by
  unfold Tm.text at h
  split at h
  · rename_i x hx
    cases h
    exact Tk.tokens_bad hx
  · unfold Tm.terms at h
    split at h
    · rename_i g hg
      cases h
      exact Tm.firstBad_code hg
    · unfold Tm.nested at h
      split at h
      · rename_i g hg
        cases h
        exact Tm.all_faults _ hg
      · split at h
        · cases h; exact (by decide : (6 : Int) ≠ 0)
        · cases h
end Go.Proofs.YtgmfhcnhpkeapaaGreatDoor

