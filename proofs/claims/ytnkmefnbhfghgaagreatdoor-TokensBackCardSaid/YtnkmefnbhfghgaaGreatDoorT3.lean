import Derived.Test.YtnkmefnbhfghgaaGreatDoorT2
import Derived.Laws.AppendOwnNone
set_option linter.unusedSimpArgs false
set_option linter.unusedVariables false
namespace Go.Proofs.YtnkmefnbhfghgaaGreatDoor
open Go.RowKit

/-- The cells of tokens at given places. -/
def Tk.flatp : List Tk.T → (Nat → Int) → List Value
  | [], _ => []
  | t :: r, pl => .int .i64 t.1 :: .string ⟨t.2.1.toArray⟩ :: .int .i64 (pl 0) :: Tk.flatp r (fun i => pl (i + 1))
theorem Tk.flatp_len : ∀ (ts : List Tk.T) (pl : Nat → Int), (Tk.flatp ts pl).length = ts.length * 3
  | [], _ => rfl
  | t :: r, pl => by simp [Tk.flatp, Tk.flatp_len r]; omega
theorem Tk.flatp_one : ∀ (ts : List Tk.T) (pl : Nat → Int), ∀ u ∈ Tk.flatp ts pl, u.oneCell' = true
  | [], _, u, h => by cases h
  | t :: r, pl, u, h => by
    rw [Tk.flatp] at h
    simp only [List.mem_cons] at h
    rcases h with rfl | rfl | rfl | h
    · rfl
    · rfl
    · rfl
    · exact Tk.flatp_one r _ u h
theorem Tk.flatp_get : ∀ {ts : List Tk.T} {pl : Nat → Int} {i : Nat} {t : Tk.T}, ts[i]? = some t → (Tk.flatp ts pl)[i * 3]? = some (.int .i64 t.1) ∧ (Tk.flatp ts pl)[i * 3 + 1]? = some (.string ⟨t.2.1.toArray⟩) ∧ (Tk.flatp ts pl)[i * 3 + 2]? = some (.int .i64 (pl i))
  | [], _, _, _, h => by simp at h
  | a :: r, pl, 0, t, h => by
    obtain rfl : a = t := by simpa using h
    exact ⟨rfl, rfl, rfl⟩
  | a :: r, pl, i + 1, t, h => by
    obtain ⟨h1, h2, h3⟩ := Tk.flatp_get (ts := r) (pl := fun i => pl (i + 1)) (show r[i]? = some t by simpa using h)
    rw [Nat.succ_mul]
    exact ⟨h1, h2, h3⟩
theorem Tk.flatp_inv : ∀ (ts : List Tk.T) (pl : Nat → Int) (j : Nat) (u : Value), (Tk.flatp ts pl)[j]? = some u → ∃ i t, ts[i]? = some t ∧ ((j = i * 3 ∧ u = .int .i64 t.1) ∨ (j = i * 3 + 1 ∧ u = .string ⟨t.2.1.toArray⟩) ∨ (j = i * 3 + 2 ∧ u = .int .i64 (pl i)))
  | [], _, _, _, h => by simp [Tk.flatp] at h
  | a :: r, pl, 0, u, h => ⟨0, a, rfl, .inl ⟨rfl, by simpa [Tk.flatp] using h.symm⟩⟩
  | a :: r, pl, 1, u, h => ⟨0, a, rfl, .inr (.inl ⟨rfl, by simpa [Tk.flatp] using h.symm⟩)⟩
  | a :: r, pl, 2, u, h => ⟨0, a, rfl, .inr (.inr ⟨rfl, by simpa [Tk.flatp] using h.symm⟩)⟩
  | a :: r, pl, j + 3, u, h => by
    have h' : (Tk.flatp r (fun i => pl (i + 1)))[j]? = some u := by simpa [Tk.flatp] using h
    obtain ⟨i, t, ht, hh⟩ := Tk.flatp_inv r _ j u h'
    refine ⟨i + 1, t, by simpa using ht, ?_⟩
    rw [Nat.succ_mul]
    rcases hh with ⟨rfl, hu⟩ | ⟨rfl, hu⟩ | ⟨rfl, hu⟩
    · exact .inl ⟨rfl, hu⟩
    · exact .inr (.inl ⟨rfl, hu⟩)
    · exact .inr (.inr ⟨rfl, hu⟩)
theorem add_none (g o j : Nat) : (⟨g, o, none⟩ : Addr).add j = ⟨g, o + j, none⟩ := by unfold Addr.add; split <;> simp_all
theorem TR.of_flatp {w : World} {B : Nat} {v : Value} {ts : List Tk.T} {pl : Nat → Int} (h : w.ownsRow B 32 3 v ts.length (Tk.flatp ts pl)) : TR w w.heap.size v ts pl := by
  rcases h.2 with ⟨rfl, h0⟩ | ⟨g, cap, cur, rfl, hb, hh, hc, _⟩
  · have : ts = [] := List.eq_nil_of_length_eq_zero h0
    subst this
    exact ⟨none, 0, rfl, Nat.le_refl _, fun i t ht => by simp at ht⟩
  · refine ⟨some ⟨g, 0, none⟩, cap, rfl, hc, fun i t ht => ⟨g, 0, rfl, Blk.lt (cs := cur) (t := 32) hh, ?_⟩⟩
    have hcell := h.cells (g := g) rfl
    obtain ⟨f0, f1, f2⟩ := Tk.flatp_get (pl := pl) ht
    have c0 := hcell _ _ f0
    have c1 := hcell _ _ f1
    have c2 := hcell _ _ f2
    rw [add_none] at c0 c1 c2
    exact ⟨c0, by rw [Nat.add_assoc]; exact c1, by rw [Nat.add_assoc]; exact c2⟩
theorem Tk.flatp_snoc : ∀ (ts : List Tk.T) (pl : Nat → Int) (t : Tk.T) (x : Int), pl ts.length = x → Tk.flatp (ts ++ [t]) pl = Tk.flatp ts pl ++ [.int .i64 t.1, .string ⟨t.2.1.toArray⟩, .int .i64 x]
  | [], pl, t, x, h => by simp only [List.nil_append, Tk.flatp]; rw [← h]; rfl
  | a :: r, pl, t, x, h => by
    rw [List.cons_append, Tk.flatp, Tk.flatp_snoc r _ t x (by simpa using h), Tk.flatp]; rfl
theorem Tk.flatp_congr : ∀ (ts : List Tk.T) (p q : Nat → Int), (∀ i, i < ts.length → p i = q i) → Tk.flatp ts p = Tk.flatp ts q
  | [], _, _, _ => rfl
  | a :: r, p, q, h => by
    rw [Tk.flatp, Tk.flatp, h 0 (by simp), Tk.flatp_congr r _ _ (fun i hi => h (i + 1) (by simp; omega))]
theorem endIdx_before : ∀ {ts : List Tk.T} {k : Nat}, k < Tk.endIdx ts → (Tk.at_ ts k).1 ≠ 0 := by
  intro ts k h
  have hc := Tk.cut_eq ts
  have hl : k < ts.length := Nat.lt_of_lt_of_le h (Tk.endIdx_le ts)
  rw [Tk.at_eq hl]
  have hm : ts[k] ∈ Tk.cut ts := by
    unfold Tk.cut
    have hk : k < (ts.take (Tk.endIdx ts)).length := by simp; omega
    have := List.getElem_mem hk
    rwa [List.getElem_take] at this
  rw [hc] at hm
  simpa using takeWhile_mem hm
theorem endIdx_at {ts : List Tk.T} (h : Tk.endIdx ts < ts.length) : (Tk.at_ ts (Tk.endIdx ts)).1 = 0 := by
  rw [Tk.at_eq h]
  have : ∀ (l : List Tk.T) (p : Tk.T → Bool) (hh : (l.takeWhile p).length < l.length), p l[(l.takeWhile p).length] = false := by
    intro l p
    induction l with
    | nil => intro hh; simp at hh
    | cons a r ih =>
      intro hh
      cases hp : p a
      · simp [List.takeWhile_cons, hp]
      · simp only [List.takeWhile_cons, hp, if_true, List.length_cons] at hh ⊢
        exact ih (by omega)
  have h2 : (!(ts[Tk.endIdx ts].1 == 0)) = false := this ts (fun t => !(t.1 == 0)) h
  simpa using h2
theorem text_bad {ts : List Tk.T} {c : Int} (h : Tk.text ts = .error c) : (c == 0) = false := by
  rw [beq_eq_false_iff_ne]
  unfold Tk.text at h
  split at h
  · have : ∀ (f i : Nat) (acc : List UInt8), Tk.textGo f (Tk.cut ts) i acc = .error c → c ≠ 0 := by
      intro f
      induction f with
      | zero => intro i acc h; rw [Tk.textGo] at h; cases h
      | succ f ih =>
        intro i acc h
        rw [Tk.textGo] at h
        split at h
        · split at h
          · cases h; decide
          · exact ih _ _ h
        · cases h
    exact this _ _ _ h
  · cases h; assumption
set_option maxRecDepth 100000 in
/-- append of tokens that read, onto nothing of the call's own (an operation under a guard that says yes). -/
theorem app_toks {w : World} {ops : Array Oper} {rest : List Oper} {o : Oper} {a : Act} {Q : Exit → Act → World → Prop} (hgd : Region.wanted o (yielded ops a.tmps) = true) (s x : Operand)
    (ho : o.op = .call { callee := .builtin .append, args := #[s, x], argTypes := #[23, 23] })
    (base : Nat) (v : Value) (hs : a.eval s = v) (hown : w.ownsRow base 32 3 v 0 [])
    (ts : List Tk.T) (pl : Nat → Int) (B : Nat) (A : Option Addr) (cap : Nat) (hx : a.eval x = .slice A ts.length cap) (h0 : A = none → cap = 0) (hT : TR w B (.slice A ts.length cap) ts pl)
    (hlen : ts.length ≤ 1000000) (hbase : base ≤ w.heap.size)
    (h : ∀ v' w', w'.ownsRow base 32 3 v' ts.length (Tk.flatp ts pl) → w.grownBy w' v.ownBlock → wpList Tryz.prog ops Q rest (a.put o.dst v') w') : wpList Tryz.prog ops Q (o :: rest) a w := by
  obtain ⟨i0, hi, hz0, hz1, hz2⟩ := info_parts info_token
  rcases A with _ | ad
  · have hts : ts = [] := by
      cases ts with
      | nil => rfl
      | cons t r =>
        obtain ⟨_, _, hv, _, hh⟩ := hT
        obtain ⟨rfl, _, rfl⟩ := slice_inj hv
        obtain ⟨g, o', hA, _⟩ := hh 0 t rfl
        cases hA
    subst hts
    rw [h0 rfl] at hx
    refine BigFrame.wpList_want hgd fun K hK => ?_
    have hrun := run_append_owned_none (P := Tryz.prog) (w := w) base 23 o.type 32 i0 3 Tryz.underlying23 hi v 0 [] hown
    unfold Oper.wp
    simp [execOp, ho, resolve, invoke, builtin, hs, hx, hrun, Result.andThen]
    exact hK _ _ (h v w hown (World.grownBy.refl w _))
  · refine BigFrame.wpList_want hgd fun K hK => wp_append_own w s x 23 ho base 32 i0 (.agg #[.int .i64 0, .string ⟨#[]⟩, .int .i64 0]) 3 32 Tryz.underlying23 hi hz0 hz1 hz2 rfl (by decide) v 0 [] hs hown ad ts.length cap (Tk.flatp ts pl) hx (Tk.flatp_len _ _) ?_ (Tk.flatp_one _ _) (by unfold maxLen; omega) (by omega) hbase ?_
    · intro j u hu
      obtain ⟨_, _, hv, _, hh⟩ := hT
      obtain ⟨rfl, _, rfl⟩ := slice_inj hv
      obtain ⟨i, t, ht, hj⟩ := Tk.flatp_inv ts pl j u hu
      obtain ⟨g, o', hA, _, c0, c1, c2⟩ := hh i t ht
      injection hA with hA
      subst hA
      rw [add_none]
      rcases hj with ⟨rfl, hu'⟩ | ⟨rfl, hu'⟩ | ⟨rfl, hu'⟩
      · rw [hu']; exact c0
      · rw [hu', ← Nat.add_assoc]; exact c1
      · rw [hu', ← Nat.add_assoc]; exact c2
    · intro v' w' h1 h2 _
      rw [Nat.zero_add, List.nil_append] at h1
      exact hK _ _ (h v' w' h1 h2)
set_option maxRecDepth 100000 in
/-- append of one token, onto a row of the call's own, likewise. -/
theorem app_one {w : World} {ops : Array Oper} {rest : List Oper} {o : Oper} {a : Act} {Q : Exit → Act → World → Prop} (hgd : Region.wanted o (yielded ops a.tmps) = true) (s x : Operand)
    (ho : o.op = .call { callee := .builtin .append, args := #[s, x], argTypes := #[23, 23] })
    (base : Nat) (v : Value) (hs : a.eval s = v) (n : Nat) (xs : List Value) (hown : w.ownsRow base 32 3 v n xs)
    (ad : Addr) (c : Nat) (k p : Int) (t : ByteArray) (hx : a.eval x = .slice (some ad) 1 c) (hnews : ∀ j u, [Value.int .i64 k, .string t, .int .i64 p][j]? = some u → w.cell? (ad.add j) = some u)
    (hlen : n ≤ 1000000) (hbase : base ≤ w.heap.size)
    (h : ∀ v' w', w'.ownsRow base 32 3 v' (n + 1) (xs ++ [.int .i64 k, .string t, .int .i64 p]) → w.grownBy w' v.ownBlock → wpList Tryz.prog ops Q rest (a.put o.dst v') w') : wpList Tryz.prog ops Q (o :: rest) a w := by
  obtain ⟨i0, hi, hz0, hz1, hz2⟩ := info_parts info_token
  refine BigFrame.wpList_want hgd fun K hK => wp_append_own w s x 23 ho base 32 i0 (.agg #[.int .i64 0, .string ⟨#[]⟩, .int .i64 0]) 3 32 Tryz.underlying23 hi hz0 hz1 hz2 rfl (by decide) v n xs hs hown ad 1 c [.int .i64 k, .string t, .int .i64 p] hx rfl hnews (by simp [Value.oneCell']) (by unfold maxLen; omega) (by omega) hbase ?_
  intro v' w' h1 h2 _
  exact hK _ _ (h v' w' h1 h2)

end Go.Proofs.YtnkmefnbhfghgaaGreatDoor
