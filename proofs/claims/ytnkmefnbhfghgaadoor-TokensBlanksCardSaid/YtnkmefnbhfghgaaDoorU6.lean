import Derived.Test.YtnkmefnbhfghgaaDoorU5
set_option linter.unusedSimpArgs false
set_option linter.unusedVariables false
namespace Go.Proofs.YtnkmefnbhfghgaaDoor
open Go.RowKit

def Tk.put (l g : List UInt8) (p : Nat) : List UInt8 := l.take p ++ g ++ l.drop p
theorem put_drop (l g : List UInt8) (p a : Nat) (ha : a ≤ p) (hp : p ≤ l.length) : (Tk.put l g p).drop a = (l.drop a).take (p - a) ++ (g ++ l.drop p) := by
  unfold Tk.put
  rw [List.append_assoc, List.drop_append_of_le_length (by simp; omega), List.drop_take]
theorem drop_split (l : List UInt8) (p a : Nat) (ha : a ≤ p) : l.drop a = (l.drop a).take (p - a) ++ l.drop p := by
  have h := (List.take_append_drop (p - a) (l.drop a)).symm
  rwa [List.drop_drop, show a + (p - a) = p by omega] at h
theorem put_behind (l g : List UInt8) (p a : Nat) (hp : p ≤ l.length) (ha : p ≤ a) : (Tk.put l g p).drop (a + g.length) = l.drop a := by
  unfold Tk.put
  rw [show a + g.length = (l.take p ++ g).length + (a - p) by simp; omega, ← List.drop_drop, List.drop_left' rfl, List.drop_drop, show p + (a - p) = a by omega]
theorem put_len (l g : List UInt8) (p : Nat) (hp : p ≤ l.length) : (Tk.put l g p).length = l.length + g.length := by
  unfold Tk.put; simp; omega
theorem gap_facts {g : List UInt8} (hg : g ∈ Tk.gaps) : ∃ c g1, g = c :: g1 ∧ Tk.blank (c.toNat : Int) = true ∧ g.length ≤ 15 := by
  simp only [Tk.gaps, List.mem_cons, List.not_mem_nil, or_false] at hg
  rcases hg with rfl | rfl | rfl | rfl
  all_goals exact ⟨_, _, rfl, rfl, by decide⟩
theorem begins_ins {w x rest rest' : List UInt8} (hw : 0 < w.length) (h : Tk.Ins x rest rest') (hb : Tk.Begins (w ++ rest)) : Tk.Begins (w ++ rest') := by
  have h0 : Tk.bt (w ++ rest') 0 = Tk.bt (w ++ rest) 0 := bt_two hw
  refine ⟨by simp; omega, by rw [h0]; exact hb.blank, by rw [h0]; exact hb.line, ?_⟩
  rw [← Bool.not_eq_true]
  intro hp
  have hn := hb.com
  rw [← Bool.not_eq_true] at hn
  apply hn
  obtain ⟨u, hu⟩ := prefix_form hp
  obtain ⟨v, g, c, hv, rfl, rfl, hc⟩ := h.split
  match w, hw with
  | [a], _ =>
    cases x with
    | nil =>
      have h2 : a :: c :: (g ++ v) = 47 :: 42 :: u := hu
      rw [(List.cons.inj (List.cons.inj h2).2).1] at hc
      exact absurd hc (by decide)
    | cons d y =>
      have h2 : a :: d :: (y ++ (c :: g ++ v)) = 47 :: 42 :: u := hu
      obtain ⟨e1, e2⟩ := List.cons.inj h2
      rw [e1, (List.cons.inj e2).1]; rfl
  | a :: b :: w', _ =>
    have h2 : a :: b :: (w' ++ (x ++ (c :: g ++ v))) = 47 :: 42 :: u := hu
    obtain ⟨e1, e2⟩ := List.cons.inj h2
    rw [e1, (List.cons.inj e2).1]; rfl

theorem toks_put {l g : List UInt8} {p : Nat} {k : Int} {t : List UInt8} (hl6 : l.length ≤ 65536) (hg : g ∈ Tk.gaps) (hk0 : k ≠ 0) (ht : t ≠ [40, 40]) (hpl0 : p < l.length) : ∀ (n f : Nat) {a : Nat} {b : Bool} {acc out : List Tk.T}, Tk.toks f l a a b acc = .ok out → a ≤ l.length → out[acc.length + n]? = some (k, t, p) →
    (∀ τ : Tk.T, out[acc.length + n - 1]? = some τ → 0 < n → τ.2.1 ≠ [33, 46] ∧ τ.2.1 ≠ [33, 58]) → (∀ (i j : Nat) (x y : Tk.T), i < j → out[i]? = some x → out[j]? = some y → x.2.2 < y.2.2 ∨ y.1 = 0) →
    ∀ (f' : Nat) (acc' : List Tk.T), f ≤ f' → ∃ r', Tk.toks f' (Tk.put l g p) a a b acc' = .ok (acc' ++ r') ∧ Tk.lean r' = Tk.lean (out.drop acc.length)
  | n, 0, a, b, acc, out, h, _, _, _, _, _, _, _ => by rw [Tk.toks] at h; cases h
  | n, f + 1, a, b, acc, out, h, ha, hn, hpair, hasc, 0, acc', hf => by omega
  | n, f + 1, a, b, acc, out, h, ha, hn, hpair, hasc, f' + 1, acc', hf => by
    obtain ⟨c, g1, hgc, hcb, hg15⟩ := gap_facts hg
    obtain ⟨hc, hh⟩ := toks_step h
    have hs := skipped_sx l a ha
    have hsl := skipped_le ha
    have hsg := skipped_ge l a
    rcases hh with ⟨he, rfl⟩ | ⟨hne, k1, t1, z, hr, hk, hrec⟩
    · exfalso
      cases n with
      | zero =>
        rw [Nat.add_zero, List.getElem?_append_right (Nat.le_refl _), Nat.sub_self] at hn
        simp only [List.getElem?_cons_zero, Option.some.injEq, Prod.mk.injEq] at hn
        exact hk0 hn.1.symm
      | succ n => rw [List.getElem?_append_right (by omega)] at hn; simp at hn
    · have hslt : (Tk.skipped l a).1 < l.length := by omega
      have hok := Tk.read_ok hl6 hslt hr
      have hbg : Tk.Begins (l.drop (Tk.skipped l a).1) := skip_stop l _ a hc hslt (by omega)
      obtain ⟨s, hss⟩ : ∃ s, (Tk.skipped l a).1 = s := ⟨_, rfl⟩
      rw [hss] at hs hsl hsg hne hr hrec hslt hok hbg
      have hrd := read_drop l s a b hsl
      rw [hr] at hrd
      cases hm : Tk.read (l.drop s) 0 0 (b && decide (a = s)) with
      | fault p c => rw [hm] at hrd; cases hrd
      | tok k0 t0 z0 =>
        rw [hm] at hrd
        simp only [Tk.R.shift, Tk.R.tok.injEq] at hrd
        obtain ⟨rfl, rfl, rfl⟩ := hrd
        obtain ⟨r, rfl, hpos, hrest⟩ := toks_rest f hrec hok.2.1 hl6
        have hsx : Tk.sx (l.drop a) = (s - a, 0) := Prod.ext (by have := hs.1; dsimp only; omega) (by rw [← hs.2]; exact hc)
        cases n with
        | zero =>
          have hn2 : some (k1, t1, s) = some (k, t, p) := by
            rw [Nat.add_zero, List.append_assoc, List.getElem?_append_right (Nat.le_refl _), Nat.sub_self] at hn
            exact hn
          simp only [Option.some.injEq, Prod.mk.injEq] at hn2
          obtain ⟨rfl, rfl, rfl⟩ := hn2
          have hpl : s ≤ l.length := hsl
          have hd1 := drop_split l s a hsg
          have hd2 := put_drop l g s a hsg hpl
          obtain ⟨u, hu⟩ : ∃ u, (l.drop a).take (s - a) = u := ⟨_, rfl⟩
          have hul : u.length = s - a := by rw [← hu]; simp; omega
          rw [hu] at hd1 hd2
          rw [hd1] at hsx
          have hsk := skip_mid (l.drop s) (g ++ l.drop s) hbg u.length u (Nat.le_refl _) (by rw [hsx, hul])
          rw [sx_gap hg hbg, hul] at hsk
          have hal' : a ≤ (Tk.put l g s).length := by rw [put_len l g s hpl]; omega
          have hs' := skipped_sx (Tk.put l g s) a hal'
          rw [hd2, hsk] at hs'
          dsimp only at hs'
          have hsp : (Tk.skipped (Tk.put l g s) a).1 = s + g.length := by rw [hs'.1]; omega
          have hgl : 0 < g.length := by rw [hgc]; simp
          have hr' : Tk.read (Tk.put l g s) (s + g.length) a b = .tok k1 t1 (s + g.length + z0) := by
            rw [read_drop _ _ a b (by rw [put_len l g s hpl]; omega), put_behind l g s s hpl (Nat.le_refl _), decide_eq_false (by omega), Bool.and_false, adj_no hm ht]; rfl
          obtain ⟨r', h1, h2⟩ := hrest f' (Tk.put l g s) (s + g.length + z0) (acc' ++ [(k1, t1, s + g.length)]) (by omega) (by rw [show s + g.length + z0 = (s + z0) + g.length by omega]; exact put_behind l g s (s + z0) hpl (by omega)) (by rw [put_len l g s hpl]; have := hok.2.1; omega)
          refine ⟨(k1, t1, s + g.length) :: r', ?_, ?_⟩
          · rw [Tk.toks, if_pos hs'.2, hsp, if_neg (by rw [put_len l g s hpl]; omega), hr']
            dsimp only
            rw [if_pos hk, h1]; simp
          · rw [List.append_assoc, List.drop_left' rfl]
            simp only [Tk.lean, List.map_cons, List.singleton_append, List.cons.injEq, true_and]; exact h2
        | succ n =>
          have hlen1 : (acc ++ [((k1, t1, s) : Tk.T)]).length = acc.length + 1 := by simp
          have hidx : ∀ i, (acc ++ [((k1, t1, s) : Tk.T)] ++ r)[acc.length + 1 + i]? = r[i]? := fun i => by
            rw [List.getElem?_append_right (by rw [hlen1]; omega), hlen1, Nat.add_sub_cancel_left]
          have hnr : r[n]? = some (k, t, p) := by rw [← hidx n, show acc.length + 1 + n = acc.length + (n + 1) by omega]; exact hn
          have hzp : s + z0 ≤ p := hpos _ (List.mem_of_getElem? hnr)
          have hxl : t1 = [33, 46] ∨ t1 = [33, 58] → s + z0 < p := by
            intro hp2
            cases n with
            | zero =>
              exfalso
              have := hpair (k1, t1, s) (by rw [show acc.length + (0 + 1) - 1 = acc.length by omega, List.append_assoc, List.getElem?_append_right (Nat.le_refl _), Nat.sub_self]; rfl) (by omega)
              rcases hp2 with e | e
              · exact this.1 e
              · exact this.2 e
            | succ n =>
              have hr0 : ∃ τ, r[0]? = some τ := by
                have hlt : n + 1 < r.length := (List.getElem?_eq_some_iff.1 hnr).1
                exact ⟨_, List.getElem?_eq_getElem (by omega)⟩
              obtain ⟨τ, hτ⟩ := hr0
              have h1 := hpos τ (List.mem_of_getElem? hτ)
              have h2 := hasc (acc.length + 1 + 0) (acc.length + 1 + (n + 1)) τ (k, t, p) (by omega) (by rw [hidx]; exact hτ) (by rw [hidx]; exact hnr)
              rcases h2 with h2 | h2
              · dsimp only at h2; omega
              · exact absurd h2 hk0
          have hsp : s < p := by have := hok.1; omega
          have hpl : p ≤ l.length := by omega
          obtain ⟨w, hw⟩ : ∃ w, (l.drop s).take z0 = w := ⟨_, rfl⟩
          have hwl : w.length = z0 := by rw [← hw]; have := hok.2.1; simp; omega
          have hwp : 0 < w.length := by have := hok.1; omega
          obtain ⟨x, hx⟩ : ∃ x, (l.drop (s + z0)).take (p - (s + z0)) = x := ⟨_, rfl⟩
          have hvs : l.drop s = w ++ l.drop (s + z0) := by
            rw [← hw, ← List.drop_drop]; exact (List.take_append_drop z0 (l.drop s)).symm
          have hrs : l.drop (s + z0) = x ++ l.drop p := by rw [← hx]; exact drop_split l p (s + z0) hzp
          have hrs' : (Tk.put l g p).drop (s + z0) = x ++ (g ++ l.drop p) := by rw [← hx]; exact put_drop l g p (s + z0) hzp hpl
          have hvs' : (Tk.put l g p).drop s = w ++ (Tk.put l g p).drop (s + z0) := by
            have h1 := (List.take_append_drop z0 ((Tk.put l g p).drop s)).symm
            have h2 : ((Tk.put l g p).drop s).take z0 = w := by
              rw [put_drop l g p s (by omega) hpl, List.take_append_of_le_length (by simp; omega), List.take_take, Nat.min_eq_left (by omega)]; exact hw
            rw [h2, List.drop_drop] at h1; exact h1
          have hins : Tk.Ins x (l.drop (s + z0)) ((Tk.put l g p).drop (s + z0)) :=
            ⟨l.drop p, g1, c, by intro e; have := congrArg List.length e; rw [List.length_drop, List.length_nil] at this; omega, hrs, by rw [hrs', hgc], hcb⟩
          rw [hvs] at hm hbg
          have hbg' := begins_ins hwp hins hbg
          have hri := read_ins hwp hins (by rw [hwl]; exact hm) (fun e => by
            have h1 := hxl e
            intro e2
            have h3 := congrArg List.length hx
            rw [e2] at h3
            simp at h3; omega)
          rw [← hvs', hwl] at hri
          rw [← hvs'] at hbg'
          have hd1 := drop_split l s a hsg
          have hd2 : (Tk.put l g p).drop a = (l.drop a).take (s - a) ++ (Tk.put l g p).drop s := by
            have h1 := drop_split (Tk.put l g p) s a hsg
            have h2 : ((Tk.put l g p).drop a).take (s - a) = (l.drop a).take (s - a) := by
              rw [put_drop l g p a (by omega) hpl, List.take_append_of_le_length (by simp; omega), List.take_take, Nat.min_eq_left (by omega)]
            rw [h2] at h1; exact h1
          obtain ⟨u, hu⟩ : ∃ u, (l.drop a).take (s - a) = u := ⟨_, rfl⟩
          have hul : u.length = s - a := by rw [← hu]; simp; omega
          rw [hu] at hd1 hd2
          rw [hd1] at hsx
          have hsk := skip_mid (l.drop s) ((Tk.put l g p).drop s) (by rw [hvs]; exact hbg) u.length u (Nat.le_refl _) (by rw [hsx, hul])
          rw [sx_stop hbg', hul] at hsk
          have hal' : a ≤ (Tk.put l g p).length := by rw [put_len l g p hpl]; omega
          have hs' := skipped_sx (Tk.put l g p) a hal'
          rw [hd2, hsk] at hs'
          dsimp only at hs'
          have hsp' : (Tk.skipped (Tk.put l g p) a).1 = s := by rw [hs'.1]; omega
          have hr' : Tk.read (Tk.put l g p) s a b = .tok k1 t1 (s + z0) := by
            rw [read_drop _ _ a b (by rw [put_len l g p hpl]; omega), hri]; rfl
          obtain ⟨r', h1, h2⟩ := toks_put hl6 hg hk0 ht hpl0 n f hrec hok.2.1 (by rw [hlen1, hidx]; exact hnr)
            (fun τ hτ h0 => hpair τ (by rw [← hτ, hlen1]; congr 1; omega) (by omega)) hasc f' (acc' ++ [(k1, t1, s)]) (by omega)
          refine ⟨(k1, t1, s) :: r', ?_, ?_⟩
          · rw [Tk.toks, if_pos hs'.2, hsp', if_neg (by rw [put_len l g p hpl]; omega), hr']
            dsimp only
            rw [if_pos hk, h1]; simp
          · rw [hlen1, show (acc ++ [((k1, t1, s) : Tk.T)] ++ r).drop (acc.length + 1) = r from by rw [← hlen1]; exact List.drop_left' rfl] at h2
            rw [List.append_assoc, List.drop_left' rfl]
            simp only [Tk.lean, List.map_cons, List.singleton_append, List.cons.injEq, true_and]; exact h2

/-- The statement's theorem, of texts: a gap in front of a token that is no end and no (( and follows no !. and no !:. -/
theorem tokens_put {l g : List UInt8} {ts : List Tk.T} {i p : Nat} {k : Int} {t : List UInt8} (hl : l.length ≤ 400) (h : Tk.tokens l = .ok ts) (hg : g ∈ Tk.gaps) (hi : ts[i]? = some (k, t, p)) (hk0 : k ≠ 0) (ht : t ≠ [40, 40])
    (hpair : ∀ τ : Tk.T, ts[i - 1]? = some τ → 0 < i → τ.2.1 ≠ [33, 46] ∧ τ.2.1 ≠ [33, 58]) :
    p < l.length ∧ ∃ us, Tk.tokens (Tk.put l g p) = .ok us ∧ Tk.lean us = Tk.lean ts := by
  obtain ⟨acc, hts, hgood⟩ := Tk.tokens_good h
  obtain ⟨_, _, _, _, hg15⟩ := gap_facts hg
  have hpl : p < l.length := by
    rw [hts] at hi
    have hlt := (List.getElem?_eq_some_iff.1 hi).1
    rcases Nat.lt_or_ge i acc.length with h1 | h1
    · rw [List.getElem?_append_left h1] at hi
      exact (hgood.1 _ (List.mem_of_getElem? hi)).2.2.2
    · rw [List.getElem?_append_right h1] at hi
      simp only [List.length_append, List.length_singleton] at hlt
      rw [show i - acc.length = 0 by omega] at hi
      simp only [List.getElem?_cons_zero, Option.some.injEq, Prod.mk.injEq] at hi
      exact absurd hi.1.symm hk0
  refine ⟨hpl, ?_⟩
  have hasc : ∀ (i j : Nat) (x y : Tk.T), i < j → ts[i]? = some x → ts[j]? = some y → x.2.2 < y.2.2 ∨ y.1 = 0 := by
    intro i j x y hij hx hy
    rw [hts] at hx hy
    have hlt := (List.getElem?_eq_some_iff.1 hy).1
    simp only [List.length_append, List.length_singleton] at hlt
    rcases Nat.lt_or_ge j acc.length with h1 | h1
    · rw [List.getElem?_append_left h1] at hy
      rw [List.getElem?_append_left (by omega)] at hx
      obtain ⟨hi', rfl⟩ := List.getElem?_eq_some_iff.1 hx
      obtain ⟨hj', rfl⟩ := List.getElem?_eq_some_iff.1 hy
      exact .inl (List.pairwise_iff_getElem.1 hgood.2 i j hi' hj' hij)
    · rw [List.getElem?_append_right h1, show j - acc.length = 0 by omega] at hy
      simp only [List.getElem?_cons_zero, Option.some.injEq] at hy
      exact .inr (by rw [← hy])
  unfold Tk.tokens at h ⊢
  rw [if_neg (by omega)] at h
  have hpl2 := put_len l g p (by omega)
  rw [if_neg (by rw [hpl2]; omega)]
  obtain ⟨r', h1, h2⟩ := toks_put (by omega) hg hk0 ht hpl i (l.length + 2) h (Nat.zero_le _) (by simpa using hi) (by simpa using hpair) hasc ((Tk.put l g p).length + 2) [] (by rw [hpl2]; omega)
  exact ⟨r', by simpa using h1, by simpa using h2⟩
end Go.Proofs.YtnkmefnbhfghgaaDoor
