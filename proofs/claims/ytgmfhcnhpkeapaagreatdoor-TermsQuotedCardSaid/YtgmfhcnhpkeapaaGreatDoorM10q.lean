import Derived.Test.YtgmfhcnhpkeapaaGreatDoorM10
set_option linter.unusedSimpArgs false
set_option linter.unusedVariables false
namespace Go.Proofs.YtgmfhcnhpkeapaaGreatDoor
open Go.RowKit

/-! A name that is written in apostrophes is the same token. -/
theorem drop_at {α : Type} {l m : List α} {i : Nat} {c : α} (h : l.drop i = c :: m) : i < l.length ∧ l.drop (i + 1) = m := by
  constructor
  · have := congrArg List.length h
    rw [List.length_drop, List.length_cons] at this
    omega
  · have := congrArg (List.drop 1) h
    rwa [List.drop_drop] at this
theorem bt_here {l m : List UInt8} {i : Nat} {c : UInt8} (h : l.drop i = c :: m) : Tk.bt l i = (c.toNat : Int) := by
  have := bt_drop l i 0
  rw [Nat.add_zero, h] at this
  exact this
theorem enc_plain (l rest : List UInt8) (a : Nat) : ∀ (t : List UInt8) (f i : Nat) (acc : List UInt8), (∀ c ∈ t, Tk.shown (c.toNat : Int) = true ∧ c ≠ 39 ∧ c ≠ 92) → l.drop i = t ++ 39 :: rest → t.length < f → Tk.enc 1 l a 39 f i acc = .tok 1 (acc ++ t) (i + t.length + 1)
  | [], 0, i, acc, _, _, hf => by simp at hf
  | [], f + 1, i, acc, _, h, _ => by
    rw [List.nil_append] at h
    rw [Tk.enc, if_pos (drop_at h).1, bt_here h, if_pos (show (((39 : UInt8).toNat : Nat) : Int) = 39 from rfl)]
    simp
  | c :: t, 0, i, acc, _, _, hf => by simp at hf
  | c :: t, f + 1, i, acc, hp, h, hf => by
    rw [List.cons_append] at h
    obtain ⟨h1, h2, h3⟩ := hp c (by simp)
    have hc39 : ¬ (c.toNat : Int) = 39 := fun e => h2 (UInt8.toNat_inj.1 (by have : (39 : UInt8).toNat = 39 := rfl; omega))
    have hc92 : ¬ (c.toNat : Int) = 92 := fun e => h3 (UInt8.toNat_inj.1 (by have : (92 : UInt8).toNat = 92 := rfl; omega))
    have hin : Tk.inText (c.toNat : Int) = true := by unfold Tk.inText; rw [h1]; rfl
    have hof : UInt8.ofNat ((c.toNat : Int)).toNat = c := by simp
    rw [Tk.enc, if_pos (drop_at h).1, bt_here h, if_neg hc39, if_pos hin, if_pos h1, if_neg hc92, enc_plain l rest a t f (i + 1) _ (fun x hx => hp x (by simp [hx])) (drop_at h).2 (by simp at hf; omega), hof]
    simp; omega
theorem read_quoted {t rest : List UInt8} {adj : Bool} (ht : ∀ c ∈ t, Tk.shown (c.toNat : Int) = true ∧ c ≠ 39 ∧ c ≠ 92) (hb : Tk.badName t = false) : Tk.read (39 :: (t ++ 39 :: rest)) 0 0 adj = .tok 1 t (t.length + 2) := by
  obtain ⟨L, hL⟩ : ∃ L, (39 :: (t ++ 39 :: rest) : List UInt8) = L := ⟨_, rfl⟩
  have hbt : Tk.bt L 0 = 39 := by rw [← hL]; rfl
  have hen : Tk.readEnclosed 1 L 0 = .tok 1 t (t.length + 2) := by
    unfold Tk.readEnclosed
    rw [hbt, enc_plain L rest 0 t (L.length + 1) (0 + 1) [] ht (by rw [← hL]; rfl) (by rw [← hL]; simp; omega)]
    simp; omega
  have hp : Lib.hasPrefix (L.drop 0) [48, 39] = false := by rw [← hL]; rfl
  rw [hL]
  unfold Tk.read
  rw [hbt, hp, Tk.readName, hen]
  dsimp only
  rw [hb]
  rfl
/-- A name that stands without apostrophes: its text is what stands there, and how it begins. -/
theorem read_bare {m t : List UInt8} {adj : Bool} {z : Nat} (hm : 0 < m.length) (h : Tk.read m 0 0 adj = .tok 1 t z) (h39 : Tk.bt m 0 ≠ 39) : t = m.take z ∧ Tk.capital (Tk.bt m 0) = false ∧ Tk.blank (Tk.bt m 0) = false ∧ Tk.bt m 0 ≠ 37 := by
  have hsub : ∀ z, Tk.sub m 0 z = m.take z := fun z => by unfold Tk.sub; rw [List.drop_zero, Nat.sub_zero]
  have hbyte : ∀ P : Int → Bool, (∀ n : Fin 256, P (n.val : Int) = true) → P (Tk.bt m 0) = true := fun P hP => by
    unfold Tk.bt
    exact byte_fact P hP _
  have hsm := hbyte (fun n => !(Tk.small n) || (!(Tk.capital n) && !(Tk.blank n) && !(n == 37))) (by decide +kernel)
  have hsg := hbyte (fun n => !(Tk.sign n) || (!(Tk.capital n) && !(Tk.blank n) && !(n == 37))) (by decide +kernel)
  have fin : ∀ b : Bool, b = true → (!b || (!(Tk.capital (Tk.bt m 0)) && !(Tk.blank (Tk.bt m 0)) && !(Tk.bt m 0 == 37))) = true → Tk.capital (Tk.bt m 0) = false ∧ Tk.blank (Tk.bt m 0) = false ∧ Tk.bt m 0 ≠ 37 := by
    intro b hb h
    subst hb
    simp only [Bool.not_true, Bool.false_or, Bool.and_eq_true, Bool.not_eq_true', beq_eq_false_iff_ne] at h
    exact ⟨h.1.1, h.1.2, h.2⟩
  unfold Tk.read at h
  split at h
  · rename_i c1
    simp only [Tk.R.tok.injEq, true_and] at h
    obtain ⟨rfl, rfl⟩ := h
    exact ⟨hsub _, fin _ c1 hsm⟩
  split at h
  · simp only [Tk.R.tok.injEq] at h; omega
  split at h
  · have := Tk.readChar_ok h; omega
  split at h
  · simp only [Tk.R.tok.injEq] at h; omega
  split at h
  · rename_i c1
    obtain ⟨_, _, h3, _⟩ := Tk.readSigns_ok h hm c1
    exact ⟨h3.trans (hsub _), fin _ c1 hsg⟩
  split at h
  · rename_i c1
    simp only [beq_iff_eq] at c1
    simp only [Tk.R.tok.injEq, true_and] at h
    obtain ⟨rfl, rfl⟩ := h
    rw [c1]
    exact ⟨hsub _, rfl, rfl, by decide⟩
  split at h
  · rename_i c1
    simp only [beq_iff_eq] at c1
    simp only [Tk.R.tok.injEq, true_and] at h
    obtain ⟨rfl, rfl⟩ := h
    rw [c1]
    exact ⟨hsub _, rfl, rfl, by decide⟩
  split at h
  · rename_i c1
    simp only [beq_iff_eq] at c1
    exact absurd c1 h39
  split at h
  · have := Tk.enc_ok h (by simp); omega
  split at h
  · simp only [Tk.R.tok.injEq] at h; omega
  · cases h
/-- The text with the token at p, of this length, in apostrophes. -/
def Tk.quo (l w : List UInt8) (p : Nat) : List UInt8 := l.take p ++ 39 :: (w ++ 39 :: l.drop (p + w.length))
theorem quo_drop (l w : List UInt8) (p a : Nat) (ha : a ≤ p) (hp : p ≤ l.length) : (Tk.quo l w p).drop a = (l.drop a).take (p - a) ++ 39 :: (w ++ 39 :: l.drop (p + w.length)) := by
  unfold Tk.quo
  rw [List.drop_append_of_le_length (by simp; omega), List.drop_take]
theorem quo_behind (l w : List UInt8) (p : Nat) (hp : p ≤ l.length) : (Tk.quo l w p).drop (p + (w.length + 2)) = l.drop (p + w.length) := by
  have h1 := quo_drop l w p p (Nat.le_refl _) hp
  rw [Nat.sub_self, List.take_zero, List.nil_append] at h1
  rw [← List.drop_drop, h1, show w.length + 2 = (39 :: (w ++ [39]) : List UInt8).length by simp, show (39 :: (w ++ 39 :: l.drop (p + w.length)) : List UInt8) = (39 :: (w ++ [39])) ++ l.drop (p + w.length) by simp, List.drop_left' rfl]
theorem quo_len (l w : List UInt8) (p : Nat) (hp : p + w.length ≤ l.length) : (Tk.quo l w p).length = l.length + 2 := by
  unfold Tk.quo; simp; omega
theorem toks_quote {l w : List UInt8} {p : Nat} (hl6 : l.length ≤ 65536) (hsh : ∀ c ∈ w, Tk.shown (c.toNat : Int) = true ∧ c ≠ 39 ∧ c ≠ 92) (hbad : Tk.badName w = false) (hpl : p < l.length) (h39 : Tk.bt l p ≠ 39) (h48 : 0 < p → Tk.bt l (p - 1) ≠ 48) :
    ∀ (n f : Nat) {a : Nat} {b : Bool} {acc out : List Tk.T}, Tk.toks f l a a b acc = .ok out → a ≤ l.length → out[acc.length + n]? = some (1, w, p) →
    (p + w.length ≤ l.length ∧ w = (l.drop p).take w.length ∧ Tk.capital (Tk.bt l p) = false ∧ Tk.blank (Tk.bt l p) = false ∧ Tk.bt l p ≠ 37) ∧ ∀ (f' : Nat) (acc' : List Tk.T), f ≤ f' → ∃ r', Tk.toks f' (Tk.quo l w p) a a b acc' = .ok (acc' ++ r') ∧ Tk.lean r' = Tk.lean (out.drop acc.length)
  | n, 0, a, b, acc, out, h, _, _ => by rw [Tk.toks] at h; cases h
  | n, f + 1, a, b, acc, out, h, ha, hn => by
    obtain ⟨hc, hh⟩ := toks_step h
    have hs := skipped_sx l a ha
    have hsl := skipped_le ha
    have hsg := skipped_ge l a
    rcases hh with ⟨he, rfl⟩ | ⟨hne, k1, t1, z, hr, hk, hrec⟩
    · exfalso
      cases n with
      | zero =>
        rw [Nat.add_zero, List.getElem?_append_right (Nat.le_refl _), Nat.sub_self] at hn
        simp only [List.getElem?_cons_zero, Option.some.injEq, Prod.mk.injEq] at hn
        exact absurd hn.1 (by decide)
      | succ n => rw [List.getElem?_append_right (by omega)] at hn; simp at hn
    · have hslt : (Tk.skipped l a).1 < l.length := by omega
      have hok := Tk.read_ok hl6 hslt hr
      have hbg : Tk.Begins (l.drop (Tk.skipped l a).1) := skip_stop l _ a hc hslt (by omega)
      obtain ⟨s, hss⟩ : ∃ s, (Tk.skipped l a).1 = s := ⟨_, rfl⟩
      rw [hss] at hs hsl hsg hne hr hrec hslt hok hbg
      have hrd := read_drop l s a b hsl
      rw [hr] at hrd
      cases hm : Tk.read (l.drop s) 0 0 (b && decide (a = s)) with
      | fault p c => rw [hm] at hrd; cases hrd
      | tok k0 t0 z0 =>
        rw [hm] at hrd
        simp only [Tk.R.shift, Tk.R.tok.injEq] at hrd
        obtain ⟨rfl, rfl, rfl⟩ := hrd
        obtain ⟨r, rfl, hpos, hrest⟩ := toks_rest f hrec hok.2.1 hl6
        have hsx : Tk.sx (l.drop a) = (s - a, 0) := Prod.ext (by have := hs.1; dsimp only; omega) (by rw [← hs.2]; exact hc)
        cases n with
        | zero =>
          have hn2 : some (k1, t1, s) = some ((1 : Int), w, p) := by
            rw [Nat.add_zero, List.append_assoc, List.getElem?_append_right (Nat.le_refl _), Nat.sub_self] at hn
            exact hn
          simp only [Option.some.injEq, Prod.mk.injEq] at hn2
          obtain ⟨rfl, rfl, rfl⟩ := hn2
          have hbt0 : Tk.bt (l.drop s) 0 = Tk.bt l s := by have := bt_drop l s 0; rw [Nat.add_zero] at this; exact this.symm
          have hbr := read_bare (by rw [List.length_drop]; omega) hm (by rw [hbt0]; exact h39)
          have hz0 : t1.length = z0 := by rw [hbr.1]; have := hok.2.1; simp; omega
          have hpw : s + t1.length ≤ l.length := by rw [hz0]; exact hok.2.1
          refine ⟨⟨hpw, by rw [hz0]; exact hbr.1, by rw [← hbt0]; exact hbr.2⟩, fun f' acc' hf => ?_⟩
          cases f' with
          | zero => omega
          | succ f' =>
          have hd1 := drop_split l s a hsg
          have hd2 := quo_drop l t1 s a hsg hsl
          have hds : (Tk.quo l t1 s).drop s = 39 :: (t1 ++ 39 :: l.drop (s + t1.length)) := by
            have := quo_drop l t1 s s (Nat.le_refl _) hsl
            rwa [Nat.sub_self, List.take_zero, List.nil_append] at this
          obtain ⟨u, hu⟩ : ∃ u, (l.drop a).take (s - a) = u := ⟨_, rfl⟩
          have hul : u.length = s - a := by rw [← hu]; simp; omega
          rw [hu] at hd1 hd2
          rw [hd1] at hsx
          have hbg' : Tk.Begins (39 :: (t1 ++ 39 :: l.drop (s + t1.length))) := ⟨by simp, rfl, fun e => absurd (show (39 : Int) = 37 from e) (by decide), rfl⟩
          have hsk := skip_mid (l.drop s) (39 :: (t1 ++ 39 :: l.drop (s + t1.length))) hbg u.length u (Nat.le_refl _) (by rw [hsx, hul])
          rw [sx_stop hbg', hul] at hsk
          have hql := quo_len l t1 s hpw
          have hal' : a ≤ (Tk.quo l t1 s).length := by omega
          have hs' := skipped_sx (Tk.quo l t1 s) a hal'
          rw [hd2, hsk] at hs'
          dsimp only at hs'
          have hsp : (Tk.skipped (Tk.quo l t1 s) a).1 = s := by rw [hs'.1]; omega
          have hr' : Tk.read (Tk.quo l t1 s) s a b = .tok 1 t1 (s + (t1.length + 2)) := by
            rw [read_drop _ _ a b (by omega), hds, read_quoted hsh hbad]; rfl
          obtain ⟨r', h1, h2⟩ := hrest f' (Tk.quo l t1 s) (s + (t1.length + 2)) (acc' ++ [((1 : Int), t1, s)]) (by omega) (by rw [quo_behind l t1 s hsl, hz0]) (by omega)
          refine ⟨((1 : Int), t1, s) :: r', ?_, ?_⟩
          · rw [Tk.toks, if_pos hs'.2, hsp, if_neg (by omega), hr']
            dsimp only
            rw [if_pos hk, h1]; simp
          · rw [List.append_assoc, List.drop_left' rfl]
            simp only [Tk.lean, List.map_cons, List.singleton_append, List.cons.injEq, true_and]; exact h2
        | succ n =>
          have hlen1 : (acc ++ [((k1, t1, s) : Tk.T)]).length = acc.length + 1 := by simp
          have hidx : ∀ i, (acc ++ [((k1, t1, s) : Tk.T)] ++ r)[acc.length + 1 + i]? = r[i]? := fun i => by
            rw [List.getElem?_append_right (by rw [hlen1]; omega), hlen1, Nat.add_sub_cancel_left]
          have hnr : r[n]? = some (1, w, p) := by rw [← hidx n, show acc.length + 1 + n = acc.length + (n + 1) by omega]; exact hn
          have hzp : s + z0 ≤ p := hpos _ (List.mem_of_getElem? hnr)
          obtain ⟨⟨hpw, hwt, hbare⟩, hcont⟩ := toks_quote hl6 hsh hbad hpl h39 h48 n f hrec hok.2.1 (by rw [hlen1, hidx]; exact hnr)
          refine ⟨⟨hpw, hwt, hbare⟩, fun f' acc' hf => ?_⟩
          cases f' with
          | zero => omega
          | succ f' =>
          have hsp : s < p := by have := hok.1; omega
          have hple : p ≤ l.length := by omega
          obtain ⟨v, hv⟩ : ∃ v, (l.drop s).take z0 = v := ⟨_, rfl⟩
          have hwl : v.length = z0 := by rw [← hv]; have := hok.2.1; simp; omega
          have hwp : 0 < v.length := by have := hok.1; omega
          obtain ⟨x, hx⟩ : ∃ x, (l.drop (s + z0)).take (p - (s + z0)) = x := ⟨_, rfl⟩
          have hvs : l.drop s = v ++ l.drop (s + z0) := by
            rw [← hv, ← List.drop_drop]; exact (List.take_append_drop z0 (l.drop s)).symm
          have hrs : l.drop (s + z0) = x ++ l.drop p := by rw [← hx]; exact drop_split l p (s + z0) hzp
          have hrs' : (Tk.quo l w p).drop (s + z0) = x ++ 39 :: (w ++ 39 :: l.drop (p + w.length)) := by rw [← hx]; exact quo_drop l w p (s + z0) hzp hple
          have hvs' : (Tk.quo l w p).drop s = v ++ (Tk.quo l w p).drop (s + z0) := by
            have h1 := (List.take_append_drop z0 ((Tk.quo l w p).drop s)).symm
            have h2 : ((Tk.quo l w p).drop s).take z0 = v := by
              rw [quo_drop l w p s (by omega) hple, List.take_append_of_le_length (by simp; omega), List.take_take, Nat.min_eq_left (by omega)]; exact hv
            rw [h2, List.drop_drop] at h1; exact h1
          have hfirst : Tk.bt (l.drop p) 0 = Tk.bt l p := by have := bt_drop l p 0; rw [Nat.add_zero] at this; exact this.symm
          have hins : Tk.Mid v x (l.drop (s + z0)) ((Tk.quo l w p).drop (s + z0)) :=
            ⟨l.drop p, w ++ 39 :: l.drop (p + w.length), 39, hrs, hrs', .inr rfl, fun h => by
              exfalso
              rcases h with h | h | h
              · have := congrArg List.length h; rw [List.length_drop, List.length_nil] at this; omega
              · rw [hfirst, hbare.2.1] at h; cases h
              · rw [hfirst] at h; exact hbare.2.2 h, by
              unfold Tk.startsAt
              rw [hfirst, hbare.1, Bool.and_false], fun _ hx0 hv48 => by
              subst hx0
              have h3 := congrArg List.length hx
              simp at h3
              have hz1 : z0 = 1 := by rw [← hwl, hv48]; rfl
              have hps : p - 1 = s := by omega
              refine h48 (by omega) ?_
              rw [hps]
              have h4 := bt_drop l s 0
              rw [Nat.add_zero, hvs, hv48] at h4
              exact h4⟩
          rw [hvs] at hm hbg
          have hbg' := begins_mid hwp hins hbg
          have hri := read_mid hwp hins (by rw [hwl]; exact hm)
          rw [← hvs', hwl] at hri
          rw [← hvs'] at hbg'
          have hd1 := drop_split l s a hsg
          have hd2 : (Tk.quo l w p).drop a = (l.drop a).take (s - a) ++ (Tk.quo l w p).drop s := by
            have h1 := drop_split (Tk.quo l w p) s a hsg
            have h2 : ((Tk.quo l w p).drop a).take (s - a) = (l.drop a).take (s - a) := by
              rw [quo_drop l w p a (by omega) hple, List.take_append_of_le_length (by simp; omega), List.take_take, Nat.min_eq_left (by omega)]
            rw [h2] at h1; exact h1
          obtain ⟨u, hu⟩ : ∃ u, (l.drop a).take (s - a) = u := ⟨_, rfl⟩
          have hul : u.length = s - a := by rw [← hu]; simp; omega
          rw [hu] at hd1 hd2
          rw [hd1] at hsx
          have hsk := skip_mid (l.drop s) ((Tk.quo l w p).drop s) (by rw [hvs]; exact hbg) u.length u (Nat.le_refl _) (by rw [hsx, hul])
          rw [sx_stop hbg', hul] at hsk
          have hql := quo_len l w p hpw
          have hal' : a ≤ (Tk.quo l w p).length := by omega
          have hs' := skipped_sx (Tk.quo l w p) a hal'
          rw [hd2, hsk] at hs'
          dsimp only at hs'
          have hsp' : (Tk.skipped (Tk.quo l w p) a).1 = s := by rw [hs'.1]; omega
          have hr' : Tk.read (Tk.quo l w p) s a b = .tok k1 t1 (s + z0) := by
            rw [read_drop _ _ a b (by omega), hri]; rfl
          obtain ⟨r', h1, h2⟩ := hcont f' (acc' ++ [(k1, t1, s)]) (by omega)
          refine ⟨(k1, t1, s) :: r', ?_, ?_⟩
          · rw [Tk.toks, if_pos hs'.2, hsp', if_neg (by omega), hr']
            dsimp only
            rw [if_pos hk, h1]; simp
          · rw [hlen1, show (acc ++ [((k1, t1, s) : Tk.T)] ++ r).drop (acc.length + 1) = r from by rw [← hlen1]; exact List.drop_left' rfl] at h2
            rw [List.append_assoc, List.drop_left' rfl]
            simp only [Tk.lean, List.map_cons, List.singleton_append, List.cons.injEq, true_and]; exact h2
theorem run_point {w : List UInt8} (h : ∀ c ∈ w, c ≠ 46) (e : Nat) : Tk.startsAt Tk.point w e = false := by
  unfold Tk.startsAt
  by_cases he : e < w.length
  · have hb : Tk.bt w e = ((w[e]).toNat : Int) := by unfold Tk.bt; simp [List.getD_eq_getElem?_getD, he]
    have hne := h (w[e]) (List.getElem_mem he)
    have : Tk.point (Tk.bt w e) = false := by
      rw [hb]
      unfold Tk.point
      rw [beq_eq_false_iff_ne]
      intro e2
      exact hne (UInt8.toNat_inj.1 (by have : (46 : UInt8).toNat = 46 := rfl; omega))
    rw [this, Bool.and_false]
  · rw [decide_eq_false he, Bool.false_and]
theorem takeWhile_mem {α : Type} (p : α → Bool) : ∀ (l : List α) (c : α), c ∈ l.takeWhile p → p c = true
  | [], c, h => by simp at h
  | d :: l, c, h => by
    rw [List.takeWhile_cons] at h
    split at h
    · rename_i hd
      rcases List.mem_cons.1 h with rfl | h
      · exact hd
      · exact takeWhile_mem p l c h
    · simp at h
theorem every_mem {p : Int → Bool} {l : List UInt8} (h : Tk.every p l = true) : ∀ c ∈ l, p (c.toNat : Int) = true := by
  unfold Tk.every at h
  rw [Bool.and_eq_true, beq_iff_eq] at h
  have h2 := h.2
  unfold Tk.run at h2
  rw [List.drop_zero, Nat.zero_add] at h2
  intro c hc
  have h3 : l.takeWhile (fun c => p (c.toNat : Int)) = l := (List.takeWhile_sublist _).eq_of_length h2
  rw [← h3] at hc
  exact takeWhile_mem (fun c : UInt8 => p (c.toNat : Int)) l c hc
/-- The bytes of a name without a point. -/
theorem name_shown {w : List UInt8} (h : Tk.hasForm 1 w = true) (hw : ∀ c ∈ w, c ≠ 46) : (∀ c ∈ w, Tk.shown (c.toNat : Int) = true) ∧ w ≠ [] := by
  have e : Tk.hasForm 1 w = (Tk.bare w || Tk.bangPair w || Tk.quotable w) := rfl
  rw [e, Bool.or_eq_true, Bool.or_eq_true] at h
  have hev : ∀ p : Int → Bool, (∀ n : Fin 256, (!(p (n.val : Int)) || Tk.shown (n.val : Int)) = true) → Tk.every p w = true → (∀ c ∈ w, Tk.shown (c.toNat : Int) = true) ∧ w ≠ [] := fun p hp he => by
    refine ⟨fun c hc => ?_, fun e => ?_⟩
    · have h1 := byte_fact (fun n => !(p n) || Tk.shown n) hp c
      rw [every_mem he c hc] at h1
      simpa using h1
    · subst e; simp [Tk.every] at he
  rcases h with (h | h) | h
  · unfold Tk.bare at h
    by_cases h1 : Tk.bang w = true
    · unfold Tk.bang at h1
      rw [Bool.or_eq_true, beq_iff_eq, beq_iff_eq] at h1
      rcases h1 with rfl | rfl
      · exact ⟨by decide, by decide⟩
      · exact ⟨by decide, by decide⟩
    · rw [if_neg h1] at h
      by_cases h2 : Tk.every Tk.sign w = true
      · exact hev Tk.sign (by decide +kernel) h2
      · rw [if_neg h2] at h
        unfold Tk.dotted at h
        rw [Bool.and_eq_true, beq_iff_eq] at h
        obtain ⟨h3, h4⟩ := h
        unfold Tk.dottedEnd at h4
        rw [Tk.dots_no1 (run_point hw _)] at h4
        refine hev Tk.inWord (by decide +kernel) ?_
        unfold Tk.every
        have hne : w.isEmpty = false := by
          cases w with
          | nil => simp [Tk.startsAt] at h3
          | cons => rfl
        rw [hne, h4]
        simp
  · unfold Tk.bangPair at h
    rw [Bool.or_eq_true, beq_iff_eq, beq_iff_eq] at h
    rcases h with rfl | rfl
    · exact absurd rfl (hw 46 (by simp))
    · exact ⟨by decide, by decide⟩
  · unfold Tk.quotable at h
    rw [Bool.and_eq_true] at h
    exact hev Tk.shown (by decide +kernel) h.1
theorem index_none : ∀ {w : List UInt8}, (∀ c ∈ w, c ≠ 46) → Lib.indexByte w 46 < 0
  | [], _ => by decide
  | c :: w, h => by
    have ih := index_none (w := w) (fun x hx => h x (List.mem_cons_of_mem _ hx))
    have hc : (c == (46 : UInt8)) = false := by rw [beq_eq_false_iff_ne]; exact h c (List.mem_cons_self ..)
    unfold Lib.indexByte
    simp only [hc]
    first | omega | (split <;> omega) | (simp; omega)
/-- The tokens of a text with a name in apostrophes are those of the text, but for places. -/
theorem tokens_quote {l w : List UInt8} {ts : List Tk.T} {i p : Nat} (hl : l.length ≤ 65000) (h : Tk.tokens l = .ok ts) (hi : ts[i]? = some (1, w, p)) (hw : ∀ c ∈ w, c ≠ 39 ∧ c ≠ 92 ∧ c ≠ 46) (h39 : Tk.bt l p ≠ 39) (h48 : 0 < p → Tk.bt l (p - 1) ≠ 48) :
    p + w.length ≤ l.length ∧ ∃ us, Tk.tokens (Tk.quo l w p) = .ok us ∧ Tk.lean us = Tk.lean ts := by
  obtain ⟨acc, hts, hgood⟩ := Tk.tokens_good h
  have hmem : ((1 : Int), w, p) ∈ acc := by
    rw [hts] at hi
    have hlt := (List.getElem?_eq_some_iff.1 hi).1
    rcases Nat.lt_or_ge i acc.length with h1 | h1
    · rw [List.getElem?_append_left h1] at hi
      exact List.mem_of_getElem? hi
    · rw [List.getElem?_append_right h1] at hi
      simp only [List.length_append, List.length_singleton] at hlt
      rw [show i - acc.length = 0 by omega] at hi
      simp only [List.getElem?_cons_zero, Option.some.injEq, Prod.mk.injEq] at hi
      exact absurd hi.1 (by decide)
  obtain ⟨hck, -, -, hpl⟩ := hgood.1 _ hmem
  have hform : Tk.hasForm 1 w = true := by
    dsimp only at hck
    unfold Tk.check at hck
    rw [if_neg (by decide), if_neg (by decide)] at hck
    cases hf : Tk.hasForm 1 w
    · rw [hf] at hck; cases hck
    · rfl
  obtain ⟨hall, hne⟩ := name_shown hform (fun c hc => (hw c hc).2.2)
  have hsh : ∀ c ∈ w, Tk.shown (c.toNat : Int) = true ∧ c ≠ 39 ∧ c ≠ 92 := fun c hc => ⟨hall c hc, (hw c hc).1, (hw c hc).2.1⟩
  have hbad : Tk.badName w = false := by
    unfold Tk.badName
    have h1 : w.isEmpty = false := by
      cases w with
      | nil => exact absurd rfl hne
      | cons => rfl
    have h2 := index_none (w := w) (fun c hc => (hw c hc).2.2)
    rw [h1, Bool.false_or, decide_eq_false (by omega)]
  unfold Tk.tokens at h ⊢
  rw [if_neg (by omega)] at h
  obtain ⟨⟨hpw, -⟩, hcont⟩ := toks_quote (by omega) hsh hbad hpl h39 h48 i _ h (Nat.zero_le _) (by simpa using hi)
  refine ⟨hpw, ?_⟩
  have hql := quo_len l w p hpw
  rw [if_neg (by rw [hql]; omega)]
  obtain ⟨r', h1, h2⟩ := hcont ((Tk.quo l w p).length + 2) [] (by rw [hql]; omega)
  exact ⟨r', by simpa using h1, by simpa using h2⟩
end Go.Proofs.YtgmfhcnhpkeapaaGreatDoor

namespace Go.Proofs.YtgmfhcnhpkeapaaGreatDoor
open Go.RowKit

/-! The reader over tokens that differ in their places alone: the same faults too. -/
def Tm.Slike : Except Tm.F Tm.S → Except Tm.F Tm.S → Prop
  | .error f, .error g => f.2 = g.2
  | .ok s, .ok z => s.Like 0 z ∧ (s.stack = [] → Tm.Done s z)
  | _, _ => False
def Tm.Alike : Except Tm.F (List Tm) → Except Tm.F (List Tm) → Prop
  | .error f, .error g => f.2 = g.2
  | .ok l, .ok m => Tm.sames l m = true
  | _, _ => False
section
variable {ts us : List Tm.T} {en eu : Tm.T}
theorem Tm.climb_sim (hp : ∀ k, Tm.Tlike (Tm.peek ts en k) (Tm.peek us eu k)) (f : Nat) {s z : Tm.S} (h : s.Like 0 z) (ht : Tm.Done s z) : Tm.Slike (Tm.climb ts en f s) (Tm.climb us eu f z) := by
  induction f generalizing s z with
  | zero => exact ⟨h, fun _ => ht⟩
  | succ f ih =>
    by_cases hn : s.stack = []
    · rw [Tm.climb_nil hn, Tm.climb_nil (h.nil.1 hn)]
      exact ⟨h, fun _ => ht⟩
    · have h0 := hp s.i
      have hi0 : z.i = s.i := h.i
      have hpi := Tm.pushInfix_like (ts := ts) (us := us) (en := en) (eu := eu) h ht (by rw [hi0]; exact h0)
      rw [Tm.climb_cons hn, Tm.climb_cons (fun e => hn (h.nil.2 e))]
      rcases hp1 : Tm.pushInfix ts en s with ⟨s1, b⟩
      rcases hp2 : Tm.pushInfix us eu z with ⟨z1, c⟩
      rw [hp1, hp2] at hpi
      obtain ⟨rfl, hL, hT⟩ : b = c ∧ s1.Like 0 z1 ∧ Tm.Done s1 z1 := hpi
      cases b with
      | true => exact ⟨hL, fun _ => hT⟩
      | false =>
        dsimp only
        have h1 := hp s1.i
        have hi1 : z1.i = s1.i := hL.i
        have hgl := Tm.give_like (ts := ts) (us := us) (en := en) (eu := eu) hL hT (by rw [hi1]; exact h1)
        match e1 : Tm.give ts en s1, e2 : Tm.give us eu z1, hgl with
        | .error x, .error y, hgl => exact hgl
        | .ok (s2, true), .ok (z2, c), hgl =>
          obtain ⟨rfl, hL2, hT2⟩ := hgl
          exact ih hL2 (hT2 rfl)
        | .ok (s2, false), .ok (z2, c), hgl =>
          obtain ⟨rfl, hL2, -⟩ := hgl
          refine ⟨hL2, fun e => ?_⟩
          have hs1 : s1.stack ≠ [] := by
            unfold Tm.pushInfix at hp1
            dsimp only at hp1
            split at hp1
            · cases hp1; exact hn
            · cases hp1
          unfold Tm.give at e1
          split at e1
          · rename_i he; exact absurd he hs1
          · split at e1
            · cases e1
            · cases e1; cases e
            · cases e1
        | .ok (_, true), .error _, hgl => exact (show False from hgl).elim
        | .ok (_, false), .error _, hgl => exact (show False from hgl).elim
        | .error _, .ok (_, _), hgl => exact (show False from hgl).elim
theorem Tm.loop_sim (hp : ∀ k, Tm.Tlike (Tm.peek ts en k) (Tm.peek us eu k)) (f : Nat) {s z : Tm.S} (h : s.Like 0 z) (hz : s.stack = [] → Tm.Done s z) : Tm.Slike (Tm.loop ts en f s) (Tm.loop us eu f z) := by
  induction f generalizing s z with
  | zero => exact ⟨h, hz⟩
  | succ f ih =>
    by_cases hn : s.stack = []
    · rw [Tm.loop_nil hn, Tm.loop_nil (h.nil.1 hn)]
      exact ⟨h, hz⟩
    · rw [Tm.loop_cons hn, Tm.loop_cons (fun e => hn (h.nil.2 e))]
      have hi0 : z.i = s.i := h.i
      have hbl := Tm.begin_like (ts := ts) (us := us) (en := en) (eu := eu) h (by rw [hi0]; exact hp s.i) (by rw [hi0]; exact hp (s.i + 1))
      match e1 : Tm.begin_ ts en s, e2 : Tm.begin_ us eu z, hbl with
      | .error x, .error y, hbl => exact hbl
      | .ok (s1, false), .ok (z1, c), hbl =>
        obtain ⟨rfl, hL, -⟩ := hbl
        exact ih hL (fun e => absurd e (Tm.begin_stack e1))
      | .ok (s1, true), .ok (z1, c), hbl =>
        obtain ⟨rfl, hL, hT⟩ := hbl
        dsimp only
        unfold Tm.onward
        have hlen : z1.stack.length = s1.stack.length := hL.stack.length.symm
        have hcs := Tm.climb_sim hp (s1.stack.length + 1) hL (hT rfl)
        rw [hlen]
        match e3 : Tm.climb ts en (s1.stack.length + 1) s1, e4 : Tm.climb us eu (s1.stack.length + 1) z1, hcs with
        | .error x, .error y, hcs => exact hcs
        | .ok s2, .ok z2, hcs => exact ih hcs.1 hcs.2
        | .ok _, .error _, hcs => exact (show False from hcs).elim
        | .error _, .ok _, hcs => exact (show False from hcs).elim
      | .ok (_, true), .error _, hbl => exact (show False from hbl).elim
      | .ok (_, false), .error _, hbl => exact (show False from hbl).elim
      | .error _, .ok (_, _), hbl => exact (show False from hbl).elim
theorem Tm.read_sim (hp : ∀ k, Tm.Tlike (Tm.peek ts en k) (Tm.peek us eu k)) (hle : ts.length = us.length) {s z : Tm.S} (h : s.Like 0 z) : Tm.Slike (Tm.read ts en s) (Tm.read us eu z) := by
  unfold Tm.read
  have hL : Tm.S.Like 0 (s.push (Tm.opn 0 1200 [] 0 [] [])) (z.push (Tm.opn 0 1200 [] 0 [] [])) := ⟨h.i, ⟨⟨rfl, rfl, rfl, rfl, rfl, rfl, rfl, rfl⟩, h.stack⟩⟩
  rw [hle]
  exact Tm.loop_sim hp _ hL (fun e => by cases e)
theorem Tm.all_sim (hg : Tm.Good ts en) (hp : ∀ k, Tm.Tlike (Tm.peek ts en k) (Tm.peek us eu k)) (hle : ts.length = us.length) (f : Nat) {s z : Tm.S} {acc acc' : List Tm} (h : s.Like 0 z) (h0 : s.stack = []) (ha : Tm.sames acc acc' = true) :
    Tm.Alike (Tm.all ts en f s acc) (Tm.all us eu f z acc') := by
  induction f generalizing s z acc acc' with
  | zero => exact ha
  | succ f ih =>
    have hi0 : z.i = s.i := h.i
    have hk := (hp s.i).1
    rw [← hi0] at hk
    by_cases hend : (Tm.peek ts en s.i).1 = 0
    · rw [Tm.all_stop hend, Tm.all_stop (by rw [← hk, hi0]; exact hend)]
      exact ha
    · have hendz : (Tm.peek us eu z.i).1 ≠ 0 := by rw [← hk, hi0]; exact hend
      have hr := Tm.read_sim (en := en) (eu := eu) hp hle h
      match e1 : Tm.read ts en s, e2 : Tm.read us eu z, hr with
      | .error x, .error y, hr =>
        rw [Tm.all_bad hend e1, Tm.all_bad hendz e2]
        exact hr
      | .ok s', .ok z', hr =>
        obtain ⟨hL, hT⟩ := hr
        have hs' := (Tm.read_right hg e1 h0).2
        have hi1 : z'.i = s'.i := hL.i
        have hk1 := hp s'.i
        rw [show Tm.peek us eu s'.i = Tm.peek us eu z'.i by rw [hi1]] at hk1
        by_cases h7 : (Tm.peek ts en s'.i).1 = 7
        · rw [Tm.all_on hend e1 h7, Tm.all_on hendz e2 (by rw [← hk1.1]; exact h7)]
          have hLn : s'.next.Like 0 z'.next := ⟨by show z'.i + 1 = s'.i + 1 + 0; omega, hL.stack⟩
          exact ih hLn hs' (Tm.sames_append ha (Tm.sames_one (hT hs').1))
        · rw [Tm.all_off hend e1 h7, Tm.all_off hendz e2 (by rw [← hk1.1]; exact h7)]
          exact hk1.refusal
      | .ok _, .error _, hr => exact (show False from hr).elim
      | .error _, .ok _, hr => exact (show False from hr).elim
end
theorem Tm.tooDeep_alike : ∀ {l m : List Tm}, Tm.sames l m = true → ((Tm.tooDeep l = none ∧ Tm.tooDeep m = none) ∨ ∃ a b, Tm.tooDeep l = some a ∧ Tm.tooDeep m = some b)
  | [], [], _ => .inl ⟨rfl, rfl⟩
  | t :: l, u :: m, hs => by
    rw [Tm.sames, Bool.and_eq_true] at hs
    have hd : Tm.depth u = Tm.depth t := by rw [Tm.depth_dep, Tm.depth_dep, Tm.same_dep _ _ hs.1]
    rw [Tm.tooDeep, Tm.tooDeep, hd]
    by_cases h : 64 < Tm.depth t
    · rw [if_pos h, if_pos h]; exact .inr ⟨_, _, rfl, rfl⟩
    · rw [if_neg h, if_neg h]; exact Tm.tooDeep_alike hs.2
  | [], _ :: _, h => by rw [Tm.sames] at h; cases h
  | _ :: _, [], h => by rw [Tm.sames] at h; cases h
theorem Tm.nested_alike {a b : Except Tm.F (List Tm)} (h : Tm.Alike a b) : Tm.Alike (Tm.nested a) (Tm.nested b) := by
  match a, b, h with
  | .error _, .error _, h => exact h
  | .ok l, .ok m, h =>
    unfold Tm.nested
    dsimp only
    rcases Tm.tooDeep_alike h with ⟨h1, h2⟩ | ⟨x, y, h1, h2⟩
    · rw [h1, h2]; exact h
    · rw [h1, h2]; rfl
  | .ok _, .error _, h => exact (show False from h).elim
  | .error _, .ok _, h => exact (show False from h).elim
/-- What Terms answers to tokens that differ in their places alone. -/
theorem Tm.terms_sim {a b : List Tm.T} {p q : Int} (ka : ∀ t ∈ a, t.1 ≠ 0) (ca : ∀ t ∈ a, Tk.check t.1 t.2.1 = 0 ∧ t.2.1.length ≤ 65536) (hlen : b.length = a.length) (hbb : ∀ k (h : k < a.length) (h' : k < b.length), Tm.Tlike a[k] b[k]) :
    Tm.Alike (Tm.terms (a ++ [(0, [], p)])) (Tm.terms (b ++ [(0, [], q)])) := by
  have kb : ∀ t ∈ b, t.1 ≠ 0 := fun t ht => by
    obtain ⟨k, hk, rfl⟩ := List.getElem_of_mem ht
    have := hbb k (by omega) hk
    rw [← this.1]
    exact ka _ (List.getElem_mem _)
  have cb : ∀ t ∈ b, Tk.check t.1 t.2.1 = 0 ∧ t.2.1.length ≤ 65536 := fun t ht => by
    obtain ⟨k, hk, rfl⟩ := List.getElem_of_mem ht
    have := hbb k (by omega) hk
    rw [← this.1, ← this.2]
    exact ca _ (List.getElem_mem _)
  unfold Tm.terms
  rw [(Tm.cut_end ka p).1, (Tm.cut_end ka p).2, Tm.firstBad_of (fun t ht => (ca t ht).1), (Tm.cut_end kb q).1, (Tm.cut_end kb q).2, Tm.firstBad_of (fun t ht => (cb t ht).1)]
  dsimp only
  refine Tm.nested_alike ?_
  rw [hlen]
  refine Tm.all_sim ⟨rfl, ca⟩ (fun k => ?_) hlen.symm _ ⟨rfl, trivial⟩ rfl rfl
  by_cases hk : k < a.length
  · rw [Tm.peek_at hk, Tm.peek_at (by omega)]
    exact hbb k hk (by omega)
  · rw [Tm.peek_end (by omega), Tm.peek_end (by omega)]
    exact ⟨rfl, rfl⟩
/-- What Text answers to a text with a name in apostrophes. -/
theorem Tm.text_quote {l w : List UInt8} {ts : List Tk.T} {i p : Nat} (hl : l.length ≤ 65000) (h : Tk.tokens l = .ok ts) (hi : ts[i]? = some (1, w, p)) (hw : ∀ c ∈ w, c ≠ 39 ∧ c ≠ 92 ∧ c ≠ 46) (h39 : Tk.bt l p ≠ 39) (h48 : 0 < p → Tk.bt l (p - 1) ≠ 48) :
    p + w.length ≤ l.length ∧ Tm.Alike (Tm.text l) (Tm.text (Tk.quo l w p)) := by
  obtain ⟨hpw, us, h1, h2⟩ := tokens_quote hl h hi hw h39 h48
  refine ⟨hpw, ?_⟩
  unfold Tm.text
  rw [h, h1]
  dsimp only
  obtain ⟨A, rfl, ka, ca⟩ := Tk.tokens_end h
  obtain ⟨B, q, rfl, hl, hbb⟩ := Tk.lean_end h2
  have m1 : ∀ (X : List Tk.T) (p : Nat), (X ++ [((0, [], p) : Tk.T)]).map Tm.tok = X.map Tm.tok ++ [(0, [], (p : Int))] := fun X p => by rw [List.map_append]; rfl
  rw [m1, m1]
  exact Tm.terms_sim ka ca (by rw [List.length_map, List.length_map, hl]) (fun k h h' => by
    rw [List.getElem_map, List.getElem_map]
    exact hbb k (by simpa using h) (by simpa using h'))
end Go.Proofs.YtgmfhcnhpkeapaaGreatDoor

