import Derived.Test.YtgmfhcnhpkeapaaGreatDoorM10
import Derived.Maps.AppendAt
import Derived.Laws.AppendOwnNone
import Derived.StillTailTactics
import Derived.Deep.AppendLies
set_option linter.unusedSimpArgs false
set_option linter.unusedVariables false
namespace Go.Proofs.YtgmfhcnhpkeapaaGreatDoor
open Go.RowKit

theorem run_append_none_cap {P : Program} {w : World} (base : Nat) (t ty e : TypeId) (i : TypeInfo) (size : Nat) (ht : P.underlying t = some (.slice e)) (hi : P.info? e = some i)
    (v : Value) (n : Nat) (xs : List Value) (hown : w.ownsRow base e size v n xs) (c : Nat) :
    (Builtin.append_ #[t, t] ty #[v, .slice none 0 c]).run P w = .ok v w := by
  rcases hown.2 with ⟨rfl, rfl⟩ | ⟨g, cap, cur, rfl, _, _, hnc, _⟩
  · simp [Builtin.append_, run_underlying ht, sizeOf, typeInfo, hi, Builtin.lenOf, Builtin.firstCells]
  · simp [Builtin.append_, run_underlying ht, sizeOf, typeInfo, hi, Builtin.lenOf, Builtin.firstCells, hnc, storeCells]
theorem Tm.flat_one : ∀ (ts : List Tm) (vs : List Value), (∀ v ∈ vs, v.oneCell' = true) → ∀ u ∈ Tm.flat ts vs, u.oneCell' = true
  | [], _, _, u, hu => by simp [Tm.flat] at hu
  | _ :: _, [], _, u, hu => by simp [Tm.flat] at hu
  | t :: ts, v :: vs, h, u, hu => by
    have ih := Tm.flat_one ts vs (fun x hx => h x (List.mem_cons_of_mem _ hx)) u
    simp only [Tm.flat, List.cons_append, List.nil_append, List.mem_cons] at hu
    rcases hu with rfl | rfl | rfl | rfl | rfl | hu
    · rfl
    · rfl
    · rfl
    · exact h _ (List.mem_cons_self ..)
    · rfl
    · exact ih hu
/-- append of a slice of terms onto a row of the call's own. -/
theorem app_terms {w : World} {ops : Array Oper} {rest : List Oper} {o : Oper} {a : Act} {Q : Exit → Act → World → Prop} (hgd : o.guard = none) (s x : Operand)
    (ho : o.op = .call { callee := .builtin .append, args := #[s, x], argTypes := #[23, 23] })
    (base : Nat) (v : Value) (n : Nat) (xs : List Value) (hs : a.eval s = v) (hown : w.ownsRow base 32 5 v n xs)
    {κ : Nat → Nat} {A : Option Addr} {m c : Nat} {l : List Tm} (hx : a.eval x = .slice A m c) (hT : Targs w κ (.slice A m c) l) (hm : m = l.length)
    (h63 : n + m ≤ 1000000) (hbase : base ≤ w.heap.size)
    (h : ∀ v' w' vs, vs.length = l.length → w'.ownsRow base 32 5 v' (n + m) (xs ++ Tm.flat l vs) → w.grownBy w' v.ownBlock → (v'.ownBlock = v.ownBlock ∨ v'.ownBlock = some w.heap.size) →
      (∀ (j : Nat) b t, vs[j]? = some b → l[j]? = some t → Targs w κ b t.args) → wpList Tryz.prog ops Q rest (a.put o.dst v') w') : wpList Tryz.prog ops Q (o :: rest) a w := by
  obtain ⟨i0, hi0, hz0, hz1, hz2⟩ := info_parts info_term
  by_cases hA : A = none
  · subst hA
    have hl : l = [] := by
      cases l with
      | nil => rfl
      | cons t r =>
        obtain ⟨g, o, b, h1, _⟩ := hT.elem (k := 0) rfl
        cases h1
    subst hl
    subst hm
    have hrun := run_append_none_cap (P := Tryz.prog) (w := w) base 23 o.type 32 i0 5 Tryz.underlying23 hi0 v n xs hown c
    refine wpList_plain hgd fun K hK => ?_
    unfold Oper.wp
    simp [execOp, ho, resolve, invoke, builtin, hs, hx, hrun, Result.andThen]
    exact hK _ _ (h v w [] rfl (by simpa [Tm.flat] using hown) (World.grownBy.refl w _) (.inl rfl) (fun j b t hb => by simp at hb))
  · obtain ⟨ad, hAd⟩ := Option.ne_none_iff_exists'.1 hA
    subst hAd
    obtain ⟨vs, hvl, hcells, hone, hsub⟩ : ∃ vs : List Value, vs.length = l.length ∧ (∀ j u, (Tm.flat l vs)[j]? = some u → w.cell? (ad.add j) = some u) ∧ (∀ v ∈ vs, v.oneCell' = true) ∧ ∀ (j : Nat) b t, vs[j]? = some b → l[j]? = some t → Targs w κ b t.args := by
      generalize hv : Value.slice (some ad) m c = sv at hT
      cases hT with
      | nil => exact ⟨[], rfl, fun j u hu => by simp [Tm.flat] at hu, fun v hv => by simp at hv, fun j b t hb => by simp at hb⟩
      | mk g o cap _ vs hl hc hg hk cells sub =>
        rw [Value.slice.injEq] at hv
        obtain ⟨hv1, -, -⟩ := hv
        cases hv1
        refine ⟨vs, hl, fun j u hu => by rw [add_none]; exact cells j u hu, fun v hv => ?_, sub⟩
        obtain ⟨j, hj, rfl⟩ := List.getElem_of_mem hv
        obtain ⟨A', c', he⟩ := (sub j _ (l[j]'(by omega)) (List.getElem?_eq_getElem hj) (List.getElem?_eq_getElem (by omega))).form
        rw [he]; rfl
    refine wpList_append_own_at w hgd s x 23 ho base 32 i0 (.agg #[.int .i64 0, .string ⟨#[]⟩, .int .i64 0, .slice none 0 0, .int .i64 0]) 5 64 Tryz.underlying23 hi0 hz0 hz1 hz2 rfl (by decide) v n xs hs hown ad m c (Tm.flat l vs) hx
      (by rw [Tm.flat_len hvl, hm]) hcells (Tm.flat_one l vs hone) (by unfold maxLen; omega) (by omega) hbase ?_
    intro v' w' h1 h2 _ h4
    exact h v' w' vs hvl h1 h2 h4 hsub
end Go.Proofs.YtgmfhcnhpkeapaaGreatDoor

namespace Go.Proofs.YtgmfhcnhpkeapaaGreatDoor
open Go.RowKit

theorem Targs.zero {w : World} {κ : Nat → Nat} {v : Value} {l : List Tm} (h : Targs w κ v l) : Targs w (fun _ => 0) v l := h.recolor (fun _ _ => rfl)
/-- What Text leaves, for a text that is read without a fault. -/
theorem Tm.out_ok {l : List Tm} {a c : Int} {v : Value} {w : World} (h : Tm.Out (.ok l) a c v w) : c = 0 ∧ Targs w (fun _ => 0) v l := by
  obtain ⟨-, h2, κ, h3⟩ := h
  exact ⟨h2, h3.zero⟩
theorem Tm.out_bad {f : Tm.F} {a c : Int} {v : Value} {w : World} (h : Tm.Out (.error f) a c v w) (hf : f.2 ≠ 0) : (c != 0) = true := by
  obtain ⟨-, -, rfl⟩ := h
  rw [bne_iff_ne]; exact hf
theorem size_join (s t : ByteArray) : (s ++ ⟨#[10]⟩ ++ t).data.toList = s.data.toList ++ 10 :: t.data.toList := by
  simp

set_option maxRecDepth 100000 in
set_option maxHeartbeats 4000000 in
theorem both_long (s t : ByteArray) (w : World) (hG : Glob w) (h : 300 < s.size ∨ 300 < t.size) :
    Calls Tryz.prog 9 #[.string s, .string t] w fun e w' => e = .returned (.bool true) ∧ Below w.heap.size w w' := by
  have HG := Lib.hid hG
  by_cases h1 : 300 < s.size
  · have h2 : (300 : Int) < (s.size : Int) := by omega
    have h3 : decide ((300 : Int) < (s.size : Int)) = true := by simpa using h2
    clear hG h
    go_enter Tryz.func9, Tryz.ntmps9
    go_wp2_with fail
    refine (awake_any _ HG.out).mono ?_
    rintro e w5 ⟨rfl, hB5⟩
    have HB5 := Lib.hid hB5
    clear hB5
    go_wp2_with fail
    go_ret
    exact ⟨rfl, HB5.out⟩
  · have h2 : ¬ (300 : Int) < (s.size : Int) := by omega
    have h3 : decide ((300 : Int) < (s.size : Int)) = false := by simpa using h2
    have h4 : (300 : Int) < (t.size : Int) := by omega
    have h5 : decide ((300 : Int) < (t.size : Int)) = true := by simpa using h4
    clear hG h
    go_enter Tryz.func9, Tryz.ntmps9
    go_wp2_with fail
    refine (awake_any _ HG.out).mono ?_
    rintro e w5 ⟨rfl, hB5⟩
    have HB5 := Lib.hid hB5
    clear hB5
    go_wp2_with fail
    go_ret
    exact ⟨rfl, HB5.out⟩
set_option maxRecDepth 100000 in
set_option maxHeartbeats 4000000 in
/-- What the law leaves behind the two texts, where one of them has a fault. -/
theorem both_bad (s t : ByteArray) (w : World) (hG : Glob w) (h1 : ¬ 300 < s.size) (h2 : ¬ 300 < t.size) (hbad : ∀ la lb, Tm.text s.data.toList = .ok la → Tm.text t.data.toList = .ok lb → False) :
    Calls Tryz.prog 9 #[.string s, .string t] w fun e w' => e = .returned (.bool true) ∧ Below w.heap.size w w' := by
  have hgl := hG.lt
  have HG := Lib.hid hG
  have h3 : decide ((300 : Int) < (s.size : Int)) = false := by simpa using (show ¬ (300 : Int) < (s.size : Int) by omega)
  have h4 : decide ((300 : Int) < (t.size : Int)) = false := by simpa using (show ¬ (300 : Int) < (t.size : Int) by omega)
  have h5 : ¬ (300 : Int) < (s.size : Int) := by omega
  have h6 : ¬ (300 : Int) < (t.size : Int) := by omega
  have HBD := Lib.hid hbad
  clear hG h1 h2 hbad
  go_enter Tryz.func9, Tryz.ntmps9
  go_wp2_with fail
  refine (text_terms s _ HG.out).mono ?_
  intro e w1 hp
  obtain ⟨hB1, A1, n1, cap1, a1, c1, rfl, hO1⟩ := hp
  have hBa := hB1.alloc hB1.size (.cells #[.int .i64 a1, .int .i64 c1] 26)
  have HGa := Lib.hid (HG.out.below hBa hgl)
  have hKa := Blk.new w1 26 #[.int .i64 a1, .int .i64 c1]
  have HBa := Lib.hid hBa
  have HKa := Lib.hid hKa
  have HO1 := Lib.hid hO1
  clear hB1 hBa hKa hO1
  go_wp2_with fail
  refine (text_terms t _ HGa.out).mono ?_
  intro e w2 hp
  obtain ⟨hB2, A2, n2, cap2, a2, c2, rfl, hO2⟩ := hp
  have hgla := HGa.out.lt
  have hBb := HBa.out.trans (hB2.mono HBa.out.size)
  have hBc := hBb.alloc hBb.size (.cells #[.int .i64 a2, .int .i64 c2] 26)
  have HGc := Lib.hid (HG.out.below hBc hgl)
  have hka := HKa.out.below hB2 HKa.out.lt
  have e1 : w2.cell? ⟨w1.heap.size, 1, none⟩ = some (.int .i64 c1) := by simpa using hka.cell 1
  have hlt := hka.lt
  have hne : w1.heap.size ≠ w2.heap.size := by omega
  have hne' : w2.heap.size ≠ w1.heap.size := by omega
  have hcc : (c1 != 0) = true ∨ (c2 != 0) = true := by
    cases e1 : Tm.text s.data.toList with
    | error f => left; have := HO1.out; rw [e1] at this; exact Tm.out_bad this (Tm.text_bad e1)
    | ok la =>
      cases e2 : Tm.text t.data.toList with
      | error f => right; rw [e2] at hO2; exact Tm.out_bad hO2 (Tm.text_bad e2)
      | ok lb => exact (HBD.out la lb e1 e2).elim
  have HBc := Lib.hid hBc
  clear hB2 hBb hBc hka hO2 HO1 HBD
  cases hc1 : (c1 != 0)
  · have hc2 : (c2 != 0) = true := by
      rcases hcc with hcc | hcc
      · rw [hc1] at hcc; cases hcc
      · exact hcc
    clear hcc
    go_wp2_with fail
    refine (awake_any _ HGc.out).mono ?_
    rintro e w5 ⟨rfl, hB5⟩
    have HB5 := Lib.hid (HBc.out.trans (hB5.mono HBc.out.size))
    clear hB5
    go_wp2_with fail
    go_ret
    exact ⟨rfl, HB5.out⟩
  · clear hcc
    go_wp2_with fail
    refine (awake_any _ HGc.out).mono ?_
    rintro e w5 ⟨rfl, hB5⟩
    have HB5 := Lib.hid (HBc.out.trans (hB5.mono HBc.out.size))
    clear hB5
    go_wp2_with fail
    go_ret
    exact ⟨rfl, HB5.out⟩
end Go.Proofs.YtgmfhcnhpkeapaaGreatDoor

namespace Go.Proofs.YtgmfhcnhpkeapaaGreatDoor
open Go.RowKit

theorem Tm.sames_at : ∀ {l m : List Tm} {k : Nat} {t u : Tm}, Tm.sames l m = true → l[k]? = some t → m[k]? = some u → Tm.same t u = true
  | [], _, k, t, u, _, h, _ => by simp at h
  | _ :: _, [], k, t, u, _, _, h => by simp at h
  | x :: l, y :: m, 0, t, u, hs, h, h' => by
    rw [Tm.sames, Bool.and_eq_true] at hs
    simp at h h'
    subst h; subst h'
    exact hs.1
  | x :: l, y :: m, k + 1, t, u, hs, h, h' => by
    rw [Tm.sames, Bool.and_eq_true] at hs
    exact Tm.sames_at hs.2 (by simpa using h) (by simpa using h')
theorem Tm.flat_app : ∀ {l m : List Tm} {vs us : List Value}, vs.length = l.length → Tm.flat l vs ++ Tm.flat m us = Tm.flat (l ++ m) (vs ++ us)
  | [], m, [], us, _ => rfl
  | t :: l, m, v :: vs, us, h => by
    have := Tm.flat_app (l := l) (m := m) (vs := vs) (us := us) (by simpa using h)
    simp only [Tm.flat, List.cons_append, List.nil_append, List.append_assoc] at this ⊢
    rw [this]
  | [], m, _ :: _, us, h => by simp at h
  | _ :: _, m, [], us, h => by simp at h
theorem below_grown {B : Nat} {w w1 w2 : World} {row : Option Nat} (h : Below B w w1) (hg : w1.grownBy w2 row) (hB : B ≤ w1.heap.size) (hr : ∀ k, row = some k → B ≤ k) : Below B w w2 :=
  h.trans ⟨hg.os, hg.tape, hg.output, hg.size, fun b hb => hg.block b (by omega) (fun e => by have := hr b e.symm; omega)⟩
/-- The blocks below a bound. -/
def lowC (B b : Nat) : Nat := if b < B then 0 else 1
theorem lowC_lt {B b : Nat} (h : lowC B b = 0) : b < B := by
  unfold lowC at h
  split at h
  · assumption
  · cases h
theorem Targs.lows {w : World} {v : Value} {l : List Tm} (h : Targs w (fun _ => 0) v l) : Targs w (lowC w.heap.size) v l := h.recolor_lt (fun _ hb _ => if_pos hb)
theorem Targs.low {B : Nat} {w w' : World} {v : Value} {l : List Tm} (h : Targs w (lowC B) v l) (hB : Below B w w') : Targs w' (lowC B) v l := h.firm ⟨hB.size, fun b _ hk => hB.block b (lowC_lt hk)⟩
/-- The terms of two rows, copied into one of the call's own. -/
theorem Targs.joined {w : World} {B : Nat} {v : Value} {la lb : List Tm} {n : Nat} {vs us : List Value} (hn : n = la.length + lb.length) (hvs : vs.length = la.length) (hus : us.length = lb.length)
    (hown : w.ownsRow B 32 5 v n (Tm.flat la vs ++ Tm.flat lb us)) (h1 : ∀ (j : Nat) b t, vs[j]? = some b → la[j]? = some t → Targs w (fun _ => 0) b t.args) (h2 : ∀ (j : Nat) b t, us[j]? = some b → lb[j]? = some t → Targs w (fun _ => 0) b t.args) :
    Targs w (fun _ => 0) v (la ++ lb) := by
  rw [Tm.flat_app hvs, hn] at hown
  refine Targs.of_row (vs := vs ++ us) (by simp [hvs, hus]) (by rw [List.length_append]; exact hown) (fun _ _ => rfl) (fun j b t hb ht => ?_)
  by_cases hj : j < la.length
  · rw [List.getElem?_append_left (by omega)] at hb
    rw [List.getElem?_append_left hj] at ht
    exact h1 j b t hb ht
  · rw [List.getElem?_append_right (by omega)] at hb
    rw [List.getElem?_append_right (by omega)] at ht
    rw [hvs] at hb
    exact h2 _ b t hb ht
set_option maxRecDepth 100000 in
set_option maxHeartbeats 4000000 in
theorem both_good (s t : ByteArray) (w : World) (hG : Glob w) (h1 : ¬ 300 < s.size) (h2 : ¬ 300 < t.size) (la lb : List Tm) (ha : Tm.text s.data.toList = .ok la) (hb : Tm.text t.data.toList = .ok lb) :
    Calls Tryz.prog 9 #[.string s, .string t] w fun e w' => e = .returned (.bool true) ∧ Below w.heap.size w w' := by
  have hgl := hG.lt
  have HG := Lib.hid hG
  have h3 : decide ((300 : Int) < (s.size : Int)) = false := by simpa using (show ¬ (300 : Int) < (s.size : Int) by omega)
  have h4 : decide ((300 : Int) < (t.size : Int)) = false := by simpa using (show ¬ (300 : Int) < (t.size : Int) by omega)
  have h5 : ¬ (300 : Int) < (s.size : Int) := by omega
  have h6 : ¬ (300 : Int) < (t.size : Int) := by omega
  have hla := Tm.text_len ha
  have hlb := Tm.text_len hb
  rw [size_data] at hla hlb
  obtain ⟨l, hl, hsame⟩ := Tm.text_both (by rw [size_data, size_data]; omega) ha hb
  rw [← size_join] at hl
  have hln : l.length = la.length + lb.length := by have := Tm.sames_length hsame; simpa using this
  have HSA := Lib.hid ha
  have HSB := Lib.hid hb
  have HSL := Lib.hid hl
  have HSM := Lib.hid hsame
  have HLN := Lib.hid hln
  have HRT : Hid (∀ u ∈ l, Tm.rt u ∧ Tm.siz u ≤ 1099511627776 ∧ Tm.checkT u = 0) := Lib.hid (Tm.text_right (by rw [size_join, List.length_append, List.length_cons, size_data, size_data]; omega) hl)
  have hla2 : la.length ≤ 303 := by omega
  have hlb2 : lb.length ≤ 303 := by omega
  clear hG h1 h2 ha hb hl hsame hla hlb hln
  go_enter Tryz.func9, Tryz.ntmps9
  go_wp2_with fail
  refine (text_terms s _ HG.out).mono ?_
  rw [HSA.out]
  intro e w1 hp
  obtain ⟨hB1, A1, n1, cap1, a1, c1, rfl, hO1⟩ := hp
  obtain ⟨rfl, hT1⟩ := Tm.out_ok hO1
  obtain ⟨A1', cap1', hv⟩ := hT1.form
  rw [Value.slice.injEq] at hv
  obtain ⟨rfl, rfl, rfl⟩ := hv
  have hBa := hB1.alloc hB1.size (.cells #[.int .i64 a1, .int .i64 0] 26)
  have hBn := (Below.refl w1.heap.size w1).alloc (Nat.le_refl _) (.cells #[.int .i64 a1, .int .i64 0] 26)
  have HGa := Lib.hid (HG.out.below hBa hgl)
  have HKa := Lib.hid (Blk.new w1 26 #[.int .i64 a1, .int .i64 0])
  have HBa := Lib.hid hBa
  have HT1 := Lib.hid (hT1.kept (.below hBn))
  clear hB1 hBa hBn hO1 hT1
  go_wp2_with fail
  generalize hWa : (w1.alloc (.cells #[.int .i64 a1, .int .i64 0] 26)) = Wa at *
  clear hWa
  refine (text_terms t _ HGa.out).mono ?_
  rw [HSB.out]
  intro e w2 hp
  obtain ⟨hB2, A2, n2, cap2, a2, c2, rfl, hO2⟩ := hp
  obtain ⟨rfl, hT2⟩ := Tm.out_ok hO2
  obtain ⟨A2', cap2', hv⟩ := hT2.form
  rw [Value.slice.injEq] at hv
  obtain ⟨rfl, rfl, rfl⟩ := hv
  have hgla := HGa.out.lt
  have hBb := HBa.out.trans (hB2.mono HBa.out.size)
  have hBc := hBb.alloc hBb.size (.cells #[.int .i64 a2, .int .i64 0] 26)
  have hBn := (Below.refl w2.heap.size w2).alloc (Nat.le_refl _) (.cells #[.int .i64 a2, .int .i64 0] 26)
  have HGc := Lib.hid (HG.out.below hBc hgl)
  have hka := HKa.out.below hB2 HKa.out.lt
  have e1 : w2.cell? ⟨w1.heap.size, 1, none⟩ = some (.int .i64 0) := by simpa using hka.cell 1
  have hlt := hka.lt
  have hne : w1.heap.size ≠ w2.heap.size := by omega
  have hne' : w2.heap.size ≠ w1.heap.size := by omega
  have HBc := Lib.hid hBc
  have HT1' := Lib.hid ((HT1.out.kept (.below hB2)).kept (.below hBn))
  have HT2 := Lib.hid (hT2.kept (.below hBn))
  clear hB2 hBb hBc hka hO2 hBn hT2 HT1
  go_wp2_with fail
  generalize hWc : (w2.alloc (.cells #[.int .i64 a2, .int .i64 0] 26)) = Wc at *
  clear hWc e1
  refine (text_terms _ _ HGc.out).mono ?_
  rw [HSL.out]
  intro e w3 hp
  obtain ⟨hB3, A3, n3, cap3, a3, c3, rfl, hO3⟩ := hp
  obtain ⟨rfl, hT3⟩ := Tm.out_ok hO3
  obtain ⟨A3', cap3', hv⟩ := hT3.form
  rw [Value.slice.injEq] at hv
  obtain ⟨rfl, rfl, rfl⟩ := hv
  have hglc := HGc.out.lt
  have hBd := HBc.out.trans (hB3.mono HBc.out.size)
  have hBe := hBd.alloc hBd.size (.cells #[.int .i64 a3, .int .i64 0] 26)
  have hBn := (Below.refl w3.heap.size w3).alloc (Nat.le_refl _) (.cells #[.int .i64 a3, .int .i64 0] 26)
  have HGe := Lib.hid (HG.out.below hBe hgl)
  have HKe := Lib.hid (Blk.new w3 26 #[.int .i64 a3, .int .i64 0])
  have HBe := Lib.hid hBe
  have HTA := Lib.hid ((HT1'.out.kept (.below hB3)).kept (.below hBn))
  have HTB := Lib.hid ((HT2.out.kept (.below hB3)).kept (.below hBn))
  have HTL := Lib.hid (hT3.kept (.below hBn))
  have hw2 : ((l.length : Int) != ((la.length : Int) + (lb.length : Int))) = false := by
    rw [bne_eq_false_iff_eq]; have := HLN.out; omega
  clear hB3 hBd hBe hBn hO3 hT3 HT1' HT2
  go_wp2_with fail
  generalize hWW : (w3.alloc (.cells #[.int .i64 a3, .int .i64 0] 26)) = W at *
  clear hWW
  have hglW := HGe.out.lt
  go_loopw [11, 12] (fun i _ wr => ∃ k : Nat, i = .int .i64 k ∧ k ≤ l.length ∧ Hid (Below W.heap.size W wr)) (fun i _ _ => l.length - (intOf i).toNat)
  case atStart => exact ⟨0, by go_num, Nat.zero_le _, Lib.hid (Below.refl _ _)⟩
  case round =>
    obtain ⟨k, rfl, hk, HBR⟩ := hrel
    have HBX := Lib.hid (HBe.out.trans (HBR.out.mono HBe.out.size))
    have HGR := Lib.hid (HGe.out.below HBR.out hglW)
    by_cases hkl : k < l.length
    · obtain ⟨tl, htl⟩ : ∃ tl, l[k]? = some tl := ⟨_, List.getElem?_eq_getElem hkl⟩
      obtain ⟨tx, htx⟩ : ∃ tx, (la ++ lb)[k]? = some tx := ⟨_, List.getElem?_eq_getElem (by rw [List.length_append]; have := HLN.out; omega)⟩
      have HSS := Lib.hid (Tm.sames_at HSM.out htl htx)
      have HTL2 := Lib.hid (HTL.out.kept (.below HBR.out))
      have hk2 : (k : Int) < (l.length : Int) := by omega
      have hk0 : (0 : Int) ≤ (k : Int) := by omega
      have hkb : k ≤ 1000 := by have := HLN.out; omega
      have hBz := (Below.refl wr.heap.size wr).alloc (Nat.le_refl _) (.cells #[] 32)
      have HTA2 := Lib.hid ((HTA.out.kept (.below HBR.out)).lows.low hBz)
      have HTB2 := Lib.hid ((HTB.out.kept (.below HBR.out)).lows.low hBz)
      have HBz := Lib.hid hBz
      have HO0 : Hid ((wr.alloc (.cells #[] 32)).ownsRow wr.heap.size 32 5 (.slice (some ⟨wr.heap.size, 0, none⟩) 0 0) 0 []) := Lib.hid (World.ownsRow_lit wr #[] 0 (Nat.le_refl _) (Nat.zero_le _) rfl)
      clear hBz
      go_wp2_with (first
        | (at_builtin; refine app_terms rfl (.tmp 68) (.tmp 69) rfl wr.heap.size (.slice (some ⟨wr.heap.size, 0, none⟩) 0 0) 0 [] (by simp [Act.eval, Act.put]) HO0.out (by simp [Act.eval, Act.put]) HTA2.out rfl (by omega) (by simp) ?_
           intro v5 w5 vs5 hvl5 hown5 hgr5 hat5 hsub5
           have hb5 : ∀ k, v5.ownBlock = some k → wr.heap.size ≤ k := fun k e => by
             rcases hat5 with h | h
             · rw [e] at h; simp [Value.ownBlock] at h; omega
             · rw [e] at h; simp at h; omega
           have hB5 := below_grown (Below.refl wr.heap.size (wr.alloc (.cells #[] 32))) hgr5 (by simp) (fun k e => by simp [Value.ownBlock] at e; omega)
           have HB5 := Lib.hid (HBz.out.trans hB5)
           have hs5 : wr.heap.size ≤ w5.heap.size := HB5.out.size
           have HV5 := Lib.hid hvl5
           have hown6 : w5.ownsRow wr.heap.size 32 5 v5 la.length (Tm.flat la vs5) := by simpa using hown5
           have HSB5 : Hid (∀ (j : Nat) b t, vs5[j]? = some b → la[j]? = some t → Targs w5 (lowC wr.heap.size) b t.args) := Lib.hid (fun j b t h1 h2 => (hsub5 j b t h1 h2).low hB5)
           have HTB5 := Lib.hid (HTB2.out.low hB5)
           obtain ⟨A5, c5, rfl⟩ := own_slice hown6
           have HOW5 := Lib.hid hown6
           have Hb5 := Lib.hid hb5
           clear hvl5 hown5 hown6 hgr5 hat5 hsub5 hB5 hb5)
        | (at_builtin; refine app_terms rfl (.tmp 70) (.tmp 71) rfl wr.heap.size (.slice A5 (0 + la.length) c5) la.length (Tm.flat la vs5) (by simp [Act.eval, Act.put]) (by rw [Nat.zero_add]; exact HOW5.out) (by simp [Act.eval, Act.put]) HTB5.out rfl (by omega) (by omega) ?_
           intro v7 w7 vs7 hvl7 hown7 hgr7 hat7 hsub7
           have hB7 : Below wr.heap.size w5 w7 := below_grown (Below.refl wr.heap.size w5) hgr7 hs5 (fun k e => Hb5.out k (by rw [Nat.zero_add] at e; exact e))
           have HB7 := Lib.hid (HB5.out.trans hB7)
           have HBW7 := Lib.hid (HBX.out.trans (HB7.out.mono HBX.out.size))
           have HGL7 := Lib.hid (HGR.out.below HB7.out HGR.out.lt)
           have HT7 := Lib.hid (Targs.joined rfl HV5.out hvl7 hown7 (fun j b t h1 h2 => ((HSB5.out j b t h1 h2).low hB7).zero) (fun j b t h1 h2 => ((hsub7 j b t h1 h2).low hB7).zero))
           rw [← HLN.out] at hown7
           obtain ⟨g7, cap7, rfl, hg7, hg7'⟩ := hown7.form (by omega)
           obtain ⟨gx, ox, bx, hAx, hcapx, hgx, hkx, htax, x0, x1, x2, x3, x4⟩ := HT7.out.elem htx
           injection hAx with hAx
           injection hAx with hA1 hA2
           subst hA1
           subst hA2
           obtain ⟨Ax, kx, rfl⟩ := htax.form
           simp only [Nat.zero_add] at x0 x1 x2 x3 x4
           have HTLX := Lib.hid (HTL2.out.kept (.below HB7.out))
           obtain ⟨gl, ol, bl, hAl, hcapl, hgl', hkl', htal, y0, y1, y2, y3, y4⟩ := HTLX.out.elem htl
           subst hAl
           obtain ⟨Al, kll, rfl⟩ := htal.form
           have hB8 := (Below.refl w7.heap.size w7).alloc (Nat.le_refl _) (.cells #[.int .i64 tx.kind, .string ⟨tx.name.toArray⟩, .int .i64 tx.num, .slice Ax tx.args.length kx, .int .i64 tx.at_] 32)
           have HTX := Lib.hid (htax.kept (.below hB8))
           have HTLL := Lib.hid (htal.kept (.below hB8))
           have HKX := Lib.hid (Blk.new w7 32 #[.int .i64 tx.kind, .string ⟨tx.name.toArray⟩, .int .i64 tx.num, .slice Ax tx.args.length kx, .int .i64 tx.at_])
           have HB8 := Lib.hid hB8
           have hnl : gl ≠ w7.heap.size := by omega
           have hnl2 : w7.heap.size ≠ gl := by omega
           clear hvl7 hown7 hgr7 hat7 hsub7 hB7 htax htal hB8 hkx hkl' hcapx hcapl))
      generalize hW8 : (w7.alloc (.cells #[.int .i64 tx.kind, .string ⟨tx.name.toArray⟩, .int .i64 tx.num, .slice Ax tx.args.length kx, .int .i64 tx.at_] 32)) = W8 at *
      clear hW8 x0 x1 x2 x3 x4 y0 y1 y2 y3 y4
      obtain ⟨gl2, ol2, bl2, hAl2, -, hgl2, -, htal2, y0, y1, y2, y3, y4⟩ := (HTLX.out.kept (.below HB8.out)).elem htl
      injection hAl2 with hAl2
      injection hAl2 with hA1 hA2
      subst hA1
      subst hA2
      obtain ⟨Al2, kll2, rfl⟩ := htal2.form
      have HTL8 := Lib.hid htal2
      obtain ⟨x0, x1, x2, x3, x4⟩ : W8.cell? ⟨w7.heap.size, 0, none⟩ = some (.int .i64 tx.kind) ∧ W8.cell? ⟨w7.heap.size, 1, none⟩ = some (.string ⟨tx.name.toArray⟩) ∧ W8.cell? ⟨w7.heap.size, 2, none⟩ = some (.int .i64 tx.num) ∧ W8.cell? ⟨w7.heap.size, 3, none⟩ = some (.slice Ax tx.args.length kx) ∧ W8.cell? ⟨w7.heap.size, 4, none⟩ = some (.int .i64 tx.at_) :=
        ⟨by simpa using HKX.out.cell 0, by simpa using HKX.out.cell 1, by simpa using HKX.out.cell 2, by simpa using HKX.out.cell 3, by simpa using HKX.out.cell 4⟩
      have hlt8 := HKX.out.lt
      have HB9 := Lib.hid (HBW7.out.trans (HB8.out.mono HBW7.out.size))
      have HG9 := Lib.hid (HGL7.out.below HB8.out HGL7.out.lt)
      have HSZ := Lib.hid (HRT.out tl (List.mem_of_getElem? htl)).2.1
      clear htal2 htl htx
      go_still_tail 5, (by kernel_rfl)
      go_wp2_with fail
      have hBd := (Below.refl W8.heap.size W8).drew
      refine (Same_any tl tx _ _ _ (HTL8.out.kept (.below hBd)) (HTX.out.kept (.below hBd)) HSZ.out).mono ?_
      rw [HSS.out]
      rintro e w9 ⟨rfl, hB9⟩
      have HB10 := Lib.hid (HB7.out.trans ((HB8.out.trans ((hBd.trans (hB9.mono (by simp))).mono HB8.out.size)).mono HB7.out.size))
      clear hB9 hBd
      go_wp2_with fail
      go_roundw
      case rel => exact ⟨k + 1, by go_num, by omega, Lib.hid (HBR.out.trans (HB10.out.mono HBR.out.size))⟩
      case measure => simp [intOf]; omega
    · have hk3 : ¬ (k : Int) < (l.length : Int) := by omega
      go_wp2_with fail
      refine (awake_any _ HGR.out).mono ?_
      rintro e w5 ⟨rfl, hB5⟩
      have HB5 := Lib.hid hB5
      clear hB5
      go_wp2_with fail
      go_ret
      exact ⟨rfl, HBX.out.trans (HB5.out.mono HBX.out.size)⟩
/-- The law TermsBoth. -/
theorem both_any (s t : ByteArray) (w : World) (hG : Glob w) :
    Calls Tryz.prog 9 #[.string s, .string t] w fun e w' => e = .returned (.bool true) ∧ Below w.heap.size w w' := by
  by_cases h1 : 300 < s.size
  · exact both_long s t w hG (.inl h1)
  · by_cases h2 : 300 < t.size
    · exact both_long s t w hG (.inr h2)
    · cases ha : Tm.text s.data.toList with
      | error f => exact both_bad s t w hG h1 h2 (fun la lb e _ => by rw [ha] at e; cases e)
      | ok la =>
        cases hb : Tm.text t.data.toList with
        | error f => exact both_bad s t w hG h1 h2 (fun la lb _ e => by rw [hb] at e; cases e)
        | ok lb => exact both_good s t w hG h1 h2 la lb ha hb
end Go.Proofs.YtgmfhcnhpkeapaaGreatDoor

