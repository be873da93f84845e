import Derived.Test.YtaefonagbcnmdaaGreatDoorM5
import Derived.Deep.Slices
import Derived.Deep.Fields
import Derived.ChangeSame
import Derived.SizedLaws
set_option linter.unusedSimpArgs false
set_option linter.unusedVariables false
namespace Go.Proofs.YtaefonagbcnmdaaGreatDoor
open Go.ChangeShapes Go.WideShapes Go.Deep Go.RowKit

section
variable {H : Type} {enc : TypeId × Value → H} {P : Program} {w : World} {base : Nat} {spare : Nat → Bool} {held : Bool}
theorem open_slice_fields {t e : TypeId} {fs : Array Field} {fuel : Nat} {cs : List Value} {x : DataW H × List MemPlace} (ht : P.underlying t = some (.slice e)) (he : P.underlying e = some (.struct fs))
    (hone : oneCellFields P fs = true) (hC : P.cellsOf e = fs.size) (h : DataW.trod enc P w base spare held fuel t cs = some x) :
    (cs = [.slice none 0 0] ∧ x = (.nil, [])) ∨
    ∃ (a : Addr) (len cap m : Nat) (D : Nat → DataW H) (Pl : Nat → List MemPlace), cs = [.slice (some a) len cap] ∧ base ≤ a.block ∧ len ≤ cap ∧ cap ≤ maxLen ∧ m = (if spare a.block then cap else len) ∧
      x = (.slice ((List.range len).map D) ((List.range (m - len)).map fun j => D (len + j)), MemPlace.row a (m * fs.size) ++ (List.range m).flatMap Pl) ∧
      ∀ i, i < m → ∃ (ys : List (DataW H × List MemPlace)) (n : Nat), D i = .agg (ys.map (·.1)) ∧ Pl i = ys.flatMap (·.2) ∧ ys.length = fs.size ∧
        ∀ (j : Nat) (f : Field), fs[j]? = some f → ∃ (v : Value) (y : DataW H × List MemPlace), w.cell? (a.add (i * fs.size + j)) = some v ∧ ys[j]? = some y ∧ DataW.trod enc P w base spare held n f.type [v] = some y := by
  rcases open_slice ht h with h0 | ⟨a, len, cap, m, n, D, Pl, hcs, hb, hl, hm, hmm, hx, hi⟩
  · exact .inl h0
  · refine .inr ⟨a, len, cap, m, D, Pl, hcs, hb, hl, hm, hmm, by rw [hC] at hx; exact hx, fun i him => ?_⟩
    obtain ⟨cs', hc, ht'⟩ := hi i him
    rw [hC] at hc
    obtain ⟨ys, n', hn', hy, hlen, hyl, hf⟩ := DataW.trod_struct he ht'
    obtain ⟨_, hcl, hat⟩ := World.cells?_some hc
    simp only [Prod.mk.injEq] at hy
    refine ⟨ys, n', hy.1, hy.2, hyl, fun j f hj => ?_⟩
    obtain ⟨ho, hk⟩ := hone_of hone j f hj
    have hjl : j < fs.size := (Array.getElem?_eq_some_iff.1 hj).1
    have hcell := hat j hjl
    have hv : cs'[j]? = some (cs'[j]'(by omega)) := List.getElem?_eq_getElem (by omega)
    have h1 := hf j f hj
    rw [ho, hk] at h1
    have hone' : (cs'.drop j).take 1 = [cs'[j]'(by omega)] := by
      rw [List.drop_eq_getElem_cons (by omega)]
      rfl
    rw [hone'] at h1
    have hys : ys[j]? = some (ys[j]'(by omega)) := List.getElem?_eq_getElem (by omega)
    refine ⟨_, _, ?_, hys, h1.trans hys⟩
    rw [← Go.Deep.add_add, hcell, hv]
end

theorem pick_all {α : Type} [Inhabited α] {n : Nat} {R : Nat → α → Prop} (h : ∀ i, i < n → ∃ x, R i x) : ∃ f : Nat → α, ∀ i, i < n → R i (f i) := by
  refine ⟨fun i => if hi : i < n then Classical.choose (h i hi) else default, fun i hi => ?_⟩
  dsimp only
  rw [dif_pos hi]
  exact Classical.choose_spec (h i hi)
theorem bytes_back (s : ByteArray) : (⟨s.data.toList.toArray⟩ : ByteArray) = s := by cases s; simp


/-! A term that comes in, as it is read. -/
theorem add_none (g o j : Nat) : (⟨g, o, none⟩ : Addr).add j = ⟨g, o + j, none⟩ := by unfold Addr.add; split <;> simp_all
theorem Tm.flat_inv : ∀ {ts : List Tm} {vs : List Value} {j : Nat} {u : Value}, (Tm.flat ts vs)[j]? = some u →
    ∃ i t a, ts[i]? = some t ∧ vs[i]? = some a ∧ ((j = i * 5 ∧ u = .int .i64 t.kind) ∨ (j = i * 5 + 1 ∧ u = .string ⟨t.name.toArray⟩) ∨ (j = i * 5 + 2 ∧ u = .int .i64 t.num) ∨ (j = i * 5 + 3 ∧ u = a) ∨ (j = i * 5 + 4 ∧ u = .int .i64 t.at_))
  | [], _, j, u, h => by simp [Tm.flat] at h
  | _ :: _, [], j, u, h => by simp [Tm.flat] at h
  | t :: ts, a :: vs, 0, u, h => ⟨0, t, a, rfl, rfl, .inl ⟨rfl, by simpa [Tm.flat] using h.symm⟩⟩
  | t :: ts, a :: vs, 1, u, h => ⟨0, t, a, rfl, rfl, .inr (.inl ⟨rfl, by simpa [Tm.flat] using h.symm⟩)⟩
  | t :: ts, a :: vs, 2, u, h => ⟨0, t, a, rfl, rfl, .inr (.inr (.inl ⟨rfl, by simpa [Tm.flat] using h.symm⟩))⟩
  | t :: ts, a :: vs, 3, u, h => ⟨0, t, a, rfl, rfl, .inr (.inr (.inr (.inl ⟨rfl, by simpa [Tm.flat] using h.symm⟩)))⟩
  | t :: ts, a :: vs, 4, u, h => ⟨0, t, a, rfl, rfl, .inr (.inr (.inr (.inr ⟨rfl, by simpa [Tm.flat] using h.symm⟩)))⟩
  | t :: ts, a :: vs, j + 5, u, h => by
    obtain ⟨i, t', a', h1, h2, h3⟩ := Tm.flat_inv (ts := ts) (vs := vs) (j := j) (u := u) (by simpa [Tm.flat] using h)
    refine ⟨i + 1, t', a', by simpa using h1, by simpa using h2, ?_⟩
    rcases h3 with ⟨e, h⟩ | ⟨e, h⟩ | ⟨e, h⟩ | ⟨e, h⟩ | ⟨e, h⟩
    · exact .inl ⟨by omega, h⟩
    · exact .inr (.inl ⟨by omega, h⟩)
    · exact .inr (.inr (.inl ⟨by omega, h⟩))
    · exact .inr (.inr (.inr (.inl ⟨by omega, h⟩)))
    · exact .inr (.inr (.inr (.inr ⟨by omega, h⟩)))
/-- A term whose names are no longer than a string can be. -/
inductive Tm.Fit : Tm → Prop
  | mk (k : Int) (n : List UInt8) (m : Int) (l : List Tm) (a : Int) (h : n.length ≤ maxLen) (hl : l.length ≤ maxLen) (hs : ∀ t ∈ l, Tm.Fit t) : Tm.Fit (.mk k n m l a)
theorem Tm.Fit.name {t : Tm} (h : Tm.Fit t) : t.name.length ≤ maxLen := by cases h; assumption
theorem Tm.Fit.len {t : Tm} (h : Tm.Fit t) : t.args.length ≤ maxLen := by cases h; assumption
theorem Tm.Fit.args {t : Tm} (h : Tm.Fit t) : ∀ u ∈ t.args, Tm.Fit u := by cases h; assumption
/-- All blocks are there for good. -/
abbrev firm0 : Nat → Nat := fun _ => 0
instance : Inhabited (Tm × Value) := ⟨(Tm.zero, undef)⟩
set_option maxRecDepth 100000 in
theorem open_terms {H : Type} {enc : TypeId × Value → H} {w : World} (N : Nat) : ∀ {d : DataW H} {p : List MemPlace} {fuel : Nat} {v : Value}, SizeOf.sizeOf d < N → DataW.trod enc Tryz.prog w 0 (fun _ => true) true fuel 23 [v] = some (d, p) →
    ∃ l : List Tm, Targs w firm0 v l ∧ l.length ≤ maxLen ∧ ∀ t ∈ l, Tm.Fit t := by
  induction N with
  | zero => intro d p fuel v h; omega
  | succ N ih =>
    intro d p fuel v hN hf
    rcases open_slice_fields Tryz.underlying23 Tryz.underlying32 (by kernel_rfl) (by kernel_rfl) hf with ⟨hcs, hx⟩ | ⟨a, len, cap, m, D, Pl, hcs, _, hl, hm, hmm, hx, hi⟩
    · simp at hcs
      subst hcs
      exact ⟨[], .nil none 0, Nat.zero_le _, fun t ht => by cases ht⟩
    · simp at hcs
      subst hcs
      have hml : len ≤ m := by rw [hmm]; simp; exact hl
      have hd : d = DataW.slice ((List.range len).map D) ((List.range (m - len)).map fun j => D (len + j)) := by
        simp only [Prod.mk.injEq] at hx; exact hx.1
      have hf2 : ∀ i, i < len → ∃ x : Tm × Value, Tm.Fit x.1 ∧ Targs w firm0 x.2 x.1.args ∧ w.cell? (a.add (i * 5 + 0)) = some (.int .i64 x.1.kind) ∧ w.cell? (a.add (i * 5 + 1)) = some (.string ⟨x.1.name.toArray⟩) ∧ w.cell? (a.add (i * 5 + 2)) = some (.int .i64 x.1.num) ∧
          w.cell? (a.add (i * 5 + 3)) = some x.2 ∧ w.cell? (a.add (i * 5 + 4)) = some (.int .i64 x.1.at_) := by
        intro i hlt
        obtain ⟨ys, n, hD, _, hyl, hfs⟩ := hi i (by omega)
        obtain ⟨v0, y0, hc0, _, ht0⟩ := hfs 0 _ rfl
        obtain ⟨v1, y1, hc1, _, ht1⟩ := hfs 1 _ rfl
        obtain ⟨v2, y2, hc2, _, ht2⟩ := hfs 2 _ rfl
        obtain ⟨v3, y3, hc3, hy3, ht3⟩ := hfs 3 _ rfl
        obtain ⟨v4, y4, hc4, _, ht4⟩ := hfs 4 _ rfl
        obtain ⟨k, e0, _, _⟩ := DataW.trod_int Tryz.underlying3 ht0
        obtain ⟨s, e1, _, ws⟩ := DataW.trod_string Tryz.underlying9 ht1
        obtain ⟨q, e2, _, _⟩ := DataW.trod_int Tryz.underlying2 ht2
        obtain ⟨z, e4, _, _⟩ := DataW.trod_int Tryz.underlying3 ht4
        simp at e0 e1 e2 e4
        subst e0 e1 e2 e4
        have hlt3 : SizeOf.sizeOf y3.1 < N := by
          have h1 : y3.1 ∈ ys.map (·.1) := List.mem_map.2 ⟨y3, List.mem_of_getElem? hy3, rfl⟩
          have h2 := List.sizeOf_lt_of_mem h1
          have h3 : D i ∈ (List.range len).map D := List.mem_map.2 ⟨i, by simpa using hlt, rfl⟩
          have h4 := List.sizeOf_lt_of_mem h3
          rw [hd] at hN
          rw [hD] at h4
          simp only [DataW.slice.sizeOf_spec, DataW.agg.sizeOf_spec] at hN h4
          omega
        obtain ⟨l, hl3, hll, hfit⟩ := ih (p := y3.2) hlt3 ht3
        exact ⟨(.mk k s.data.toList q l z, v3), .mk _ _ _ _ _ (by rw [size_data]; exact ws) hll hfit, hl3, hc0, by rw [show Tm.name (.mk k s.data.toList q l z) = s.data.toList from rfl, bytes_back]; exact hc1, hc2, hc3, hc4⟩
      obtain ⟨f, hff⟩ : ∃ f : Nat → Tm × Value, ∀ i, i < len → _ := pick_all (α := Tm × Value) hf2
      by_cases h0 : len = 0
      · subst h0
        exact ⟨[], .nil _ _, Nat.zero_le _, fun t ht => by cases ht⟩
      have hsp : a.spot = none := by
        have h00 := (hff 0 (by omega)).2.2.1
        exact World.cell?_spot (show w.cell? a = _ from h00)
      obtain ⟨g, o, sp⟩ := a
      obtain rfl : sp = none := hsp
      have hlen : ((List.range len).map fun i => (f i).1).length = len := by simp
      have hgl : g < w.heap.size := by
        have h00 := (hff 0 (by omega)).2.2.1
        rw [add_none] at h00
        exact cell_lt h00
      have key : Targs w firm0 (.slice (some ⟨g, o, none⟩) ((List.range len).map fun i => (f i).1).length cap) ((List.range len).map fun i => (f i).1) := by
        refine .mk g o cap _ ((List.range len).map fun i => (f i).2) (by simp) (by rw [hlen]; exact hl) hgl rfl (fun j u hu => ?_) (fun i a t ha ht => ?_)
        · obtain ⟨i, t, a, h1, h2, h3⟩ := Tm.flat_inv hu
          have hlt : i < len := by have := (List.getElem?_eq_some_iff.1 h1).1; rwa [hlen] at this
          rw [List.getElem?_map, List.getElem?_range hlt] at h1 h2
          obtain rfl : (f i).1 = t := by simpa using h1
          obtain rfl : (f i).2 = a := by simpa using h2
          obtain ⟨_, _, c0, c1, c2, c3, c4⟩ := hff i hlt
          rw [add_none] at c0 c1 c2 c3 c4
          rcases h3 with ⟨rfl, rfl⟩ | ⟨rfl, rfl⟩ | ⟨rfl, rfl⟩ | ⟨rfl, rfl⟩ | ⟨rfl, rfl⟩
          · exact c0
          · exact c1
          · exact c2
          · exact c3
          · exact c4
        · have hlt : i < len := by have := (List.getElem?_eq_some_iff.1 ht).1; rwa [hlen] at this
          rw [List.getElem?_map, List.getElem?_range hlt] at ha ht
          obtain rfl : (f i).1 = t := by simpa using ht
          obtain rfl : (f i).2 = a := by simpa using ha
          exact (hff i hlt).2.1
      rw [hlen] at key
      refine ⟨_, key, by rw [hlen]; omega, fun t ht => ?_⟩
      obtain ⟨i, hi2, rfl⟩ := List.mem_map.1 ht
      exact (hff i (by simpa using hi2)).1
theorem five_of_size {cs : Array Value} (h : cs.size = 5) : ∃ a b c d e, cs = #[a, b, c, d, e] := by
  obtain ⟨l⟩ := cs
  match l, h with
  | [a, b, c, d, e], _ => exact ⟨a, b, c, d, e, rfl⟩
set_option maxRecDepth 100000 in
/-- An argument that is a term. -/
theorem open_term {H : Type} {enc : TypeId × Value → H} {w : World} {v : Value} {d : DataW H} {p : List MemPlace} (hv : Value.okWide Tryz.prog w .any 0 32 v) (h : DataW.Trod enc Tryz.prog w 0 (fun _ => true) true 32 v d p) :
    ∃ (t : Tm) (a : Value), v = .agg #[.int .i64 t.kind, .string ⟨t.name.toArray⟩, .int .i64 t.num, a, .int .i64 t.at_] ∧ Targs w firm0 a t.args ∧ Tm.Fit t := by
  obtain ⟨cs, rfl, hsz⟩ := okWide_struct Tryz.underlying32 hv
  obtain ⟨c0, c1, c2, c3, c4, rfl⟩ := five_of_size (hsz.trans (by kernel_rfl))
  obtain ⟨fuel, hf⟩ := h
  obtain ⟨ys, n, _, hx, _, hyl, hfs⟩ := DataW.trod_struct Tryz.underlying32 hf
  have k0 : Tryz.prog.cellsOf 3 = 1 := by kernel_rfl
  have k1 : Tryz.prog.cellsOf 9 = 1 := by kernel_rfl
  have k2 : Tryz.prog.cellsOf 2 = 1 := by kernel_rfl
  have k3 : Tryz.prog.cellsOf 23 = 1 := by kernel_rfl
  have hy : ∀ j, j < 5 → ∃ y, ys[j]? = some y := fun j hj => ⟨_, List.getElem?_eq_getElem (by rw [hyl]; exact hj)⟩
  obtain ⟨y0, h0⟩ := hy 0 (by decide)
  obtain ⟨y1, h1⟩ := hy 1 (by decide)
  obtain ⟨y2, h2⟩ := hy 2 (by decide)
  obtain ⟨y3, h3⟩ := hy 3 (by decide)
  obtain ⟨y4, h4⟩ := hy 4 (by decide)
  have g0 : DataW.trod enc Tryz.prog w 0 (fun _ => true) true n 3 [c0] = some y0 := by
    have := hfs 0 _ rfl
    simp only [k0, h0] at this
    exact this
  have g1 : DataW.trod enc Tryz.prog w 0 (fun _ => true) true n 9 [c1] = some y1 := by
    have := hfs 1 _ rfl
    simp only [k1, h1] at this
    exact this
  have g2 : DataW.trod enc Tryz.prog w 0 (fun _ => true) true n 2 [c2] = some y2 := by
    have := hfs 2 _ rfl
    simp only [k2, h2] at this
    exact this
  have g3 : DataW.trod enc Tryz.prog w 0 (fun _ => true) true n 23 [c3] = some y3 := by
    have := hfs 3 _ rfl
    simp only [k3, h3] at this
    exact this
  have g4 : DataW.trod enc Tryz.prog w 0 (fun _ => true) true n 3 [c4] = some y4 := by
    have := hfs 4 _ rfl
    simp only [k0, h4] at this
    exact this
  obtain ⟨k, e0, _, _⟩ := DataW.trod_int Tryz.underlying3 g0
  obtain ⟨s, e1, _, ws⟩ := DataW.trod_string Tryz.underlying9 g1
  obtain ⟨q, e2, _, _⟩ := DataW.trod_int Tryz.underlying2 g2
  obtain ⟨z, e4, _, _⟩ := DataW.trod_int Tryz.underlying3 g4
  simp at e0 e1 e2 e4
  subst e0 e1 e2 e4
  obtain ⟨l, hl, hll, hfit⟩ := open_terms _ (p := y3.2) (Nat.lt_succ_self _) g3
  exact ⟨.mk k s.data.toList q l z, c3, by rw [show Tm.name (.mk k s.data.toList q l z) = s.data.toList from rfl, bytes_back]; rfl, hl, .mk _ _ _ _ _ (by rw [size_data]; exact ws) hll hfit⟩
end Go.Proofs.YtaefonagbcnmdaaGreatDoor

namespace Go.Proofs.YtaefonagbcnmdaaGreatDoor
open Go.RowKit

/-! The law's weight of terms. -/
def Tm.heft (t : Tm) : Int := 1 + (t.name.length : Int) / 8
mutual
def Tm.wloop : Int → Int → List Tm → Int
  | _, n, [] => n
  | most, n, t :: ts => if n ≤ most then Tm.wloop most (Tm.wone most n t) ts else n
def Tm.wone : Int → Int → Tm → Int
  | most, n, .mk k nm m ts p => if n + Tm.heft (.mk k nm m ts p) ≤ most then (n + Tm.heft (.mk k nm m ts p)) + Tm.wloop (most - (n + Tm.heft (.mk k nm m ts p))) 0 ts else n + Tm.heft (.mk k nm m ts p)
end
theorem Tm.wone_eq (most n : Int) (t : Tm) : Tm.wone most n t = if n + Tm.heft t ≤ most then (n + Tm.heft t) + Tm.wloop (most - (n + Tm.heft t)) 0 t.args else n + Tm.heft t := by
  cases t; rw [Tm.wone]; rfl
theorem Tm.heft_pos (t : Tm) : 1 ≤ Tm.heft t := by unfold Tm.heft; omega
def Tm.maxHeft : Int := 1152921504606846976
theorem Tm.Fit.heft {t : Tm} (h : Tm.Fit t) : Tm.heft t ≤ Tm.maxHeft := by
  have := h.name
  unfold maxLen at this
  unfold Tm.heft Tm.maxHeft
  omega
/-- What the weight says: bounds, and, where it is small, the number of terms. -/
theorem Tm.wloop_all (N : Nat) : ∀ (l : List Tm), Tm.sizs l < N → ∀ (most n : Int), 0 ≤ n → n ≤ Tm.wloop most n l ∧ (Tm.wloop most n l ≤ most → n + Tm.sizs l ≤ Tm.wloop most n l) ∧
    ((∀ t ∈ l, Tm.Fit t) → Tm.wloop most n l ≤ max n (most + Tm.maxHeft)) := by
  have hM : (0 : Int) ≤ Tm.maxHeft := by decide
  induction N with
  | zero => intro l h; omega
  | succ N ih =>
    intro l
    induction l with
    | nil => intro _ most n hn; rw [Tm.wloop, Tm.sizs]; exact ⟨Int.le_refl _, fun h => by omega, fun _ => by omega⟩
    | cons t ts iht =>
      intro hN most n hn
      rw [Tm.sizs, Tm.siz_eq] at hN
      rw [Tm.wloop, Tm.sizs, Tm.siz_eq]
      have hh := Tm.heft_pos t
      by_cases h1 : n ≤ most
      · rw [if_pos h1, Tm.wone_eq]
        by_cases h2 : n + Tm.heft t ≤ most
        · rw [if_pos h2]
          obtain ⟨a1, a2, a3⟩ := ih t.args (by omega) (most - (n + Tm.heft t)) 0 (Int.le_refl _)
          obtain ⟨b1, b2, b3⟩ := iht (by omega) most (n + Tm.heft t + Tm.wloop (most - (n + Tm.heft t)) 0 t.args) (by omega)
          refine ⟨by omega, fun h => ?_, fun hf => ?_⟩
          · have := a2 (by omega)
            have := b2 h
            omega
          · have h3 := a3 (hf t (List.mem_cons_self ..)).args
            have h4 := b3 (fun u hu => hf u (List.mem_cons_of_mem _ hu))
            omega
        · rw [if_neg h2]
          obtain ⟨b1, b2, b3⟩ := iht (by omega) most (n + Tm.heft t) (by omega)
          refine ⟨by omega, fun h => by omega, fun hf => ?_⟩
          have h3 := (hf t (List.mem_cons_self ..)).heft
          have h4 := b3 (fun u hu => hf u (List.mem_cons_of_mem _ hu))
          omega
      · rw [if_neg h1]
        exact ⟨Int.le_refl _, fun h => absurd h h1, fun _ => by omega⟩
theorem Tm.wloop_drop {l : List Tm} {k : Nat} {t : Tm} (h : l[k]? = some t) (most n : Int) : Tm.wloop most n (l.drop k) = if n ≤ most then Tm.wloop most (Tm.wone most n t) (l.drop (k + 1)) else n := by
  obtain ⟨hk, rfl⟩ := List.getElem?_eq_some_iff.1 h
  rw [List.drop_eq_getElem_cons hk, Tm.wloop]
theorem Tm.sizs_mem {l : List Tm} {t : Tm} (h : t ∈ l) : Tm.siz t ≤ Tm.sizs l := by
  obtain ⟨i, hi⟩ := List.getElem?_of_mem h
  exact Tm.sizs_get hi
set_option maxRecDepth 100000 in
set_option maxHeartbeats 4000000 in
theorem Weight_any (N : Nat) : ∀ (l : List Tm) (v : Value) (κ : Nat → Nat) (most : Int) (w : World), Tm.sizs l < N → Targs w κ v l → (∀ t ∈ l, Tm.Fit t) → l.length ≤ maxLen → 0 ≤ most → most ≤ 1000 →
    Calls Tryz.prog 35 #[v, .int .i64 most] w fun e w' => e = .returned (.int .i64 (Tm.wloop most 0 l)) ∧ w' = w := by
  induction N with
  | zero => intro l v κ most w h; omega
  | succ N ih =>
    intro l v κ most w hN hT hF hlen hm0 hm1
    obtain ⟨A, cap, rfl⟩ := hT.form
    have HIH := Lib.hid ih
    have HT := Lib.hid hT
    have HF := Lib.hid hF
    obtain ⟨R, hR⟩ : ∃ R, Tm.wloop most 0 l = R := ⟨_, rfl⟩
    rw [hR]
    have HR := Lib.hid hR
    unfold maxLen at hlen
    clear ih hT hF hR
    go_enter Tryz.func35, Tryz.ntmps35
    go_wp2_with fail
    go_loopw [5, 6] (fun nv i wr => ∃ (k : Nat) (n : Int), nv = .int .i64 n ∧ i = .int .i64 k ∧ k ≤ l.length ∧ Hid (wr = w) ∧ 0 ≤ n ∧ Hid (Tm.wloop most n (l.drop k) = R)) (fun _ i _ => l.length - (intOf i).toNat)
    case atStart => exact ⟨0, 0, by go_num, by go_num, Nat.zero_le _, Lib.hid rfl, Int.le_refl _, HR⟩
    case round =>
      obtain ⟨k, n, rfl, rfl, hk, HW, hn0, HD⟩ := hrel
      obtain rfl := HW.out
      by_cases hkl : k < l.length
      · obtain ⟨t, ht⟩ : ∃ t, l[k]? = some t := ⟨_, List.getElem?_eq_getElem hkl⟩
        have htm : t ∈ l := List.mem_of_getElem? ht
        obtain ⟨g, o, a, hA, hcap, hg, hkg, hta, c0, c1, c2, c3, c4⟩ := HT.out.elem ht
        subst hA
        obtain ⟨Aa, ca, rfl⟩ := hta.form
        have hfit := HF.out t htm
        have hnm := hfit.name
        have hft := hfit.heft
        have hfp := Tm.heft_pos t
        have hsz := Tm.sizs_mem htm
        rw [Tm.siz_eq] at hsz
        have hdr := Tm.wloop_drop ht most n
        rw [HD.out, Tm.wone_eq] at hdr
        have hww := Tm.wloop_all (Tm.sizs t.args + 1) t.args (by omega) (most - (n + Tm.heft t)) 0 (Int.le_refl _)
        have hwb := hww.2.2 hfit.args
        have hw0 := hww.1
        have HI2 := HIH.out t.args _ κ (most - (n + Tm.heft t)) wr (by omega) hta hfit.args hfit.len
        have hk2 : (k : Int) < (l.length : Int) := by omega
        have hq : (t.name.length : Int).tdiv 8 = (t.name.length : Int) / 8 := by rw [Int.tdiv_eq_ediv_of_nonneg (by omega)]
        have hh : Tm.heft t = 1 + (t.name.length : Int) / 8 := rfl
        have hM : Tm.maxHeft = 1152921504606846976 := rfl
        rw [hM] at hft hwb
        rw [hh] at hdr HI2 hwb hw0 hft hfp
        unfold maxLen at hnm
        clear c0 c2 c4 hkg hta hfit hsz hww hh hM
        by_cases hn1 : n ≤ most
        · rw [if_pos hn1] at hdr
          by_cases hn2 : n + (1 + (t.name.length : Int) / 8) ≤ most
          · rw [if_pos hn2] at hdr
            have HI3 := Lib.hid (HI2 (by omega) (by omega))
            obtain ⟨r, hr⟩ : ∃ r, Tm.wloop (most - (n + (1 + (t.name.length : Int) / 8))) 0 t.args = r := ⟨_, rfl⟩
            rw [hr] at HI3 hdr hwb hw0
            have HDR := Lib.hid hdr
            clear HI2 hr hdr
            go_wp2_with fail
            refine HI3.out.mono ?_
            rintro e w5 ⟨rfl, rfl⟩
            go_wp2_with fail
            go_roundw
            case rel => exact ⟨k + 1, _, rfl, by go_num, by omega, Lib.hid (by first | rfl | trivial), by omega, Lib.hid HDR.out.symm⟩
            case measure => simp [intOf]; omega
          · rw [if_neg hn2] at hdr
            have HDR := Lib.hid hdr
            clear HI2 hdr
            go_wp2_with fail
            go_roundw
            case rel => exact ⟨k + 1, _, rfl, by go_num, by omega, Lib.hid (by first | rfl | trivial), by omega, Lib.hid HDR.out.symm⟩
            case measure => simp [intOf]; omega
        · rw [if_neg hn1] at hdr
          have HDR := Lib.hid hdr
          clear HI2 hdr
          go_wp2_with fail
          go_ret
          exact ⟨ret_int HDR.out.symm, rfl⟩
      · have hres : n = R := by
          have := HD.out
          rw [List.drop_of_length_le (by omega), Tm.wloop] at this
          exact this
        have HM := Lib.hid hres
        have hk3 : ¬ (k : Int) < (l.length : Int) := by omega
        clear hres
        go_wp2_with fail
        go_ret
        exact ⟨ret_int HM.out, rfl⟩
set_option maxRecDepth 100000 in
theorem Large_any (l : List Tm) (v : Value) {κ : Nat → Nat} (w : World) (hT : Targs w κ v l) (hF : ∀ t ∈ l, Tm.Fit t) (hl : l.length ≤ maxLen) :
    Calls Tryz.prog 15 #[v] w fun e w' => e = .returned (.bool (decide (1000 < Tm.wloop 1000 0 l))) ∧ w' = w := by
  have hw := Weight_any _ l v κ 1000 w (Nat.lt_succ_self _) hT hF hl (by omega) (by omega)
  obtain ⟨r, hr⟩ : ∃ r, Tm.wloop 1000 0 l = r := ⟨_, rfl⟩
  rw [hr] at hw ⊢
  obtain ⟨A, cap, rfl⟩ := hT.form
  clear hr
  cases hb : decide (1000 < r)
  · have hb2 : ¬ 1000 < r := of_decide_eq_false hb
    go_enter Tryz.func15, Tryz.ntmps15
    go_wp2_with fail
    refine hw.mono ?_
    rintro e w5 ⟨rfl, rfl⟩
    go_wp2_with fail
    go_ret
    exact ⟨rfl, rfl⟩
  · have hb2 : 1000 < r := of_decide_eq_true hb
    go_enter Tryz.func15, Tryz.ntmps15
    go_wp2_with fail
    refine hw.mono ?_
    rintro e w5 ⟨rfl, rfl⟩
    go_wp2_with fail
    go_ret
    exact ⟨rfl, rfl⟩
/-- Terms that are not large are few. -/
theorem Tm.few {l : List Tm} (h : decide (1000 < Tm.wloop 1000 0 l) = false) : Tm.sizs l ≤ 1000 := by
  have h1 : ¬ 1000 < Tm.wloop 1000 0 l := of_decide_eq_false h
  have := (Tm.wloop_all (Tm.sizs l + 1) l (by omega) 1000 0 (Int.le_refl _)).2.1 (by omega)
  omega
end Go.Proofs.YtaefonagbcnmdaaGreatDoor

namespace Go.Proofs.YtaefonagbcnmdaaGreatDoor
open Go.RowKit Go.Shelf

/-! Whether two terms are the same, but for places. -/
mutual
def Tm.same : Tm → Tm → Bool
  | .mk k n m ts _, .mk k' n' m' ts' _ => k == k' && n == n' && m == m' && Tm.sames ts ts'
def Tm.sames : List Tm → List Tm → Bool
  | [], [] => true
  | a :: l, b :: l' => Tm.same a b && Tm.sames l l'
  | [], _ :: _ => false
  | _ :: _, [] => false
end
theorem Tm.same_eq (a b : Tm) : Tm.same a b = (a.kind == b.kind && a.name == b.name && a.num == b.num && Tm.sames a.args b.args) := by
  cases a; cases b; rw [Tm.same]; rfl
theorem Tm.sames_len : ∀ (l l' : List Tm), l.length ≠ l'.length → Tm.sames l l' = false
  | [], [], h => absurd rfl h
  | a :: l, b :: l', h => by rw [Tm.sames, Tm.sames_len l l' (by simpa using h), Bool.and_false]
  | [], _ :: _, _ => by rw [Tm.sames]
  | _ :: _, [], _ => by rw [Tm.sames]
/-- A pair of terms that are still to be compared, with their places. -/
structure Tm.Q where
  a : Tm
  aa : Addr
  b : Tm
  ba : Addr
def Tm.qcells : List Tm.Q → List Value
  | [] => []
  | e :: es => Tm.qcells es ++ [.pointer (some e.aa), .pointer (some e.ba)]
theorem Tm.qcells_len (es : List Tm.Q) : (Tm.qcells es).length = es.length * 2 := by
  induction es with
  | nil => rfl
  | cons e es ih => rw [Tm.qcells, List.length_append, ih, List.length_cons]; simp; omega
def Tm.qsame : List Tm.Q → Bool
  | [] => true
  | e :: es => Tm.same e.a e.b && Tm.qsame es
def Tm.qsize : List Tm.Q → Nat
  | [] => 0
  | e :: es => Tm.siz e.a + Tm.qsize es
theorem Tm.qsame_append (l r : List Tm.Q) : Tm.qsame (l ++ r) = (Tm.qsame l && Tm.qsame r) := by
  induction l with
  | nil => rfl
  | cons e es ih => rw [List.cons_append, Tm.qsame, ih, Tm.qsame, Bool.and_assoc]
theorem Tm.qsize_append (l r : List Tm.Q) : Tm.qsize (l ++ r) = Tm.qsize l + Tm.qsize r := by
  induction l with
  | nil => simp [Tm.qsize]
  | cons e es ih => rw [List.cons_append, Tm.qsize, ih, Tm.qsize]; omega
theorem Tm.qsize_len (l : List Tm.Q) : l.length ≤ Tm.qsize l := by
  induction l with
  | nil => simp
  | cons e l ih => rw [Tm.qsize, List.length_cons]; have := Tm.siz_pos e.a; omega
/-- The arguments of two terms, in pairs. -/
def Tm.qkids (g o g' o' : Nat) : Nat → List Tm → List Tm → List Tm.Q
  | i, t :: ts, u :: us => ⟨t, ⟨g, o + i * 5, none⟩, u, ⟨g', o' + i * 5, none⟩⟩ :: Tm.qkids g o g' o' (i + 1) ts us
  | _, _, _ => []
theorem Tm.qkids_all (g o g' o' : Nat) : ∀ (i : Nat) (ts us : List Tm), ts.length = us.length →
    (Tm.qkids g o g' o' i ts us).length = ts.length ∧ Tm.qsame (Tm.qkids g o g' o' i ts us) = Tm.sames ts us ∧ Tm.qsize (Tm.qkids g o g' o' i ts us) = Tm.sizs ts
  | i, [], [], _ => ⟨rfl, by rw [Tm.qkids, Tm.qsame, Tm.sames]; simp, by simp [Tm.qkids, Tm.qsize, Tm.sizs]⟩
  | i, t :: ts, u :: us, h => by
    obtain ⟨h1, h2, h3⟩ := Tm.qkids_all g o g' o' (i + 1) ts us (by simpa using h)
    exact ⟨by rw [Tm.qkids, List.length_cons, h1, List.length_cons], by rw [Tm.qkids, Tm.qsame, h2, Tm.sames], by rw [Tm.qkids, Tm.qsize, h3, Tm.sizs]⟩
  | i, [], _ :: _, h => by simp at h
  | i, _ :: _, [], h => by simp at h
theorem Tm.qkids_get (g o g' o' : Nat) : ∀ (i j : Nat) (ts us : List Tm) (t u : Tm), ts[j]? = some t → us[j]? = some u → (Tm.qkids g o g' o' i ts us)[j]? = some ⟨t, ⟨g, o + (i + j) * 5, none⟩, u, ⟨g', o' + (i + j) * 5, none⟩⟩
  | i, j, [], us, t, u, h, _ => by simp at h
  | i, j, _ :: _, [], t, u, _, h => by simp at h
  | i, 0, x :: ts, y :: us, t, u, h, h' => by simp at h h'; subst h; subst h'; rfl
  | i, j + 1, x :: ts, y :: us, t, u, h, h' => by
    rw [Tm.qkids, List.getElem?_cons_succ, Tm.qkids_get g o g' o' (i + 1) j ts us t u (by simpa using h) (by simpa using h'), show i + 1 + j = i + (j + 1) by omega]
/-- An element of a slice of terms, as a term in memory. -/
theorem Targs.at_ {w : World} {κ : Nat → Nat} {g o n cap : Nat} {l : List Tm} (h : Targs w κ (.slice (some ⟨g, o, none⟩) n cap) l) {k : Nat} {t : Tm} (ht : l[k]? = some t) : TmAt w κ ⟨g, o + k * 5, none⟩ t ∧ κ g = 0 := by
  obtain ⟨g', o', a, hA, _, hg, hk, hta, c0, c1, c2, c3, c4⟩ := h.elem ht
  rw [Option.some.injEq, Addr.mk.injEq] at hA
  obtain ⟨rfl, rfl, -⟩ := hA
  refine ⟨⟨rfl, hg, a, hta, fun j u hu => ?_⟩, hk⟩
  match j, hu with
  | 0, hu => cases hu; exact c0
  | 1, hu => cases hu; exact c1
  | 2, hu => cases hu; exact c2
  | 3, hu => cases hu; exact c3
  | 4, hu => cases hu; exact c4
theorem Tm.qkids_at {w : World} {κ : Nat → Nat} {g o n c g' o' n' c' : Nat} {ts us : List Tm} (h : Targs w κ (.slice (some ⟨g, o, none⟩) n c) ts) (h' : Targs w κ (.slice (some ⟨g', o', none⟩) n' c') us) (hl : ts.length = us.length) :
    ∀ e ∈ Tm.qkids g o g' o' 0 ts us, TmAt w κ e.aa e.a ∧ κ e.aa.block = 0 ∧ TmAt w κ e.ba e.b ∧ κ e.ba.block = 0 := by
  intro e he
  obtain ⟨j, hj⟩ := List.getElem?_of_mem he
  have hlt : j < ts.length := by
    have := (List.getElem?_eq_some_iff.1 hj).1
    rwa [(Tm.qkids_all g o g' o' 0 ts us hl).1] at this
  have ht : ts[j]? = some ts[j] := List.getElem?_eq_getElem hlt
  have hu : us[j]? = some us[j] := List.getElem?_eq_getElem (by omega)
  rw [Tm.qkids_get g o g' o' 0 j ts us _ _ ht hu, Option.some.injEq, Nat.zero_add] at hj
  subst hj
  obtain ⟨x1, x2⟩ := h.at_ ht
  obtain ⟨y1, y2⟩ := h'.at_ hu
  exact ⟨x1, x2, y1, y2⟩
/-- Between two rounds. -/
def SameI (κ : Nat → Nat) (N0 M : Nat) (R : Bool) (w0 : World) (m : Nat) (sv : Value) (w : World) : Prop :=
  ∃ st : List Tm.Q, w.ownsRow N0 68 2 sv st.length (Tm.qcells st) ∧ Tm.qsame st = R ∧ Tm.qsize st = m ∧ m ≤ M ∧ Below N0 w0 w ∧ N0 ≤ w.heap.size ∧
    ∀ e ∈ st, TmAt w0 κ e.aa e.a ∧ κ e.aa.block = 0 ∧ TmAt w0 κ e.ba e.b ∧ κ e.ba.block = 0
theorem info_pair : (Tryz.prog.info? 68).map (fun i => (i.zero, i.size, i.bytes)) = some (some (.agg #[.pointer none, .pointer none]), 2, 16) := by kernel_rfl
theorem pair_row {W : World} {N0 k : Nat} {te : TypeId} {v : Value} {kids rest : List Tm.Q} {e : Tm.Q} (hk : kids[k]? = some e)
    (h : W.ownsRow N0 te 2 v ((kids.drop (k + 1) ++ rest).length + 1) (Tm.qcells (kids.drop (k + 1) ++ rest) ++ [.pointer (some e.aa), .pointer (some e.ba)])) :
    W.ownsRow N0 te 2 v (kids.drop k ++ rest).length (Tm.qcells (kids.drop k ++ rest)) := by
  obtain ⟨hlt, rfl⟩ := List.getElem?_eq_some_iff.1 hk
  rw [List.drop_eq_getElem_cons hlt, List.cons_append, Tm.qcells, List.length_cons]
  exact h
end Go.Proofs.YtaefonagbcnmdaaGreatDoor

namespace Go.Proofs.YtaefonagbcnmdaaGreatDoor
open Go.RowKit Go.Shelf

set_option maxRecDepth 100000 in
set_option maxHeartbeats 4000000 in
theorem Same_any (ta tb : Tm) (va vb : Value) {κ0 : Nat → Nat} (w : World) (ha : Targs w κ0 va ta.args) (hb : Targs w κ0 vb tb.args) (hsz : Tm.siz ta ≤ 1099511627776) :
    Calls Tryz.prog 26 #[.agg #[.int .i64 ta.kind, .string ⟨ta.name.toArray⟩, .int .i64 ta.num, va, .int .i64 ta.at_], .agg #[.int .i64 tb.kind, .string ⟨tb.name.toArray⟩, .int .i64 tb.num, vb, .int .i64 tb.at_]] w fun e w' => e = .returned (.bool (Tm.same ta tb)) ∧ Below w.heap.size w w' := by
  obtain ⟨R, hR⟩ : ∃ R, Tm.same ta tb = R := ⟨_, rfl⟩
  rw [hR]
  obtain ⟨κ, hκ⟩ : ∃ κ : Nat → Nat, κ = fun b => if b = w.heap.size ∨ b = w.heap.size + 1 ∨ (b < w.heap.size ∧ κ0 b = 0) then 0 else 1 := ⟨_, rfl⟩
  obtain ⟨w0, hw0⟩ : ∃ w0, ((w.alloc (.cells #[.int .i64 ta.kind, .string ⟨ta.name.toArray⟩, .int .i64 ta.num, va, .int .i64 ta.at_] 32)).alloc (.cells #[.int .i64 tb.kind, .string ⟨tb.name.toArray⟩, .int .i64 tb.num, vb, .int .i64 tb.at_] 32)) = w0 := ⟨_, rfl⟩
  have hz0 : w0.heap.size = w.heap.size + 2 := by rw [← hw0]; simp
  have hB0 : Below w.heap.size w w0 := by rw [← hw0]; exact ((Below.refl _ w).alloc (Nat.le_refl _) _).alloc (by simp) _
  have hrec : ∀ {v ts}, Targs w κ0 v ts → Targs w0 κ v ts := fun h => (h.recolor_lt (κ' := κ) (fun b hb hk => by rw [hκ]; exact if_pos (.inr (.inr ⟨hb, hk⟩)))).firm ⟨by omega, fun b hb _ => hB0.block b hb⟩
  have hka : κ w.heap.size = 0 := by rw [hκ]; exact if_pos (.inl rfl)
  have hkb : κ (w.heap.size + 1) = 0 := by rw [hκ]; exact if_pos (.inr (.inl rfl))
  have hkl : ∀ b, κ b = 0 → b < w.heap.size + 2 := by
    intro b hb
    rw [hκ] at hb
    simp only at hb
    split at hb
    · omega
    · cases hb
  have hta : TmAt w0 κ ⟨w.heap.size, 0, none⟩ ta := ⟨rfl, by simp only; omega, va, hrec ha, fun j u hu => by
    have h1 := new_cells w [.int .i64 ta.kind, .string ⟨ta.name.toArray⟩, .int .i64 ta.num, va, .int .i64 ta.at_] 32 j u hu
    rw [addr_add0] at h1
    have h2 := ((Below.refl _ (w.alloc (.cells #[.int .i64 ta.kind, .string ⟨ta.name.toArray⟩, .int .i64 ta.num, va, .int .i64 ta.at_] 32))).alloc (Nat.le_refl _) (.cells #[.int .i64 tb.kind, .string ⟨tb.name.toArray⟩, .int .i64 tb.num, vb, .int .i64 tb.at_] 32)).cell (p := ⟨w.heap.size, j, none⟩) (by simp)
    rw [hw0] at h2
    simpa using h2.trans h1⟩
  have htb : TmAt w0 κ ⟨w.heap.size + 1, 0, none⟩ tb := ⟨rfl, by simp only; omega, vb, hrec hb, fun j u hu => by
    have h1 := new_cells (w.alloc (.cells #[.int .i64 ta.kind, .string ⟨ta.name.toArray⟩, .int .i64 ta.num, va, .int .i64 ta.at_] 32)) [.int .i64 tb.kind, .string ⟨tb.name.toArray⟩, .int .i64 tb.num, vb, .int .i64 tb.at_] 32 j u hu
    rw [addr_add0, World.size_alloc] at h1
    rw [← hw0]
    simpa using h1⟩
  have hstart : SameI κ w0.heap.size 1099511627776 R w0 (Tm.siz ta) (.slice (some ⟨w0.heap.size, 0, none⟩) 1 1) (w0.alloc (.cells #[.pointer (some ⟨w.heap.size, 0, none⟩), .pointer (some ⟨w.heap.size + 1, 0, none⟩)] 68)) := by
    refine ⟨[⟨ta, ⟨w.heap.size, 0, none⟩, tb, ⟨w.heap.size + 1, 0, none⟩⟩], ⟨rfl, .inr ⟨w0.heap.size, 1, _, rfl, Nat.le_refl _, World.alloc_heap_new _ _, Nat.le_refl _, by unfold maxLen; omega, rfl, rfl⟩⟩, by simp [Tm.qsame, hR], by simp [Tm.qsize], hsz, (Below.refl _ w0).alloc (Nat.le_refl _) _, by simp, ?_⟩
    intro e he
    rw [List.mem_singleton] at he
    subst he
    exact ⟨hta, hka, htb, hkb⟩
  have HS := Lib.hid hstart
  have HZ0 := Lib.hid hz0
  have HB0 := Lib.hid hB0
  have HKL := Lib.hid (show ∀ b, κ b = 0 → b < w0.heap.size from fun b hb => by rw [hz0]; exact hkl b hb)
  obtain ⟨A1, k1, rfl⟩ := ha.form
  obtain ⟨A2, k2, rfl⟩ := hb.form
  clear hstart hta htb hrec hka hkb hkl hκ hz0 hB0 ha hb hsz hR
  go_enter Tryz.func26, Tryz.ntmps26
  go_wp2_with fail
  clear hw0
  go_loopw [5] (fun sv wr => ∃ m, SameI κ w0.heap.size 1099511627776 R w0 m sv wr) (fun sv wr => least (fun m => SameI κ w0.heap.size 1099511627776 R w0 m sv wr))
  case atStart => exact ⟨_, HS.out⟩
  case round =>
    clear HS
    have hleast := least_spec hrel
    generalize hμ : least _ = μ at hleast
    have HMU := Lib.hid hμ
    clear hμ hrel
    obtain ⟨st, ho, hK, hm, hmM, hBr, hNr, hst⟩ := hleast
    obtain ⟨Aq, cap, hsv⟩ := own_slice ho
    subst hsv
    cases st with
    | nil =>
      have HRT := Lib.hid (show R = true from hK.symm)
      have HBR := Lib.hid hBr
      clear hK ho hst hm hBr
      go_wp2_with fail
      go_ret
      exact ⟨by rw [HRT.out]; rfl, HB0.out.trans (HBR.out.mono HB0.out.size)⟩
    | cons e rest =>
      obtain ⟨ea, aad, eb, bad⟩ := e
      obtain ⟨hat, hka, hbt, hkb⟩ := hst ⟨ea, aad, eb, bad⟩ (by simp)
      obtain ⟨ab, ao, asp⟩ := aad
      obtain ⟨bb, bo, bsp⟩ := bad
      obtain ⟨hsp1, hbl1, v1, hv1, hc1⟩ := hat
      obtain ⟨hsp2, hbl2, v2, hv2, hc2⟩ := hbt
      simp only at hsp1 hsp2 hbl1 hbl2 hka hkb hv1 hv2 hc1 hc2
      subst hsp1
      subst hsp2
      obtain ⟨q, cap', hq⟩ := own_form2 ho
      simp only [List.length_cons] at hq
      rw [Value.slice.injEq] at hq
      obtain ⟨rfl, -, rfl⟩ := hq
      obtain ⟨A1', ca1, rfl⟩ := hv1.form
      obtain ⟨A2', ca2, rfl⟩ := hv2.form
      have hcs := fun j u hu => ho.cells (g := q) rfl j u hu
      obtain ⟨c0, c1⟩ : wr.cell? ⟨q, rest.length * 2, none⟩ = some (.pointer (some ⟨ab, ao, none⟩)) ∧ wr.cell? ⟨q, rest.length * 2 + 1, none⟩ = some (.pointer (some ⟨bb, bo, none⟩)) := by
        refine ⟨?_, ?_⟩
        · have := hcs (rest.length * 2) (.pointer (some ⟨ab, ao, none⟩)) (by rw [Tm.qcells, List.getElem?_append_right (by rw [Tm.qcells_len]; omega), Tm.qcells_len, Nat.sub_self]; rfl)
          rwa [addr_add0] at this
        · have := hcs (rest.length * 2 + 1) (.pointer (some ⟨bb, bo, none⟩)) (by rw [Tm.qcells, List.getElem?_append_right (by rw [Tm.qcells_len]; omega), Tm.qcells_len, Nat.add_sub_cancel_left]; rfl)
          rwa [addr_add0] at this
      have hcap : rest.length + 1 ≤ cap := by
        rcases ho.2 with ⟨h, _⟩ | ⟨_, _, _, h, _, _, hn, _⟩
        · cases h
        · rw [Value.slice.injEq] at h
          obtain ⟨_, _, rfl⟩ := h
          exact hn
      clear hcs
      have hrl : rest.length ≤ 1099511627776 := by
        have := Tm.qsize_len rest
        rw [Tm.qsize] at hm
        simp only at hm
        omega
      have hab := HKL.out ab hka
      have hbb := HKL.out bb hkb
      have x1 : ∀ j, wr.cell? ⟨ab, j, none⟩ = w0.cell? ⟨ab, j, none⟩ := fun j => World.cell?_of_block (a := ⟨ab, j, none⟩) (hBr.block ab hab)
      have x2 : ∀ j, wr.cell? ⟨bb, j, none⟩ = w0.cell? ⟨bb, j, none⟩ := fun j => World.cell?_of_block (a := ⟨bb, j, none⟩) (hBr.block bb hbb)
      obtain ⟨e0, e1, e2, e3⟩ : wr.cell? ⟨ab, ao, none⟩ = some (.int .i64 ea.kind) ∧ wr.cell? ⟨ab, ao + 1, none⟩ = some (.string ⟨ea.name.toArray⟩) ∧ wr.cell? ⟨ab, ao + 2, none⟩ = some (.int .i64 ea.num) ∧ wr.cell? ⟨ab, ao + 3, none⟩ = some (.slice A1' ea.args.length ca1) :=
        ⟨(x1 _).trans (hc1 0 _ rfl), (x1 _).trans (hc1 1 _ rfl), (x1 _).trans (hc1 2 _ rfl), (x1 _).trans (hc1 3 _ rfl)⟩
      obtain ⟨f0, f1, f2, f3⟩ : wr.cell? ⟨bb, bo, none⟩ = some (.int .i64 eb.kind) ∧ wr.cell? ⟨bb, bo + 1, none⟩ = some (.string ⟨eb.name.toArray⟩) ∧ wr.cell? ⟨bb, bo + 2, none⟩ = some (.int .i64 eb.num) ∧ wr.cell? ⟨bb, bo + 3, none⟩ = some (.slice A2' eb.args.length ca2) :=
        ⟨(x2 _).trans (hc2 0 _ rfl), (x2 _).trans (hc2 1 _ rfl), (x2 _).trans (hc2 2 _ rfl), (x2 _).trans (hc2 3 _ rfl)⟩
      rw [Tm.qsame] at hK
      simp only at hK
      have E3 := Lib.hid (show w0.cell? ⟨ab, ao + 3, none⟩ = some (.slice A1' ea.args.length ca1) from hc1 3 _ rfl)
      have F3 := Lib.hid (show w0.cell? ⟨bb, bo + 3, none⟩ = some (.slice A2' eb.args.length ca2) from hc2 3 _ rfl)
      have HO := Lib.hid ho
      have HV1 := Lib.hid hv1
      have HV2 := Lib.hid hv2
      have HST := Lib.hid hst
      have HBR := Lib.hid hBr
      have HK := Lib.hid hK
      have HM := Lib.hid hm
      clear ho hv1 hv2 hst hBr hK hm hc1 hc2 x1 x2
      simp only [List.length_cons]
      have hix : (rest.length : Int) < ((rest.length + 1 : Nat) : Int) := by omega
      have hix0 : (0 : Int) ≤ (rest.length : Int) := by omega
      go_wp2_with fail
      go_region
      go_wp2_with fail
      cases n1 : (ea.kind != eb.kind) with
      | true =>
        have hrf : R = false := by
          rw [← HK.out, Tm.same_eq]
          have h1 : (ea.kind == eb.kind) = false := by simpa [bne] using n1
          rw [h1]; rfl
        have HRF := Lib.hid hrf
        clear hrf
        go_quiet (fail)
        go_wp2_with fail
        go_ret
        exact ⟨by rw [HRF.out]; rfl, drewN_below (HB0.out.trans (HBR.out.mono HB0.out.size)).drew _⟩
      | false =>
        have m1 : (ea.kind == eb.kind) = true := by simpa [bne] using n1
        have HM1 := Lib.hid m1
        clear m1
        cases n2 : (ea.name == eb.name) with
        | false =>
          have n2' : (ea.name != eb.name) = true := by rw [bne, n2]; rfl
          have hrf : R = false := by
            rw [← HK.out, Tm.same_eq]
            rw [n2, Bool.and_false]; rfl
          have HRF := Lib.hid hrf
          clear hrf
          go_quiet (fail)
          go_wp2_with fail
          go_ret
          exact ⟨by rw [HRF.out]; rfl, drewN_below (HB0.out.trans (HBR.out.mono HB0.out.size)).drew _⟩
        | true =>
          have n2' : (ea.name != eb.name) = false := by rw [bne, n2]; rfl
          cases n3 : (ea.num != eb.num) with
          | true =>
            have hrf : R = false := by
              rw [← HK.out, Tm.same_eq]
              have h1 : (ea.num == eb.num) = false := by simpa [bne] using n3
              rw [h1, Bool.and_false]; rfl
            have HRF := Lib.hid hrf
            clear hrf
            go_quiet (fail)
            go_wp2_with fail
            go_ret
            exact ⟨by rw [HRF.out]; rfl, drewN_below (HB0.out.trans (HBR.out.mono HB0.out.size)).drew _⟩
          | false =>
            have m3 : (ea.num == eb.num) = true := by simpa [bne] using n3
            have HM3 := Lib.hid m3
            clear m3
            cases n4 : ((ea.args.length : Int) != (eb.args.length : Int)) with
            | true =>
              have hrf : R = false := by
                rw [← HK.out, Tm.same_eq]
                have h1 : ea.args.length ≠ eb.args.length := fun e => by rw [e] at n4; simp at n4
                rw [Tm.sames_len _ _ h1, Bool.and_false]; rfl
              have HRF := Lib.hid hrf
              clear hrf
              go_quiet (fail)
              go_wp2_with fail
              go_ret
              exact ⟨by rw [HRF.out]; rfl, drewN_below (HB0.out.trans (HBR.out.mono HB0.out.size)).drew _⟩
            | false =>
              have hll : ea.args.length = eb.args.length := by
                have : (ea.args.length : Int) = (eb.args.length : Int) := by simpa [bne] using n4
                omega
              have hsm : Tm.same ea eb = Tm.sames ea.args eb.args := by rw [Tm.same_eq, HM1.out, n2, HM3.out]; rfl
              have HSM := Lib.hid hsm
              clear hsm
              go_quiet (fail)
              have e3' : (wr.drew.drewN nq).cell? ⟨ab, ao + 3, none⟩ = some (.slice A1' ea.args.length ca1) := e3
              have f3' : (wr.drew.drewN nq).cell? ⟨bb, bo + 3, none⟩ = some (.slice A2' eb.args.length ca2) := f3
              have hpop : (wr.drew.drewN nq).ownsRow w0.heap.size 68 2 (.slice (some ⟨q, 0, none⟩) rest.length cap) rest.length (Tm.qcells rest) := ownsRow_pop (Tm.qcells_len rest) HO.out
              have hBD : Below w0.heap.size w0 (wr.drew.drewN nq) := drewN_below HBR.out.drew _
              have hND : w0.heap.size ≤ (wr.drew.drewN nq).heap.size := hNr
              clear e0 e1 e2 e3 f0 f1 f2 f3 c0 c1
              generalize wr.drew.drewN nq = W3 at *
              have HPOP := Lib.hid hpop
              have HBD := Lib.hid hBD
              clear n1 n2 n2' n3 n4 hpop hBD HO HM1 HM3
              have hrst : ∀ e ∈ rest, TmAt w0 κ e.aa e.a ∧ κ e.aa.block = 0 ∧ TmAt w0 κ e.ba e.b ∧ κ e.ba.block = 0 := fun e he => HST.out e (List.mem_cons_of_mem _ he)
              have HRST := Lib.hid hrst
              clear hrst HST
              have hal : ea.args.length ≤ 1099511627776 := by
                have h1 := Tm.sizs_len ea.args
                have h2 := Tm.siz_eq ea
                have h3 := HM.out
                rw [Tm.qsize] at h3
                simp only at h3
                omega
              go_wp2_with fail
              obtain ⟨g, o, hA⟩ : ∃ g o, ea.args = [] ∨ A1' = some ⟨g, o, none⟩ := by
                have h1 : ∀ v ts, Targs w0 κ v ts → ts = [] ∨ ∃ g o m c, v = .slice (some ⟨g, o, none⟩) m c := by
                  intro v ts h
                  cases h with
                  | nil => exact .inl rfl
                  | mk g o => exact .inr ⟨g, o, _, _, rfl⟩
                rcases h1 _ _ HV1.out with h | ⟨g, o, m, c, h⟩
                · exact ⟨0, 0, .inl h⟩
                · rw [Value.slice.injEq] at h
                  exact ⟨g, o, .inr h.1⟩
              obtain ⟨g', o', hA'⟩ : ∃ g o, eb.args = [] ∨ A2' = some ⟨g, o, none⟩ := by
                have h1 : ∀ v ts, Targs w0 κ v ts → ts = [] ∨ ∃ g o m c, v = .slice (some ⟨g, o, none⟩) m c := by
                  intro v ts h
                  cases h with
                  | nil => exact .inl rfl
                  | mk g o => exact .inr ⟨g, o, _, _, rfl⟩
                rcases h1 _ _ HV2.out with h | ⟨g, o, m, c, h⟩
                · exact ⟨0, 0, .inl h⟩
                · rw [Value.slice.injEq] at h
                  exact ⟨g, o, .inr h.1⟩
              obtain ⟨kids, hkids⟩ : ∃ ks, Tm.qkids g o g' o' 0 ea.args eb.args = ks := ⟨_, rfl⟩
              have hall := Tm.qkids_all g o g' o' 0 ea.args eb.args hll
              rw [hkids] at hall
              have HKA := Lib.hid (show ∀ e ∈ kids, TmAt w0 κ e.aa e.a ∧ κ e.aa.block = 0 ∧ TmAt w0 κ e.ba e.b ∧ κ e.ba.block = 0 from by
                rw [← hkids]
                rcases hA with h | rfl
                · rw [h]; intro e he; rw [Tm.qkids] at he; cases he; intro x1 x2 x3 x4 h; cases h
                · rcases hA' with h | rfl
                  · have : ea.args = [] := List.eq_nil_of_length_eq_zero (by rw [hll, h]; rfl)
                    rw [this]; intro e he; rw [Tm.qkids] at he; cases he; intro x1 x2 x3 x4 h; cases h
                  · exact Tm.qkids_at HV1.out HV2.out hll)
              have hklen : kids.length = ea.args.length := hall.1
              have HKS := Lib.hid hall.2.1
              have HKZ := Lib.hid hall.2.2
              have HKI := Lib.hid hkids
              have HLL := Lib.hid hll
              clear hall hkids hll
              go_loopw [5, 9] (fun sv i w4 => ∃ k : Nat, i = .int .i64 ((k : Int) - 1) ∧ k ≤ ea.args.length ∧ Hid (w4.ownsRow w0.heap.size 68 2 sv (kids.drop k ++ rest).length (Tm.qcells (kids.drop k ++ rest))) ∧ Hid (Below w0.heap.size w0 w4) ∧ Hid (w0.heap.size ≤ w4.heap.size))
                (fun _ i _ => (intOf i + 1).toNat)
              case atStart =>
                have hd : kids.drop ea.args.length ++ rest = rest := by rw [List.drop_eq_nil_of_le (by omega), List.nil_append]
                exact ⟨ea.args.length, by rw [HLL.out], Nat.le_refl _, Lib.hid (by rw [hd]; exact HPOP.out), HBD, Lib.hid hND⟩
              case round =>
                obtain ⟨k, rfl, hkl, HO4, HB4, HZ4⟩ := hrel
                cases k with
                | zero =>
                  have hse := Tm.siz_eq ea
                  have hW : SameI κ w0.heap.size 1099511627776 R w0 (Tm.sizs ea.args + Tm.qsize rest) u5 wr := by
                    have hm := HM.out
                    rw [Tm.qsize] at hm
                    simp only at hm
                    refine ⟨kids.drop 0 ++ rest, HO4.out, ?_, ?_, by omega, HB4.out, HZ4.out, ?_⟩
                    · rw [List.drop_zero, Tm.qsame_append, HKS.out, ← HSM.out]
                      exact HK.out
                    · rw [List.drop_zero, Tm.qsize_append, HKZ.out]
                    · intro e he
                      rw [List.drop_zero] at he
                      rcases List.mem_append.1 he with he | he
                      · exact HKA.out e he
                      · exact HRST.out e he
                  have hlt : Tm.sizs ea.args + Tm.qsize rest < μ := by
                    have hm := HM.out
                    rw [Tm.qsize] at hm
                    simp only at hm
                    omega
                  have HW := Lib.hid hW
                  have HLT := Lib.hid hlt
                  clear hW hlt hse
                  go_wp2_with fail
                  refine ⟨⟨_, HW.out⟩, ?_⟩
                  have h1 := HMU.out
                  exact Nat.lt_of_le_of_lt (least_le HW.out) (Nat.lt_of_lt_of_eq HLT.out h1.symm)
                | succ k =>
                  have hlt : k < ea.args.length := by omega
                  have hlt' : k < eb.args.length := by rw [← HLL.out]; exact hlt
                  obtain ⟨kt, hkt⟩ : ∃ kt, ea.args[k]? = some kt := ⟨_, List.getElem?_eq_getElem hlt⟩
                  obtain ⟨ku, hku⟩ : ∃ ku, eb.args[k]? = some ku := ⟨_, List.getElem?_eq_getElem hlt'⟩
                  obtain rfl : A1' = some ⟨g, o, none⟩ := by
                    rcases hA with h | h
                    · rw [h] at hlt; simp at hlt
                    · exact h
                  obtain rfl : A2' = some ⟨g', o', none⟩ := by
                    rcases hA' with h | h
                    · rw [h] at hlt'; simp at hlt'
                    · exact h
                  have hkk := Tm.qkids_get g o g' o' 0 k ea.args eb.args kt ku hkt hku
                  rw [HKI.out, Nat.zero_add] at hkk
                  have HKK := Lib.hid hkk
                  have e3 : wr.cell? ⟨ab, ao + 3, none⟩ = some (.slice (some ⟨g, o, none⟩) ea.args.length ca1) := (HB4.out.cell (p := ⟨ab, ao + 3, none⟩) hab).trans E3.out
                  have f3 : wr.cell? ⟨bb, bo + 3, none⟩ = some (.slice (some ⟨g', o', none⟩) eb.args.length ca2) := (HB4.out.cell (p := ⟨bb, bo + 3, none⟩) hbb).trans F3.out
                  obtain ⟨i0, hi0, hz0, hz1, hz2⟩ := info_parts info_pair
                  have hmx : (kids.drop (k + 1) ++ rest).length + 1 ≤ 4398046511104 := by simp only [List.length_append, List.length_drop]; omega
                  have HB6 := Lib.hid ((Below.refl wr.heap.size wr).alloc (Nat.le_refl _) (.cells #[.pointer (some ⟨g, o + k * 5, none⟩), .pointer (some ⟨g', o' + k * 5, none⟩)] 68)).drew
                  have HO6 := Lib.hid (own_low HO4.out HB6.out)
                  have HN6 := Lib.hid (new_cells wr [.pointer (some ⟨g, o + k * 5, none⟩), .pointer (some ⟨g', o' + k * 5, none⟩)] 68)
                  have hz4 := HZ4.out
                  clear hkk hkt hku hA hA' e3' f3' hND
                  have hk2 : (k : Int) < (ea.args.length : Int) := by omega
                  have hk3 : (k : Int) < (eb.args.length : Int) := by omega
                  have hk0 : (0 : Int) ≤ (k : Int) := by omega
                  go_wp2_with fail
                  go_region_law (refine step_append_at rfl (.tmp 85) (.tmp 99) 69 rfl w0.heap.size 68 i0 (.agg #[.pointer none, .pointer none]) 2 16 Tryz.underlying69 hi0 hz0 hz1 hz2 rfl (by decide) u5 (kids.drop (k + 1) ++ rest).length (Tm.qcells (kids.drop (k + 1) ++ rest)) (by simp [Act.eval, Act.put]) HO6.out ⟨wr.heap.size, 0, none⟩ 1 1 [.pointer (some ⟨g, o + k * 5, none⟩), .pointer (some ⟨g', o' + k * 5, none⟩)] (by simp [Act.eval, Act.put]) rfl (by simpa using HN6.out) (by simp [Value.oneCell']) (by unfold maxLen; omega) (by omega) (by simp; omega) ?_; intro v' w7 hown7 hgr7 hat7; have HO7 := Lib.hid hown7; have HG7 := Lib.hid hgr7; have HAT7 := Lib.hid hat7; clear hown7 hgr7 hat7)
                  all_goals
                    go_wp2_with fail
                    refine ⟨⟨k, by go_num, by omega, Lib.hid (pair_row HKK.out HO7.out), Lib.hid ?_, Lib.hid ?_⟩, by simp [intOf]⟩
                    · exact (HB4.out.trans (HB6.out.mono HZ4.out)).grown HG7.out (by simp; omega) (fun j e => (HO4.out.lt j e).1)
                    · have := HG7.out.size
                      simp at this
                      omega
end Go.Proofs.YtaefonagbcnmdaaGreatDoor

