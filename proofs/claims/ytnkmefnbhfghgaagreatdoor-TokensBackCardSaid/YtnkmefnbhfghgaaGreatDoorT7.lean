import Derived.Test.YtnkmefnbhfghgaaGreatDoorT6
import Derived.Deep.Slices
import Derived.Deep.Fields
import Derived.ChangeSame
import Derived.SizedLaws
set_option linter.unusedSimpArgs false
set_option linter.unusedVariables false
namespace Go.Proofs.YtnkmefnbhfghgaaGreatDoor
open Go.ChangeShapes Go.WideShapes Go.Deep Go.RowKit

section
variable {H : Type} {enc : TypeId × Value → H} {P : Program} {w : World} {base : Nat} {spare : Nat → Bool} {held : Bool}
theorem open_slice_fields {t e : TypeId} {fs : Array Field} {fuel : Nat} {cs : List Value} {x : DataW H × List MemPlace} (ht : P.underlying t = some (.slice e)) (he : P.underlying e = some (.struct fs))
    (hone : oneCellFields P fs = true) (hC : P.cellsOf e = fs.size) (h : DataW.trod enc P w base spare held fuel t cs = some x) :
    (cs = [.slice none 0 0] ∧ x = (.nil, [])) ∨
    ∃ (a : Addr) (len cap m : Nat) (D : Nat → DataW H) (Pl : Nat → List MemPlace), cs = [.slice (some a) len cap] ∧ base ≤ a.block ∧ len ≤ cap ∧ cap ≤ maxLen ∧ m = (if spare a.block then cap else len) ∧
      x = (.slice ((List.range len).map D) ((List.range (m - len)).map fun j => D (len + j)), MemPlace.row a (m * fs.size) ++ (List.range m).flatMap Pl) ∧
      ∀ i, i < m → ∃ (ys : List (DataW H × List MemPlace)) (n : Nat), D i = .agg (ys.map (·.1)) ∧ Pl i = ys.flatMap (·.2) ∧ ys.length = fs.size ∧
        ∀ (j : Nat) (f : Field), fs[j]? = some f → ∃ (v : Value) (y : DataW H × List MemPlace), w.cell? (a.add (i * fs.size + j)) = some v ∧ ys[j]? = some y ∧ DataW.trod enc P w base spare held n f.type [v] = some y := by
  rcases open_slice ht h with h0 | ⟨a, len, cap, m, n, D, Pl, hcs, hb, hl, hm, hmm, hx, hi⟩
  · exact .inl h0
  · refine .inr ⟨a, len, cap, m, D, Pl, hcs, hb, hl, hm, hmm, by rw [hC] at hx; exact hx, fun i him => ?_⟩
    obtain ⟨cs', hc, ht'⟩ := hi i him
    rw [hC] at hc
    obtain ⟨ys, n', hn', hy, hlen, hyl, hf⟩ := DataW.trod_struct he ht'
    obtain ⟨_, hcl, hat⟩ := World.cells?_some hc
    simp only [Prod.mk.injEq] at hy
    refine ⟨ys, n', hy.1, hy.2, hyl, fun j f hj => ?_⟩
    obtain ⟨ho, hk⟩ := hone_of hone j f hj
    have hjl : j < fs.size := (Array.getElem?_eq_some_iff.1 hj).1
    have hcell := hat j hjl
    have hv : cs'[j]? = some (cs'[j]'(by omega)) := List.getElem?_eq_getElem (by omega)
    have h1 := hf j f hj
    rw [ho, hk] at h1
    have hone' : (cs'.drop j).take 1 = [cs'[j]'(by omega)] := by
      rw [List.drop_eq_getElem_cons (by omega)]
      rfl
    rw [hone'] at h1
    have hys : ys[j]? = some (ys[j]'(by omega)) := List.getElem?_eq_getElem (by omega)
    refine ⟨_, _, ?_, hys, h1.trans hys⟩
    rw [← Go.Deep.add_add, hcell, hv]
end

theorem pick_all {α : Type} [Inhabited α] {n : Nat} {R : Nat → α → Prop} (h : ∀ i, i < n → ∃ x, R i x) : ∃ f : Nat → α, ∀ i, i < n → R i (f i) := by
  refine ⟨fun i => if hi : i < n then Classical.choose (h i hi) else default, fun i hi => ?_⟩
  dsimp only
  rw [dif_pos hi]
  exact Classical.choose_spec (h i hi)
theorem bytes_back (s : ByteArray) : (⟨s.data.toList.toArray⟩ : ByteArray) = s := by cases s; simp

theorem weightsAll_in {H : Type} {P : Program} {e : TypeId} {x : DataW H} {n : Nat} : ∀ {l : List (DataW H)}, x ∈ l → n ∈ x.weights P e → n ∈ DataW.weightsAll P e l
  | [], h, _ => by cases h
  | a :: r, h, hn => by
    simp only [DataW.weightsAll, List.mem_append]
    rcases List.mem_cons.1 h with rfl | h
    · exact .inl hn
    · exact .inr (weightsAll_in h hn)
set_option maxRecDepth 100000 in
/-- An argument that is a slice of tokens. -/
theorem open_toks {H : Type} {enc : TypeId × Value → H} {w : World} {v : Value} {d : DataW H} {p : List MemPlace} (hv : Value.okWide Tryz.prog w .any 0 23 v) (h : DataW.Trod enc Tryz.prog w 0 (fun _ => true) true 23 v d p) :
    ∃ (ts : List Tk.T) (pl : Nat → Int), TR w w.heap.size v ts pl ∧ ts.length ≤ maxLen ∧ (∀ t ∈ ts, t.2.1.length ∈ d.weights Tryz.prog 23) ∧ (∀ n c, v = .slice none n c → c = 0) := by
  obtain ⟨fuel, hf⟩ := h
  obtain ⟨A, len, cap, rfl⟩ := okWide_slice Tryz.underlying23 hv
  rcases open_slice_fields Tryz.underlying23 Tryz.underlying32 (by kernel_rfl) (by kernel_rfl) hf with ⟨hcs, hx⟩ | ⟨a, len', cap', m, D, Pl, hcs, _, hl, hm, hmm, hx, hi⟩
  · simp [Value.cells] at hcs
    obtain ⟨rfl, rfl, rfl⟩ := hcs
    refine ⟨[], fun _ => 0, ⟨none, 0, rfl, Nat.le_refl _, ?_⟩, Nat.zero_le _, ?_, ?_⟩
    · intro i t ht; simp at ht
    · intro t ht; cases ht
    · intro n c e; injection e with _ _ e3; exact e3.symm
  · simp [Value.cells] at hcs
    obtain ⟨rfl, rfl, rfl⟩ := hcs
    have hml : len ≤ m := by rw [hmm]; simp; exact hl
    have hf2 : ∀ i, i < len → ∃ x : Int × ByteArray × Int, x.2.1.data.toList.length ∈ (D i).weights Tryz.prog 32 ∧ w.cell? (a.add (i * 3 + 0)) = some (.int .i64 x.1) ∧ w.cell? (a.add (i * 3 + 1)) = some (.string x.2.1) ∧ w.cell? (a.add (i * 3 + 2)) = some (.int .i64 x.2.2) := by
      intro i hlt
      obtain ⟨ys, n, hD, _, hyl, hfs⟩ := hi i (by omega)
      obtain ⟨v0, y0, hc0, _, ht0⟩ := hfs 0 _ rfl
      obtain ⟨v1, y1, hc1, hy1, ht1⟩ := hfs 1 _ rfl
      obtain ⟨v2, y2, hc2, _, ht2⟩ := hfs 2 _ rfl
      obtain ⟨k, e0, _, _⟩ := DataW.trod_int Tryz.underlying3 ht0
      obtain ⟨s, e1, hs1, ws⟩ := DataW.trod_string Tryz.underlying9 ht1
      obtain ⟨q, e2, _, _⟩ := DataW.trod_int Tryz.underlying3 ht2
      simp at e0 e1 e2
      subst e0 e1 e2
      refine ⟨(k, s, q), ?_, hc0, hc1, hc2⟩
      subst hs1
      have hj : (ys.map (·.1))[1]? = some (DataW.lit (.string s.data.toList)) := by rw [List.getElem?_map, hy1]; rfl
      rw [hD]
      simp only [DataW.weights, Tryz.underlying32]
      exact DataW.weights_mem_each (j := 1) rfl hj _ (by simp [DataW.weights])
    obtain ⟨f, hff⟩ := pick_all hf2
    have hlen : ((List.range len).map fun i => (((f i).1, (f i).2.1.data.toList, 0) : Tk.T)).length = len := by simp
    refine ⟨(List.range len).map fun i => ((f i).1, (f i).2.1.data.toList, 0), fun i => (f i).2.2, ⟨some a, cap, by rw [hlen], by rw [hlen]; exact hl, fun i t ht => ?_⟩, by rw [hlen]; omega, fun t ht => ?_, fun n c e => by cases e⟩
    · have hlt : i < len := by have := (List.getElem?_eq_some_iff.1 ht).1; rwa [hlen] at this
      rw [List.getElem?_map, List.getElem?_range hlt] at ht
      obtain rfl : ((f i).1, (f i).2.1.data.toList, 0) = t := by simpa using ht
      obtain ⟨_, h0, h1, h2⟩ := hff i hlt
      have hsp : a.spot = none := by
        have h00 := (hff 0 (by omega)).2.1
        exact World.cell?_spot (show w.cell? a = _ from h00)
      obtain ⟨g, o, sp⟩ := a
      obtain rfl : sp = none := hsp
      rw [add_none] at h0 h1 h2
      exact ⟨g, o, rfl, cell_lt h0, h0, by rw [bytes_back, Nat.add_assoc]; exact h1, by rw [Nat.add_assoc]; exact h2⟩
    · obtain ⟨i, hi2, rfl⟩ := List.mem_map.1 ht
      have hin : i < len := by simpa using hi2
      have h1 := (hff i hin).1
      have hd : d = DataW.slice ((List.range len).map D) ((List.range (m - len)).map fun j => D (len + j)) := by
        simp only [Prod.mk.injEq] at hx; exact hx.1
      rw [hd]
      simp only [DataW.weights, Tryz.underlying23, List.mem_cons, List.mem_append]
      exact .inr (.inl (weightsAll_in (List.mem_map.2 ⟨i, by simpa using hin, rfl⟩) h1))
end Go.Proofs.YtnkmefnbhfghgaaGreatDoor
