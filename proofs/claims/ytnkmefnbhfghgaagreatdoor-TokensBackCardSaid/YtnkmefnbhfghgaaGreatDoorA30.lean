import Derived.Test.YtnkmefnbhfghgaaGreatDoorA29
set_option linter.unusedSimpArgs false
set_option linter.unusedVariables false
namespace Go.Proofs.YtnkmefnbhfghgaaGreatDoor
open Go.RowKit

theorem Tk.flat_get : ∀ {ts : List Tk.T} {i : Nat} {t : Tk.T}, ts[i]? = some t → (Tk.flat ts)[i * 3]? = some (.int .i64 t.1) ∧ (Tk.flat ts)[i * 3 + 1]? = some (.string ⟨t.2.1.toArray⟩) ∧ (Tk.flat ts)[i * 3 + 2]? = some (.int .i64 (t.2.2 : Int))
  | [], i, t, h => by simp at h
  | a :: r, 0, t, h => by
    simp at h
    subst h
    exact ⟨rfl, rfl, rfl⟩
  | a :: r, i + 1, t, h => by
    have ih := Tk.flat_get (ts := r) (i := i) (t := t) (by simpa using h)
    have e : ∀ j, (Tk.flat (a :: r))[(i + 1) * 3 + j]? = (Tk.flat r)[i * 3 + j]? := fun j => by
      have : Tk.flat (a :: r) = [.int .i64 a.1, .string ⟨a.2.1.toArray⟩, .int .i64 (a.2.2 : Int)] ++ Tk.flat r := rfl
      rw [this, List.getElem?_append_right (by simp; omega)]
      congr 1
      simp; omega
    exact ⟨(e 0).trans ih.1, (e 1).trans ih.2.1, (e 2).trans ih.2.2⟩
theorem Tk.at_some {ts : List Tk.T} {i : Nat} {t : Tk.T} (h : ts[i]? = some t) : Tk.at_ ts i = t := by unfold Tk.at_; rw [List.getD_eq_getElem?_getD, h]; rfl
theorem TR.of_own {w : World} {B : Nat} {v : Value} {ts : List Tk.T} (h : w.ownsRow B 32 3 v ts.length (Tk.flat ts)) : TR w w.heap.size v ts := by
  rcases h.2 with ⟨rfl, h0⟩ | ⟨g, cap, cur, rfl, hb, hh, hc, _⟩
  · have : ts = [] := List.eq_nil_of_length_eq_zero h0
    subst this
    exact ⟨none, 0, rfl, Nat.le_refl _, fun i t ht => by simp at ht⟩
  · refine ⟨some ⟨g, 0, none⟩, cap, rfl, hc, fun i t ht => ⟨g, 0, rfl, Blk.lt (cs := cur) (t := 32) hh, ?_⟩⟩
    have hcell := h.cells (g := g) rfl
    have hp : ∀ j, (⟨g, 0, none⟩ : Addr).add j = ⟨g, 0 + j, none⟩ := fun j => by unfold Addr.add; split <;> simp_all
    obtain ⟨f0, f1, f2⟩ := Tk.flat_get ht
    have c0 := hcell _ _ f0
    have c1 := hcell _ _ f1
    have c2 := hcell _ _ f2
    rw [hp] at c0 c1 c2
    exact ⟨c0, by rw [Nat.add_assoc]; exact c1, by dsimp only; rw [Nat.add_assoc, Tk.at_some ht]; exact c2⟩

def Tk.sample : List UInt8 := [112, 40, 88, 41, 32, 58, 45, 32, 33, 46, 88, 32, 61, 32, 48, 39, 97, 46]
def Tk.sampleToks : List Tk.T := [(1, [112], 0), (6, [40, 40], 1), (2, [88], 2), (6, [41], 3), (1, [58, 45], 5), (1, [33, 46], 8), (2, [88], 10), (1, [61], 12), (4, [97], 14), (7, [46], 17), (0, [], 18)]
def Tk.sampleText : List UInt8 := [112, 40, 32, 88, 32, 41, 32, 58, 45, 32, 33, 46, 88, 32, 61, 32, 48, 39, 97, 32, 46, 10]
theorem sample_tokens : Tk.tokens Tk.sample = .ok Tk.sampleToks := by kernel_rfl
theorem sample_text : Tk.text Tk.sampleToks = .ok Tk.sampleText := by kernel_rfl
theorem sample_name : Tk.name [97, 32, 98] = [39, 97, 32, 98, 39] := by kernel_rfl

set_option maxRecDepth 100000 in
set_option maxHeartbeats 1000000 in
theorem awake_any (w : World) (hG : Glob w) :
    Calls Tryz.prog 6 #[] w fun e w' => e = .returned (.bool true) ∧ Below w.heap.size w w' := by
  have hgl := hG.lt
  go_enter Tryz.func6, Tryz.ntmps6
  go_wp2_with fail
  refine (tokens_all ⟨Tk.sample.toArray⟩ _ hG).mono ?_
  intro e w1 hp
  rw [show ({ data := Tk.sample.toArray } : ByteArray).data.toList = Tk.sample from rfl, sample_tokens] at hp
  obtain ⟨v, rfl, hown, hB⟩ := hp
  have hT := TR.of_own hown
  obtain ⟨g, o, cap, rfl, hcap, hgB, a0, a1, a2⟩ := hT.read (i := 1) (by decide)
  obtain ⟨g', o', cap', hv', _, _, b0, b1, b2⟩ := hT.read (i := 5) (by decide)
  obtain ⟨hA, _, rfl⟩ := slice_inj hv'
  injection hA with hA
  injection hA with hga hoa _
  subst hga hoa
  obtain ⟨g', o', cap', hv', _, _, d0, d1, d2⟩ := hT.read (i := 10) (by decide)
  obtain ⟨hA, _, rfl⟩ := slice_inj hv'
  injection hA with hA
  injection hA with hga hoa _
  subst hga hoa
  have c1 : w1.cell? ⟨g, o + 4, none⟩ = some (.string ⟨#[40, 40]⟩) := a1
  have c5 : w1.cell? ⟨g, o + 16, none⟩ = some (.string ⟨#[33, 46]⟩) := b1
  have c10 : w1.cell? ⟨g, o + 30, none⟩ = some (.int .i64 0) := d0
  have hcap2 : 11 ≤ cap := hcap
  unfold Tk.fauV
  rw [show Tk.sampleToks.length = 11 from rfl]
  clear a0 a1 a2 b0 b1 b2 d0 d1 d2 hv'
  go_wp2_with fail
  have hT2 := (hT.below (Below.alloc (Below.refl _ _) (Nat.le_refl _) (.cells #[.int .i64 0, .int .i64 0] 26))).more (show w1.heap.size ≤ (w1.alloc (.cells #[.int .i64 0, .int .i64 0] 26)).heap.size by simp)
  have hB2 := hB.alloc hB.size (.cells #[.int .i64 0, .int .i64 0] 26)
  refine (text_any _ Tk.sampleToks _ (by decide) (by decide) hT2 (hG.below hB2 hgl)).mono ?_
  intro e w3 hp
  rw [sample_text] at hp
  obtain ⟨rfl, hB3⟩ := hp
  have hB4 := hB2.trans (hB3.mono hB2.size)
  rw [show (⟨Tk.sampleText.toArray⟩ : ByteArray) = ⟨#[112, 40, 32, 88, 32, 41, 32, 58, 45, 32, 33, 46, 88, 32, 61, 32, 48, 39, 97, 32, 46, 10]⟩ from rfl]
  go_wp2_with fail
  refine (name_any ⟨#[97, 32, 98]⟩ _ (by decide)).mono ?_; rintro e w5 ⟨rfl, hB5⟩
  rw [show ({ data := #[97, 32, 98] } : ByteArray).data.toList = [97, 32, 98] from rfl, sample_name]
  go_wp2_with fail
  go_ret
  exact ⟨rfl, hB4.trans (hB5.mono hB4.size)⟩
end Go.Proofs.YtnkmefnbhfghgaaGreatDoor
