import Derived.Test.YtgmfhcnhpkeapaaGreatDoorM5
set_option linter.unusedSimpArgs false
set_option linter.unusedVariables false
namespace Go.Proofs.YtgmfhcnhpkeapaaGreatDoor
open Go.RowKit

/-! The reference's table of operators. -/
abbrev Tt.Row := Int × List (List (List UInt8))
def Tt.rows : List Tt.Row := [(1200, [[[58, 45], [45, 45, 62]], [], [], [[58, 45]], [], []]),
  (1199, [[], [], [], [[109, 111, 100, 117, 108, 101], [101, 110, 100, 95, 109, 111, 100, 117, 108, 101], [105, 109, 112, 111, 114, 116, 95, 109, 111, 100, 117, 108, 101], [116, 121, 112, 101], [105, 110, 115, 116], [109, 111, 100, 101], [116, 121, 112, 101, 99, 108, 97, 115, 115], [105, 110, 115, 116, 97, 110, 99, 101], [112, 114, 111, 109, 105, 115, 101]], [], []]),
  (1179, [[[45, 45, 45, 62]], [], [], [], [], []]),
  (1175, [[[61, 61], [119, 104, 101, 114, 101]], [], [], [], [], []]),
  (1170, [[], [[101, 108, 115, 101]], [], [], [], []]),
  (1160, [[], [], [], [[105, 102]], [], []]),
  (1150, [[[116, 104, 101, 110]], [], [], [], [], []]),
  (1100, [[], [[59]], [], [], [], []]),
  (1050, [[], [[45, 62]], [], [], [], []]),
  (1025, [[], [[38]], [], [], [], []]),
  (1000, [[], [[44]], [], [], [], []]),
  (950, [[], [], [], [], [], [[115, 111, 109, 101]]]),
  (920, [[], [[60, 61]], [], [], [], []]),
  (900, [[], [], [], [], [[92, 43], [110, 111, 116]], []]),
  (800, [[], [], [], [[112, 114, 101, 100], [102, 117, 110, 99]], [], []]),
  (701, [[[105, 115]], [], [], [], [], []]),
  (700, [[[61], [92, 61], [60], [62], [61, 60], [62, 61]], [], [], [], [], []]),
  (680, [[[58, 58]], [], [], [], [], []]),
  (650, [[[58, 61]], [], [], [], [], []]),
  (500, [[], [[43, 43]], [[43], [45]], [[45], [43]], [], []]),
  (400, [[], [], [[42], [47], [47, 47], [109, 111, 100], [62, 62]], [], [], []]),
  (99, [[], [[94]], [], [], [], []])]
/-- A slice of names. -/
def StrsR (w : World) (v : Value) (l : List (List UInt8)) : Prop :=
  ∃ A cap, v = .slice A l.length cap ∧ l.length ≤ cap ∧ ∀ (i : Nat) s, l[i]? = some s → ∃ g o, A = some ⟨g, o, none⟩ ∧ g < w.heap.size ∧ w.cell? ⟨g, o + i, none⟩ = some (.string ⟨s.toArray⟩)
theorem StrsR.nil (w : World) : StrsR w (.slice none 0 0) [] := ⟨none, 0, rfl, Nat.le_refl _, fun i s h => by simp at h⟩
theorem StrsR.of_blk {w : World} {g : Nat} {t : TypeId} {l : List (List UInt8)} (h : Blk w g t (l.map fun s => Value.string ⟨s.toArray⟩).toArray) : StrsR w (.slice (some ⟨g, 0, none⟩) l.length l.length) l := by
  refine ⟨_, _, rfl, Nat.le_refl _, fun i s hs => ⟨g, 0, rfl, h.lt, ?_⟩⟩
  rw [h.cell]
  simp [hs]
theorem StrsR.below {w w' : World} {v : Value} {l : List (List UInt8)} (h : StrsR w v l) (hb : Below w.heap.size w w') : StrsR w' v l := by
  obtain ⟨A, cap, hv, hc, hi⟩ := h
  refine ⟨A, cap, hv, hc, fun i s hs => ?_⟩
  obtain ⟨g, o, hA, hg, h1⟩ := hi i s hs
  exact ⟨g, o, hA, Nat.lt_of_lt_of_le hg hb.size, (hb.cell (p := ⟨g, _, none⟩) hg).trans h1⟩
/-- The table in memory: seven cells a row. -/
def TableR (w : World) (g : Nat) (rows : List Tt.Row) : Prop :=
  g < w.heap.size ∧ ∀ (i : Nat) r, rows[i]? = some r → w.cell? ⟨g, i * 7, none⟩ = some (.int .i64 r.1) ∧ ∀ (j : Nat) l, r.2[j]? = some l → ∃ v, w.cell? ⟨g, i * 7 + (j + 1), none⟩ = some v ∧ StrsR w v l
def allocs : World → List Obj → World
  | w, [] => w
  | w, o :: os => allocs (w.alloc o) os
theorem allocs_size (w : World) (os : List Obj) : (allocs w os).heap.size = w.heap.size + os.length := by
  induction os generalizing w with
  | nil => rfl
  | cons o os ih => rw [allocs, ih, World.size_alloc, List.length_cons]; omega
theorem allocs_below (w : World) (os : List Obj) {B : Nat} (hB : B ≤ w.heap.size) : Below B w (allocs w os) := by
  induction os generalizing w with
  | nil => exact .refl _ _
  | cons o os ih => exact ((Below.refl B w).alloc hB o).trans (ih (w.alloc o) (by simp; omega))
theorem allocs_heap (w : World) (os : List Obj) {k : Nat} {o : Obj} (h : os[k]? = some o) : (allocs w os).heap[w.heap.size + k]? = some o := by
  induction os generalizing w k with
  | nil => simp at h
  | cons a os ih =>
    rw [allocs]
    cases k with
    | zero =>
      simp at h
      subst h
      exact ((allocs_below (w.alloc a) os (Nat.le_refl _)).block w.heap.size (by simp)).trans (World.alloc_heap_new w a)
    | succ k =>
      have := ih (w.alloc a) (k := k) (by simpa using h)
      rw [World.size_alloc] at this
      rw [show w.heap.size + (k + 1) = w.heap.size + 1 + k by omega]
      exact this
def Tt.objs (n : Nat) : List Obj := [
  (.cells #[.string ⟨#[58, 45]⟩, .string ⟨#[45, 45, 62]⟩] 9),
  (.cells #[.string ⟨#[58, 45]⟩] 9),
  (.cells #[.string ⟨#[109, 111, 100, 117, 108, 101]⟩, .string ⟨#[101, 110, 100, 95, 109, 111, 100, 117, 108, 101]⟩, .string ⟨#[105, 109, 112, 111, 114, 116, 95, 109, 111, 100, 117, 108, 101]⟩, .string ⟨#[116, 121, 112, 101]⟩, .string ⟨#[105, 110, 115, 116]⟩, .string ⟨#[109, 111, 100, 101]⟩, .string ⟨#[116, 121, 112, 101, 99, 108, 97, 115, 115]⟩, .string ⟨#[105, 110, 115, 116, 97, 110, 99, 101]⟩, .string ⟨#[112, 114, 111, 109, 105, 115, 101]⟩] 9),
  (.cells #[.string ⟨#[45, 45, 45, 62]⟩] 9),
  (.cells #[.string ⟨#[61, 61]⟩, .string ⟨#[119, 104, 101, 114, 101]⟩] 9),
  (.cells #[.string ⟨#[101, 108, 115, 101]⟩] 9),
  (.cells #[.string ⟨#[105, 102]⟩] 9),
  (.cells #[.string ⟨#[116, 104, 101, 110]⟩] 9),
  (.cells #[.string ⟨#[59]⟩] 9),
  (.cells #[.string ⟨#[45, 62]⟩] 9),
  (.cells #[.string ⟨#[38]⟩] 9),
  (.cells #[.string ⟨#[44]⟩] 9),
  (.cells #[.string ⟨#[115, 111, 109, 101]⟩] 9),
  (.cells #[.string ⟨#[60, 61]⟩] 9),
  (.cells #[.string ⟨#[92, 43]⟩, .string ⟨#[110, 111, 116]⟩] 9),
  (.cells #[.string ⟨#[112, 114, 101, 100]⟩, .string ⟨#[102, 117, 110, 99]⟩] 9),
  (.cells #[.string ⟨#[105, 115]⟩] 9),
  (.cells #[.string ⟨#[61]⟩, .string ⟨#[92, 61]⟩, .string ⟨#[60]⟩, .string ⟨#[62]⟩, .string ⟨#[61, 60]⟩, .string ⟨#[62, 61]⟩] 9),
  (.cells #[.string ⟨#[58, 58]⟩] 9),
  (.cells #[.string ⟨#[58, 61]⟩] 9),
  (.cells #[.string ⟨#[43, 43]⟩] 9),
  (.cells #[.string ⟨#[43]⟩, .string ⟨#[45]⟩] 9),
  (.cells #[.string ⟨#[45]⟩, .string ⟨#[43]⟩] 9),
  (.cells #[.string ⟨#[42]⟩, .string ⟨#[47]⟩, .string ⟨#[47, 47]⟩, .string ⟨#[109, 111, 100]⟩, .string ⟨#[62, 62]⟩] 9),
  (.cells #[.string ⟨#[94]⟩] 9),
  (.cells #[.int .i64 1200, .slice (some ⟨n + 0, 0, none⟩) 2 2, .slice none 0 0, .slice none 0 0, .slice (some ⟨n + 1, 0, none⟩) 1 1, .slice none 0 0, .slice none 0 0, .int .i64 1199, .slice none 0 0, .slice none 0 0, .slice none 0 0, .slice (some ⟨n + 2, 0, none⟩) 9 9, .slice none 0 0, .slice none 0 0, .int .i64 1179, .slice (some ⟨n + 3, 0, none⟩) 1 1, .slice none 0 0, .slice none 0 0, .slice none 0 0, .slice none 0 0, .slice none 0 0, .int .i64 1175, .slice (some ⟨n + 4, 0, none⟩) 2 2, .slice none 0 0, .slice none 0 0, .slice none 0 0, .slice none 0 0, .slice none 0 0, .int .i64 1170, .slice none 0 0, .slice (some ⟨n + 5, 0, none⟩) 1 1, .slice none 0 0, .slice none 0 0, .slice none 0 0, .slice none 0 0, .int .i64 1160, .slice none 0 0, .slice none 0 0, .slice none 0 0, .slice (some ⟨n + 6, 0, none⟩) 1 1, .slice none 0 0, .slice none 0 0, .int .i64 1150, .slice (some ⟨n + 7, 0, none⟩) 1 1, .slice none 0 0, .slice none 0 0, .slice none 0 0, .slice none 0 0, .slice none 0 0, .int .i64 1100, .slice none 0 0, .slice (some ⟨n + 8, 0, none⟩) 1 1, .slice none 0 0, .slice none 0 0, .slice none 0 0, .slice none 0 0, .int .i64 1050, .slice none 0 0, .slice (some ⟨n + 9, 0, none⟩) 1 1, .slice none 0 0, .slice none 0 0, .slice none 0 0, .slice none 0 0, .int .i64 1025, .slice none 0 0, .slice (some ⟨n + 10, 0, none⟩) 1 1, .slice none 0 0, .slice none 0 0, .slice none 0 0, .slice none 0 0, .int .i64 1000, .slice none 0 0, .slice (some ⟨n + 11, 0, none⟩) 1 1, .slice none 0 0, .slice none 0 0, .slice none 0 0, .slice none 0 0, .int .i64 950, .slice none 0 0, .slice none 0 0, .slice none 0 0, .slice none 0 0, .slice none 0 0, .slice (some ⟨n + 12, 0, none⟩) 1 1, .int .i64 920, .slice none 0 0, .slice (some ⟨n + 13, 0, none⟩) 1 1, .slice none 0 0, .slice none 0 0, .slice none 0 0, .slice none 0 0, .int .i64 900, .slice none 0 0, .slice none 0 0, .slice none 0 0, .slice none 0 0, .slice (some ⟨n + 14, 0, none⟩) 2 2, .slice none 0 0, .int .i64 800, .slice none 0 0, .slice none 0 0, .slice none 0 0, .slice (some ⟨n + 15, 0, none⟩) 2 2, .slice none 0 0, .slice none 0 0, .int .i64 701, .slice (some ⟨n + 16, 0, none⟩) 1 1, .slice none 0 0, .slice none 0 0, .slice none 0 0, .slice none 0 0, .slice none 0 0, .int .i64 700, .slice (some ⟨n + 17, 0, none⟩) 6 6, .slice none 0 0, .slice none 0 0, .slice none 0 0, .slice none 0 0, .slice none 0 0, .int .i64 680, .slice (some ⟨n + 18, 0, none⟩) 1 1, .slice none 0 0, .slice none 0 0, .slice none 0 0, .slice none 0 0, .slice none 0 0, .int .i64 650, .slice (some ⟨n + 19, 0, none⟩) 1 1, .slice none 0 0, .slice none 0 0, .slice none 0 0, .slice none 0 0, .slice none 0 0, .int .i64 500, .slice none 0 0, .slice (some ⟨n + 20, 0, none⟩) 1 1, .slice (some ⟨n + 21, 0, none⟩) 2 2, .slice (some ⟨n + 22, 0, none⟩) 2 2, .slice none 0 0, .slice none 0 0, .int .i64 400, .slice none 0 0, .slice none 0 0, .slice (some ⟨n + 23, 0, none⟩) 5 5, .slice none 0 0, .slice none 0 0, .slice none 0 0, .int .i64 99, .slice none 0 0, .slice (some ⟨n + 24, 0, none⟩) 1 1, .slice none 0 0, .slice none 0 0, .slice none 0 0, .slice none 0 0] 65)]
theorem Tt.table_at (w : World) : TableR (allocs w (Tt.objs w.heap.size)) (w.heap.size + 25) Tt.rows := by
  obtain ⟨W, hW⟩ : ∃ W, allocs w (Tt.objs w.heap.size) = W := ⟨_, rfl⟩
  have hT : Blk W (w.heap.size + 25) 65 #[.int .i64 1200, .slice (some ⟨w.heap.size + 0, 0, none⟩) 2 2, .slice none 0 0, .slice none 0 0, .slice (some ⟨w.heap.size + 1, 0, none⟩) 1 1, .slice none 0 0, .slice none 0 0, .int .i64 1199, .slice none 0 0, .slice none 0 0, .slice none 0 0, .slice (some ⟨w.heap.size + 2, 0, none⟩) 9 9, .slice none 0 0, .slice none 0 0, .int .i64 1179, .slice (some ⟨w.heap.size + 3, 0, none⟩) 1 1, .slice none 0 0, .slice none 0 0, .slice none 0 0, .slice none 0 0, .slice none 0 0, .int .i64 1175, .slice (some ⟨w.heap.size + 4, 0, none⟩) 2 2, .slice none 0 0, .slice none 0 0, .slice none 0 0, .slice none 0 0, .slice none 0 0, .int .i64 1170, .slice none 0 0, .slice (some ⟨w.heap.size + 5, 0, none⟩) 1 1, .slice none 0 0, .slice none 0 0, .slice none 0 0, .slice none 0 0, .int .i64 1160, .slice none 0 0, .slice none 0 0, .slice none 0 0, .slice (some ⟨w.heap.size + 6, 0, none⟩) 1 1, .slice none 0 0, .slice none 0 0, .int .i64 1150, .slice (some ⟨w.heap.size + 7, 0, none⟩) 1 1, .slice none 0 0, .slice none 0 0, .slice none 0 0, .slice none 0 0, .slice none 0 0, .int .i64 1100, .slice none 0 0, .slice (some ⟨w.heap.size + 8, 0, none⟩) 1 1, .slice none 0 0, .slice none 0 0, .slice none 0 0, .slice none 0 0, .int .i64 1050, .slice none 0 0, .slice (some ⟨w.heap.size + 9, 0, none⟩) 1 1, .slice none 0 0, .slice none 0 0, .slice none 0 0, .slice none 0 0, .int .i64 1025, .slice none 0 0, .slice (some ⟨w.heap.size + 10, 0, none⟩) 1 1, .slice none 0 0, .slice none 0 0, .slice none 0 0, .slice none 0 0, .int .i64 1000, .slice none 0 0, .slice (some ⟨w.heap.size + 11, 0, none⟩) 1 1, .slice none 0 0, .slice none 0 0, .slice none 0 0, .slice none 0 0, .int .i64 950, .slice none 0 0, .slice none 0 0, .slice none 0 0, .slice none 0 0, .slice none 0 0, .slice (some ⟨w.heap.size + 12, 0, none⟩) 1 1, .int .i64 920, .slice none 0 0, .slice (some ⟨w.heap.size + 13, 0, none⟩) 1 1, .slice none 0 0, .slice none 0 0, .slice none 0 0, .slice none 0 0, .int .i64 900, .slice none 0 0, .slice none 0 0, .slice none 0 0, .slice none 0 0, .slice (some ⟨w.heap.size + 14, 0, none⟩) 2 2, .slice none 0 0, .int .i64 800, .slice none 0 0, .slice none 0 0, .slice none 0 0, .slice (some ⟨w.heap.size + 15, 0, none⟩) 2 2, .slice none 0 0, .slice none 0 0, .int .i64 701, .slice (some ⟨w.heap.size + 16, 0, none⟩) 1 1, .slice none 0 0, .slice none 0 0, .slice none 0 0, .slice none 0 0, .slice none 0 0, .int .i64 700, .slice (some ⟨w.heap.size + 17, 0, none⟩) 6 6, .slice none 0 0, .slice none 0 0, .slice none 0 0, .slice none 0 0, .slice none 0 0, .int .i64 680, .slice (some ⟨w.heap.size + 18, 0, none⟩) 1 1, .slice none 0 0, .slice none 0 0, .slice none 0 0, .slice none 0 0, .slice none 0 0, .int .i64 650, .slice (some ⟨w.heap.size + 19, 0, none⟩) 1 1, .slice none 0 0, .slice none 0 0, .slice none 0 0, .slice none 0 0, .slice none 0 0, .int .i64 500, .slice none 0 0, .slice (some ⟨w.heap.size + 20, 0, none⟩) 1 1, .slice (some ⟨w.heap.size + 21, 0, none⟩) 2 2, .slice (some ⟨w.heap.size + 22, 0, none⟩) 2 2, .slice none 0 0, .slice none 0 0, .int .i64 400, .slice none 0 0, .slice none 0 0, .slice (some ⟨w.heap.size + 23, 0, none⟩) 5 5, .slice none 0 0, .slice none 0 0, .slice none 0 0, .int .i64 99, .slice none 0 0, .slice (some ⟨w.heap.size + 24, 0, none⟩) 1 1, .slice none 0 0, .slice none 0 0, .slice none 0 0, .slice none 0 0] := by rw [← hW]; exact allocs_heap w _ rfl
  have hS : ∀ (k : Nat) (l : List (List UInt8)), (Tt.objs w.heap.size)[k]? = some (.cells (l.map fun s => Value.string ⟨s.toArray⟩).toArray 9) → StrsR W (.slice (some ⟨w.heap.size + k, 0, none⟩) l.length l.length) l := fun k l h => StrsR.of_blk (t := 9) (by rw [← hW]; exact allocs_heap w _ h)
  rw [hW]
  clear hW
  refine ⟨hT.lt, fun i r hr => ?_⟩
  have hi : i < 22 := (List.getElem?_eq_some_iff.1 hr).1
  match i, hi, hr with
  | 0, _, hr =>
    cases hr
    refine ⟨hT.cell 0, fun j l hl => ?_⟩
    have hj : j < 6 := (List.getElem?_eq_some_iff.1 hl).1
    match j, hj, hl with
    | 0, _, hl => cases hl; exact ⟨.slice (some ⟨w.heap.size + 0, 0, none⟩) 2 2, hT.cell 1, hS 0 [[58, 45], [45, 45, 62]] rfl⟩
    | 1, _, hl => cases hl; exact ⟨.slice none 0 0, hT.cell 2, StrsR.nil _⟩
    | 2, _, hl => cases hl; exact ⟨.slice none 0 0, hT.cell 3, StrsR.nil _⟩
    | 3, _, hl => cases hl; exact ⟨.slice (some ⟨w.heap.size + 1, 0, none⟩) 1 1, hT.cell 4, hS 1 [[58, 45]] rfl⟩
    | 4, _, hl => cases hl; exact ⟨.slice none 0 0, hT.cell 5, StrsR.nil _⟩
    | 5, _, hl => cases hl; exact ⟨.slice none 0 0, hT.cell 6, StrsR.nil _⟩
  | 1, _, hr =>
    cases hr
    refine ⟨hT.cell 7, fun j l hl => ?_⟩
    have hj : j < 6 := (List.getElem?_eq_some_iff.1 hl).1
    match j, hj, hl with
    | 0, _, hl => cases hl; exact ⟨.slice none 0 0, hT.cell 8, StrsR.nil _⟩
    | 1, _, hl => cases hl; exact ⟨.slice none 0 0, hT.cell 9, StrsR.nil _⟩
    | 2, _, hl => cases hl; exact ⟨.slice none 0 0, hT.cell 10, StrsR.nil _⟩
    | 3, _, hl => cases hl; exact ⟨.slice (some ⟨w.heap.size + 2, 0, none⟩) 9 9, hT.cell 11, hS 2 [[109, 111, 100, 117, 108, 101], [101, 110, 100, 95, 109, 111, 100, 117, 108, 101], [105, 109, 112, 111, 114, 116, 95, 109, 111, 100, 117, 108, 101], [116, 121, 112, 101], [105, 110, 115, 116], [109, 111, 100, 101], [116, 121, 112, 101, 99, 108, 97, 115, 115], [105, 110, 115, 116, 97, 110, 99, 101], [112, 114, 111, 109, 105, 115, 101]] rfl⟩
    | 4, _, hl => cases hl; exact ⟨.slice none 0 0, hT.cell 12, StrsR.nil _⟩
    | 5, _, hl => cases hl; exact ⟨.slice none 0 0, hT.cell 13, StrsR.nil _⟩
  | 2, _, hr =>
    cases hr
    refine ⟨hT.cell 14, fun j l hl => ?_⟩
    have hj : j < 6 := (List.getElem?_eq_some_iff.1 hl).1
    match j, hj, hl with
    | 0, _, hl => cases hl; exact ⟨.slice (some ⟨w.heap.size + 3, 0, none⟩) 1 1, hT.cell 15, hS 3 [[45, 45, 45, 62]] rfl⟩
    | 1, _, hl => cases hl; exact ⟨.slice none 0 0, hT.cell 16, StrsR.nil _⟩
    | 2, _, hl => cases hl; exact ⟨.slice none 0 0, hT.cell 17, StrsR.nil _⟩
    | 3, _, hl => cases hl; exact ⟨.slice none 0 0, hT.cell 18, StrsR.nil _⟩
    | 4, _, hl => cases hl; exact ⟨.slice none 0 0, hT.cell 19, StrsR.nil _⟩
    | 5, _, hl => cases hl; exact ⟨.slice none 0 0, hT.cell 20, StrsR.nil _⟩
  | 3, _, hr =>
    cases hr
    refine ⟨hT.cell 21, fun j l hl => ?_⟩
    have hj : j < 6 := (List.getElem?_eq_some_iff.1 hl).1
    match j, hj, hl with
    | 0, _, hl => cases hl; exact ⟨.slice (some ⟨w.heap.size + 4, 0, none⟩) 2 2, hT.cell 22, hS 4 [[61, 61], [119, 104, 101, 114, 101]] rfl⟩
    | 1, _, hl => cases hl; exact ⟨.slice none 0 0, hT.cell 23, StrsR.nil _⟩
    | 2, _, hl => cases hl; exact ⟨.slice none 0 0, hT.cell 24, StrsR.nil _⟩
    | 3, _, hl => cases hl; exact ⟨.slice none 0 0, hT.cell 25, StrsR.nil _⟩
    | 4, _, hl => cases hl; exact ⟨.slice none 0 0, hT.cell 26, StrsR.nil _⟩
    | 5, _, hl => cases hl; exact ⟨.slice none 0 0, hT.cell 27, StrsR.nil _⟩
  | 4, _, hr =>
    cases hr
    refine ⟨hT.cell 28, fun j l hl => ?_⟩
    have hj : j < 6 := (List.getElem?_eq_some_iff.1 hl).1
    match j, hj, hl with
    | 0, _, hl => cases hl; exact ⟨.slice none 0 0, hT.cell 29, StrsR.nil _⟩
    | 1, _, hl => cases hl; exact ⟨.slice (some ⟨w.heap.size + 5, 0, none⟩) 1 1, hT.cell 30, hS 5 [[101, 108, 115, 101]] rfl⟩
    | 2, _, hl => cases hl; exact ⟨.slice none 0 0, hT.cell 31, StrsR.nil _⟩
    | 3, _, hl => cases hl; exact ⟨.slice none 0 0, hT.cell 32, StrsR.nil _⟩
    | 4, _, hl => cases hl; exact ⟨.slice none 0 0, hT.cell 33, StrsR.nil _⟩
    | 5, _, hl => cases hl; exact ⟨.slice none 0 0, hT.cell 34, StrsR.nil _⟩
  | 5, _, hr =>
    cases hr
    refine ⟨hT.cell 35, fun j l hl => ?_⟩
    have hj : j < 6 := (List.getElem?_eq_some_iff.1 hl).1
    match j, hj, hl with
    | 0, _, hl => cases hl; exact ⟨.slice none 0 0, hT.cell 36, StrsR.nil _⟩
    | 1, _, hl => cases hl; exact ⟨.slice none 0 0, hT.cell 37, StrsR.nil _⟩
    | 2, _, hl => cases hl; exact ⟨.slice none 0 0, hT.cell 38, StrsR.nil _⟩
    | 3, _, hl => cases hl; exact ⟨.slice (some ⟨w.heap.size + 6, 0, none⟩) 1 1, hT.cell 39, hS 6 [[105, 102]] rfl⟩
    | 4, _, hl => cases hl; exact ⟨.slice none 0 0, hT.cell 40, StrsR.nil _⟩
    | 5, _, hl => cases hl; exact ⟨.slice none 0 0, hT.cell 41, StrsR.nil _⟩
  | 6, _, hr =>
    cases hr
    refine ⟨hT.cell 42, fun j l hl => ?_⟩
    have hj : j < 6 := (List.getElem?_eq_some_iff.1 hl).1
    match j, hj, hl with
    | 0, _, hl => cases hl; exact ⟨.slice (some ⟨w.heap.size + 7, 0, none⟩) 1 1, hT.cell 43, hS 7 [[116, 104, 101, 110]] rfl⟩
    | 1, _, hl => cases hl; exact ⟨.slice none 0 0, hT.cell 44, StrsR.nil _⟩
    | 2, _, hl => cases hl; exact ⟨.slice none 0 0, hT.cell 45, StrsR.nil _⟩
    | 3, _, hl => cases hl; exact ⟨.slice none 0 0, hT.cell 46, StrsR.nil _⟩
    | 4, _, hl => cases hl; exact ⟨.slice none 0 0, hT.cell 47, StrsR.nil _⟩
    | 5, _, hl => cases hl; exact ⟨.slice none 0 0, hT.cell 48, StrsR.nil _⟩
  | 7, _, hr =>
    cases hr
    refine ⟨hT.cell 49, fun j l hl => ?_⟩
    have hj : j < 6 := (List.getElem?_eq_some_iff.1 hl).1
    match j, hj, hl with
    | 0, _, hl => cases hl; exact ⟨.slice none 0 0, hT.cell 50, StrsR.nil _⟩
    | 1, _, hl => cases hl; exact ⟨.slice (some ⟨w.heap.size + 8, 0, none⟩) 1 1, hT.cell 51, hS 8 [[59]] rfl⟩
    | 2, _, hl => cases hl; exact ⟨.slice none 0 0, hT.cell 52, StrsR.nil _⟩
    | 3, _, hl => cases hl; exact ⟨.slice none 0 0, hT.cell 53, StrsR.nil _⟩
    | 4, _, hl => cases hl; exact ⟨.slice none 0 0, hT.cell 54, StrsR.nil _⟩
    | 5, _, hl => cases hl; exact ⟨.slice none 0 0, hT.cell 55, StrsR.nil _⟩
  | 8, _, hr =>
    cases hr
    refine ⟨hT.cell 56, fun j l hl => ?_⟩
    have hj : j < 6 := (List.getElem?_eq_some_iff.1 hl).1
    match j, hj, hl with
    | 0, _, hl => cases hl; exact ⟨.slice none 0 0, hT.cell 57, StrsR.nil _⟩
    | 1, _, hl => cases hl; exact ⟨.slice (some ⟨w.heap.size + 9, 0, none⟩) 1 1, hT.cell 58, hS 9 [[45, 62]] rfl⟩
    | 2, _, hl => cases hl; exact ⟨.slice none 0 0, hT.cell 59, StrsR.nil _⟩
    | 3, _, hl => cases hl; exact ⟨.slice none 0 0, hT.cell 60, StrsR.nil _⟩
    | 4, _, hl => cases hl; exact ⟨.slice none 0 0, hT.cell 61, StrsR.nil _⟩
    | 5, _, hl => cases hl; exact ⟨.slice none 0 0, hT.cell 62, StrsR.nil _⟩
  | 9, _, hr =>
    cases hr
    refine ⟨hT.cell 63, fun j l hl => ?_⟩
    have hj : j < 6 := (List.getElem?_eq_some_iff.1 hl).1
    match j, hj, hl with
    | 0, _, hl => cases hl; exact ⟨.slice none 0 0, hT.cell 64, StrsR.nil _⟩
    | 1, _, hl => cases hl; exact ⟨.slice (some ⟨w.heap.size + 10, 0, none⟩) 1 1, hT.cell 65, hS 10 [[38]] rfl⟩
    | 2, _, hl => cases hl; exact ⟨.slice none 0 0, hT.cell 66, StrsR.nil _⟩
    | 3, _, hl => cases hl; exact ⟨.slice none 0 0, hT.cell 67, StrsR.nil _⟩
    | 4, _, hl => cases hl; exact ⟨.slice none 0 0, hT.cell 68, StrsR.nil _⟩
    | 5, _, hl => cases hl; exact ⟨.slice none 0 0, hT.cell 69, StrsR.nil _⟩
  | 10, _, hr =>
    cases hr
    refine ⟨hT.cell 70, fun j l hl => ?_⟩
    have hj : j < 6 := (List.getElem?_eq_some_iff.1 hl).1
    match j, hj, hl with
    | 0, _, hl => cases hl; exact ⟨.slice none 0 0, hT.cell 71, StrsR.nil _⟩
    | 1, _, hl => cases hl; exact ⟨.slice (some ⟨w.heap.size + 11, 0, none⟩) 1 1, hT.cell 72, hS 11 [[44]] rfl⟩
    | 2, _, hl => cases hl; exact ⟨.slice none 0 0, hT.cell 73, StrsR.nil _⟩
    | 3, _, hl => cases hl; exact ⟨.slice none 0 0, hT.cell 74, StrsR.nil _⟩
    | 4, _, hl => cases hl; exact ⟨.slice none 0 0, hT.cell 75, StrsR.nil _⟩
    | 5, _, hl => cases hl; exact ⟨.slice none 0 0, hT.cell 76, StrsR.nil _⟩
  | 11, _, hr =>
    cases hr
    refine ⟨hT.cell 77, fun j l hl => ?_⟩
    have hj : j < 6 := (List.getElem?_eq_some_iff.1 hl).1
    match j, hj, hl with
    | 0, _, hl => cases hl; exact ⟨.slice none 0 0, hT.cell 78, StrsR.nil _⟩
    | 1, _, hl => cases hl; exact ⟨.slice none 0 0, hT.cell 79, StrsR.nil _⟩
    | 2, _, hl => cases hl; exact ⟨.slice none 0 0, hT.cell 80, StrsR.nil _⟩
    | 3, _, hl => cases hl; exact ⟨.slice none 0 0, hT.cell 81, StrsR.nil _⟩
    | 4, _, hl => cases hl; exact ⟨.slice none 0 0, hT.cell 82, StrsR.nil _⟩
    | 5, _, hl => cases hl; exact ⟨.slice (some ⟨w.heap.size + 12, 0, none⟩) 1 1, hT.cell 83, hS 12 [[115, 111, 109, 101]] rfl⟩
  | 12, _, hr =>
    cases hr
    refine ⟨hT.cell 84, fun j l hl => ?_⟩
    have hj : j < 6 := (List.getElem?_eq_some_iff.1 hl).1
    match j, hj, hl with
    | 0, _, hl => cases hl; exact ⟨.slice none 0 0, hT.cell 85, StrsR.nil _⟩
    | 1, _, hl => cases hl; exact ⟨.slice (some ⟨w.heap.size + 13, 0, none⟩) 1 1, hT.cell 86, hS 13 [[60, 61]] rfl⟩
    | 2, _, hl => cases hl; exact ⟨.slice none 0 0, hT.cell 87, StrsR.nil _⟩
    | 3, _, hl => cases hl; exact ⟨.slice none 0 0, hT.cell 88, StrsR.nil _⟩
    | 4, _, hl => cases hl; exact ⟨.slice none 0 0, hT.cell 89, StrsR.nil _⟩
    | 5, _, hl => cases hl; exact ⟨.slice none 0 0, hT.cell 90, StrsR.nil _⟩
  | 13, _, hr =>
    cases hr
    refine ⟨hT.cell 91, fun j l hl => ?_⟩
    have hj : j < 6 := (List.getElem?_eq_some_iff.1 hl).1
    match j, hj, hl with
    | 0, _, hl => cases hl; exact ⟨.slice none 0 0, hT.cell 92, StrsR.nil _⟩
    | 1, _, hl => cases hl; exact ⟨.slice none 0 0, hT.cell 93, StrsR.nil _⟩
    | 2, _, hl => cases hl; exact ⟨.slice none 0 0, hT.cell 94, StrsR.nil _⟩
    | 3, _, hl => cases hl; exact ⟨.slice none 0 0, hT.cell 95, StrsR.nil _⟩
    | 4, _, hl => cases hl; exact ⟨.slice (some ⟨w.heap.size + 14, 0, none⟩) 2 2, hT.cell 96, hS 14 [[92, 43], [110, 111, 116]] rfl⟩
    | 5, _, hl => cases hl; exact ⟨.slice none 0 0, hT.cell 97, StrsR.nil _⟩
  | 14, _, hr =>
    cases hr
    refine ⟨hT.cell 98, fun j l hl => ?_⟩
    have hj : j < 6 := (List.getElem?_eq_some_iff.1 hl).1
    match j, hj, hl with
    | 0, _, hl => cases hl; exact ⟨.slice none 0 0, hT.cell 99, StrsR.nil _⟩
    | 1, _, hl => cases hl; exact ⟨.slice none 0 0, hT.cell 100, StrsR.nil _⟩
    | 2, _, hl => cases hl; exact ⟨.slice none 0 0, hT.cell 101, StrsR.nil _⟩
    | 3, _, hl => cases hl; exact ⟨.slice (some ⟨w.heap.size + 15, 0, none⟩) 2 2, hT.cell 102, hS 15 [[112, 114, 101, 100], [102, 117, 110, 99]] rfl⟩
    | 4, _, hl => cases hl; exact ⟨.slice none 0 0, hT.cell 103, StrsR.nil _⟩
    | 5, _, hl => cases hl; exact ⟨.slice none 0 0, hT.cell 104, StrsR.nil _⟩
  | 15, _, hr =>
    cases hr
    refine ⟨hT.cell 105, fun j l hl => ?_⟩
    have hj : j < 6 := (List.getElem?_eq_some_iff.1 hl).1
    match j, hj, hl with
    | 0, _, hl => cases hl; exact ⟨.slice (some ⟨w.heap.size + 16, 0, none⟩) 1 1, hT.cell 106, hS 16 [[105, 115]] rfl⟩
    | 1, _, hl => cases hl; exact ⟨.slice none 0 0, hT.cell 107, StrsR.nil _⟩
    | 2, _, hl => cases hl; exact ⟨.slice none 0 0, hT.cell 108, StrsR.nil _⟩
    | 3, _, hl => cases hl; exact ⟨.slice none 0 0, hT.cell 109, StrsR.nil _⟩
    | 4, _, hl => cases hl; exact ⟨.slice none 0 0, hT.cell 110, StrsR.nil _⟩
    | 5, _, hl => cases hl; exact ⟨.slice none 0 0, hT.cell 111, StrsR.nil _⟩
  | 16, _, hr =>
    cases hr
    refine ⟨hT.cell 112, fun j l hl => ?_⟩
    have hj : j < 6 := (List.getElem?_eq_some_iff.1 hl).1
    match j, hj, hl with
    | 0, _, hl => cases hl; exact ⟨.slice (some ⟨w.heap.size + 17, 0, none⟩) 6 6, hT.cell 113, hS 17 [[61], [92, 61], [60], [62], [61, 60], [62, 61]] rfl⟩
    | 1, _, hl => cases hl; exact ⟨.slice none 0 0, hT.cell 114, StrsR.nil _⟩
    | 2, _, hl => cases hl; exact ⟨.slice none 0 0, hT.cell 115, StrsR.nil _⟩
    | 3, _, hl => cases hl; exact ⟨.slice none 0 0, hT.cell 116, StrsR.nil _⟩
    | 4, _, hl => cases hl; exact ⟨.slice none 0 0, hT.cell 117, StrsR.nil _⟩
    | 5, _, hl => cases hl; exact ⟨.slice none 0 0, hT.cell 118, StrsR.nil _⟩
  | 17, _, hr =>
    cases hr
    refine ⟨hT.cell 119, fun j l hl => ?_⟩
    have hj : j < 6 := (List.getElem?_eq_some_iff.1 hl).1
    match j, hj, hl with
    | 0, _, hl => cases hl; exact ⟨.slice (some ⟨w.heap.size + 18, 0, none⟩) 1 1, hT.cell 120, hS 18 [[58, 58]] rfl⟩
    | 1, _, hl => cases hl; exact ⟨.slice none 0 0, hT.cell 121, StrsR.nil _⟩
    | 2, _, hl => cases hl; exact ⟨.slice none 0 0, hT.cell 122, StrsR.nil _⟩
    | 3, _, hl => cases hl; exact ⟨.slice none 0 0, hT.cell 123, StrsR.nil _⟩
    | 4, _, hl => cases hl; exact ⟨.slice none 0 0, hT.cell 124, StrsR.nil _⟩
    | 5, _, hl => cases hl; exact ⟨.slice none 0 0, hT.cell 125, StrsR.nil _⟩
  | 18, _, hr =>
    cases hr
    refine ⟨hT.cell 126, fun j l hl => ?_⟩
    have hj : j < 6 := (List.getElem?_eq_some_iff.1 hl).1
    match j, hj, hl with
    | 0, _, hl => cases hl; exact ⟨.slice (some ⟨w.heap.size + 19, 0, none⟩) 1 1, hT.cell 127, hS 19 [[58, 61]] rfl⟩
    | 1, _, hl => cases hl; exact ⟨.slice none 0 0, hT.cell 128, StrsR.nil _⟩
    | 2, _, hl => cases hl; exact ⟨.slice none 0 0, hT.cell 129, StrsR.nil _⟩
    | 3, _, hl => cases hl; exact ⟨.slice none 0 0, hT.cell 130, StrsR.nil _⟩
    | 4, _, hl => cases hl; exact ⟨.slice none 0 0, hT.cell 131, StrsR.nil _⟩
    | 5, _, hl => cases hl; exact ⟨.slice none 0 0, hT.cell 132, StrsR.nil _⟩
  | 19, _, hr =>
    cases hr
    refine ⟨hT.cell 133, fun j l hl => ?_⟩
    have hj : j < 6 := (List.getElem?_eq_some_iff.1 hl).1
    match j, hj, hl with
    | 0, _, hl => cases hl; exact ⟨.slice none 0 0, hT.cell 134, StrsR.nil _⟩
    | 1, _, hl => cases hl; exact ⟨.slice (some ⟨w.heap.size + 20, 0, none⟩) 1 1, hT.cell 135, hS 20 [[43, 43]] rfl⟩
    | 2, _, hl => cases hl; exact ⟨.slice (some ⟨w.heap.size + 21, 0, none⟩) 2 2, hT.cell 136, hS 21 [[43], [45]] rfl⟩
    | 3, _, hl => cases hl; exact ⟨.slice (some ⟨w.heap.size + 22, 0, none⟩) 2 2, hT.cell 137, hS 22 [[45], [43]] rfl⟩
    | 4, _, hl => cases hl; exact ⟨.slice none 0 0, hT.cell 138, StrsR.nil _⟩
    | 5, _, hl => cases hl; exact ⟨.slice none 0 0, hT.cell 139, StrsR.nil _⟩
  | 20, _, hr =>
    cases hr
    refine ⟨hT.cell 140, fun j l hl => ?_⟩
    have hj : j < 6 := (List.getElem?_eq_some_iff.1 hl).1
    match j, hj, hl with
    | 0, _, hl => cases hl; exact ⟨.slice none 0 0, hT.cell 141, StrsR.nil _⟩
    | 1, _, hl => cases hl; exact ⟨.slice none 0 0, hT.cell 142, StrsR.nil _⟩
    | 2, _, hl => cases hl; exact ⟨.slice (some ⟨w.heap.size + 23, 0, none⟩) 5 5, hT.cell 143, hS 23 [[42], [47], [47, 47], [109, 111, 100], [62, 62]] rfl⟩
    | 3, _, hl => cases hl; exact ⟨.slice none 0 0, hT.cell 144, StrsR.nil _⟩
    | 4, _, hl => cases hl; exact ⟨.slice none 0 0, hT.cell 145, StrsR.nil _⟩
    | 5, _, hl => cases hl; exact ⟨.slice none 0 0, hT.cell 146, StrsR.nil _⟩
  | 21, _, hr =>
    cases hr
    refine ⟨hT.cell 147, fun j l hl => ?_⟩
    have hj : j < 6 := (List.getElem?_eq_some_iff.1 hl).1
    match j, hj, hl with
    | 0, _, hl => cases hl; exact ⟨.slice none 0 0, hT.cell 148, StrsR.nil _⟩
    | 1, _, hl => cases hl; exact ⟨.slice (some ⟨w.heap.size + 24, 0, none⟩) 1 1, hT.cell 149, hS 24 [[94]] rfl⟩
    | 2, _, hl => cases hl; exact ⟨.slice none 0 0, hT.cell 150, StrsR.nil _⟩
    | 3, _, hl => cases hl; exact ⟨.slice none 0 0, hT.cell 151, StrsR.nil _⟩
    | 4, _, hl => cases hl; exact ⟨.slice none 0 0, hT.cell 152, StrsR.nil _⟩
    | 5, _, hl => cases hl; exact ⟨.slice none 0 0, hT.cell 153, StrsR.nil _⟩
set_option maxRecDepth 100000 in
set_option maxHeartbeats 2000000 in
theorem table_any (w : World) : Calls Tryz.prog 41 #[] w fun e w' => e = .returned (.slice (some ⟨w.heap.size + 25, 0, none⟩) 22 22) ∧ w' = allocs w (Tt.objs w.heap.size) := by
  go_enter Tryz.func41, Tryz.ntmps41
  go_wp2
  go_ret
  exact ⟨rfl, rfl⟩
end Go.Proofs.YtgmfhcnhpkeapaaGreatDoor

namespace Go.Proofs.YtgmfhcnhpkeapaaGreatDoor
open Go.RowKit

set_option maxRecDepth 100000 in
set_option maxHeartbeats 2000000 in
theorem among_any (v : Value) (l : List (List UInt8)) (s : ByteArray) (w : World) (hv : StrsR w v l) (hn : l.length ≤ 1000000) :
    Calls Tryz.prog 42 #[v, .string s] w fun e w' => e = .returned (.bool (decide (s.toList ∈ l))) ∧ w' = w := by
  obtain ⟨A, cap, rfl, hcap, hi⟩ := hv
  obtain ⟨R, hR⟩ : ∃ R, decide (s.toList ∈ l) = R := ⟨_, rfl⟩
  rw [hR]
  have HR := Lib.hid hR
  have HI := Lib.hid hi
  clear hR hi
  go_enter Tryz.func42, Tryz.ntmps42
  go_wp2_with fail
  go_loopw [5] (fun i wr => ∃ k : Nat, i = .int .i64 k ∧ k ≤ l.length ∧ Hid (wr = w) ∧ Hid (s.toList ∉ l.take k)) (fun i _ => l.length - (intOf i).toNat)
  case atStart => exact ⟨0, by go_num, Nat.zero_le _, Lib.hid rfl, Lib.hid (by simp)⟩
  case round =>
    obtain ⟨k, rfl, hk, HW, HN⟩ := hrel
    obtain rfl := HW.out
    by_cases hkl : k < l.length
    · obtain ⟨t, ht⟩ : ∃ t, l[k]? = some t := ⟨_, List.getElem?_eq_getElem hkl⟩
      obtain ⟨g, o, hA, hg, c0⟩ := HI.out k t ht
      subst hA
      have HT := Lib.hid ht
      have hk2 : (k : Int) < (l.length : Int) := by omega
      clear ht
      cases hq : (t == s.toList) with
      | true =>
        have hmem : R = true := by
          rw [← HR.out, decide_eq_true_iff, ← beq_iff_eq.1 hq]
          exact List.mem_of_getElem? HT.out
        have HM := Lib.hid hmem
        clear hmem
        go_wp2_with fail
        go_ret
        exact ⟨ret_bool HM.out.symm, rfl⟩
      | false =>
        have hnot : s.toList ∉ l.take (k + 1) := by
          obtain ⟨hlt, hte⟩ := List.getElem?_eq_some_iff.1 HT.out
          rw [List.take_succ_eq_append_getElem hlt, List.mem_append, List.mem_singleton]
          rintro (h | h)
          · exact HN.out h
          · rw [hte] at h
            rw [beq_eq_false_iff_ne] at hq
            exact hq h.symm
        have HNT := Lib.hid hnot
        clear hnot
        go_wp2_with fail
        go_roundw
        case rel => exact ⟨k + 1, by go_num, by omega, Lib.hid (by first | rfl | trivial), HNT⟩
        case measure => simp [intOf]; omega
    · have hres : R = false := by
        have := HN.out
        rw [List.take_of_length_le (by omega)] at this
        rw [← HR.out, decide_eq_false_iff_not]
        exact this
      have HM := Lib.hid hres
      have hk3 : ¬ (k : Int) < (l.length : Int) := by omega
      clear hres
      go_wp2_with fail
      go_ret
      exact ⟨ret_bool HM.out.symm, rfl⟩
def Tt.infx : List Tt.Row → List UInt8 → Int × Int × Int
  | [], _ => (0, 0, 0)
  | r :: rs, n => if n ∈ r.2.getD 0 [] then (r.1, r.1 - 1, r.1 - 1) else if n ∈ r.2.getD 1 [] then (r.1, r.1 - 1, r.1) else if n ∈ r.2.getD 2 [] then (r.1, r.1, r.1 - 1) else Tt.infx rs n
def Tt.prefix_ : List Tt.Row → List UInt8 → Int × Int × Bool
  | [], _ => (0, 0, false)
  | r :: rs, n => if n ∈ r.2.getD 3 [] then (r.1, r.1 - 1, false) else if n ∈ r.2.getD 4 [] then (r.1, r.1, false) else if n ∈ r.2.getD 5 [] then (r.1, r.1, true) else Tt.prefix_ rs n
theorem Tt.infx_drop {rows : List Tt.Row} {k : Nat} {r : Tt.Row} (h : rows[k]? = some r) (n : List UInt8) : Tt.infx (rows.drop k) n = if n ∈ r.2.getD 0 [] then (r.1, r.1 - 1, r.1 - 1) else if n ∈ r.2.getD 1 [] then (r.1, r.1 - 1, r.1) else if n ∈ r.2.getD 2 [] then (r.1, r.1, r.1 - 1) else Tt.infx (rows.drop (k + 1)) n := by
  obtain ⟨hk, rfl⟩ := List.getElem?_eq_some_iff.1 h
  rw [List.drop_eq_getElem_cons hk]
  rfl
theorem Tt.prefix_drop {rows : List Tt.Row} {k : Nat} {r : Tt.Row} (h : rows[k]? = some r) (n : List UInt8) : Tt.prefix_ (rows.drop k) n = if n ∈ r.2.getD 3 [] then (r.1, r.1 - 1, false) else if n ∈ r.2.getD 4 [] then (r.1, r.1, false) else if n ∈ r.2.getD 5 [] then (r.1, r.1, true) else Tt.prefix_ (rows.drop (k + 1)) n := by
  obtain ⟨hk, rfl⟩ := List.getElem?_eq_some_iff.1 h
  rw [List.drop_eq_getElem_cons hk]
  rfl
theorem Tt.rows_p : ∀ r ∈ Tt.rows, 0 ≤ r.1 ∧ r.1 ≤ 1200 ∧ r.2.length = 6 ∧ ∀ l ∈ r.2, l.length ≤ 9 := by decide +kernel
theorem Tt.row_at {k : Nat} (hk : k < 22) : ∃ r, Tt.rows[k]? = some r ∧ 0 ≤ r.1 ∧ r.1 ≤ 1200 ∧ ∀ j, j < 6 → r.2[j]? = some (r.2.getD j []) ∧ (r.2.getD j []).length ≤ 9 := by
  have hlt : k < Tt.rows.length := hk
  obtain ⟨h1, h2, h3, h4⟩ := Tt.rows_p _ (List.getElem_mem hlt)
  refine ⟨_, List.getElem?_eq_getElem hlt, h1, h2, fun j hj => ?_⟩
  have hj2 : j < (Tt.rows[k]'hlt).2.length := by omega
  rw [List.getD_eq_getElem?_getD, List.getElem?_eq_getElem hj2, Option.getD_some]
  exact ⟨rfl, h4 _ (List.getElem_mem hj2)⟩
theorem ret_three {a b c a' b' c' : Value} (h1 : a = a') (h2 : b = b') (h3 : c = c') : Ending.returned (.tuple #[a, b, c]) = .returned (.tuple #[a', b', c']) := by rw [h1, h2, h3]
set_option maxRecDepth 100000 in
set_option maxHeartbeats 4000000 in
theorem rinfix_any (s : ByteArray) (w : World) :
    Calls Tryz.prog 23 #[.string s] w fun e w' => e = .returned (.tuple #[.int .i64 (Tt.infx Tt.rows s.toList).1, .int .i64 (Tt.infx Tt.rows s.toList).2.1, .int .i64 (Tt.infx Tt.rows s.toList).2.2]) ∧ Below w.heap.size w w' := by
  obtain ⟨R, hR⟩ : ∃ R, Tt.infx Tt.rows s.toList = R := ⟨_, rfl⟩
  rw [hR]
  have HR := Lib.hid hR
  have HTA := Lib.hid (Tt.table_at w)
  have HBE := Lib.hid (allocs_below w (Tt.objs w.heap.size) (Nat.le_refl _))
  clear hR
  go_enter Tryz.func23, Tryz.ntmps23
  go_wp2_with fail
  refine (table_any w).mono ?_
  rintro e w1 ⟨rfl, hw1⟩
  rw [← hw1] at HTA HBE
  clear hw1
  obtain ⟨g, hg⟩ : ∃ g, w.heap.size + 25 = g := ⟨_, rfl⟩
  rw [hg] at HTA ⊢
  clear hg
  have hgl := HTA.out.1
  go_wp2_with fail
  go_loopw [6] (fun i wr => ∃ k : Nat, i = .int .i64 k ∧ k ≤ 22 ∧ Hid (wr = w1) ∧ Hid (Tt.infx (Tt.rows.drop k) s.toList = R)) (fun i _ => 22 - (intOf i).toNat)
  case atStart => exact ⟨0, by go_num, Nat.zero_le _, Lib.hid rfl, HR⟩
  case round =>
    obtain ⟨k, rfl, hk, HW, HD⟩ := hrel
    obtain rfl := HW.out
    by_cases hkl : k < 22
    · obtain ⟨r, hr, hp0, hp1, hls⟩ := Tt.row_at hkl
      obtain ⟨c0, hcs⟩ := HTA.out.2 k r hr
      have hdr := Tt.infx_drop hr s.toList
      rw [HD.out] at hdr
      obtain ⟨v1, c1, hv1⟩ := hcs 0 _ (hls 0 (by decide)).1
      have HA1 := Lib.hid (among_any v1 _ s wr hv1 (by have := (hls 0 (by decide)).2; omega))
      obtain ⟨A1, n1, rfl⟩ : ∃ A c, v1 = .slice A (r.2.getD 0 []).length c := by obtain ⟨A, c, h, _⟩ := hv1; exact ⟨A, c, h⟩
      clear hv1
      obtain ⟨v2, c2, hv2⟩ := hcs 1 _ (hls 1 (by decide)).1
      have HA2 := Lib.hid (among_any v2 _ s wr hv2 (by have := (hls 1 (by decide)).2; omega))
      obtain ⟨A2, n2, rfl⟩ : ∃ A c, v2 = .slice A (r.2.getD 1 []).length c := by obtain ⟨A, c, h, _⟩ := hv2; exact ⟨A, c, h⟩
      clear hv2
      obtain ⟨v3, c3, hv3⟩ := hcs 2 _ (hls 2 (by decide)).1
      have HA3 := Lib.hid (among_any v3 _ s wr hv3 (by have := (hls 2 (by decide)).2; omega))
      obtain ⟨A3, n3, rfl⟩ : ∃ A c, v3 = .slice A (r.2.getD 2 []).length c := by obtain ⟨A, c, h, _⟩ := hv3; exact ⟨A, c, h⟩
      clear hv3
      obtain ⟨p, hp⟩ : ∃ p, r.1 = p := ⟨_, rfl⟩
      rw [hp] at c0 hdr hp0 hp1
      obtain ⟨l1, hl1⟩ : ∃ l, r.2.getD 0 [] = l := ⟨_, rfl⟩
      rw [hl1] at c1 hdr HA1
      obtain ⟨l2, hl2⟩ : ∃ l, r.2.getD 1 [] = l := ⟨_, rfl⟩
      rw [hl2] at c2 hdr HA2
      obtain ⟨l3, hl3⟩ : ∃ l, r.2.getD 2 [] = l := ⟨_, rfl⟩
      rw [hl3] at c3 hdr HA3
      clear hls hcs hr hp hl1 hl2 hl3
      have hs1 := sub1 p hp0 hp1
      have HDR := Lib.hid hdr
      clear hdr
      have hk2 : (k : Int) < 22 := by omega
      have hk0 : (0 : Int) ≤ (k : Int) := by omega
      by_cases h1 : s.toList ∈ l1
      · have hR1 : R = (p, p - 1, p - 1) := by rw [HDR.out, if_pos h1]
        have HR1 := Lib.hid hR1
        have hd1 : decide (s.toList ∈ l1) = true := decide_eq_true h1
        rw [hd1] at HA1
        clear hR1 h1 hd1
        go_wp2_with fail
        refine HA1.out.mono ?_
        rintro e w5 ⟨rfl, rfl⟩
        go_wp2_with fail
        go_ret3
        exact ⟨by rw [HR1.out]; rfl, HBE.out⟩
      · skip
        by_cases h2 : s.toList ∈ l2
        · have hR1 : R = (p, p - 1, p) := by rw [HDR.out, if_neg h1, if_pos h2]
          have HR1 := Lib.hid hR1
          have hd1 : decide (s.toList ∈ l1) = false := decide_eq_false h1
          have hd2 : decide (s.toList ∈ l2) = true := decide_eq_true h2
          rw [hd1] at HA1
          rw [hd2] at HA2
          clear hR1 h1 h2 hd1 hd2
          go_wp2_with fail
          refine HA1.out.mono ?_
          rintro e w5 ⟨rfl, rfl⟩
          go_wp2_with fail
          refine HA2.out.mono ?_
          rintro e w5 ⟨rfl, rfl⟩
          go_wp2_with fail
          go_ret3
          exact ⟨by rw [HR1.out]; rfl, HBE.out⟩
        · skip
          by_cases h3 : s.toList ∈ l3
          · have hR1 : R = (p, p, p - 1) := by rw [HDR.out, if_neg h1, if_neg h2, if_pos h3]
            have HR1 := Lib.hid hR1
            have hd1 : decide (s.toList ∈ l1) = false := decide_eq_false h1
            have hd2 : decide (s.toList ∈ l2) = false := decide_eq_false h2
            have hd3 : decide (s.toList ∈ l3) = true := decide_eq_true h3
            rw [hd1] at HA1
            rw [hd2] at HA2
            rw [hd3] at HA3
            clear hR1 h1 h2 h3 hd1 hd2 hd3
            go_wp2_with fail
            refine HA1.out.mono ?_
            rintro e w5 ⟨rfl, rfl⟩
            go_wp2_with fail
            refine HA2.out.mono ?_
            rintro e w5 ⟨rfl, rfl⟩
            go_wp2_with fail
            refine HA3.out.mono ?_
            rintro e w5 ⟨rfl, rfl⟩
            go_wp2_with fail
            go_ret3
            exact ⟨by rw [HR1.out]; rfl, HBE.out⟩
          · skip
            have hR1 : Tt.infx (Tt.rows.drop (k + 1)) s.toList = R := by rw [HDR.out, if_neg h1, if_neg h2, if_neg h3]
            have HR1 := Lib.hid hR1
            have hd1 : decide (s.toList ∈ l1) = false := decide_eq_false h1
            have hd2 : decide (s.toList ∈ l2) = false := decide_eq_false h2
            have hd3 : decide (s.toList ∈ l3) = false := decide_eq_false h3
            rw [hd1] at HA1
            rw [hd2] at HA2
            rw [hd3] at HA3
            clear hR1 h1 h2 h3 hd1 hd2 hd3
            go_wp2_with fail
            refine HA1.out.mono ?_
            rintro e w5 ⟨rfl, rfl⟩
            go_wp2_with fail
            refine HA2.out.mono ?_
            rintro e w5 ⟨rfl, rfl⟩
            go_wp2_with fail
            refine HA3.out.mono ?_
            rintro e w5 ⟨rfl, rfl⟩
            go_wp2_with fail
            go_roundw
            case rel => exact ⟨k + 1, by go_num, by omega, Lib.hid (by first | rfl | trivial), HR1⟩
            case measure => simp [intOf]; omega
    · have hres : R = (0, 0, 0) := by
        rw [← HD.out, List.drop_of_length_le (by show 22 ≤ k; omega)]
        rfl
      have HM := Lib.hid hres
      have hk3 : ¬ (k : Int) < 22 := by omega
      clear hres
      go_wp2_with fail
      go_ret3
      exact ⟨by rw [HM.out]; rfl, HBE.out⟩
set_option maxRecDepth 100000 in
set_option maxHeartbeats 4000000 in
theorem rprefix_any (s : ByteArray) (w : World) :
    Calls Tryz.prog 25 #[.string s] w fun e w' => e = .returned (.tuple #[.int .i64 (Tt.prefix_ Tt.rows s.toList).1, .int .i64 (Tt.prefix_ Tt.rows s.toList).2.1, .bool (Tt.prefix_ Tt.rows s.toList).2.2]) ∧ Below w.heap.size w w' := by
  obtain ⟨R, hR⟩ : ∃ R, Tt.prefix_ Tt.rows s.toList = R := ⟨_, rfl⟩
  rw [hR]
  have HR := Lib.hid hR
  have HTA := Lib.hid (Tt.table_at w)
  have HBE := Lib.hid (allocs_below w (Tt.objs w.heap.size) (Nat.le_refl _))
  clear hR
  go_enter Tryz.func25, Tryz.ntmps25
  go_wp2_with fail
  refine (table_any w).mono ?_
  rintro e w1 ⟨rfl, hw1⟩
  rw [← hw1] at HTA HBE
  clear hw1
  obtain ⟨g, hg⟩ : ∃ g, w.heap.size + 25 = g := ⟨_, rfl⟩
  rw [hg] at HTA ⊢
  clear hg
  have hgl := HTA.out.1
  go_wp2_with fail
  go_loopw [6] (fun i wr => ∃ k : Nat, i = .int .i64 k ∧ k ≤ 22 ∧ Hid (wr = w1) ∧ Hid (Tt.prefix_ (Tt.rows.drop k) s.toList = R)) (fun i _ => 22 - (intOf i).toNat)
  case atStart => exact ⟨0, by go_num, Nat.zero_le _, Lib.hid rfl, HR⟩
  case round =>
    obtain ⟨k, rfl, hk, HW, HD⟩ := hrel
    obtain rfl := HW.out
    by_cases hkl : k < 22
    · obtain ⟨r, hr, hp0, hp1, hls⟩ := Tt.row_at hkl
      obtain ⟨c0, hcs⟩ := HTA.out.2 k r hr
      have hdr := Tt.prefix_drop hr s.toList
      rw [HD.out] at hdr
      obtain ⟨v4, c4, hv4⟩ := hcs 3 _ (hls 3 (by decide)).1
      have HA4 := Lib.hid (among_any v4 _ s wr hv4 (by have := (hls 3 (by decide)).2; omega))
      obtain ⟨A4, n4, rfl⟩ : ∃ A c, v4 = .slice A (r.2.getD 3 []).length c := by obtain ⟨A, c, h, _⟩ := hv4; exact ⟨A, c, h⟩
      clear hv4
      obtain ⟨v5, c5, hv5⟩ := hcs 4 _ (hls 4 (by decide)).1
      have HA5 := Lib.hid (among_any v5 _ s wr hv5 (by have := (hls 4 (by decide)).2; omega))
      obtain ⟨A5, n5, rfl⟩ : ∃ A c, v5 = .slice A (r.2.getD 4 []).length c := by obtain ⟨A, c, h, _⟩ := hv5; exact ⟨A, c, h⟩
      clear hv5
      obtain ⟨v6, c6, hv6⟩ := hcs 5 _ (hls 5 (by decide)).1
      have HA6 := Lib.hid (among_any v6 _ s wr hv6 (by have := (hls 5 (by decide)).2; omega))
      obtain ⟨A6, n6, rfl⟩ : ∃ A c, v6 = .slice A (r.2.getD 5 []).length c := by obtain ⟨A, c, h, _⟩ := hv6; exact ⟨A, c, h⟩
      clear hv6
      obtain ⟨p, hp⟩ : ∃ p, r.1 = p := ⟨_, rfl⟩
      rw [hp] at c0 hdr hp0 hp1
      obtain ⟨l4, hl4⟩ : ∃ l, r.2.getD 3 [] = l := ⟨_, rfl⟩
      rw [hl4] at c4 hdr HA4
      obtain ⟨l5, hl5⟩ : ∃ l, r.2.getD 4 [] = l := ⟨_, rfl⟩
      rw [hl5] at c5 hdr HA5
      obtain ⟨l6, hl6⟩ : ∃ l, r.2.getD 5 [] = l := ⟨_, rfl⟩
      rw [hl6] at c6 hdr HA6
      clear hls hcs hr hp hl4 hl5 hl6
      have hs1 := sub1 p hp0 hp1
      have HDR := Lib.hid hdr
      clear hdr
      have hk2 : (k : Int) < 22 := by omega
      have hk0 : (0 : Int) ≤ (k : Int) := by omega
      by_cases h4 : s.toList ∈ l4
      · have hR1 : R = (p, p - 1, false) := by rw [HDR.out, if_pos h4]
        have HR1 := Lib.hid hR1
        have hd4 : decide (s.toList ∈ l4) = true := decide_eq_true h4
        rw [hd4] at HA4
        clear hR1 h4 hd4
        go_wp2_with fail
        refine HA4.out.mono ?_
        rintro e w5 ⟨rfl, rfl⟩
        go_wp2_with fail
        go_ret3
        exact ⟨by rw [HR1.out]; rfl, HBE.out⟩
      · skip
        by_cases h5 : s.toList ∈ l5
        · have hR1 : R = (p, p, false) := by rw [HDR.out, if_neg h4, if_pos h5]
          have HR1 := Lib.hid hR1
          have hd4 : decide (s.toList ∈ l4) = false := decide_eq_false h4
          have hd5 : decide (s.toList ∈ l5) = true := decide_eq_true h5
          rw [hd4] at HA4
          rw [hd5] at HA5
          clear hR1 h4 h5 hd4 hd5
          go_wp2_with fail
          refine HA4.out.mono ?_
          rintro e w5 ⟨rfl, rfl⟩
          go_wp2_with fail
          refine HA5.out.mono ?_
          rintro e w5 ⟨rfl, rfl⟩
          go_wp2_with fail
          go_ret3
          exact ⟨by rw [HR1.out]; rfl, HBE.out⟩
        · skip
          by_cases h6 : s.toList ∈ l6
          · have hR1 : R = (p, p, true) := by rw [HDR.out, if_neg h4, if_neg h5, if_pos h6]
            have HR1 := Lib.hid hR1
            have hd4 : decide (s.toList ∈ l4) = false := decide_eq_false h4
            have hd5 : decide (s.toList ∈ l5) = false := decide_eq_false h5
            have hd6 : decide (s.toList ∈ l6) = true := decide_eq_true h6
            rw [hd4] at HA4
            rw [hd5] at HA5
            rw [hd6] at HA6
            clear hR1 h4 h5 h6 hd4 hd5 hd6
            go_wp2_with fail
            refine HA4.out.mono ?_
            rintro e w5 ⟨rfl, rfl⟩
            go_wp2_with fail
            refine HA5.out.mono ?_
            rintro e w5 ⟨rfl, rfl⟩
            go_wp2_with fail
            refine HA6.out.mono ?_
            rintro e w5 ⟨rfl, rfl⟩
            go_wp2_with fail
            go_ret3
            exact ⟨by rw [HR1.out]; rfl, HBE.out⟩
          · skip
            have hR1 : Tt.prefix_ (Tt.rows.drop (k + 1)) s.toList = R := by rw [HDR.out, if_neg h4, if_neg h5, if_neg h6]
            have HR1 := Lib.hid hR1
            have hd4 : decide (s.toList ∈ l4) = false := decide_eq_false h4
            have hd5 : decide (s.toList ∈ l5) = false := decide_eq_false h5
            have hd6 : decide (s.toList ∈ l6) = false := decide_eq_false h6
            rw [hd4] at HA4
            rw [hd5] at HA5
            rw [hd6] at HA6
            clear hR1 h4 h5 h6 hd4 hd5 hd6
            go_wp2_with fail
            refine HA4.out.mono ?_
            rintro e w5 ⟨rfl, rfl⟩
            go_wp2_with fail
            refine HA5.out.mono ?_
            rintro e w5 ⟨rfl, rfl⟩
            go_wp2_with fail
            refine HA6.out.mono ?_
            rintro e w5 ⟨rfl, rfl⟩
            go_wp2_with fail
            go_roundw
            case rel => exact ⟨k + 1, by go_num, by omega, Lib.hid (by first | rfl | trivial), HR1⟩
            case measure => simp [intOf]; omega
    · have hres : R = (0, 0, false) := by
        rw [← HD.out, List.drop_of_length_le (by show 22 ≤ k; omega)]
        rfl
      have HM := Lib.hid hres
      have hk3 : ¬ (k : Int) < 22 := by omega
      clear hres
      go_wp2_with fail
      go_ret3
      exact ⟨by rw [HM.out]; rfl, HBE.out⟩
end Go.Proofs.YtgmfhcnhpkeapaaGreatDoor

namespace Go.Proofs.YtgmfhcnhpkeapaaGreatDoor
open Go.RowKit

set_option maxRecDepth 100000 in
set_option maxHeartbeats 4000000 in
theorem Tt.infx_eq (n : List UInt8) : Tt.infx Tt.rows n = Tm.infx n := by
  unfold Tm.infx Tm.row
  simp only [Tt.rows, Tt.infx, List.getD_cons_zero, List.getD_cons_succ, List.not_mem_nil, if_false]
  by_cases h0 : n ∈ ([[58, 45], [45, 45, 62]] : List (List UInt8))
  · simp only [if_pos h0]; try rfl
  simp only [if_neg h0]
  by_cases h1 : n ∈ ([[45, 45, 45, 62]] : List (List UInt8))
  · simp only [if_pos h1]; try rfl
  simp only [if_neg h1]
  by_cases h2 : n ∈ ([[61, 61], [119, 104, 101, 114, 101]] : List (List UInt8))
  · simp only [if_pos h2]; try rfl
  simp only [if_neg h2]
  by_cases h3 : n ∈ ([[101, 108, 115, 101]] : List (List UInt8))
  · simp only [if_pos h3]; try rfl
  simp only [if_neg h3]
  by_cases h4 : n ∈ ([[116, 104, 101, 110]] : List (List UInt8))
  · simp only [if_pos h4]; try rfl
  simp only [if_neg h4]
  by_cases h5 : n ∈ ([[59]] : List (List UInt8))
  · simp only [if_pos h5]; try rfl
  simp only [if_neg h5]
  by_cases h6 : n ∈ ([[45, 62]] : List (List UInt8))
  · simp only [if_pos h6]; try rfl
  simp only [if_neg h6]
  by_cases h7 : n ∈ ([[38]] : List (List UInt8))
  · simp only [if_pos h7]; try rfl
  simp only [if_neg h7]
  by_cases h8 : n ∈ ([[44]] : List (List UInt8))
  · simp only [if_pos h8]; try rfl
  simp only [if_neg h8]
  by_cases h9 : n ∈ ([[60, 61]] : List (List UInt8))
  · simp only [if_pos h9]; try rfl
  simp only [if_neg h9]
  by_cases h10 : n ∈ ([[105, 115]] : List (List UInt8))
  · simp only [if_pos h10]; try rfl
  simp only [if_neg h10]
  by_cases h11 : n ∈ ([[61], [92, 61], [60], [62], [61, 60], [62, 61]] : List (List UInt8))
  · simp only [if_pos h11]; try rfl
  simp only [if_neg h11]
  by_cases h12 : n ∈ ([[58, 58]] : List (List UInt8))
  · simp only [if_pos h12]; try rfl
  simp only [if_neg h12]
  by_cases h13 : n ∈ ([[58, 61]] : List (List UInt8))
  · simp only [if_pos h13]; try rfl
  simp only [if_neg h13]
  by_cases h14 : n ∈ ([[43, 43]] : List (List UInt8))
  · simp only [if_pos h14]; try rfl
  simp only [if_neg h14]
  by_cases h15 : n ∈ ([[43], [45]] : List (List UInt8))
  · simp only [if_pos h15]; try rfl
  simp only [if_neg h15]
  by_cases h16 : n ∈ ([[42], [47], [47, 47], [109, 111, 100], [62, 62]] : List (List UInt8))
  · simp only [if_pos h16]; try rfl
  simp only [if_neg h16]
  by_cases h17 : n ∈ ([[94]] : List (List UInt8))
  · simp only [if_pos h17]; try rfl
  simp only [if_neg h17]
  try rfl
set_option maxRecDepth 100000 in
set_option maxHeartbeats 4000000 in
theorem Tt.prefix__eq (n : List UInt8) : Tt.prefix_ Tt.rows n = Tm.prefix_ n := by
  unfold Tm.prefix_
  simp only [Tt.rows, Tt.prefix_, List.getD_cons_zero, List.getD_cons_succ, List.not_mem_nil, if_false]
  by_cases h0 : n ∈ ([[58, 45]] : List (List UInt8))
  · simp only [if_pos h0]; try rfl
  simp only [if_neg h0]
  by_cases h1 : n ∈ ([[109, 111, 100, 117, 108, 101], [101, 110, 100, 95, 109, 111, 100, 117, 108, 101], [105, 109, 112, 111, 114, 116, 95, 109, 111, 100, 117, 108, 101], [116, 121, 112, 101], [105, 110, 115, 116], [109, 111, 100, 101], [116, 121, 112, 101, 99, 108, 97, 115, 115], [105, 110, 115, 116, 97, 110, 99, 101], [112, 114, 111, 109, 105, 115, 101]] : List (List UInt8))
  · simp only [if_pos h1]; try rfl
  simp only [if_neg h1]
  by_cases h2 : n ∈ ([[105, 102]] : List (List UInt8))
  · simp only [if_pos h2]; try rfl
  simp only [if_neg h2]
  by_cases h3 : n ∈ ([[115, 111, 109, 101]] : List (List UInt8))
  · simp only [if_pos h3]; try rfl
  simp only [if_neg h3]
  by_cases h4 : n ∈ ([[92, 43], [110, 111, 116]] : List (List UInt8))
  · simp only [if_pos h4]; try rfl
  simp only [if_neg h4]
  by_cases h5 : n ∈ ([[112, 114, 101, 100], [102, 117, 110, 99]] : List (List UInt8))
  · simp only [if_pos h5]; try rfl
  simp only [if_neg h5]
  by_cases h6 : n ∈ ([[45], [43]] : List (List UInt8))
  · simp only [if_pos h6]; try rfl
  simp only [if_neg h6]
  try rfl
end Go.Proofs.YtgmfhcnhpkeapaaGreatDoor

namespace Go.Proofs.YtgmfhcnhpkeapaaGreatDoor
open Go.RowKit

set_option maxRecDepth 100000 in
set_option maxHeartbeats 2000000 in
/-- The law TermsTables. -/
theorem tables_any (s : ByteArray) (w : World) (hs : s.size ≤ maxLen) (hG : Glob w) :
    Calls Tryz.prog 5 #[.string s] w fun e w' => e = .returned (.bool true) ∧ Below w.heap.size w w' := by
  unfold maxLen at hs
  have hgl := hG.lt
  by_cases h4 : 400 < s.size
  · go_enter Tryz.func5, Tryz.ntmps5
    go_wp2_with fail
    refine (awake_any w hG).mono ?_
    rintro e w1 ⟨rfl, hB⟩
    go_wp2_with fail
    exact bodyPost_ret (v := .bool true) (by simp [results, Tryz.results5, go_sem]) rfl ⟨rfl, hB⟩
  · obtain ⟨I, hI⟩ : ∃ I, Tm.infx s.toList = I := ⟨_, rfl⟩
    obtain ⟨Q, hQ⟩ : ∃ Q, Tm.prefix_ s.toList = Q := ⟨_, rfl⟩
    have c1 := infix_any s w
    have c2 := rinfix_any s w
    have c3 := fun w => prefix_any s w
    have c4 := fun w => rprefix_any s w
    simp only [Tt.infx_eq, Tt.prefix__eq, hI, hQ] at c1 c2 c3 c4
    obtain ⟨p, l, r⟩ := I
    obtain ⟨a, b, t⟩ := Q
    clear hI hQ
    go_enter Tryz.func5, Tryz.ntmps5
    go_wp2_with fail
    refine c1.mono ?_
    rintro e w1 ⟨rfl, rfl⟩
    clear c1
    go_wp2_with fail
    refine c2.mono ?_
    rintro e w2 ⟨rfl, hB2⟩
    have HB2 := Lib.hid hB2
    clear c2 hB2
    go_wp2_with fail
    refine (c3 _).mono ?_
    rintro e w3 ⟨rfl, rfl⟩
    clear c3
    go_wp2_with fail
    refine (c4 _).mono ?_
    rintro e w4 ⟨rfl, hB4⟩
    have HB4 := Lib.hid (HB2.out.trans (hB4.mono HB2.out.size))
    clear c4 hB4
    go_wp2_with fail
    refine (awake_any _ (hG.below HB4.out hgl)).mono ?_
    rintro e w5 ⟨rfl, hB5⟩
    go_wp2_with fail
    exact bodyPost_ret (v := .bool true) (by simp [results, Tryz.results5, go_sem]) rfl ⟨rfl, HB4.out.trans (hB5.mono HB4.out.size)⟩
end Go.Proofs.YtgmfhcnhpkeapaaGreatDoor

