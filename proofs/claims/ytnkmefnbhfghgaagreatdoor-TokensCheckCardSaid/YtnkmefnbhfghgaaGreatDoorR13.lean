import Derived.Test.YtnkmefnbhfghgaaGreatDoorR12
import Derived.Test.YtnkmefnbhfghgaaGreatDoorA30
import Derived.Deep.RegionHeld3
set_option linter.unusedSimpArgs false
set_option linter.unusedVariables false
namespace Go.Proofs.YtnkmefnbhfghgaaGreatDoor
open Go.RowKit

/-- What the law's region keeps: the library's variable, and all that stood before the call. -/
structure LK (w w' : World) : Prop where
  glob : Glob w'
  low : Below w.heap.size w w'
  own : w.heap.size < w'.heap.size
  far : 1 < w.heap.size
theorem LK.drew {w a : World} (h : LK w a) : LK w a.drew := ⟨h.glob, h.low.drew, h.own, h.far⟩
theorem LK.below {w a b : World} (h : LK w a) (hb : Below a.heap.size a b) : LK w b :=
  ⟨h.glob.below (hb.mono (Nat.le_refl _)) (Nat.lt_of_lt_of_le h.far h.low.size), h.low.trans (hb.mono h.low.size), Nat.lt_of_lt_of_le h.own hb.size, h.far⟩
theorem LK.glob4 {w a : World} {A B C : Prop} (h : A ∧ B ∧ C ∧ LK w a) : Glob a := h.2.2.2.glob
theorem LK.low4 {w a : World} {A B C : Prop} (h : A ∧ B ∧ C ∧ LK w a) : Below w.heap.size w a := h.2.2.2.low
theorem LK.keep {w a b : World} {v0 v1 v2 : Value} (h : a.cell? ⟨w.heap.size, 0, none⟩ = some v0 ∧ a.cell? ⟨w.heap.size, 1, none⟩ = some v1 ∧ a.cell? ⟨w.heap.size, 2, none⟩ = some v2 ∧ LK w a) (hb : Below a.heap.size a b) :
    b.cell? ⟨w.heap.size, 0, none⟩ = some v0 ∧ b.cell? ⟨w.heap.size, 1, none⟩ = some v1 ∧ b.cell? ⟨w.heap.size, 2, none⟩ = some v2 ∧ LK w b :=
  ⟨(hb.cell (p := ⟨w.heap.size, 0, none⟩) h.2.2.2.own).trans h.1, (hb.cell (p := ⟨w.heap.size, 1, none⟩) h.2.2.2.own).trans h.2.1, (hb.cell (p := ⟨w.heap.size, 2, none⟩) h.2.2.2.own).trans h.2.2.1, h.2.2.2.below hb⟩
set_option maxRecDepth 100000 in
set_option maxHeartbeats 4000000 in
theorem law_check (k : Int) (s : ByteArray) (a : Int) (w : World) (hm : s.size ≤ maxLen) (hG : Glob w) :
    Calls Tryz.prog 4 #[.agg #[.int .i64 k, .string s, .int .i64 a]] w fun e w' => e = .returned (.bool true) ∧ Below w.heap.size w w' := by
  unfold maxLen at hm
  have hgl := hG.lt
  have HB0 := Lib.hid (Below.alloc (Below.refl w.heap.size w) (Nat.le_refl _) (.cells #[.int .i64 k, .string s, .int .i64 a] 32))
  by_cases h4 : 400 < s.size
  · go_enter Tryz.func4, Tryz.ntmps4
    go_wp2_with fail
    refine (awake_any _ (hG.below HB0.out hgl)).mono ?_; rintro e w2 ⟨rfl, hB2⟩
    go_wp2_with fail
    go_ret
    exact ⟨rfl, HB0.out.trans (hB2.mono HB0.out.size)⟩
  · have hs : s.size ≤ 400 := by omega
    clear h4 hm
    have HT := Lib.hid (Blk.new w 32 #[.int .i64 k, .string s, .int .i64 a])
    go_enter Tryz.func4, Tryz.ntmps4
    go_wp2_with fail
    generalize hw1 : w.alloc (.cells #[.int .i64 k, .string s, .int .i64 a] 32) = w1 at *
    clear hw1
    have c0 : w1.cell? ⟨w.heap.size, 0, none⟩ = some (.int .i64 k) := by simpa using HT.out.cell 0
    have c1 : w1.cell? ⟨w.heap.size, 1, none⟩ = some (.string s) := by simpa using HT.out.cell 1
    have c2 : w1.cell? ⟨w.heap.size, 2, none⟩ = some (.int .i64 a) := by simpa using HT.out.cell 2
    have hlt := HT.out.lt
    have hG1 := hG.below HB0.out hgl
    have hB1 := HB0.out
    have hK : LK w w1 := ⟨hG1, hB1, hlt, hgl⟩
    clear hG1 hB1 hgl hG hlt
    go_region_held3 (fun w' => w'.cell? ⟨w.heap.size, 0, none⟩ = some (.int .i64 k) ∧ w'.cell? ⟨w.heap.size, 1, none⟩ = some (.string s) ∧ w'.cell? ⟨w.heap.size, 2, none⟩ = some (.int .i64 a) ∧ LK w w')
      (first | exact ⟨c0, c1, c2, hK.drew⟩ | exact LK.keep (by assumption) (by assumption) | exact LK.keep ⟨by assumption, by assumption, by assumption, by assumption⟩ (by assumption))
      (first
        | (go_at_call 10; refine (check_any k s a _ (by omega) (LK.glob4 (by assumption))).mono ?_; rintro e w' ⟨rfl, hb⟩)
        | (go_at_call 11; refine (rcheck_any k s a _ (by omega)).mono ?_; rintro e w' ⟨rfl, hb⟩)
        | (go_at_call 12; refine (name_any s _ (by omega)).mono ?_; rintro e w' ⟨rfl, hb⟩)
        | (go_at_call 13; refine (rname_any s _ (by omega)).mono ?_; rintro e w' ⟨rfl, hb⟩)
        | (go_at_call 6; refine (awake_any _ (LK.glob4 (by assumption))).mono ?_; rintro e w' ⟨rfl, hb⟩))
    all_goals
      go_wp2_with fail
      go_ret
      exact ⟨rfl, LK.low4 (by assumption)⟩
end Go.Proofs.YtnkmefnbhfghgaaGreatDoor
