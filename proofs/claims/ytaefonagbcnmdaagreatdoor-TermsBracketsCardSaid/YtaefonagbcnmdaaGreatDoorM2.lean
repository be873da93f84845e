import Derived.Test.YtaefonagbcnmdaaGreatDoorM1
import Derived.Test.YtaefonagbcnmdaaGreatDoorA23
import Derived.WalkSmall
import Derived.Laws.OwnMore
import Derived.StillTailTactics
import Derived.Deep.RegionHeld3
import Derived.BigQuiet
set_option linter.unusedSimpArgs false
set_option linter.unusedVariables false
namespace Go.Proofs.YtaefonagbcnmdaaGreatDoor
open Go.RowKit

set_option maxRecDepth 100000 in
set_option maxHeartbeats 4000000 in
/-- A prefix operator of too high a priority: an atom. -/
theorem beginName_low {w : World} {κ : Nat → Nat} {g : Nat} {ts : List Tm.T} {en : Tm.T} {s : Tm.S} {e : Tm.E} {es : List Tm.E} {tv sv av : Value} (h : RInv w κ g ts en s (e :: es) tv sv av) (k a : Int) (x : List UInt8) (T : Tm.T) (hT : Tm.peek ts en s.i = T)
    (hx : Tm.punct T ≠ [40, 40]) (h2 : (x == [45] && T.1 == 3) = false) (h3 : (Tm.isBang x && T.1 == 2) = false) (h4 : ((Tm.prefix_ x).1 == 0) = false) (h6 : decide (e.1.most < (Tm.prefix_ x).1) = true) (h5 : Tm.suits x [] = true) :
    Calls Tryz.prog 127 #[.pointer (some ⟨g, 0, none⟩), .agg #[.int .i64 k, .string ⟨x.toArray⟩, .int .i64 a]] w (BPost w κ g ts en tv (s.have_ (Tm.app x a []), true)) := by
  have hx' : Tm.punct (Tm.peek ts en s.i) ≠ (⟨#[40, 40]⟩ : ByteArray).toList := by rw [Go.ByteArray.toList_eq, hT]; exact hx
  have HX := Lib.hid hx'; clear hx hx'
  obtain ⟨q, cap, hsv, hq, hql, hcells⟩ := h.topCells
  subst hsv
  have hm := hcells 1 (.int .i64 e.1.most) rfl
  have HM := Lib.hid hm
  clear hq hcells hm
  have HH := Lib.hid h; clear h
  have HT := Lib.hid hT; clear hT
  have hck := checked_ok (Tm.app x a []) (.slice none 0 0)
  obtain ⟨S, hS⟩ : ∃ S : ByteArray, ⟨x.toArray⟩ = S := ⟨_, rfl⟩
  have hSx : S.toList = x := by rw [← hS, str_list]
  rw [hS]
  obtain ⟨P, hP⟩ : ∃ P, Tm.prefix_ x = P := ⟨_, rfl⟩
  rw [hP] at h4 h6
  have HP := Lib.hid (show Tm.prefix_ S.toList = P by rw [hSx]; exact hP)
  obtain ⟨Bg, hBg⟩ : ∃ b, Tm.isBang x = b := ⟨_, rfl⟩
  rw [hBg] at h3
  have HBG := Lib.hid (show Tm.isBang S.toList = Bg by rw [hSx]; exact hBg)
  have HS := Lib.hid hS
  have H5 := Lib.hid h5
  have h2' : (S.toList == [45]) = false ∨ ((S.toList == [45]) = true ∧ (T.1 == 3) = false) := by
    rw [hSx]
    cases hq : (x == [45])
    · exact .inl rfl
    · rw [hq, Bool.true_and] at h2; exact .inr ⟨rfl, h2⟩
  have h3' : Bg = false ∨ (Bg = true ∧ (T.1 == 2) = false) := by
    cases Bg
    · exact .inl rfl
    · rw [Bool.true_and] at h3; exact .inr ⟨rfl, h3⟩
  clear h2 h3 hP hBg hS hSx h5 hck
  rcases h2' with h2 | ⟨h2, h2b⟩ <;> rcases h3' with rfl | ⟨rfl, h3b⟩
  all_goals
    go_enter Tryz.func127, Tryz.ntmps127
    go_wp2_with fail
    refine (peek_any (HH.out.below ((Below.refl _ _).alloc (Nat.le_refl _) _))).mono ?_
    rintro e w2 ⟨rfl, hB2⟩
    rw [HT.out]
    have hbx := (Blk.new w 48 #[.int .i64 k, .string S, .int .i64 a]).below hB2 (by simp)
    have hbx2 := hbx.alloc (.cells #[.int .i64 T.1, .string ⟨T.2.1.toArray⟩, .int .i64 T.2.2] 48)
    have hby := Blk.new w2 48 #[.int .i64 T.1, .string ⟨T.2.1.toArray⟩, .int .i64 T.2.2]
    have hB3 : Below w.heap.size w (w2.alloc (.cells #[.int .i64 T.1, .string ⟨T.2.1.toArray⟩, .int .i64 T.2.2] 48)) := (((Below.refl w.heap.size w).alloc (Nat.le_refl _) _).trans (hB2.mono (by simp))).alloc (by have := hB2.size; simp at this; omega) _
    have HB3 := Lib.hid hB3
    have HBX := Lib.hid hbx2
    have HBY := Lib.hid hby
    have hz2 := hbx.lt
    clear hB2 hB3 hbx hbx2 hby
    go_wp2_with fail
    refine (pskip_no (HH.out.below HB3.out) _ HX.out).mono ?_
    rintro e w3 ⟨rfl, hB4⟩
    have hb3 := HBX.out.below hB4 HBX.out.lt
    have hc3 := HBY.out.below hB4 HBY.out.lt
    have t1 : w3.cell? ⟨w.heap.size, 1, none⟩ = some (.string S) := by simpa using hb3.cell 1
    have t2 : w3.cell? ⟨w.heap.size, 2, none⟩ = some (.int .i64 a) := by simpa using hb3.cell 2
    have u0 : w3.cell? ⟨w2.heap.size, 0, none⟩ = some (.int .i64 T.1) := by simpa using hc3.cell 0
    have HB5 := Lib.hid (HB3.out.trans (hB4.mono HB3.out.size))
    clear hb3 hc3 hB4
    go_wp2_with fail
    refine (isBang_any _ _).mono ?_
    rintro e w' ⟨rfl, rfl⟩
    rw [HBG.out]
    go_wp2_with fail
    refine (prefix_any _ _).mono ?_
    rintro e w' ⟨rfl, rfl⟩
    rw [HP.out]
    have hRt := HH.out.below HB5.out
    have hm3 := (HB5.out.cell (p := ⟨q, _, none⟩) hql).trans HM.out
    go_wp2_with fail
    refine (top_any hRt).mono ?_
    rintro e w' ⟨rfl, n, rfl⟩
    have HB5n := Lib.hid (drewN_below HB5.out n)
    clear HB5
    go_wp2_with fail
    refine (application_any _ _ none 0 0 _).mono ?_
    rintro e w4 ⟨rfl, hB6⟩
    rw [← HS.out]
    go_wp2_with fail
    refine (checked_ok (Tm.app x a []) (.slice none 0 0) _ ⟨none, 0, rfl, fun t r e => by cases e⟩ H5.out).mono ?_
    rintro e w5 ⟨rfl, hB7⟩
    have HB8 := Lib.hid ((HB5n.out.trans (hB6.mono HB5n.out.size)).trans (hB7.mono (HB5n.out.trans (hB6.mono HB5n.out.size)).size))
    clear hB6 hB7
    go_wp2_with fail
    refine (phave_any (HH.out.below HB8.out) (Tm.app x a []) (.slice none 0 0) (.nil none 0)).mono ?_
    rintro e w6 ⟨rfl, hR, hK⟩
    go_wp2_with fail
    go_ret
    exact ⟨rfl, κ, _, _, _, hR, (Kept.below HB8.out).trans hK⟩
end Go.Proofs.YtaefonagbcnmdaaGreatDoor

namespace Go.Proofs.YtaefonagbcnmdaaGreatDoor
open Go.RowKit

set_option maxRecDepth 100000 in
set_option maxHeartbeats 4000000 in
/-- A prefix operator without a term behind it: an atom. -/
theorem beginName_lone {w : World} {κ : Nat → Nat} {g : Nat} {ts : List Tm.T} {en : Tm.T} {s : Tm.S} {e : Tm.E} {es : List Tm.E} {tv sv av : Value} (h : RInv w κ g ts en s (e :: es) tv sv av) (k a : Int) (x : List UInt8) (T : Tm.T) (hT : Tm.peek ts en s.i = T)
    (hx : Tm.punct T ≠ [40, 40]) (h2 : (x == [45] && T.1 == 3) = false) (h3 : (Tm.isBang x && T.1 == 2) = false) (h4 : ((Tm.prefix_ x).1 == 0) = false) (h6 : decide (e.1.most < (Tm.prefix_ x).1) = false) (h7 : Tm.beginsOperand T = false) (h5 : Tm.suits x [] = true) :
    Calls Tryz.prog 127 #[.pointer (some ⟨g, 0, none⟩), .agg #[.int .i64 k, .string ⟨x.toArray⟩, .int .i64 a]] w (BPost w κ g ts en tv (s.have_ (Tm.app x a []), true)) := by
  have hx' : Tm.punct (Tm.peek ts en s.i) ≠ (⟨#[40, 40]⟩ : ByteArray).toList := by rw [Go.ByteArray.toList_eq, hT]; exact hx
  have HX := Lib.hid hx'; clear hx hx'
  obtain ⟨q, cap, hsv, hq, hql, hcells⟩ := h.topCells
  subst hsv
  have hm := hcells 1 (.int .i64 e.1.most) rfl
  have HM := Lib.hid hm
  clear hq hcells hm
  have HH := Lib.hid h; clear h
  have HT := Lib.hid hT; clear hT
  have hck := checked_ok (Tm.app x a []) (.slice none 0 0)
  obtain ⟨S, hS⟩ : ∃ S : ByteArray, ⟨x.toArray⟩ = S := ⟨_, rfl⟩
  have hSx : S.toList = x := by rw [← hS, str_list]
  rw [hS]
  obtain ⟨P, hP⟩ : ∃ P, Tm.prefix_ x = P := ⟨_, rfl⟩
  rw [hP] at h4 h6
  have h7' : Tm.beginsOperand (T.1, (⟨T.2.1.toArray⟩ : ByteArray).toList, T.2.2) = false := by rw [str_list]; exact h7
  have H7 := Lib.hid h7'
  have HP := Lib.hid (show Tm.prefix_ S.toList = P by rw [hSx]; exact hP)
  obtain ⟨Bg, hBg⟩ : ∃ b, Tm.isBang x = b := ⟨_, rfl⟩
  rw [hBg] at h3
  have HBG := Lib.hid (show Tm.isBang S.toList = Bg by rw [hSx]; exact hBg)
  have HS := Lib.hid hS
  have H5 := Lib.hid h5
  have h2' : (S.toList == [45]) = false ∨ ((S.toList == [45]) = true ∧ (T.1 == 3) = false) := by
    rw [hSx]
    cases hq : (x == [45])
    · exact .inl rfl
    · rw [hq, Bool.true_and] at h2; exact .inr ⟨rfl, h2⟩
  have h3' : Bg = false ∨ (Bg = true ∧ (T.1 == 2) = false) := by
    cases Bg
    · exact .inl rfl
    · rw [Bool.true_and] at h3; exact .inr ⟨rfl, h3⟩
  clear h2 h3 hP hBg hS hSx h5 hck h7 h7'
  rcases h2' with h2 | ⟨h2, h2b⟩ <;> rcases h3' with rfl | ⟨rfl, h3b⟩
  all_goals
    go_enter Tryz.func127, Tryz.ntmps127
    go_wp2_with fail
    refine (peek_any (HH.out.below ((Below.refl _ _).alloc (Nat.le_refl _) _))).mono ?_
    rintro e w2 ⟨rfl, hB2⟩
    rw [HT.out]
    have hbx := (Blk.new w 48 #[.int .i64 k, .string S, .int .i64 a]).below hB2 (by simp)
    have hbx2 := hbx.alloc (.cells #[.int .i64 T.1, .string ⟨T.2.1.toArray⟩, .int .i64 T.2.2] 48)
    have hby := Blk.new w2 48 #[.int .i64 T.1, .string ⟨T.2.1.toArray⟩, .int .i64 T.2.2]
    have hB3 : Below w.heap.size w (w2.alloc (.cells #[.int .i64 T.1, .string ⟨T.2.1.toArray⟩, .int .i64 T.2.2] 48)) := (((Below.refl w.heap.size w).alloc (Nat.le_refl _) _).trans (hB2.mono (by simp))).alloc (by have := hB2.size; simp at this; omega) _
    have HB3 := Lib.hid hB3
    have HBX := Lib.hid hbx2
    have HBY := Lib.hid hby
    have hz2 := hbx.lt
    clear hB2 hB3 hbx hbx2 hby
    go_wp2_with fail
    refine (pskip_no (HH.out.below HB3.out) _ HX.out).mono ?_
    rintro e w3 ⟨rfl, hB4⟩
    have hb3 := HBX.out.below hB4 HBX.out.lt
    have hc3 := HBY.out.below hB4 HBY.out.lt
    have t1 : w3.cell? ⟨w.heap.size, 1, none⟩ = some (.string S) := by simpa using hb3.cell 1
    have t2 : w3.cell? ⟨w.heap.size, 2, none⟩ = some (.int .i64 a) := by simpa using hb3.cell 2
    have u0 : w3.cell? ⟨w2.heap.size, 0, none⟩ = some (.int .i64 T.1) := by simpa using hc3.cell 0
    have u1 : w3.cell? ⟨w2.heap.size, 1, none⟩ = some (.string ⟨T.2.1.toArray⟩) := by simpa using hc3.cell 1
    have u2 : w3.cell? ⟨w2.heap.size, 2, none⟩ = some (.int .i64 T.2.2) := by simpa using hc3.cell 2
    have HB5 := Lib.hid (HB3.out.trans (hB4.mono HB3.out.size))
    clear hb3 hc3 hB4
    go_wp2_with fail
    refine (isBang_any _ _).mono ?_
    rintro e w' ⟨rfl, rfl⟩
    rw [HBG.out]
    go_wp2_with fail
    refine (prefix_any _ _).mono ?_
    rintro e w' ⟨rfl, rfl⟩
    rw [HP.out]
    have hRt := HH.out.below HB5.out
    have hm3 := (HB5.out.cell (p := ⟨q, _, none⟩) hql).trans HM.out
    go_wp2_with fail
    refine (top_any hRt).mono ?_
    rintro e w' ⟨rfl, n, rfl⟩
    go_wp2_with fail
    refine (beginsOperand_any _ _ _ _).mono ?_
    rintro e w4 ⟨rfl, hB5b⟩
    rw [H7.out]
    have hB5c := (drewN_below (Below.refl w3.heap.size w3) n).trans hB5b
    replace t1 := (hB5c.cell (p := ⟨w.heap.size, 1, none⟩) (World.block_lt_of_cell? w3 _ t1)).trans t1
    replace t2 := (hB5c.cell (p := ⟨w.heap.size, 2, none⟩) (World.block_lt_of_cell? w3 _ t2)).trans t2
    have HB5n := Lib.hid (HB5.out.trans (hB5c.mono HB5.out.size))
    clear HB5 hB5c hB5b
    go_wp2_with fail
    refine (application_any _ _ none 0 0 _).mono ?_
    rintro e w4 ⟨rfl, hB6⟩
    rw [← HS.out]
    go_wp2_with fail
    refine (checked_ok (Tm.app x a []) (.slice none 0 0) _ ⟨none, 0, rfl, fun t r e => by cases e⟩ H5.out).mono ?_
    rintro e w5 ⟨rfl, hB7⟩
    have HB8 := Lib.hid ((HB5n.out.trans (hB6.mono HB5n.out.size)).trans (hB7.mono (HB5n.out.trans (hB6.mono HB5n.out.size)).size))
    clear hB6 hB7
    go_wp2_with fail
    refine (phave_any (HH.out.below HB8.out) (Tm.app x a []) (.slice none 0 0) (.nil none 0)).mono ?_
    rintro e w6 ⟨rfl, hR, hK⟩
    go_wp2_with fail
    go_ret
    exact ⟨rfl, κ, _, _, _, hR, (Kept.below HB8.out).trans hK⟩
end Go.Proofs.YtaefonagbcnmdaaGreatDoor

namespace Go.Proofs.YtaefonagbcnmdaaGreatDoor
open Go.RowKit

set_option maxRecDepth 100000 in
set_option maxHeartbeats 4000000 in
/-- A prefix operator in front of a term. -/
theorem beginName_one {w : World} {κ : Nat → Nat} {g : Nat} {ts : List Tm.T} {en : Tm.T} {s : Tm.S} {e : Tm.E} {es : List Tm.E} {tv sv av : Value} (h : RInv w κ g ts en s (e :: es) tv sv av) (k a : Int) (x : List UInt8) (T : Tm.T) (hT : Tm.peek ts en s.i = T)
    (hx : Tm.punct T ≠ [40, 40]) (h2 : (x == [45] && T.1 == 3) = false) (h3 : (Tm.isBang x && T.1 == 2) = false) (h4 : ((Tm.prefix_ x).1 == 0) = false) (h6 : decide (e.1.most < (Tm.prefix_ x).1) = false) (h7 : Tm.beginsOperand T = true) (hes : (e :: es).length ≤ s.i) (h8 : (Tm.prefix_ x).2.2 = false) :
    Calls Tryz.prog 127 #[.pointer (some ⟨g, 0, none⟩), .agg #[.int .i64 k, .string ⟨x.toArray⟩, .int .i64 a]] w (BPost w κ g ts en tv (s.push ⟨1, (Tm.prefix_ x).2.1, x, a, [], [], 1, (Tm.prefix_ x).2.1, (Tm.prefix_ x).1⟩, false)) := by
  have hx' : Tm.punct (Tm.peek ts en s.i) ≠ (⟨#[40, 40]⟩ : ByteArray).toList := by rw [Go.ByteArray.toList_eq, hT]; exact hx
  have HX := Lib.hid hx'; clear hx hx'
  obtain ⟨q, cap, hsv, hq, hql, hcells⟩ := h.topCells
  subst hsv
  have hm := hcells 1 (.int .i64 e.1.most) rfl
  have HM := Lib.hid hm
  clear hq hcells hm
  have HH := Lib.hid h; clear h
  have HT := Lib.hid hT; clear hT
  obtain ⟨S, hS⟩ : ∃ S : ByteArray, ⟨x.toArray⟩ = S := ⟨_, rfl⟩
  have hSx : S.toList = x := by rw [← hS, str_list]
  rw [hS]
  obtain ⟨P, hP⟩ : ∃ P, Tm.prefix_ x = P := ⟨_, rfl⟩
  rw [hP] at h4 h6 h8 ⊢
  have HES := Lib.hid hes
  clear hes
  obtain ⟨pp, pr, pt⟩ := P
  dsimp only at h4 h6 h8 ⊢
  subst h8
  have h7' : Tm.beginsOperand (T.1, (⟨T.2.1.toArray⟩ : ByteArray).toList, T.2.2) = true := by rw [str_list]; exact h7
  have H7 := Lib.hid h7'
  have HP := Lib.hid (show Tm.prefix_ S.toList = (pp, pr, false) by rw [hSx]; exact hP)
  obtain ⟨Bg, hBg⟩ : ∃ b, Tm.isBang x = b := ⟨_, rfl⟩
  rw [hBg] at h3
  have HBG := Lib.hid (show Tm.isBang S.toList = Bg by rw [hSx]; exact hBg)
  have HS := Lib.hid hS
  have h2' : (S.toList == [45]) = false ∨ ((S.toList == [45]) = true ∧ (T.1 == 3) = false) := by
    rw [hSx]
    cases hq : (x == [45])
    · exact .inl rfl
    · rw [hq, Bool.true_and] at h2; exact .inr ⟨rfl, h2⟩
  have h3' : Bg = false ∨ (Bg = true ∧ (T.1 == 2) = false) := by
    cases Bg
    · exact .inl rfl
    · rw [Bool.true_and] at h3; exact .inr ⟨rfl, h3⟩
  clear h2 h3 hP hBg hS hSx h7 h7'
  rcases h2' with h2 | ⟨h2, h2b⟩ <;> rcases h3' with rfl | ⟨rfl, h3b⟩
  all_goals
    go_enter Tryz.func127, Tryz.ntmps127
    go_wp2_with fail
    refine (peek_any (HH.out.below ((Below.refl _ _).alloc (Nat.le_refl _) _))).mono ?_
    rintro e w2 ⟨rfl, hB2⟩
    rw [HT.out]
    have hbx := (Blk.new w 48 #[.int .i64 k, .string S, .int .i64 a]).below hB2 (by simp)
    have hbx2 := hbx.alloc (.cells #[.int .i64 T.1, .string ⟨T.2.1.toArray⟩, .int .i64 T.2.2] 48)
    have hby := Blk.new w2 48 #[.int .i64 T.1, .string ⟨T.2.1.toArray⟩, .int .i64 T.2.2]
    have hB3 : Below w.heap.size w (w2.alloc (.cells #[.int .i64 T.1, .string ⟨T.2.1.toArray⟩, .int .i64 T.2.2] 48)) := (((Below.refl w.heap.size w).alloc (Nat.le_refl _) _).trans (hB2.mono (by simp))).alloc (by have := hB2.size; simp at this; omega) _
    have HB3 := Lib.hid hB3
    have HBX := Lib.hid hbx2
    have HBY := Lib.hid hby
    have hz2 := hbx.lt
    clear hB2 hB3 hbx hbx2 hby
    go_wp2_with fail
    refine (pskip_no (HH.out.below HB3.out) _ HX.out).mono ?_
    rintro e w3 ⟨rfl, hB4⟩
    have hb3 := HBX.out.below hB4 HBX.out.lt
    have hc3 := HBY.out.below hB4 HBY.out.lt
    have t1 : w3.cell? ⟨w.heap.size, 1, none⟩ = some (.string S) := by simpa using hb3.cell 1
    have t2 : w3.cell? ⟨w.heap.size, 2, none⟩ = some (.int .i64 a) := by simpa using hb3.cell 2
    have u0 : w3.cell? ⟨w2.heap.size, 0, none⟩ = some (.int .i64 T.1) := by simpa using hc3.cell 0
    have u1 : w3.cell? ⟨w2.heap.size, 1, none⟩ = some (.string ⟨T.2.1.toArray⟩) := by simpa using hc3.cell 1
    have u2 : w3.cell? ⟨w2.heap.size, 2, none⟩ = some (.int .i64 T.2.2) := by simpa using hc3.cell 2
    have HB5 := Lib.hid (HB3.out.trans (hB4.mono HB3.out.size))
    clear hb3 hc3 hB4
    go_wp2_with fail
    refine (isBang_any _ _).mono ?_
    rintro e w' ⟨rfl, rfl⟩
    rw [HBG.out]
    go_wp2_with fail
    refine (prefix_any _ _).mono ?_
    rintro e w' ⟨rfl, rfl⟩
    rw [HP.out]
    have hRt := HH.out.below HB5.out
    have hm3 := (HB5.out.cell (p := ⟨q, _, none⟩) hql).trans HM.out
    go_wp2_with fail
    refine (top_any hRt).mono ?_
    rintro e w' ⟨rfl, n, rfl⟩
    go_wp2_with fail
    refine (beginsOperand_any _ _ _ _).mono ?_
    rintro e w4 ⟨rfl, hB5b⟩
    rw [H7.out]
    have hB5c := (drewN_below (Below.refl w3.heap.size w3) n).trans hB5b
    replace t1 := (hB5c.cell (p := ⟨w.heap.size, 1, none⟩) (World.block_lt_of_cell? w3 _ t1)).trans t1
    replace t2 := (hB5c.cell (p := ⟨w.heap.size, 2, none⟩) (World.block_lt_of_cell? w3 _ t2)).trans t2
    have HB5n := Lib.hid (HB5.out.trans (hB5c.mono HB5.out.size))
    clear HB5 hB5c hB5b
    go_wp2_with fail
    rw [← HS.out]
    refine (ppush_any (HH.out.below (HB5n.out.alloc HB5n.out.size _)) ⟨1, pr, x, a, [], [], 1, pr, pp⟩ (.slice none 0 0) (.slice none 0 0) (open_none rfl rfl) HES.out (by simp)).mono ?_
    rintro e w6 ⟨rfl, κ', sv', hR, hK⟩
    go_wp2_with fail
    go_ret
    exact ⟨rfl, κ', _, _, _, hR, (Kept.below (HB5n.out.alloc HB5n.out.size _)).trans hK⟩
end Go.Proofs.YtaefonagbcnmdaaGreatDoor

namespace Go.Proofs.YtaefonagbcnmdaaGreatDoor
open Go.RowKit

set_option maxRecDepth 100000 in
set_option maxHeartbeats 4000000 in
/-- A prefix operator in front of a term. -/
theorem beginName_two {w : World} {κ : Nat → Nat} {g : Nat} {ts : List Tm.T} {en : Tm.T} {s : Tm.S} {e : Tm.E} {es : List Tm.E} {tv sv av : Value} (h : RInv w κ g ts en s (e :: es) tv sv av) (k a : Int) (x : List UInt8) (T : Tm.T) (hT : Tm.peek ts en s.i = T)
    (hx : Tm.punct T ≠ [40, 40]) (h2 : (x == [45] && T.1 == 3) = false) (h3 : (Tm.isBang x && T.1 == 2) = false) (h4 : ((Tm.prefix_ x).1 == 0) = false) (h6 : decide (e.1.most < (Tm.prefix_ x).1) = false) (h7 : Tm.beginsOperand T = true) (hes : (e :: es).length ≤ s.i) (h8 : (Tm.prefix_ x).2.2 = true) :
    Calls Tryz.prog 127 #[.pointer (some ⟨g, 0, none⟩), .agg #[.int .i64 k, .string ⟨x.toArray⟩, .int .i64 a]] w (BPost w κ g ts en tv (s.push ⟨1, 0, x, a, [], [], 2, (Tm.prefix_ x).2.1, (Tm.prefix_ x).1⟩, false)) := by
  have hx' : Tm.punct (Tm.peek ts en s.i) ≠ (⟨#[40, 40]⟩ : ByteArray).toList := by rw [Go.ByteArray.toList_eq, hT]; exact hx
  have HX := Lib.hid hx'; clear hx hx'
  obtain ⟨q, cap, hsv, hq, hql, hcells⟩ := h.topCells
  subst hsv
  have hm := hcells 1 (.int .i64 e.1.most) rfl
  have HM := Lib.hid hm
  clear hq hcells hm
  have HH := Lib.hid h; clear h
  have HT := Lib.hid hT; clear hT
  obtain ⟨S, hS⟩ : ∃ S : ByteArray, ⟨x.toArray⟩ = S := ⟨_, rfl⟩
  have hSx : S.toList = x := by rw [← hS, str_list]
  rw [hS]
  obtain ⟨P, hP⟩ : ∃ P, Tm.prefix_ x = P := ⟨_, rfl⟩
  rw [hP] at h4 h6 h8 ⊢
  have HES := Lib.hid hes
  clear hes
  obtain ⟨pp, pr, pt⟩ := P
  dsimp only at h4 h6 h8 ⊢
  subst h8
  have h7' : Tm.beginsOperand (T.1, (⟨T.2.1.toArray⟩ : ByteArray).toList, T.2.2) = true := by rw [str_list]; exact h7
  have H7 := Lib.hid h7'
  have HP := Lib.hid (show Tm.prefix_ S.toList = (pp, pr, true) by rw [hSx]; exact hP)
  obtain ⟨Bg, hBg⟩ : ∃ b, Tm.isBang x = b := ⟨_, rfl⟩
  rw [hBg] at h3
  have HBG := Lib.hid (show Tm.isBang S.toList = Bg by rw [hSx]; exact hBg)
  have HS := Lib.hid hS
  have h2' : (S.toList == [45]) = false ∨ ((S.toList == [45]) = true ∧ (T.1 == 3) = false) := by
    rw [hSx]
    cases hq : (x == [45])
    · exact .inl rfl
    · rw [hq, Bool.true_and] at h2; exact .inr ⟨rfl, h2⟩
  have h3' : Bg = false ∨ (Bg = true ∧ (T.1 == 2) = false) := by
    cases Bg
    · exact .inl rfl
    · rw [Bool.true_and] at h3; exact .inr ⟨rfl, h3⟩
  clear h2 h3 hP hBg hS hSx h7 h7'
  rcases h2' with h2 | ⟨h2, h2b⟩ <;> rcases h3' with rfl | ⟨rfl, h3b⟩
  all_goals
    go_enter Tryz.func127, Tryz.ntmps127
    go_wp2_with fail
    refine (peek_any (HH.out.below ((Below.refl _ _).alloc (Nat.le_refl _) _))).mono ?_
    rintro e w2 ⟨rfl, hB2⟩
    rw [HT.out]
    have hbx := (Blk.new w 48 #[.int .i64 k, .string S, .int .i64 a]).below hB2 (by simp)
    have hbx2 := hbx.alloc (.cells #[.int .i64 T.1, .string ⟨T.2.1.toArray⟩, .int .i64 T.2.2] 48)
    have hby := Blk.new w2 48 #[.int .i64 T.1, .string ⟨T.2.1.toArray⟩, .int .i64 T.2.2]
    have hB3 : Below w.heap.size w (w2.alloc (.cells #[.int .i64 T.1, .string ⟨T.2.1.toArray⟩, .int .i64 T.2.2] 48)) := (((Below.refl w.heap.size w).alloc (Nat.le_refl _) _).trans (hB2.mono (by simp))).alloc (by have := hB2.size; simp at this; omega) _
    have HB3 := Lib.hid hB3
    have HBX := Lib.hid hbx2
    have HBY := Lib.hid hby
    have hz2 := hbx.lt
    clear hB2 hB3 hbx hbx2 hby
    go_wp2_with fail
    refine (pskip_no (HH.out.below HB3.out) _ HX.out).mono ?_
    rintro e w3 ⟨rfl, hB4⟩
    have hb3 := HBX.out.below hB4 HBX.out.lt
    have hc3 := HBY.out.below hB4 HBY.out.lt
    have t1 : w3.cell? ⟨w.heap.size, 1, none⟩ = some (.string S) := by simpa using hb3.cell 1
    have t2 : w3.cell? ⟨w.heap.size, 2, none⟩ = some (.int .i64 a) := by simpa using hb3.cell 2
    have u0 : w3.cell? ⟨w2.heap.size, 0, none⟩ = some (.int .i64 T.1) := by simpa using hc3.cell 0
    have u1 : w3.cell? ⟨w2.heap.size, 1, none⟩ = some (.string ⟨T.2.1.toArray⟩) := by simpa using hc3.cell 1
    have u2 : w3.cell? ⟨w2.heap.size, 2, none⟩ = some (.int .i64 T.2.2) := by simpa using hc3.cell 2
    have HB5 := Lib.hid (HB3.out.trans (hB4.mono HB3.out.size))
    clear hb3 hc3 hB4
    go_wp2_with fail
    refine (isBang_any _ _).mono ?_
    rintro e w' ⟨rfl, rfl⟩
    rw [HBG.out]
    go_wp2_with fail
    refine (prefix_any _ _).mono ?_
    rintro e w' ⟨rfl, rfl⟩
    rw [HP.out]
    have hRt := HH.out.below HB5.out
    have hm3 := (HB5.out.cell (p := ⟨q, _, none⟩) hql).trans HM.out
    go_wp2_with fail
    refine (top_any hRt).mono ?_
    rintro e w' ⟨rfl, n, rfl⟩
    go_wp2_with fail
    refine (beginsOperand_any _ _ _ _).mono ?_
    rintro e w4 ⟨rfl, hB5b⟩
    rw [H7.out]
    have hB5c := (drewN_below (Below.refl w3.heap.size w3) n).trans hB5b
    replace t1 := (hB5c.cell (p := ⟨w.heap.size, 1, none⟩) (World.block_lt_of_cell? w3 _ t1)).trans t1
    replace t2 := (hB5c.cell (p := ⟨w.heap.size, 2, none⟩) (World.block_lt_of_cell? w3 _ t2)).trans t2
    have HB5n := Lib.hid (HB5.out.trans (hB5c.mono HB5.out.size))
    clear HB5 hB5c hB5b
    go_wp2_with fail
    rw [← HS.out]
    refine (ppush_any (HH.out.below (HB5n.out.alloc HB5n.out.size _)) ⟨1, 0, x, a, [], [], 2, pr, pp⟩ (.slice none 0 0) (.slice none 0 0) (open_none rfl rfl) HES.out (by simp)).mono ?_
    rintro e w6 ⟨rfl, κ', sv', hR, hK⟩
    go_wp2_with fail
    go_ret
    exact ⟨rfl, κ', _, _, _, hR, (Kept.below (HB5n.out.alloc HB5n.out.size _)).trans hK⟩
end Go.Proofs.YtaefonagbcnmdaaGreatDoor

namespace Go.Proofs.YtaefonagbcnmdaaGreatDoor
open Go.RowKit

theorem Blk.term5 {w : World} {N : Nat} {t : TypeId} {x0 x1 x2 x3 x4 : Value} (h : Blk w N t #[x0, x1, x2, x3, x4]) (a : Int) (b : ByteArray) (c : Int) (d : Value) (e : Int) :
    ∃ w3, ((((w.setCell ⟨N, 0, none⟩ (.int .i64 a)).setCell ⟨N, 1, none⟩ (.string b)).setCell ⟨N, 2, none⟩ (.int .i64 c)).setCell ⟨N, 3, none⟩ d).setCell ⟨N, 4, none⟩ (.int .i64 e) = w3 ∧
      Blk w3 N t #[.int .i64 a, .string b, .int .i64 c, d, .int .i64 e] ∧ w.grownBy w3 (some N) ∧ (∀ B w0, Below B w0 w → B ≤ N → Below B w0 w3) ∧
      w3.cell? ⟨N, 0, none⟩ = some (.int .i64 a) ∧ w3.cell? ⟨N, 1, none⟩ = some (.string b) ∧ w3.cell? ⟨N, 2, none⟩ = some (.int .i64 c) ∧ w3.cell? ⟨N, 3, none⟩ = some d ∧ w3.cell? ⟨N, 4, none⟩ = some (.int .i64 e) := by
  have hE : Blk (((((w.setCell ⟨N, 0, none⟩ (.int .i64 a)).setCell ⟨N, 1, none⟩ (.string b)).setCell ⟨N, 2, none⟩ (.int .i64 c)).setCell ⟨N, 3, none⟩ d).setCell ⟨N, 4, none⟩ (.int .i64 e)) N t #[.int .i64 a, .string b, .int .i64 c, d, .int .i64 e] := by
    simpa using ((((h.put 0 (.int .i64 a)).put 1 (.string b)).put 2 (.int .i64 c)).put 3 d).put 4 (.int .i64 e)
  refine ⟨_, rfl, hE, ?_, ?_, by simpa using hE.cell 0, by simpa using hE.cell 1, by simpa using hE.cell 2, by simpa using hE.cell 3, by simpa using hE.cell 4⟩
  · exact gb_set (gb_set (gb_set (gb_set (gb_set (gb_refl w (some N)) (p := ⟨N, 0, none⟩) (.inl rfl) _) (p := ⟨N, 1, none⟩) (.inl rfl) _) (p := ⟨N, 2, none⟩) (.inl rfl) _) (p := ⟨N, 3, none⟩) (.inl rfl) _) (p := ⟨N, 4, none⟩) (.inl rfl) _
  · intro B w0 hB hN
    exact ((((hB.setCell (p := ⟨N, 0, none⟩) hN _).setCell (p := ⟨N, 1, none⟩) hN _).setCell (p := ⟨N, 2, none⟩) hN _).setCell (p := ⟨N, 3, none⟩) hN _).setCell (p := ⟨N, 4, none⟩) hN _
theorem digits_acc {M : Nat} : ∀ {l : List UInt8} {acc u : Nat}, Lib.parseUintM M acc l = .ok u → l.foldl (fun n c => 10 * n + ((c.toNat : Int) - 48)) (acc : Int) = (u : Int)
  | [], acc, u, h => by simp only [Lib.parseUintM] at h; injection h with h; simp [h]
  | c :: r, acc, u, h => by
    simp only [Lib.parseUintM] at h
    split at h
    · rename_i hc
      split at h
      · cases h
      · split at h
        · cases h
        · have e := digits_acc h
          rw [List.foldl_cons, ← e]
          congr 1
          omega
    · cases h
/-- A token that is right: the text of an int. -/
theorem int_right {l : List UInt8} (h : Tk.check 3 l = 0) : ∃ c r, l = c :: r ∧ 48 ≤ c.toNat ∧ c.toNat ≤ 57 ∧ ∃ u : Nat, Lib.parseUintB 64 l = .ok u ∧ u ≤ 4611686018427387903 ∧ (u : Int) = Tm.digits l := by
  unfold Tk.check at h
  rw [if_neg (by decide), if_neg (by decide)] at h
  split at h
  · rename_i hf
    rw [if_neg (by decide), if_neg (by decide), if_pos rfl] at h
    have hf' : Tk.every Tk.digit l = true := hf
    cases l with
    | nil => simp [Tk.every] at hf'
    | cons c r =>
      have hc := every_all hf' c (by simp)
      simp only [Tk.digit, Bool.and_eq_true, decide_eq_true_eq] at hc
      refine ⟨c, r, rfl, by omega, by omega, ?_⟩
      unfold Tk.digits at h
      cases hp : Lib.parseUintB 64 (c :: r) with
      | ok u =>
        rw [hp] at h
        dsimp only at h
        split at h
        · omega
        · refine ⟨u, rfl, by omega, ?_⟩
          unfold Lib.parseUintB at hp
          rw [if_neg (by simp)] at hp
          exact (digits_acc hp).symm
      | _ => rw [hp] at h; simp at h
  · omega
theorem parse_plain {l : List UInt8} (h : Tk.check 3 l = 0) : Lib.parseIntB 64 l = .ok (Tm.digits l) := by
  obtain ⟨c, r, rfl, h1, h2, u, hu, hm, he⟩ := int_right h
  rw [Lib.parseIntB_plain 64 c r (by omega) (by omega), hu, Lib.signlessC, if_neg (by simp; omega), he]
theorem parse_minus {l : List UInt8} (h : Tk.check 3 l = 0) : Lib.parseIntB 64 (45 :: l) = .ok (- Tm.digits l) := by
  obtain ⟨c, r, rfl, h1, h2, u, hu, hm, he⟩ := int_right h
  rw [Lib.parseIntB_minus, hu, Lib.signedC, if_neg (by simp; omega), he]
set_option maxRecDepth 100000 in
set_option maxHeartbeats 1000000 in
theorem number_any (sg x : ByteArray) (k a v : Int) (w : World) (hs : sg.size ≤ 1) (hx : x.size ≤ 65536) (h : Lib.parseIntB 64 (sg ++ x).data.toList = .ok v) :
    Calls Tryz.prog 130 #[.string sg, .agg #[.int .i64 k, .string x, .int .i64 a]] w fun e w' => e = .returned (.agg #[.int .i64 1, .string ⟨#[]⟩, .int .i64 v, .slice none 0 0, .int .i64 a]) ∧ Below w.heap.size w w' := by
  have HP := Lib.hid h; clear h
  have hsz : (sg ++ x).size ≤ 65537 := by rw [ByteArray.size_append]; omega
  have hsz2 : (sg.size : Int) + x.size ≤ 65537 := by omega
  go_enter Tryz.func130, Tryz.ntmps130
  go_wp2_with fail
  refine (Tryz.strconv_ParseInt_10_at64_ok (sg ++ x) (by omega) v HP.out _).mono ?_
  rintro e w2 ⟨rfl, hw⟩
  have hB2 : Below ((w.alloc (.cells #[.int .i64 k, .string x, .int .i64 a] 48)).alloc (.cells #[.int .i64 0, .string ⟨#[]⟩, .int .i64 0, .slice none 0 0, .int .i64 0] 32)).heap.size ((w.alloc (.cells #[.int .i64 k, .string x, .int .i64 a] 48)).alloc (.cells #[.int .i64 0, .string ⟨#[]⟩, .int .i64 0, .slice none 0 0, .int .i64 0] 32)) w2 := by
    rcases hw with rfl | ⟨t, rfl⟩
    · exact Below.refl _ _
    · exact Joins.below_bytesWorld _ _ _ _ (Nat.le_refl _)
  have hB3 := (((Below.refl w.heap.size w).alloc (Nat.le_refl _) (.cells #[.int .i64 k, .string x, .int .i64 a] 48)).alloc (by simp) (.cells #[.int .i64 0, .string ⟨#[]⟩, .int .i64 0, .slice none 0 0, .int .i64 0] 32)).trans (hB2.mono (by simp; omega))
  have hT := ((Blk.new w 48 #[.int .i64 k, .string x, .int .i64 a]).alloc (.cells #[.int .i64 0, .string ⟨#[]⟩, .int .i64 0, .slice none 0 0, .int .i64 0] 32)).below hB2 (by simp; omega)
  have hR := (Blk.new (w.alloc (.cells #[.int .i64 k, .string x, .int .i64 a] 48)) 32 #[.int .i64 0, .string ⟨#[]⟩, .int .i64 0, .slice none 0 0, .int .i64 0]).below hB2 (by simp)
  rw [World.size_alloc] at hR
  have t2 : w2.cell? ⟨w.heap.size, 2, none⟩ = some (.int .i64 a) := by simpa using hT.cell 2
  obtain ⟨r0, r1, r2, r3, r4⟩ : w2.cell? ⟨w.heap.size + 1, 0, none⟩ = some (.int .i64 0) ∧ w2.cell? ⟨w.heap.size + 1, 1, none⟩ = some (.string ⟨#[]⟩) ∧ w2.cell? ⟨w.heap.size + 1, 2, none⟩ = some (.int .i64 0) ∧ w2.cell? ⟨w.heap.size + 1, 3, none⟩ = some (.slice none 0 0) ∧ w2.cell? ⟨w.heap.size + 1, 4, none⟩ = some (.int .i64 0) :=
    ⟨by simpa using hR.cell 0, by simpa using hR.cell 1, by simpa using hR.cell 2, by simpa using hR.cell 3, by simpa using hR.cell 4⟩
  have hf := hR.frozen
  have hrl := hR.lt
  clear hw
  go_wp2_with fail
  obtain ⟨w3, hw3, _, _, hB5, q0, q1, q2, q3, q4⟩ := hR.term5 1 ⟨#[]⟩ v (.slice none 0 0) a
  rw [hw3]
  exact bodyPost_ret (v := .agg #[.int .i64 1, .string ⟨#[]⟩, .int .i64 v, .slice none 0 0, .int .i64 a]) (by simp [results, Tryz.results130, go_sem, q0, q1, q2, q3, q4]) rfl ⟨rfl, hB5 _ _ hB3 (by omega)⟩
end Go.Proofs.YtaefonagbcnmdaaGreatDoor

namespace Go.Proofs.YtaefonagbcnmdaaGreatDoor
open Go.RowKit

set_option maxRecDepth 100000 in
set_option maxHeartbeats 4000000 in
/-- - in front of an int. -/
theorem beginName_int {w : World} {κ : Nat → Nat} {g : Nat} {ts : List Tm.T} {en : Tm.T} {s : Tm.S} {es : List Tm.E} {tv sv av : Value} (h : RInv w κ g ts en s es tv sv av) (hi : s.i ≤ ts.length) (k a : Int) (T : Tm.T) (hT : Tm.peek ts en s.i = T)
    (hx : Tm.punct T ≠ [40, 40]) (h3 : (T.1 == 3) = true) (hR : Tk.check 3 T.2.1 = 0) (hz : T.2.1.length ≤ 65536) :
    Calls Tryz.prog 127 #[.pointer (some ⟨g, 0, none⟩), .agg #[.int .i64 k, .string ⟨#[45]⟩, .int .i64 a]] w (BPost w κ g ts en tv (s.next.have_ (.mk 1 [] (- Tm.digits T.2.1) [] a), true)) := by
  have hx' : Tm.punct (Tm.peek ts en s.i) ≠ (⟨#[40, 40]⟩ : ByteArray).toList := by rw [Go.ByteArray.toList_eq, hT]; exact hx
  have HX := Lib.hid hx'; clear hx hx'
  have HP := Lib.hid (parse_minus hR); clear hR
  have HZ := Lib.hid hz; clear hz
  obtain ⟨κ1, hR1, hK1, hc⟩ := h.boxed (.cells #[.int .i64 k, .string ⟨#[45]⟩, .int .i64 a] 48)
  have HR1 := Lib.hid hR1
  have HK1 := Lib.hid hK1
  have HC := Lib.hid hc
  clear h hR1 hK1 hc
  have HT := Lib.hid hT; clear hT
  go_enter Tryz.func127, Tryz.ntmps127
  go_wp2_with fail
  refine (peek_any HR1.out).mono ?_
  rintro e w2 ⟨rfl, hB2⟩
  rw [HT.out]
  have hbx := (Blk.new w 48 #[.int .i64 k, .string ⟨#[45]⟩, .int .i64 a]).below hB2 (by simp)
  have HBX := Lib.hid (hbx.alloc (.cells #[.int .i64 T.1, .string ⟨T.2.1.toArray⟩, .int .i64 T.2.2] 48))
  have HBY := Lib.hid (Blk.new w2 48 #[.int .i64 T.1, .string ⟨T.2.1.toArray⟩, .int .i64 T.2.2])
  have hB3 : Below (w.alloc (.cells #[.int .i64 k, .string ⟨#[45]⟩, .int .i64 a] 48)).heap.size (w.alloc (.cells #[.int .i64 k, .string ⟨#[45]⟩, .int .i64 a] 48)) (w2.alloc (.cells #[.int .i64 T.1, .string ⟨T.2.1.toArray⟩, .int .i64 T.2.2] 48)) := hB2.alloc hB2.size _
  have HB3 := Lib.hid hB3
  have hz2 := hbx.lt
  clear hB2 hB3 hbx
  go_wp2_with fail
  refine (pskip_no (HR1.out.below HB3.out) _ HX.out).mono ?_
  rintro e w3 ⟨rfl, hB4⟩
  have hb3 := HBX.out.below hB4 HBX.out.lt
  have hc3 := HBY.out.below hB4 HBY.out.lt
  have t1 : w3.cell? ⟨w.heap.size, 1, none⟩ = some (.string ⟨#[45]⟩) := by simpa using hb3.cell 1
  have u0 : w3.cell? ⟨w2.heap.size, 0, none⟩ = some (.int .i64 T.1) := by simpa using hc3.cell 0
  have HB5 := Lib.hid (HB3.out.trans (hB4.mono HB3.out.size))
  have HR4 := Lib.hid (HR1.out.below HB5.out)
  have HB3b := Lib.hid hb3
  clear hb3 hc3 hB4
  go_wp2_with fail
  refine (ptake_any HR4.out hi).mono ?_
  rintro e w4 ⟨rfl, hR5, hK5⟩
  rw [HT.out]
  have hb4 := HB3b.out.kept hK5 HC.out
  have t2 : w4.cell? ⟨w.heap.size, 2, none⟩ = some (.int .i64 a) := by simpa using hb4.cell 2
  have htl := hb4.lt
  have HR5 := Lib.hid hR5
  have HK5 := Lib.hid hK5
  clear hR5 hK5 hb4
  go_wp2_with fail
  refine (number_any ⟨#[45]⟩ ⟨T.2.1.toArray⟩ T.1 T.2.2 (- Tm.digits T.2.1) _ (by decide) (by have := HZ.out; simpa [ByteArray.size] using this) (by have := HP.out; simpa [ByteArray.data_append] using this)).mono ?_
  rintro e w5 ⟨rfl, hB6⟩
  have t2' : w5.cell? ⟨w.heap.size, 2, none⟩ = some (.int .i64 a) := (hB6.cell (p := ⟨w.heap.size, 2, none⟩) htl).trans t2
  have htl5 : w.heap.size < w5.heap.size := World.block_lt_of_cell? w5 _ t2'
  have HB6 := Lib.hid hB6
  clear hB6 t2
  go_wp2_with fail
  refine (phave_any (HR5.out.below (HB6.out.alloc HB6.out.size (.cells #[.int .i64 1, .string ⟨#[]⟩, .int .i64 (- Tm.digits T.2.1), .slice none 0 0, .int .i64 a] 32))) (Tm.mk 1 [] (- Tm.digits T.2.1) [] a) (.slice none 0 0) (.nil none 0)).mono ?_
  rintro e w6 ⟨rfl, hR, hK⟩
  go_wp2_with fail
  go_ret
  exact ⟨rfl, κ1, es, sv, _, hR, ((HK1.out.trans (Kept.below HB5.out)).trans HK5.out).trans ((Kept.below (HB6.out.alloc HB6.out.size (.cells #[.int .i64 1, .string ⟨#[]⟩, .int .i64 (- Tm.digits T.2.1), .slice none 0 0, .int .i64 a] 32))).trans hK)⟩
end Go.Proofs.YtaefonagbcnmdaaGreatDoor

namespace Go.Proofs.YtaefonagbcnmdaaGreatDoor
open Go.RowKit

/-- The innermost open term's own rows, and its cells in the stack's row, turn: all else of the reader is as it was. -/
theorem RInv.turnTop {w w5 w' : World} {κ κ5 : Nat → Nat} {g : Nat} {ts : List Tm.T} {en : Tm.T} {s : Tm.S} {e e' : Tm.E} {es : List Tm.E} {tv av : Value} {q cap : Nat}
    (h : RInv w κ g ts en s (e :: es) tv (.slice (some ⟨q, 0, none⟩) (es.length + 1) cap) av)
    (hS : Stays κ κ5 w w5 (fun x => x ≠ 4 + 2 * es.length ∧ x ≠ 5 + 2 * es.length)) (hK : Kept κ κ5 w w5) (he : OpenR w5 κ5 (g + 1) es.length e')
    (hpe : e'.1.parts.length ≤ s.i + 1 ∧ e'.1.places.length ≤ s.i + 1)
    (hw : w5.grownBy w' (some q)) (hown : w'.ownsRow (g + 1) 110 9 (.slice (some ⟨q, 0, none⟩) (es.length + 1) cap) (es.length + 1) (Tm.rows es ++ Tm.cells e')) :
    RInv w' κ5 g ts en { s with stack := e'.1 :: es.map (·.1) } (e' :: es) tv (.slice (some ⟨q, 0, none⟩) (es.length + 1) cap) av ∧ Kept κ κ5 w w' := by
  have hq3 : κ q = 3 := h.ks q rfl
  have hql := (h.own.lt q rfl).2
  have hgl := h.blk.lt
  obtain ⟨eg, eg2⟩ := hS g hgl (by rw [h.kg]; omega)
  obtain ⟨_, eq2⟩ := hS q hql (by rw [hq3]; omega)
  have hk5g : κ5 g = 2 := eg2.trans h.kg
  have hk5q : κ5 q = 3 := eq2.trans hq3
  have hS2 : Stays κ5 κ5 w5 w' (fun x => x ≠ 3) := .of_grown hw (fun k e => by cases e; exact hk5q)
  have hK2 : Kept κ5 κ5 w5 w' := .of_grown hw (fun k e => by cases e; rw [hk5q]; decide)
  have hK3 := hK.trans hK2
  obtain ⟨hOpen, hEnts⟩ := h.ents
  have hb5 : Blk w5 g 106 _ := eg.trans h.blk
  have hb' := (hS2 g hb5.lt (by rw [hk5g]; decide)).1.trans hb5
  refine ⟨⟨hb', hk5g, h.toks.kept hK3, hown, fun k e => by cases e; exact hk5q, ⟨?_, ?_⟩, h.term.kept hK3, by simp, h.hi, h.hn, h.hes, ?_⟩, hK3⟩
  · exact he.stays hS2 hK2 (by omega) (by omega)
  · exact (hEnts.stays hS hK (fun i hi => ⟨⟨by omega, by omega⟩, ⟨by omega, by omega⟩⟩)).stays hS2 hK2 (fun i hi => ⟨by omega, by omega⟩)
  · intro x hx
    rcases List.mem_cons.1 hx with rfl | hx
    · exact hpe
    · exact h.hp x (List.mem_cons_of_mem _ hx)
/-- One cell of the innermost open term turns: none of its rows. -/
theorem RInv.setTop {w : World} {κ : Nat → Nat} {g : Nat} {ts : List Tm.T} {en : Tm.T} {s : Tm.S} {e e' : Tm.E} {es : List Tm.E} {tv av : Value} {q cap : Nat}
    (h : RInv w κ g ts en s (e :: es) tv (.slice (some ⟨q, 0, none⟩) (es.length + 1) cap) av) (j : Nat) (u : Value)
    (hc : Tm.cells e' = (Tm.cells e).set j u) (h1 : e'.1.parts = e.1.parts) (h2 : e'.1.places = e.1.places) (h3 : e'.2 = e.2) :
    RInv (w.setCell ⟨q, es.length * 9 + j, none⟩ u) κ g ts en { s with stack := e'.1 :: es.map (·.1) } (e' :: es) tv (.slice (some ⟨q, 0, none⟩) (es.length + 1) cap) av ∧ Kept κ κ w (w.setCell ⟨q, es.length * 9 + j, none⟩ u) := by
  have hst := World.ownsRow.stored (n := es.length + 1) h.own (es.length * 9 + j) u
  have hS : Stays κ κ w w (fun x => x ≠ 4 + 2 * es.length ∧ x ≠ 5 + 2 * es.length) := fun b _ _ => ⟨rfl, rfl⟩
  have hO : OpenR w κ (g + 1) es.length e' := by
    have := h.ents.1
    exact ⟨by rw [h1, h3]; exact this.parts, by rw [h3]; exact this.kp, by rw [h2, h3]; exact this.places, by rw [h3]; exact this.kq⟩
  have hpe := h.hp e (by simp)
  refine h.turnTop hS (.refl _ _) hO (by rw [h1, h2]; exact hpe) hst.2 ?_
  have := hst.1
  simp only [Tm.rows] at this
  rw [List.set_append, if_neg (by rw [Tm.rows_len]; omega), Tm.rows_len, Nat.add_sub_cancel_left, ← hc] at this
  exact this
/-- What the innermost open term hands over: a term whose arguments are there for good, or are its parts. -/
def GRet (w : World) (κ : Nat → Nat) (e : Tm.E) (t : Tm) (v : Value) : Prop := Targs w κ v t.args ∨ (v = e.2.1 ∧ t.args = e.1.parts)
theorem flat_sub {l : List Tm} {vs : List Value} (hl : vs.length = l.length) : (Tm.flat l vs).length = l.length * 5 := Tm.flat_len hl
theorem Targs.of_row {w : World} {κ : Nat → Nat} {B : Nat} {v : Value} {l : List Tm} {vs : List Value} (hl : vs.length = l.length) (hown : w.ownsRow B 32 5 v l.length (Tm.flat l vs))
    (hk : ∀ k, v.ownBlock = some k → κ k = 0) (hs : ∀ (j : Nat) a t, vs[j]? = some a → l[j]? = some t → Targs w κ a t.args) : Targs w κ v l := by
  have hlt := hown.lt
  have hcells := fun g hg => hown.cells (g := g) hg
  rcases hown.2 with ⟨rfl, h0⟩ | ⟨q, cap, cur, rfl, hq, hg, hn, hcap, hsz, ht⟩
  · have : l = [] := List.eq_nil_of_length_eq_zero h0
    subst this
    exact .nil none 0
  · refine .mk q 0 cap l vs hl hn (hlt q rfl).2 (hk q rfl) (fun j u hu => ?_) hs
    have := hcells q rfl j u hu
    rwa [show (⟨q, 0, none⟩ : Addr).add j = ⟨q, 0 + j, none⟩ from by unfold Addr.add; split <;> simp_all] at this
/-- The innermost open term is complete, and leaves the stack. -/
theorem RInv.popped {w w' : World} {κ : Nat → Nat} {g : Nat} {ts : List Tm.T} {en : Tm.T} {s : Tm.S} {e : Tm.E} {es : List Tm.E} {tv av v : Value} {q cap : Nat} {t : Tm} {pr : Int}
    (h : RInv w κ g ts en s (e :: es) tv (.slice (some ⟨q, 0, none⟩) (es.length + 1) cap) av) (hv : GRet w κ e t v) (hg : w.grownBy w' (some g))
    (hb : Blk w' g 106 #[tv, .int .i64 s.i, .int .i64 en.1, .string ⟨en.2.1.toArray⟩, .int .i64 en.2.2, .slice (some ⟨q, 0, none⟩) es.length cap, .int .i64 t.kind, .string ⟨t.name.toArray⟩, .int .i64 t.num, v, .int .i64 t.at_, .int .i64 pr]) :
    ∃ κ', RInv w' κ' g ts en ⟨s.i, es.map (·.1), t, pr⟩ es tv (.slice (some ⟨q, 0, none⟩) es.length cap) v ∧ Kept κ κ' w w' := by
  obtain ⟨hK, h1, h2, ⟨h3, h4⟩, h5⟩ := h.self hg
  obtain ⟨⟨vs, hvl, hvo, hvs⟩, hkp, _, _⟩ := h3
  have hlt := hvo.lt
  have hS : Stays κ (recol κ e.2.1 0) w' w' (fun x => x ≠ 4 + 2 * es.length) := fun b _ hb2 => ⟨rfl, recol_other (fun e2 => hb2 (hkp b e2))⟩
  have hK2 : Kept κ (recol κ e.2.1 0) w' w' := ⟨rfl, rfl, rfl, Nat.le_refl _, fun b hb2 hk => ⟨rfl, recol_other (fun e2 => by have := hkp b e2; omega)⟩⟩
  have hks : ∀ k, (Value.slice (some ⟨q, 0, none⟩) es.length cap).ownBlock = some k → κ k = 3 := fun k e2 => h.ks k e2
  have hpop : w'.ownsRow (g + 1) 110 9 (.slice (some ⟨q, 0, none⟩) es.length cap) es.length (Tm.rows es) := ownsRow_pop (Tm.rows_len es) h2
  obtain ⟨o1, o2⟩ := own_stays hS hpop hks (by omega)
  refine ⟨recol κ e.2.1 0, ⟨hb, ?_, h1.kept hK2, o1, o2, ?_, ?_, rfl, h.hi, h.hn, by have := h.hes; simp at this; show es.length ≤ s.i + 1; omega, fun x hx => h.hp x (List.mem_cons_of_mem _ hx)⟩, hK.trans hK2⟩
  · exact (hS g hb.lt (by rw [h.kg]; omega)).2.trans h.kg
  · exact h4.stays hS hK2 (fun i hi => ⟨by omega, by omega⟩)
  · rcases hv with hv | ⟨rfl, ha⟩
    · exact (hv.kept hK).kept hK2
    · rw [ha]
      exact .of_row hvl hvo (fun k hk => recol_own _ _ _ k hk) (fun j a t' ha' ht' => (hvs j a t' ha' ht').kept hK2)
end Go.Proofs.YtaefonagbcnmdaaGreatDoor

namespace Go.Proofs.YtaefonagbcnmdaaGreatDoor
open Go.RowKit

/-- A term as a value; v: its arguments. -/
def Tm.val (t : Tm) (v : Value) : Value := .agg #[.int .i64 t.kind, .string ⟨t.name.toArray⟩, .int .i64 t.num, v, .int .i64 t.at_]
theorem Tm.list_end {l : List Tm} {pl : List Int} {e : Tm} {k : Nat} (hk : l.length ≤ k) : Tm.list (l.drop k) (pl.drop k) e = e := by
  rw [List.drop_of_length_le hk]; rfl
theorem Tm.list_step {l : List Tm} {pl : List Int} {e : Tm} {k : Nat} (hk : k < l.length) (hk2 : k < pl.length) : Tm.list (l.drop k) (pl.drop k) e = Tm.app [91, 124, 93] pl[k] [l[k], Tm.list (l.drop (k + 1)) (pl.drop (k + 1)) e] := by
  rw [List.drop_eq_getElem_cons hk, List.drop_eq_getElem_cons hk2]
  rfl
/-- Two terms in a new block. -/
theorem Targs.two {w W : World} {κ : Nat → Nat} {x y : Tm} {a b : Value} (hx : Targs w κ a x.args) (hy : Targs w κ b y.args) (hk : κ w.heap.size = 0) (hK : Kept κ κ w W)
    (hb : Blk W w.heap.size 32 #[.int .i64 x.kind, .string ⟨x.name.toArray⟩, .int .i64 x.num, a, .int .i64 x.at_, .int .i64 y.kind, .string ⟨y.name.toArray⟩, .int .i64 y.num, b, .int .i64 y.at_]) :
    Targs W κ (.slice (some ⟨w.heap.size, 0, none⟩) 2 2) [x, y] := by
  refine .mk w.heap.size 0 2 [x, y] [a, b] rfl (by simp) hb.lt hk (fun j u hu => ?_) (fun i v t hv ht => ?_)
  · rw [hb.cell]
    rw [Nat.zero_add]
    simpa [Tm.flat] using hu
  · match i, hv, ht with
    | 0, hv, ht => simp at hv ht; subst hv; subst ht; exact hx.kept hK
    | 1, hv, ht => simp at hv ht; subst hv; subst ht; exact hy.kept hK
theorem Targs.recolor {w : World} {κ κ' : Nat → Nat} (h : ∀ b, κ b = 0 → κ' b = 0) {v : Value} {l : List Tm} (ht : Targs w κ v l) : Targs w κ' v l := by
  induction ht with
  | nil A cap => exact .nil A cap
  | mk g o cap ts vs hl hc hg hk cells sub ih => exact .mk g o cap ts vs hl hc hg (h g hk) cells ih
/-- Two blocks that a loop writes, among new ones that are there for good. -/
def mark2 (κ : Nat → Nat) (N : Nat) : Nat → Nat := fun b => if b = N ∨ b = N + 1 then 2 else κ b
theorem mark2_kept {w : World} {κ : Nat → Nat} : Kept κ (mark2 κ w.heap.size) w w := ⟨rfl, rfl, rfl, Nat.le_refl _, fun b hb _ => ⟨rfl, if_neg (by omega)⟩⟩
theorem mark2_zero {κ : Nat → Nat} {N : Nat} : ∀ b, mark2 κ N b = 0 → κ b = 0 := fun b h => by
  unfold mark2 at h
  split at h
  · omega
  · exact h
set_option maxRecDepth 100000 in
set_option maxHeartbeats 4000000 in
theorem list_any {w : World} {κ : Nat → Nat} (hκ : ∀ b, w.heap.size ≤ b → κ b = 0) (l : List Tm) (vs : List Value) (pl : List Int) (e : Tm) (ve : Value) (q o cap pq po pcap : Nat)
    (hvl : vs.length = l.length) (hpl : l.length ≤ pl.length) (hn : pl.length ≤ 2000000)
    (hc : ∀ j u, (Tm.flat l vs)[j]? = some u → w.cell? ⟨q, o + j, none⟩ = some u) (hs : ∀ (j : Nat) a t, vs[j]? = some a → l[j]? = some t → Targs w κ a t.args)
    (hp : ∀ (i : Nat) p, pl[i]? = some p → w.cell? ⟨pq, po + i, none⟩ = some (.int .i64 p)) (he : Targs w κ ve e.args) :
    Calls Tryz.prog 172 #[.slice (some ⟨q, o, none⟩) l.length cap, .slice (some ⟨pq, po, none⟩) pl.length pcap, Tm.val e ve] w fun r w' =>
      ∃ v, r = .returned (Tm.val (Tm.list l pl e) v) ∧ Targs w' κ v (Tm.list l pl e).args ∧ Below w.heap.size w w' := by
  have HC := Lib.hid hc
  have HS := Lib.hid hs
  have HP := Lib.hid hp
  have HE := Lib.hid he
  have HK := Lib.hid hκ
  clear hc hs hp hκ
  obtain ⟨Ae, ce, rfl⟩ := he.form
  clear he
  have hw1 : IntKind.i64.wrap ((l.length : Int) - 1) = (l.length : Int) - 1 := IntWalk.i64_in _ (by omega)
  unfold Tm.val
  go_enter Tryz.func172, Tryz.ntmps172
  go_wp2_with fail
  have hb0 := Blk.alloc (Blk.new w 32 #[.int .i64 e.kind, .string ⟨e.name.toArray⟩, .int .i64 e.num, .slice Ae e.args.length ce, .int .i64 e.at_]) (.cells #[.int .i64 0, .string ⟨#[]⟩, .int .i64 0, .slice none 0 0, .int .i64 0] 32)
  have hb1 := Blk.new (w.alloc (.cells #[.int .i64 e.kind, .string ⟨e.name.toArray⟩, .int .i64 e.num, .slice Ae e.args.length ce, .int .i64 e.at_] 32)) 32 #[.int .i64 0, .string ⟨#[]⟩, .int .i64 0, .slice none 0 0, .int .i64 0]
  rw [World.size_alloc] at hb1
  have hB0 : Below w.heap.size w ((w.alloc (.cells #[.int .i64 e.kind, .string ⟨e.name.toArray⟩, .int .i64 e.num, .slice Ae e.args.length ce, .int .i64 e.at_] 32)).alloc (.cells #[.int .i64 0, .string ⟨#[]⟩, .int .i64 0, .slice none 0 0, .int .i64 0] 32)) := ((Below.refl _ w).alloc (Nat.le_refl _) _).alloc (by simp) _
  go_loopw [7] (fun i wr => ∃ (k : Nat) (v : Value), i = .int .i64 ((k : Int) - 1) ∧ k ≤ l.length ∧ Below w.heap.size w wr ∧
      Hid (Blk wr w.heap.size 32 #[.int .i64 (Tm.list (l.drop k) (pl.drop k) e).kind, .string ⟨(Tm.list (l.drop k) (pl.drop k) e).name.toArray⟩, .int .i64 (Tm.list (l.drop k) (pl.drop k) e).num, v, .int .i64 (Tm.list (l.drop k) (pl.drop k) e).at_]) ∧
      Hid (Blk wr (w.heap.size + 1) 32 #[.int .i64 0, .string ⟨#[]⟩, .int .i64 0, .slice none 0 0, .int .i64 0]) ∧ Hid (Targs wr (mark2 κ w.heap.size) v (Tm.list (l.drop k) (pl.drop k) e).args))
    (fun i _ => (intOf i + 1).toNat)
  case atStart =>
    refine ⟨l.length, .slice Ae e.args.length ce, by go_num, Nat.le_refl _, hB0, ?_, Lib.hid hb1, ?_⟩
    · rw [Tm.list_end (Nat.le_refl _)]; exact Lib.hid hb0
    · rw [Tm.list_end (Nat.le_refl _)]; exact Lib.hid ((HE.out.kept mark2_kept).kept (.below hB0))
  case round =>
    clear hb0 hb1 hB0
    obtain ⟨k, v, rfl, hk, hB, hb, hr, hv⟩ := hrel
    generalize hT : Tm.list (l.drop k) (pl.drop k) e = T at *
    obtain ⟨Av, cv, rfl⟩ := hv.out.form
    obtain ⟨c0, c1, c2, c3, c4⟩ : wr.cell? ⟨w.heap.size, 0, none⟩ = some (.int .i64 T.kind) ∧ wr.cell? ⟨w.heap.size, 1, none⟩ = some (.string ⟨T.name.toArray⟩) ∧ wr.cell? ⟨w.heap.size, 2, none⟩ = some (.int .i64 T.num) ∧ wr.cell? ⟨w.heap.size, 3, none⟩ = some (.slice Av T.args.length cv) ∧ wr.cell? ⟨w.heap.size, 4, none⟩ = some (.int .i64 T.at_) :=
      ⟨by simpa using hb.out.cell 0, by simpa using hb.out.cell 1, by simpa using hb.out.cell 2, by simpa using hb.out.cell 3, by simpa using hb.out.cell 4⟩
    rcases k with _ | k
    · have h0 : ((0 : Nat) : Int) - 1 = -1 := by omega
      rw [h0]
      have hf := hr.out.frozen
      have hrl := hr.out.lt
      have hT0 : Tm.list l pl e = T := hT
      obtain ⟨r0, r1, r2, r3, r4⟩ : wr.cell? ⟨w.heap.size + 1, 0, none⟩ = some (.int .i64 0) ∧ wr.cell? ⟨w.heap.size + 1, 1, none⟩ = some (.string ⟨#[]⟩) ∧ wr.cell? ⟨w.heap.size + 1, 2, none⟩ = some (.int .i64 0) ∧ wr.cell? ⟨w.heap.size + 1, 3, none⟩ = some (.slice none 0 0) ∧ wr.cell? ⟨w.heap.size + 1, 4, none⟩ = some (.int .i64 0) :=
        ⟨by simpa using hr.out.cell 0, by simpa using hr.out.cell 1, by simpa using hr.out.cell 2, by simpa using hr.out.cell 3, by simpa using hr.out.cell 4⟩
      go_wp2_with fail
      rw [hT0]
      obtain ⟨w3, hw3, _, hG3, hB3, q0, q1, q2, q3, q4⟩ := hr.out.term5 T.kind ⟨T.name.toArray⟩ T.num (.slice Av T.args.length cv) T.at_
      rw [hw3]
      refine bodyPost_ret (v := .agg #[.int .i64 T.kind, .string ⟨T.name.toArray⟩, .int .i64 T.num, .slice Av T.args.length cv, .int .i64 T.at_]) (by simp [results, Tryz.results172, go_sem, q0, q1, q2, q3, q4]) rfl ⟨_, rfl, ?_, hB3 _ _ hB (by omega)⟩
      exact (hv.out.kept (Kept.of_grown hG3 (fun k e => by cases e; simp [mark2]))).recolor mark2_zero
    · have h1 : ((k + 1 : Nat) : Int) - 1 = (k : Int) := by omega
      rw [h1]
      have hkl : k < l.length := by omega
      have hkp : k < pl.length := by omega
      have hst := Tm.list_step (e := e) hkl hkp
      rw [hT] at hst
      obtain ⟨a, ha⟩ : ∃ a, vs[k]? = some a := ⟨vs[k]'(by omega), List.getElem?_eq_getElem (by omega)⟩
      obtain ⟨f0, f1, f2, f3, f4⟩ := Tm.flat_get (List.getElem?_eq_getElem hkl) ha
      have hrl := hr.out.lt
      have hax := HS.out k a l[k] ha (List.getElem?_eq_getElem hkl)
      obtain ⟨Aa, ca, rfl⟩ := hax.form
      have cell := fun (p : Addr) (u : Value) (h : w.cell? p = some u) => (hB.cell (World.block_lt_of_cell? w _ h)).trans h
      have p0 := cell _ _ (HP.out k pl[k] (List.getElem?_eq_getElem hkp))
      have g0 := cell _ _ (HC.out _ _ f0)
      have g1 := cell _ _ (HC.out _ _ f1)
      have g2 := cell _ _ (HC.out _ _ f2)
      have g3 := cell _ _ (HC.out _ _ f3)
      have g4 := cell _ _ (HC.out _ _ f4)
      rw [← Nat.add_assoc] at g1 g2 g3 g4
      have hpql : pq < wr.heap.size := World.block_lt_of_cell? wr _ p0
      have hql : q < wr.heap.size := World.block_lt_of_cell? wr _ g0
      clear cell f0 f1 f2 f3 f4
      have i0 : (0 : Int) ≤ (k : Int) := by omega
      have i1 : (k : Int) < (l.length : Int) := by omega
      have i2 : (k : Int) < (pl.length : Int) := by omega
      have hi3 : IntKind.i64.wrap ((k : Int) - 1) = (k : Int) - 1 := IntWalk.i64_in _ (by omega)
      have hf := hb.out.frozen
      have hbl := hb.out.lt
      go_wp2_with fail
      have HAX := Lib.hid ((hax.kept mark2_kept).kept (.below hB))
      have hBr := Below.refl wr.heap.size wr
      have hpk : pl[k] = pl[k]'hkp := rfl
      have HB := Lib.hid hB
      have HV := Lib.hid hv
      have HR := Lib.hid hr
      have hbx := hb.out
      have HST := Lib.hid hst
      clear hB hv hr hb hax hf hst hpk
      generalize l[k] = lk at *
      generalize pl[k] = pk at *
      go_region_with (go_at_call 164; refine (application_any ⟨#[91, 124, 93]⟩ pk (some ⟨wr.heap.size, 0, none⟩) 2 2 _).mono ?_; (rintro e w3 ⟨rfl, hB3⟩); have hb3 : Blk w3 w.heap.size 32 #[.int .i64 T.kind, .string ⟨T.name.toArray⟩, .int .i64 T.num, .slice Av T.args.length cv, .int .i64 T.at_] := Blk.below (by first | with_reducible exact hbx | (show Blk _ _ _ _; have hMSC : Blk _ _ _ _ := hbx; repeat (first | with_reducible exact hMSC | (with_reducible refine Blk.far ?_ (by first | (dsimp only; omega) | assumption) _) | (with_reducible refine Blk.drewN ?_ _) | (with_reducible refine Blk.drew ?_) | (with_reducible refine Blk.alloc ?_ _)))) hB3 (by simp; omega); (obtain ⟨m0, m1, m2, m3, m4⟩ : w3.cell? ⟨w.heap.size, 0, none⟩ = some (.int .i64 T.kind) ∧ w3.cell? ⟨w.heap.size, 1, none⟩ = some (.string ⟨T.name.toArray⟩) ∧ w3.cell? ⟨w.heap.size, 2, none⟩ = some (.int .i64 T.num) ∧ w3.cell? ⟨w.heap.size, 3, none⟩ = some (.slice Av T.args.length cv) ∧ w3.cell? ⟨w.heap.size, 4, none⟩ = some (.int .i64 T.at_) := ⟨by simpa using hb3.cell 0, by simpa using hb3.cell 1, by simpa using hb3.cell 2, by simpa using hb3.cell 3, by simpa using hb3.cell 4⟩); have hf3 := hb3.frozen; have hl3 := hb3.lt; have HN3 := Lib.hid (show Blk w3 wr.heap.size 32 #[.int .i64 lk.kind, .string ⟨lk.name.toArray⟩, .int .i64 lk.num, .slice Aa lk.args.length ca, .int .i64 lk.at_, .int .i64 T.kind, .string ⟨T.name.toArray⟩, .int .i64 T.num, .slice Av T.args.length cv, .int .i64 T.at_] from Blk.below (by first | exact Blk.new _ _ _ | exact Blk.drew (Blk.new _ _ _)) hB3 (by simp)); have HB3 := Lib.hid (show Below wr.heap.size wr w3 from Below.trans (by first | exact (Below.refl _ _).alloc (Nat.le_refl _) _ | exact ((Below.refl _ _).alloc (Nat.le_refl _) _).drew) (hB3.mono (by simp))); have HB4 := Lib.hid hb3; clear hB3 hb3)
      all_goals
        go_wp2_with fail
        obtain ⟨w4, hw4, hE4, hG4, hB4, _⟩ := HB4.out.term5 4 ⟨#[91, 124, 93]⟩ 0 (.slice (some ⟨wr.heap.size, 0, none⟩) 2 2) pk
        rw [hw4]
        have hK4 : Kept (mark2 κ w.heap.size) (mark2 κ w.heap.size) wr w4 := (Kept.below HB3.out).trans (Kept.of_grown hG4 (fun b e => by cases e; simp [mark2]))
        have hN4 := HN3.out.grown hG4 (by simp; omega)
        have hR4 := (HR.out.out.below HB3.out hrl).grown hG4 (by simp)
        go_roundw
        case rel =>
          refine ⟨k, .slice (some ⟨wr.heap.size, 0, none⟩) 2 2, by go_num, by omega, hB4 _ _ (HB.out.trans (HB3.out.mono HB.out.size)) (Nat.le_refl _), ?_, Lib.hid hR4, ?_⟩
          · rw [HST.out]; exact Lib.hid hE4
          · rw [HST.out]; exact Lib.hid (Targs.two HAX.out HV.out.out (by rw [show mark2 κ w.heap.size wr.heap.size = κ wr.heap.size from if_neg (by omega)]; exact HK.out _ HB.out.size) hK4 hN4)
        case measure => simp [intOf]
end Go.Proofs.YtaefonagbcnmdaaGreatDoor

namespace Go.Proofs.YtaefonagbcnmdaaGreatDoor
open Go.RowKit

/-- A term in a new block. -/
theorem alloc_two {w : World} {g i j : Nat} {x y : Value} {o : Obj} (h : w.cell? ⟨g, i, none⟩ = some x ∧ w.cell? ⟨g, j, none⟩ = some y) : (w.alloc o).cell? ⟨g, i, none⟩ = some x ∧ (w.alloc o).cell? ⟨g, j, none⟩ = some y :=
  have hl := World.block_lt_of_cell? w _ h.1
  ⟨(((Below.refl w.heap.size w).alloc (Nat.le_refl _) o).cell (p := ⟨g, i, none⟩) hl).trans h.1, (((Below.refl w.heap.size w).alloc (Nat.le_refl _) o).cell (p := ⟨g, j, none⟩) hl).trans h.2⟩
theorem Targs.one {w W : World} {κ : Nat → Nat} {x : Tm} {a : Value} (hx : Targs w κ a x.args) (hk : κ w.heap.size = 0) (hK : Kept κ κ w W)
    (hb : Blk W w.heap.size 32 #[.int .i64 x.kind, .string ⟨x.name.toArray⟩, .int .i64 x.num, a, .int .i64 x.at_]) :
    Targs W κ (.slice (some ⟨w.heap.size, 0, none⟩) 1 1) [x] := by
  refine .mk w.heap.size 0 1 [x] [a] rfl (by simp) hb.lt hk (fun j u hu => ?_) (fun i v t hv ht => ?_)
  · rw [hb.cell]
    rw [Nat.zero_add]
    simpa [Tm.flat] using hu
  · match i, hv, ht with
    | 0, hv, ht => simp at hv ht; subst hv; subst ht; exact hx.kept hK
set_option maxRecDepth 100000 in
set_option maxHeartbeats 4000000 in
/-- ! !. or !: in front of a variable. -/
theorem beginName_bang {w : World} {κ : Nat → Nat} {g : Nat} {ts : List Tm.T} {en : Tm.T} {s : Tm.S} {es : List Tm.E} {tv sv av : Value} (h : RInv w κ g ts en s es tv sv av) (hi : s.i ≤ ts.length) (k a : Int) (x : List UInt8) (T : Tm.T) (hT : Tm.peek ts en s.i = T)
    (hx : Tm.punct T ≠ [40, 40]) (h2 : (x == [45] && T.1 == 3) = false) (hb : Tm.isBang x = true) (h3 : (T.1 == 2) = true) :
    Calls Tryz.prog 127 #[.pointer (some ⟨g, 0, none⟩), .agg #[.int .i64 k, .string ⟨x.toArray⟩, .int .i64 a]] w (BPost w κ g ts en tv (s.next.have_ (Tm.app x a [Tm.variable_ T]), true)) := by
  have hx' : Tm.punct (Tm.peek ts en s.i) ≠ (⟨#[40, 40]⟩ : ByteArray).toList := by rw [Go.ByteArray.toList_eq, hT]; exact hx
  have HX := Lib.hid hx'; clear hx hx'
  obtain ⟨κ1, hR1, hK1, hc⟩ := h.boxed (.cells #[.int .i64 k, .string ⟨x.toArray⟩, .int .i64 a] 48)
  have HR1 := Lib.hid hR1
  have HK1 := Lib.hid hK1
  have HC := Lib.hid hc
  clear h hR1 hK1 hc
  have HT := Lib.hid hT; clear hT
  obtain ⟨S, hS⟩ : ∃ S : ByteArray, ⟨x.toArray⟩ = S := ⟨_, rfl⟩
  have hSx : S.toList = x := by rw [← hS, str_list]
  rw [hS] at HR1 HK1
  rw [hS]
  have HBG := Lib.hid (show Tm.isBang S.toList = true by rw [hSx]; exact hb)
  have hk3 : (T.1 == 3) = false := by rw [beq_iff_eq] at h3; rw [h3]; decide
  have HS := Lib.hid hS
  have hdq : (S.toList == [45]) = false := by
    rw [hSx, beq_eq_false_iff_ne]
    intro h0
    rw [h0] at hb
    revert hb
    decide
  clear hb hS hSx h2
  all_goals
    go_enter Tryz.func127, Tryz.ntmps127
    go_wp2_with fail
    refine (peek_any HR1.out).mono ?_
    rintro e w2 ⟨rfl, hB2⟩
    rw [HT.out]
    have hbx := (Blk.new w 48 #[.int .i64 k, .string S, .int .i64 a]).below hB2 (by simp)
    have HBX := Lib.hid (hbx.alloc (.cells #[.int .i64 T.1, .string ⟨T.2.1.toArray⟩, .int .i64 T.2.2] 48))
    have HBY := Lib.hid (Blk.new w2 48 #[.int .i64 T.1, .string ⟨T.2.1.toArray⟩, .int .i64 T.2.2])
    have hB3 : Below (w.alloc (.cells #[.int .i64 k, .string S, .int .i64 a] 48)).heap.size (w.alloc (.cells #[.int .i64 k, .string S, .int .i64 a] 48)) (w2.alloc (.cells #[.int .i64 T.1, .string ⟨T.2.1.toArray⟩, .int .i64 T.2.2] 48)) := hB2.alloc hB2.size _
    have HB3 := Lib.hid hB3
    have hz2 := hbx.lt
    clear hB2 hB3 hbx
    go_wp2_with fail
    refine (pskip_no (HR1.out.below HB3.out) _ HX.out).mono ?_
    rintro e w3 ⟨rfl, hB4⟩
    have hb3 := HBX.out.below hB4 HBX.out.lt
    have hc3 := HBY.out.below hB4 HBY.out.lt
    have t1 : w3.cell? ⟨w.heap.size, 1, none⟩ = some (.string S) := by simpa using hb3.cell 1
    have t2 : w3.cell? ⟨w.heap.size, 2, none⟩ = some (.int .i64 a) := by simpa using hb3.cell 2
    have u0 : w3.cell? ⟨w2.heap.size, 0, none⟩ = some (.int .i64 T.1) := by simpa using hc3.cell 0
    have HB5 := Lib.hid (HB3.out.trans (hB4.mono HB3.out.size))
    have HR4 := Lib.hid (HR1.out.below HB5.out)
    have HB3b := Lib.hid hb3
    have hgl4 := HR4.out.blk.lt
    have htl3 := hb3.lt
    clear hb3 hc3 hB4
    go_wp2_with fail
    refine (isBang_any _ _).mono ?_
    rintro e w' ⟨rfl, rfl⟩
    rw [HBG.out]
    go_wp2_with fail
    have hS3 : (w3.drew).cell? ⟨w.heap.size, 1, none⟩ = some (.string S) ∧ (w3.drew).cell? ⟨w.heap.size, 2, none⟩ = some (.int .i64 a) := ⟨t1, t2⟩
    clear t1 t2
    go_region_held3 (fun w' => w'.cell? ⟨w.heap.size, 1, none⟩ = some (.string S) ∧ w'.cell? ⟨w.heap.size, 2, none⟩ = some (.int .i64 a))
      (first | exact hS3 | exact hS4 | exact hS5 | exact alloc_two hS5 | exact hS6 | exact hS7)
      (first
      | (go_at_call 47; refine (ptake_any (HR4.out.below (Below.refl _ _).drew) hi).mono ?_; (rintro e w4 ⟨rfl, hR5, hK5⟩); rw [HT.out]; have hb4 : Blk w4 w.heap.size 48 #[.int .i64 k, .string S, .int .i64 a] := Blk.kept (Blk.drew HB3b.out) hK5 HC.out; have hS4 : w4.cell? ⟨w.heap.size, 1, none⟩ = some (.string S) ∧ w4.cell? ⟨w.heap.size, 2, none⟩ = some (.int .i64 a) := ⟨by simpa using hb4.cell 1, by simpa using hb4.cell 2⟩; have htl4 := hb4.lt; have HR5 := Lib.hid hR5; have HK5 := Lib.hid hK5; clear hR5 hK5 hb4)
      | (go_at_call 165; refine (variable_any _ _ _ _).mono ?_; (rintro e w5 ⟨rfl, hB5⟩); have hS5 : w5.cell? ⟨w.heap.size, 1, none⟩ = some (.string S) ∧ w5.cell? ⟨w.heap.size, 2, none⟩ = some (.int .i64 a) := ⟨(hB5.cell (p := ⟨w.heap.size, 1, none⟩) htl4).trans hS4.1, (hB5.cell (p := ⟨w.heap.size, 2, none⟩) htl4).trans hS4.2⟩; have htl5 : w.heap.size < w5.heap.size := World.block_lt_of_cell? w5 _ hS5.1; have HB6 := Lib.hid hB5; clear hB5)
      | (go_at_call 164; refine (application_any _ _ (some ⟨w5.heap.size, 0, none⟩) 1 1 _).mono ?_; (rintro e w6 ⟨rfl, hB7⟩); have HN := Lib.hid (show Blk w6 w5.heap.size 32 #[.int .i64 0, .string ⟨T.2.1.toArray⟩, .int .i64 0, .slice none 0 0, .int .i64 T.2.2] from Blk.below (by first | exact Blk.new _ _ _ | exact Blk.drew (Blk.new _ _ _)) hB7 (by simp)); have HB8 := Lib.hid (show Below w5.heap.size w5 w6 from Below.trans (by first | exact (Below.refl _ _).alloc (Nat.le_refl _) _ | exact ((Below.refl _ _).alloc (Nat.le_refl _) _).drew) (hB7.mono (by simp))); have hS6 : w6.cell? ⟨w.heap.size, 1, none⟩ = some (.string S) ∧ w6.cell? ⟨w.heap.size, 2, none⟩ = some (.int .i64 a) := ⟨(HB8.out.cell (p := ⟨w.heap.size, 1, none⟩) htl5).trans hS5.1, (HB8.out.cell (p := ⟨w.heap.size, 2, none⟩) htl5).trans hS5.2⟩; clear hB7)
      | (go_at_call 129; (obtain ⟨hR6, hK6⟩ := (HR5.out.below HB6.out).recolor (.slice (some ⟨w5.heap.size, 0, none⟩) 1 1) 0 (fun k e => by cases e; exact Nat.le_refl _)); rw [← HS.out]; refine (phave_any (hR6.below HB8.out) (Tm.app x a [Tm.variable_ T]) (.slice (some ⟨w5.heap.size, 0, none⟩) 1 1) (Targs.one (x := Tm.variable_ T) (.nil none 0) (recol_own _ _ _ _ rfl) (.below HB8.out) HN.out)).mono ?_; (rintro e w7 ⟨rfl, hR7, hK7⟩); have HR7 := Lib.hid hR7; have HK7 := Lib.hid (((Kept.below HB6.out).trans (hK6.trans (Kept.below HB8.out))).trans hK7); have htl6 : w.heap.size < w6.heap.size := World.block_lt_of_cell? w6 _ hS6.1; have hb7 : w7.heap[w.heap.size]? = w6.heap[w.heap.size]? := (hK7.block w.heap.size htl6 (by rw [recol_other (by simp [Value.ownBlock]; omega), HC.out]; exact Nat.le_refl 1)).1; have hS7 : w7.cell? ⟨w.heap.size, 1, none⟩ = some (.string S) ∧ w7.cell? ⟨w.heap.size, 2, none⟩ = some (.int .i64 a) := ⟨(World.cell?_of_block (a := ⟨w.heap.size, 1, none⟩) hb7).trans hS6.1, (World.cell?_of_block (a := ⟨w.heap.size, 2, none⟩) hb7).trans hS6.2⟩; clear hR7 hK7 hR6 hK6))
    all_goals
      go_wp2_with fail
      go_ret
      exact ⟨rfl, _, es, sv, _, HR7.out, ((HK1.out.trans (Kept.below HB5.out)).trans (Kept.below (Below.refl _ w3).drew)).trans (HK5.out.trans HK7.out)⟩
end Go.Proofs.YtaefonagbcnmdaaGreatDoor

namespace Go.Proofs.YtaefonagbcnmdaaGreatDoor
open Go.RowKit

set_option maxRecDepth 100000 in
set_option maxHeartbeats 4000000 in
/-- A name that must have arguments, without them. -/
theorem beginName_bad {w : World} {κ : Nat → Nat} {g : Nat} {ts : List Tm.T} {en : Tm.T} {s : Tm.S} {es : List Tm.E} {tv sv av : Value} (h : RInv w κ g ts en s es tv sv av) (k a : Int) (x : List UInt8) (T : Tm.T) (hT : Tm.peek ts en s.i = T)
    (hx : Tm.punct T ≠ [40, 40]) (h2 : (x == [45] && T.1 == 3) = false) (h3 : (Tm.isBang x && T.1 == 2) = false) (h4 : (Tm.prefix_ x).1 = 0) (h5 : Tm.suits x [] = false) :
    Calls Tryz.prog 127 #[.pointer (some ⟨g, 0, none⟩), .agg #[.int .i64 k, .string ⟨x.toArray⟩, .int .i64 a]] w (fun e w' => e = Tm.thrown a 11 ∧ Below w.heap.size w w') := by
  have hx' : Tm.punct (Tm.peek ts en s.i) ≠ (⟨#[40, 40]⟩ : ByteArray).toList := by rw [Go.ByteArray.toList_eq, hT]; exact hx
  have HX := Lib.hid hx'; clear hx hx'
  have HH := Lib.hid h; clear h
  have HT := Lib.hid hT; clear hT
  have hck := checked_bad (Tm.app x a []) (.slice none 0 0)
  obtain ⟨S, hS⟩ : ∃ S : ByteArray, ⟨x.toArray⟩ = S := ⟨_, rfl⟩
  have hSx : S.toList = x := by rw [← hS, str_list]
  rw [hS]
  obtain ⟨P, hP⟩ : ∃ P, Tm.prefix_ x = P := ⟨_, rfl⟩
  rw [hP] at h4
  have HP := Lib.hid (show Tm.prefix_ S.toList = P by rw [hSx]; exact hP)
  obtain ⟨Bg, hBg⟩ : ∃ b, Tm.isBang x = b := ⟨_, rfl⟩
  rw [hBg] at h3
  have HBG := Lib.hid (show Tm.isBang S.toList = Bg by rw [hSx]; exact hBg)
  have h4b : (P.1 == 0) = true := by rw [beq_iff_eq]; exact h4
  have HS := Lib.hid hS
  have H5 := Lib.hid h5
  have h2' : (S.toList == [45]) = false ∨ ((S.toList == [45]) = true ∧ (T.1 == 3) = false) := by
    rw [hSx]
    cases hq : (x == [45])
    · exact .inl rfl
    · rw [hq, Bool.true_and] at h2; exact .inr ⟨rfl, h2⟩
  have h3' : Bg = false ∨ (Bg = true ∧ (T.1 == 2) = false) := by
    cases Bg
    · exact .inl rfl
    · rw [Bool.true_and] at h3; exact .inr ⟨rfl, h3⟩
  clear h2 h3 hP hBg hS hSx h4 h5 hck
  rcases h2' with h2 | ⟨h2, h2b⟩ <;> rcases h3' with rfl | ⟨rfl, h3b⟩
  all_goals
    go_enter Tryz.func127, Tryz.ntmps127
    go_wp2_with fail
    refine (peek_any (HH.out.below ((Below.refl _ _).alloc (Nat.le_refl _) _))).mono ?_
    rintro e w2 ⟨rfl, hB2⟩
    rw [HT.out]
    have hbx := (Blk.new w 48 #[.int .i64 k, .string S, .int .i64 a]).below hB2 (by simp)
    have hbx2 := hbx.alloc (.cells #[.int .i64 T.1, .string ⟨T.2.1.toArray⟩, .int .i64 T.2.2] 48)
    have hby := Blk.new w2 48 #[.int .i64 T.1, .string ⟨T.2.1.toArray⟩, .int .i64 T.2.2]
    have hB3 : Below w.heap.size w (w2.alloc (.cells #[.int .i64 T.1, .string ⟨T.2.1.toArray⟩, .int .i64 T.2.2] 48)) := (((Below.refl w.heap.size w).alloc (Nat.le_refl _) _).trans (hB2.mono (by simp))).alloc (by have := hB2.size; simp at this; omega) _
    have HB3 := Lib.hid hB3
    have HBX := Lib.hid hbx2
    have HBY := Lib.hid hby
    have hz2 := hbx.lt
    clear hB2 hB3 hbx hbx2 hby
    go_wp2_with fail
    refine (pskip_no (HH.out.below HB3.out) _ HX.out).mono ?_
    rintro e w3 ⟨rfl, hB4⟩
    have hb3 := HBX.out.below hB4 HBX.out.lt
    have hc3 := HBY.out.below hB4 HBY.out.lt
    have t1 : w3.cell? ⟨w.heap.size, 1, none⟩ = some (.string S) := by simpa using hb3.cell 1
    have t2 : w3.cell? ⟨w.heap.size, 2, none⟩ = some (.int .i64 a) := by simpa using hb3.cell 2
    have u0 : w3.cell? ⟨w2.heap.size, 0, none⟩ = some (.int .i64 T.1) := by simpa using hc3.cell 0
    have HB5 := Lib.hid (HB3.out.trans (hB4.mono HB3.out.size))
    clear hb3 hc3 hB4
    go_wp2_with fail
    refine (isBang_any _ _).mono ?_
    rintro e w' ⟨rfl, rfl⟩
    rw [HBG.out]
    go_wp2_with fail
    refine (prefix_any _ _).mono ?_
    rintro e w' ⟨rfl, rfl⟩
    rw [HP.out]
    go_wp2_with fail
    refine (application_any _ _ none 0 0 _).mono ?_
    rintro e w4 ⟨rfl, hB6⟩
    rw [← HS.out]
    go_wp2_with fail
    refine (checked_bad (Tm.app x a []) (.slice none 0 0) _ ⟨none, 0, rfl, fun t r e => by cases e⟩ H5.out).mono ?_
    rintro e w5 ⟨he, hB7⟩
    unfold Tm.thrown at he
    subst he
    have HB8 := Lib.hid ((HB5.out.trans (hB6.mono HB5.out.size)).trans (hB7.mono (HB5.out.trans (hB6.mono HB5.out.size)).size))
    clear hB6 hB7
    go_wp2_with fail
    exact ⟨rfl, rfl, HB8.out⟩
end Go.Proofs.YtaefonagbcnmdaaGreatDoor

namespace Go.Proofs.YtaefonagbcnmdaaGreatDoor
open Go.RowKit

/-- What a method leaves that reads a beginning, or refuses it. -/
def MPost (w : World) (κ : Nat → Nat) (g : Nat) (ts : List Tm.T) (en : Tm.T) (tv : Value) (r : Except Tm.F (Tm.S × Bool)) (e : Ending) (w' : World) : Prop :=
  match r with
  | .ok x => BPost w κ g ts en tv x e w'
  | .error f => e = Tm.thrown f.1 f.2 ∧ ∃ κ', Kept κ κ' w w'
theorem Tm.suits_prefix {x : List UInt8} (h : Tm.suits x [] = false) : (Tm.prefix_ x).1 = 0 := by
  unfold Tm.suits at h
  split at h
  · rename_i h1; rw [beq_iff_eq] at h1; subst h1; decide
  · split at h
    · rename_i h1; rw [beq_iff_eq] at h1; subst h1; decide
    · split at h
      · simp at h
      · split at h
        · rename_i h1; rw [beq_iff_eq] at h1; subst h1; decide
        · cases h
theorem beginName_any {w : World} {κ : Nat → Nat} {g : Nat} {ts : List Tm.T} {en : Tm.T} {s : Tm.S} {e : Tm.E} {es : List Tm.E} {tv sv av : Value} (h : RInv w κ g ts en s (e :: es) tv sv av) (hi : s.i ≤ ts.length) (hes : es.length + 1 ≤ s.i) (k a : Int) (x : List UInt8)
    (hR : ∀ t : Tm.T, Tm.peek ts en s.i = t → t.1 = 3 → Tk.check 3 t.2.1 = 0 ∧ t.2.1.length ≤ 65536) :
    Calls Tryz.prog 127 #[.pointer (some ⟨g, 0, none⟩), .agg #[.int .i64 k, .string ⟨x.toArray⟩, .int .i64 a]] w (MPost w κ g ts en tv (Tm.beginName ts en s (k, x, a))) := by
  obtain ⟨T, hT⟩ : ∃ T, Tm.peek ts en s.i = T := ⟨_, rfl⟩
  have hmost : s.most = e.1.most := by simp [Tm.S.most, h.stack]
  have hes2 : (e :: es).length ≤ s.i := by simpa using hes
  by_cases c1 : Tm.punct T = [40, 40]
  · have he : Tm.beginName ts en s (k, x, a) = .ok (s.next.push (Tm.opn 2 999 x a [] []), false) := by simp [Tm.beginName, hT, c1]
    rw [he]
    exact beginName_args h hi (by omega) k a x (by rw [hT]; exact c1)
  · have b1 : (Tm.punct T == [40, 40]) = false := by rw [beq_eq_false_iff_ne]; exact c1
    cases c2 : (x == [45] && T.1 == 3)
    · cases c3 : (Tm.isBang x && T.1 == 2)
      · cases c4 : ((Tm.prefix_ x).1 == 0)
        · have hs : Tm.suits x [] = true := by
            cases hs : Tm.suits x []
            · rw [Tm.suits_prefix hs] at c4; simp at c4
            · rfl
          cases c5 : decide (e.1.most < (Tm.prefix_ x).1)
          · cases c6 : Tm.beginsOperand T
            · have he : Tm.beginName ts en s (k, x, a) = .ok (s.have_ (Tm.app x a []), true) := by simp only [Tm.beginName, hT, b1, c2, c3, c4, c6, hs, Bool.not_false, Bool.or_true, if_true]; rfl
              rw [he]
              exact beginName_lone h k a x T hT c1 c2 c3 c4 c5 c6 hs
            · cases c7 : (Tm.prefix_ x).2.2
              · have he : Tm.beginName ts en s (k, x, a) = .ok (s.push ⟨1, (Tm.prefix_ x).2.1, x, a, [], [], 1, (Tm.prefix_ x).2.1, (Tm.prefix_ x).1⟩, false) := by simp only [Tm.beginName, hT, b1, c2, c3, c4, c5, c6, c7, hmost, Bool.not_true, Bool.or_false]; rfl
                rw [he]
                exact beginName_one h k a x T hT c1 c2 c3 c4 c5 c6 hes2 c7
              · have he : Tm.beginName ts en s (k, x, a) = .ok (s.push ⟨1, 0, x, a, [], [], 2, (Tm.prefix_ x).2.1, (Tm.prefix_ x).1⟩, false) := by simp only [Tm.beginName, hT, b1, c2, c3, c4, c5, c6, c7, hmost, Bool.not_true, Bool.or_false]; rfl
                rw [he]
                exact beginName_two h k a x T hT c1 c2 c3 c4 c5 c6 hes2 c7
          · have he : Tm.beginName ts en s (k, x, a) = .ok (s.have_ (Tm.app x a []), true) := by simp only [Tm.beginName, hT, b1, c2, c3, c4, c5, hs, hmost, Bool.or_true, Bool.true_or, if_true]; rfl
            rw [he]
            exact beginName_low h k a x T hT c1 c2 c3 c4 c5 hs
        · have c4' : (Tm.prefix_ x).1 = 0 := by rw [beq_iff_eq] at c4; exact c4
          cases hs : Tm.suits x []
          · have he : Tm.beginName ts en s (k, x, a) = .error (a, 11) := by simp only [Tm.beginName, hT, b1, c2, c3, c4, hs, Bool.true_or, if_true]; rfl
            rw [he]
            refine (beginName_bad h k a x T hT c1 c2 c3 c4' hs).mono ?_
            rintro e w' ⟨he, hB⟩
            exact ⟨he, κ, .below hB⟩
          · have he : Tm.beginName ts en s (k, x, a) = .ok (s.have_ (Tm.app x a []), true) := by simp only [Tm.beginName, hT, b1, c2, c3, c4, hs, Bool.true_or, if_true]; rfl
            rw [he]
            exact beginName_atom h k a x T hT c1 c2 c3 c4' hs
      · rw [Bool.and_eq_true] at c3
        have he : Tm.beginName ts en s (k, x, a) = .ok (s.next.have_ (Tm.app x a [Tm.variable_ T]), true) := by simp only [Tm.beginName, hT, b1, c2, c3, Bool.and_self, if_true]; rfl
        rw [he]
        exact beginName_bang h hi k a x T hT c1 c2 c3.1 c3.2
    · rw [Bool.and_eq_true, beq_iff_eq] at c2
      obtain ⟨rfl, c3⟩ := c2
      have he : Tm.beginName ts en s (k, [45], a) = .ok (s.next.have_ (.mk 1 [] (- Tm.digits T.2.1) [] a), true) := by simp only [Tm.beginName, hT, b1, c3, beq_self_eq_true, Bool.and_self, if_true]; rfl
      rw [he]
      obtain ⟨r1, r2⟩ := hR T hT (by rwa [beq_iff_eq] at c3)
      exact beginName_int h hi k a T hT c1 c3 r1 r2
end Go.Proofs.YtaefonagbcnmdaaGreatDoor

namespace Go.Proofs.YtaefonagbcnmdaaGreatDoor
open Go.RowKit

/-- The kind, the name and the parts of the innermost open term, as they can be read. -/
theorem RInv.topFacts {w : World} {κ : Nat → Nat} {g : Nat} {ts : List Tm.T} {en : Tm.T} {s : Tm.S} {e : Tm.E} {es : List Tm.E} {tv av : Value} {q cap : Nat} (h : RInv w κ g ts en s (e :: es) tv (.slice (some ⟨q, 0, none⟩) (es.length + 1) cap) av) :
    ∃ Ap cp, w.cell? ⟨q, es.length * 9, none⟩ = some (.int .i64 e.1.kind) ∧ w.cell? ⟨q, es.length * 9 + 2, none⟩ = some (.string ⟨e.1.name.toArray⟩) ∧ e.2.1 = .slice Ap e.1.parts.length cp ∧
      w.cell? ⟨q, es.length * 9 + 4, none⟩ = some (.slice Ap e.1.parts.length cp) ∧ HeadR w (.slice Ap e.1.parts.length cp) e.1.parts ∧ q < w.heap.size := by
  obtain ⟨q', cap', hv, _, hl, hc⟩ := h.topCells
  cases hv
  obtain ⟨⟨vs, hvl, hvo, _⟩, _⟩ := h.ents.1
  obtain ⟨Ap, cp, hp⟩ := own_slice hvo
  rw [hp] at hvo
  refine ⟨Ap, cp, hc 0 _ rfl, hc 2 _ rfl, hp, ?_, own_head hvl hvo, hl⟩
  have := hc 4 e.2.1 rfl
  rw [hp] at this
  exact this
theorem Tm.full_of {s : Tm.S} {e : Tm.E} {es : List Tm.E} (h : s.stack = (e :: es).map (·.1)) : Tm.full s = (e.1.kind == 2 && e.1.parts.length == Tm.maxArgs e.1.name e.1.parts) := by
  simp [Tm.full, h]
set_option maxRecDepth 100000 in
set_option maxHeartbeats 4000000 in
theorem begin_refused {w : World} {κ : Nat → Nat} {g : Nat} {ts : List Tm.T} {en : Tm.T} {s : Tm.S} {es : List Tm.E} {tv sv av : Value} (h : RInv w κ g ts en s es tv sv av) (hi : s.i ≤ ts.length) (T : Tm.T) (hT : Tm.peek ts en s.i = T) (hs : Tm.standsFirst T = false) :
    Calls Tryz.prog 73 #[.pointer (some ⟨g, 0, none⟩)] w (MPost w κ g ts en tv (.error (Tm.refusal T))) := by
  have HH := Lib.hid h; clear h
  have HT := Lib.hid hT; clear hT
  have HS := Lib.hid hs; clear hs
  have hsi : ({ data := T.2.1.toArray } : ByteArray).toList = T.2.1 := str_list _
  have HSI := Lib.hid hsi; clear hsi
  go_enter Tryz.func73, Tryz.ntmps73
  go_wp2_with fail
  refine (ptake_any HH.out hi).mono ?_
  rintro e w2 ⟨rfl, hR2, hK2⟩
  rw [HT.out]
  have HR2 := Lib.hid hR2
  have HK2 := Lib.hid hK2
  clear hR2 hK2
  go_wp2_with fail
  refine (standsFirst_any _ _ _ _).mono ?_
  rintro e w3 ⟨rfl, hB3⟩
  rw [HSI.out, show (T.1, T.2.1, T.2.2) = T from rfl, HS.out]
  obtain ⟨d0, d1, d2, hB4⟩ := box_tok hB3
  clear hB3
  go_wp2_with fail
  refine (refusal_any _ _ _ _).mono ?_
  rintro e w4 ⟨rfl, hB5⟩
  go_wp2_with fail
  exact ⟨rfl, rfl, κ, HK2.out.trans (.below (hB4.trans (hB5.mono hB4.size)))⟩
end Go.Proofs.YtaefonagbcnmdaaGreatDoor

namespace Go.Proofs.YtaefonagbcnmdaaGreatDoor
open Go.RowKit

set_option maxRecDepth 100000 in
set_option maxHeartbeats 4000000 in
theorem begin_full {w : World} {κ : Nat → Nat} {g : Nat} {ts : List Tm.T} {en : Tm.T} {s : Tm.S} {e : Tm.E} {es : List Tm.E} {tv sv av : Value} (h : RInv w κ g ts en s (e :: es) tv sv av) (hi : s.i ≤ ts.length) (T : Tm.T) (hT : Tm.peek ts en s.i = T) (hs : Tm.standsFirst T = true)
    (hk : (e.1.kind == 2) = true) (hf : (e.1.parts.length == Tm.maxArgs e.1.name e.1.parts) = true) :
    Calls Tryz.prog 73 #[.pointer (some ⟨g, 0, none⟩)] w (MPost w κ g ts en tv (.error (T.2.2, 6))) := by
  obtain ⟨q, cap, hsv⟩ := own_form2 (n := es.length) h.own
  subst hsv
  have HH := Lib.hid h; clear h
  have HT := Lib.hid hT; clear hT
  have HS := Lib.hid hs; clear hs
  have hsi : ({ data := T.2.1.toArray } : ByteArray).toList = T.2.1 := str_list _
  have HSI := Lib.hid hsi; clear hsi
  have hmx : ((e.1.parts.length : Int) == ((Tm.maxArgs e.1.name e.1.parts : Nat) : Int)) = true := by rw [beq_iff_eq] at hf ⊢; rw [hf]
  clear hf
  go_enter Tryz.func73, Tryz.ntmps73
  go_wp2_with fail
  refine (ptake_any HH.out hi).mono ?_
  rintro r w2 ⟨rfl, hR2, hK2⟩
  rw [HT.out]
  have HR2 := Lib.hid hR2
  have HK2 := Lib.hid hK2
  clear hR2 hK2
  go_wp2_with fail
  refine (standsFirst_any _ _ _ _).mono ?_
  rintro r w3 ⟨rfl, hB3⟩
  rw [HSI.out, show (T.1, T.2.1, T.2.2) = T from rfl, HS.out]
  obtain ⟨d0, d1, d2, hB4⟩ := box_tok hB3
  clear hB3
  have HR3 := Lib.hid (HR2.out.below hB4)
  have HB4 := Lib.hid hB4
  clear hB4
  go_wp2_with fail
  refine (top_any HR3.out).mono ?_
  rintro r w4 ⟨rfl, n, hw4⟩
  have HB4n := Lib.hid (show Below w3.heap.size w3 w4 by rw [hw4]; exact drewN_below (Below.refl _ _) n)
  have HR4 := Lib.hid (HR3.out.below HB4n.out)
  have d2' : w4.cell? ⟨w2.heap.size, 2, none⟩ = some (.int .i64 T.2.2) := (HB4n.out.cell (p := ⟨w2.heap.size, 2, none⟩) (World.block_lt_of_cell? w3 _ d2)).trans d2
  have d0' : w4.cell? ⟨w2.heap.size, 0, none⟩ = some (.int .i64 T.1) := (HB4n.out.cell (p := ⟨w2.heap.size, 0, none⟩) (World.block_lt_of_cell? w3 _ d0)).trans d0
  clear hw4 d0 d1 d2
  obtain ⟨Ap, cp, f0, f2, _, f4, hh, hql⟩ := HR4.out.topFacts
  have hmax := fun w' hw => maxArgs_any ⟨e.1.name.toArray⟩ (.slice Ap e.1.parts.length cp) e.1.parts w' hw
  rw [str_list] at hmax
  generalize Tm.maxArgs e.1.name e.1.parts = M at *
  have HH4 := Lib.hid hh
  have HMX := Lib.hid hmax
  clear hh hmax
  go_wp2_with fail
  go_quiet ((go_at_call 122; refine Calls.quiet_of_same ((HMX.out _ ?_).mono (fun _ _ hq => ⟨hq.1, hq.2.symm⟩)); exact HH4.out))
  go_wp2_with fail
  exact ⟨rfl, rfl, κ, HK2.out.trans (.below (drewN_below (HB4.out.trans (HB4n.out.mono HB4.out.size)) _))⟩
end Go.Proofs.YtaefonagbcnmdaaGreatDoor

namespace Go.Proofs.YtaefonagbcnmdaaGreatDoor
open Go.RowKit

theorem MPost.after {w w2 : World} {κ κ2 : Nat → Nat} {g : Nat} {ts : List Tm.T} {en : Tm.T} {tv : Value} {r : Except Tm.F (Tm.S × Bool)} {e : Ending} {w' : World} (hK : Kept κ κ2 w w2) (h : MPost w2 κ2 g ts en tv r e w') : MPost w κ g ts en tv r e w' := by
  cases r with
  | ok x =>
    obtain ⟨he, κ', es', sv', av', hR, hK2⟩ := h
    exact ⟨he, κ', es', sv', av', hR, hK.trans hK2⟩
  | error f =>
    obtain ⟨he, κ', hK2⟩ := h
    exact ⟨he, κ', hK.trans hK2⟩
theorem beginVariable_any {w : World} {κ : Nat → Nat} {g : Nat} {ts : List Tm.T} {en : Tm.T} {s : Tm.S} {es : List Tm.E} {tv sv av : Value} (h : RInv w κ g ts en s es tv sv av) (hi : s.i ≤ ts.length) (T : Tm.T) :
    Calls Tryz.prog 128 #[.pointer (some ⟨g, 0, none⟩), .agg #[.int .i64 T.1, .string ⟨T.2.1.toArray⟩, .int .i64 T.2.2]] w (MPost w κ g ts en tv (.ok (Tm.beginVariable ts en s T))) := by
  by_cases c : Tm.punct (Tm.peek ts en s.i) = [40, 40]
  · have he : Tm.beginVariable ts en s T = (s.next.push (Tm.opn 2 999 [99, 97, 108, 108] T.2.2 [Tm.variable_ T] []), false) := by simp [Tm.beginVariable, c]
    rw [he]
    exact beginVariable_yes h hi h.hes T.1 T.2.2 T.2.1 c
  · have he : Tm.beginVariable ts en s T = (s.have_ (Tm.variable_ T), true) := by simp [Tm.beginVariable, c]
    rw [he]
    exact beginVariable_no h T c
theorem beginBracket_any {w : World} {κ : Nat → Nat} {g : Nat} {ts : List Tm.T} {en : Tm.T} {s : Tm.S} {es : List Tm.E} {tv sv av : Value} (h : RInv w κ g ts en s es tv sv av) (hi : s.i ≤ ts.length) (hes : es.length ≤ s.i) (T : Tm.T) :
    Calls Tryz.prog 131 #[.pointer (some ⟨g, 0, none⟩), .agg #[.int .i64 T.1, .string ⟨T.2.1.toArray⟩, .int .i64 T.2.2]] w (MPost w κ g ts en tv (.ok (Tm.beginBracket ts en s T))) := by
  by_cases c1 : T.2.1 = [40]
  · have he : Tm.beginBracket ts en s T = (s.push (Tm.opn 3 1200 [] 0 [] []), false) := by simp [Tm.beginBracket, c1]
    rw [he]
    exact beginBracket_round h hes T.1 T.2.2 _ (by rw [str_list]; exact c1)
  · by_cases c2 : T.2.1 = [123]
    · have he : Tm.beginBracket ts en s T = (s.push (Tm.opn 4 1200 [] T.2.2 [] []), false) := by simp [Tm.beginBracket, c2]
      rw [he]
      exact beginBracket_curly h hes T.1 T.2.2 _ (by rw [str_list]; exact c2)
    · have b1 : ((⟨T.2.1.toArray⟩ : ByteArray).toList == [40]) = false := by rw [str_list, beq_eq_false_iff_ne]; exact c1
      have b2 : ((⟨T.2.1.toArray⟩ : ByteArray).toList == [123]) = false := by rw [str_list, beq_eq_false_iff_ne]; exact c2
      by_cases c3 : Tm.punct (Tm.peek ts en s.i) = [93]
      · have he : Tm.beginBracket ts en s T = (s.next.have_ (Tm.app [91, 93] T.2.2 []), true) := by simp [Tm.beginBracket, c1, c2, c3]
        rw [he]
        exact beginBracket_close h hi T.1 T.2.2 _ b1 b2 c3
      · have he : Tm.beginBracket ts en s T = (s.push (Tm.opn 5 999 [] 0 [] [(Tm.peek ts en s.i).2.2]), false) := by simp [Tm.beginBracket, c1, c2, c3]
        rw [he]
        exact beginBracket_open h hes T.1 T.2.2 _ b1 b2 c3
/-- Tokens that are right. -/
def Tm.Good (ts : List Tm.T) (en : Tm.T) : Prop := en.1 = 0 ∧ ∀ t ∈ ts, Tk.check t.1 t.2.1 = 0 ∧ t.2.1.length ≤ 65536
theorem Tm.Good.peek {ts : List Tm.T} {en : Tm.T} (h : Tm.Good ts en) {i : Nat} (hk : (Tm.peek ts en i).1 ≠ 0) : i < ts.length ∧ Tk.check (Tm.peek ts en i).1 (Tm.peek ts en i).2.1 = 0 ∧ (Tm.peek ts en i).2.1.length ≤ 65536 := by
  by_cases hi : i < ts.length
  · rw [Tm.peek_at hi]
    exact ⟨hi, h.2 _ (List.getElem_mem hi)⟩
  · rw [Tm.peek_end (by omega), h.1] at hk
    exact absurd rfl hk
theorem char_right {l : List UInt8} (h : Tk.check 4 l = 0) : l.length = 1 := by
  unfold Tk.check at h
  rw [if_neg (by decide), if_neg (by decide)] at h
  split at h
  · rename_i hf
    have : (l.length == 1 && Tk.inText (Tk.bt l 0)) = true := hf
    rw [Bool.and_eq_true, beq_iff_eq] at this
    exact this.1
  · omega
end Go.Proofs.YtaefonagbcnmdaaGreatDoor

namespace Go.Proofs.YtaefonagbcnmdaaGreatDoor
open Go.RowKit

set_option maxRecDepth 100000 in
set_option maxHeartbeats 8000000 in
theorem begin_go {w : World} {κ : Nat → Nat} {g : Nat} {ts : List Tm.T} {en : Tm.T} {s : Tm.S} {e : Tm.E} {es : List Tm.E} {tv sv av : Value} (h : RInv w κ g ts en s (e :: es) tv sv av) (hi : s.i < ts.length) (hgd : Tm.Good ts en) (T : Tm.T) (hT : Tm.peek ts en s.i = T) (hs : Tm.standsFirst T = true)
    (hf : (e.1.kind == 2) = false ∨ ((e.1.kind == 2) = true ∧ (e.1.parts.length == Tm.maxArgs e.1.name e.1.parts) = false)) :
    Calls Tryz.prog 73 #[.pointer (some ⟨g, 0, none⟩)] w (MPost w κ g ts en tv (Tm.begin_ ts en s)) := by
  obtain ⟨q, cap, hsv⟩ := own_form2 (n := es.length) h.own
  subst hsv
  have hfull : Tm.full s = false := by
    rw [Tm.full_of h.stack]
    rcases hf with hf | ⟨_, hf⟩
    · rw [hf]; rfl
    · rw [hf, Bool.and_false]
  have hb : Tm.begin_ ts en s = (if T.1 == 1 then Tm.beginName ts en s.next T
      else if T.1 == 2 then .ok (Tm.beginVariable ts en s.next T)
      else if T.1 == 3 then .ok (s.next.have_ (.mk 1 [] (Tm.digits T.2.1) [] T.2.2), true)
      else if T.1 == 4 then .ok (s.next.have_ (.mk 2 [] ((T.2.1.getD 0 0).toNat : Int) [] T.2.2), true)
      else if T.1 == 5 then .ok (s.next.have_ (.mk 3 T.2.1 0 [] T.2.2), true)
      else .ok (Tm.beginBracket ts en s.next T)) := by
    unfold Tm.begin_
    simp only [hT, hs, hfull]
    rfl
  obtain ⟨Q, hQ⟩ : ∃ Q, Tm.begin_ ts en s = Q := ⟨_, rfl⟩
  rw [hQ]
  rw [hQ] at hb
  clear hQ
  have hesl := h.hes
  have hnx : s.next.i = s.i + 1 := rfl
  have HG := Lib.hid hgd
  have HB := Lib.hid hb; clear hb hfull
  have HH := Lib.hid h; clear h
  have HT := Lib.hid hT; clear hT
  have HS := Lib.hid hs; clear hs hgd
  have hsi : ({ data := T.2.1.toArray } : ByteArray).toList = T.2.1 := str_list _
  have HSI := Lib.hid hsi; clear hsi
  have hf2 : (e.1.kind == 2) = false ∨ ((e.1.kind == 2) = true ∧ ((e.1.parts.length : Int) == ((Tm.maxArgs e.1.name e.1.parts : Nat) : Int)) = false) := by
    rcases hf with hf | ⟨h1, hf⟩
    · exact .inl hf
    · refine .inr ⟨h1, ?_⟩
      rw [beq_eq_false_iff_ne] at hf ⊢
      intro h2
      exact hf (by omega)
  clear hf
  have hk : (T.1 == 1) = true ∨ ((T.1 == 1) = false ∧ (T.1 == 2) = true) ∨ ((T.1 == 1) = false ∧ (T.1 == 2) = false ∧ (T.1 == 3) = true) ∨ ((T.1 == 1) = false ∧ (T.1 == 2) = false ∧ (T.1 == 3) = false ∧ (T.1 == 4) = true) ∨
      ((T.1 == 1) = false ∧ (T.1 == 2) = false ∧ (T.1 == 3) = false ∧ (T.1 == 4) = false ∧ (T.1 == 5) = true) ∨ ((T.1 == 1) = false ∧ (T.1 == 2) = false ∧ (T.1 == 3) = false ∧ (T.1 == 4) = false ∧ (T.1 == 5) = false) := by
    cases (T.1 == 1) <;> cases (T.1 == 2) <;> cases (T.1 == 3) <;> cases (T.1 == 4) <;> cases (T.1 == 5) <;> simp
  rcases hf2 with hq2 | ⟨hq2, hq3⟩
  all_goals
    go_enter Tryz.func73, Tryz.ntmps73
    go_wp2_with fail
    refine (ptake_any HH.out (Nat.le_of_lt hi)).mono ?_
    rintro r w2 ⟨rfl, hR2, hK2⟩
    rw [HT.out]
    have HR2 := Lib.hid hR2
    have HK2 := Lib.hid hK2
    clear hR2 hK2
    go_wp2_with fail
    refine (standsFirst_any _ _ _ _).mono ?_
    rintro r w3 ⟨rfl, hB3⟩
    rw [HSI.out, show (T.1, T.2.1, T.2.2) = T from rfl, HS.out]
    obtain ⟨d0, d1, d2, hB4⟩ := box_tok hB3
    clear hB3
    have HR3 := Lib.hid (HR2.out.below hB4)
    have HB4 := Lib.hid hB4
    clear hB4
    go_wp2_with fail
    refine (top_any HR3.out).mono ?_
    rintro r w4 ⟨rfl, n, hw4⟩
    have HB4n := Lib.hid (show Below w3.heap.size w3 w4 by rw [hw4]; exact drewN_below (Below.refl _ _) n)
    have HR4 := Lib.hid (HR3.out.below HB4n.out)
    replace d2 : w4.cell? ⟨w2.heap.size, 2, none⟩ = some (.int .i64 T.2.2) := (HB4n.out.cell (p := ⟨w2.heap.size, 2, none⟩) (World.block_lt_of_cell? w3 _ d2)).trans d2
    replace d1 : w4.cell? ⟨w2.heap.size, 1, none⟩ = some (.string ⟨T.2.1.toArray⟩) := (HB4n.out.cell (p := ⟨w2.heap.size, 1, none⟩) (World.block_lt_of_cell? w3 _ d1)).trans d1
    replace d0 : w4.cell? ⟨w2.heap.size, 0, none⟩ = some (.int .i64 T.1) := (HB4n.out.cell (p := ⟨w2.heap.size, 0, none⟩) (World.block_lt_of_cell? w3 _ d0)).trans d0
    clear hw4
    obtain ⟨Ap, cp, f0, f2, _, f4, hh, hql⟩ := HR4.out.topFacts
    have hmax := fun w' hw => maxArgs_any ⟨e.1.name.toArray⟩ (.slice Ap e.1.parts.length cp) e.1.parts w' hw
    rw [str_list] at hmax
    generalize Tm.maxArgs e.1.name e.1.parts = M at *
    have HH4 := Lib.hid hh
    have HMX := Lib.hid hmax
    clear hh hmax
    have HK4 := Lib.hid (HK2.out.trans (.below (HB4.out.trans (HB4n.out.mono HB4.out.size))))
    have HES := Lib.hid hesl
    clear hesl
    go_wp2_with fail
    first
    | go_quiet (fail)
    | go_quiet ((go_at_call 122; refine Calls.quiet_of_same ((HMX.out _ ?_).mono (fun _ _ hq => ⟨hq.1, hq.2.symm⟩)); exact HH4.out))
    have hBq := drewN_below (Below.refl w4.heap.size w4) nq
    have HRq := Lib.hid (HR4.out.below hBq)
    have HKq := Lib.hid (HK4.out.trans (.below hBq))
    replace d2 := (hBq.cell (p := ⟨w2.heap.size, 2, none⟩) (World.block_lt_of_cell? w4 _ d2)).trans d2
    replace d1 := (hBq.cell (p := ⟨w2.heap.size, 1, none⟩) (World.block_lt_of_cell? w4 _ d1)).trans d1
    replace d0 := (hBq.cell (p := ⟨w2.heap.size, 0, none⟩) (World.block_lt_of_cell? w4 _ d0)).trans d0
    clear f0 f2 f4 hBq hql
    generalize w4.drewN nq = w5 at *
    rcases hk with hk | ⟨hk1, hk⟩ | ⟨hk1, hk2, hk⟩ | ⟨hk1, hk2, hk3, hk⟩ | ⟨hk1, hk2, hk3, hk4, hk⟩ | ⟨hk1, hk2, hk3, hk4, hk⟩
    · have hq := HB.out
      rw [if_pos hk] at hq
      clear HB
      have hgn : ∀ t : Tm.T, Tm.peek ts en s.next.i = t → t.1 = 3 → Tk.check 3 t.2.1 = 0 ∧ t.2.1.length ≤ 65536 := by
        intro t ht h3
        have := HG.out.peek (i := s.next.i) (by rw [ht, h3]; decide)
        rw [ht, h3] at this
        exact this.2
      have hbn := beginName_any HRq.out (by rw [hnx]; omega) (by have := HES.out; simp at this; rw [hnx]; omega) T.1 T.2.2 T.2.1 hgn
      rw [show (T.1, T.2.1, T.2.2) = T from rfl, ← hq] at hbn
      clear hq
      have HBN := Lib.hid hbn
      clear hbn hgn
      go_wp2_with fail
      refine HBN.out.mono ?_
      rintro r w6 hp
      cases Q with
      | ok x =>
        obtain ⟨he, hp⟩ := hp
        subst he
        go_wp2_with fail
        go_ret
        exact MPost.after HKq.out ⟨rfl, hp⟩
      | error f =>
        obtain ⟨he, hp⟩ := hp
        unfold Tm.thrown at he
        subst he
        go_wp2_with fail
        exact ⟨rfl, MPost.after (r := .error f) HKq.out ⟨rfl, hp⟩⟩
    · have hq := HB.out
      rw [hk1, if_neg (by decide), if_pos hk] at hq
      clear HB
      subst hq
      go_wp2_with fail
      refine (beginVariable_any HRq.out (by rw [hnx]; omega) T).mono ?_
      rintro r w6 ⟨he, hp⟩
      subst he
      go_wp2_with fail
      go_ret
      exact MPost.after HKq.out ⟨rfl, hp⟩
    · have hq := HB.out
      rw [hk1, if_neg (by decide), hk2, if_neg (by decide), if_pos hk] at hq
      clear HB
      subst hq
      have hk' : T.1 = 3 := by rwa [beq_iff_eq] at hk
      have hgt := HG.out.peek (i := s.i) (by rw [HT.out, hk']; decide)
      rw [HT.out, hk'] at hgt
      have HN := Lib.hid (number_any ⟨#[]⟩ ⟨T.2.1.toArray⟩ T.1 T.2.2 (Tm.digits T.2.1) w5 (by decide) (by have := hgt.2.2; simpa [ByteArray.size] using this) (by have := parse_plain hgt.2.1; simpa [ByteArray.data_append] using this))
      clear hgt hk'
      go_wp2_with fail
      refine HN.out.mono ?_
      rintro r w6 ⟨rfl, hB6⟩
      go_wp2_with fail
      refine (phave_any (HRq.out.below hB6) (.mk 1 [] (Tm.digits T.2.1) [] T.2.2) (.slice none 0 0) (.nil none 0)).mono ?_
      rintro r w7 ⟨rfl, hR7, hK7⟩
      go_wp2_with fail
      go_ret
      exact MPost.after (HKq.out.trans (.below hB6)) ⟨rfl, _, _, _, _, hR7, hK7⟩
    · have hq := HB.out
      rw [hk1, if_neg (by decide), hk2, if_neg (by decide), hk3, if_neg (by decide), if_pos hk] at hq
      clear HB
      subst hq
      have hk' : T.1 = 4 := by rwa [beq_iff_eq] at hk
      have hgt := HG.out.peek (i := s.i) (by rw [HT.out, hk']; decide)
      rw [HT.out, hk'] at hgt
      have hl1 := char_right hgt.2.1
      clear hgt hk'
      obtain ⟨c, hc⟩ : ∃ c, T.2.1 = [c] := by
        match hT1 : T.2.1, hl1 with
        | [c], _ => exact ⟨c, rfl⟩
      rw [hc] at d1
      rw [hc]
      clear hl1
      go_wp2_with fail
      go_still_tail 8, (by kernel_rfl)
      go_wp2_with fail
      have hv : wrap64 ((({ data := #[c] } : ByteArray)[0]'(Nat.zero_lt_one)).toNat : Int) = (c.toNat : Int) := by
        have := c.toNat_lt
        exact IntWalk.wrap64_in _ (by
          show -9223372036854775808 ≤ (c.toNat : Int) ∧ (c.toNat : Int) ≤ 9223372036854775807
          omega)
      rw [hv]
      refine (phave_any (HRq.out.below (Below.refl _ _).drew) (.mk 2 [] (c.toNat : Int) [] T.2.2) (.slice none 0 0) (.nil none 0)).mono ?_
      rintro r w7 ⟨rfl, hR7, hK7⟩
      go_wp2_with fail
      go_ret
      have hg0 : ([c].getD 0 0).toNat = c.toNat := rfl
      exact MPost.after (HKq.out.trans (.below (Below.refl _ _).drew)) ⟨rfl, _, _, _, _, (by rw [hc]; exact hR7), hK7⟩
    · have hq := HB.out
      rw [hk1, if_neg (by decide), hk2, if_neg (by decide), hk3, if_neg (by decide), hk4, if_neg (by decide), if_pos hk] at hq
      clear HB
      subst hq
      go_wp2_with fail
      refine (phave_any HRq.out (.mk 3 T.2.1 0 [] T.2.2) (.slice none 0 0) (.nil none 0)).mono ?_
      rintro r w7 ⟨rfl, hR7, hK7⟩
      go_wp2_with fail
      go_ret
      exact MPost.after HKq.out ⟨rfl, _, _, _, _, hR7, hK7⟩
    · have hq := HB.out
      rw [hk1, if_neg (by decide), hk2, if_neg (by decide), hk3, if_neg (by decide), hk4, if_neg (by decide), hk, if_neg (by decide)] at hq
      clear HB
      subst hq
      go_wp2_with fail
      refine (beginBracket_any HRq.out (by rw [hnx]; omega) (by have := HES.out; simp at this; rw [hnx]; simp; omega) T).mono ?_
      rintro r w6 ⟨he, hp⟩
      subst he
      go_wp2_with fail
      go_ret
      exact MPost.after HKq.out ⟨rfl, hp⟩
end Go.Proofs.YtaefonagbcnmdaaGreatDoor

namespace Go.Proofs.YtaefonagbcnmdaaGreatDoor
open Go.RowKit

theorem Tm.stands_kind {t : Tm.T} (h : t.1 = 0) : Tm.standsFirst t = false := by
  unfold Tm.standsFirst Tm.punct
  rw [h]
  rfl
theorem begin_any {w : World} {κ : Nat → Nat} {g : Nat} {ts : List Tm.T} {en : Tm.T} {s : Tm.S} {e : Tm.E} {es : List Tm.E} {tv sv av : Value} (h : RInv w κ g ts en s (e :: es) tv sv av) (hi : s.i ≤ ts.length) (hgd : Tm.Good ts en) :
    Calls Tryz.prog 73 #[.pointer (some ⟨g, 0, none⟩)] w (MPost w κ g ts en tv (Tm.begin_ ts en s)) := by
  obtain ⟨T, hT⟩ : ∃ T, Tm.peek ts en s.i = T := ⟨_, rfl⟩
  cases hs : Tm.standsFirst T
  · have he : Tm.begin_ ts en s = .error (Tm.refusal T) := by
      unfold Tm.begin_
      simp only [hT, hs]
      rfl
    rw [he]
    exact begin_refused h hi T hT hs
  · have hlt : s.i < ts.length := by
      refine (hgd.peek (i := s.i) ?_).1
      intro h0
      rw [hT] at h0
      rw [Tm.stands_kind h0] at hs
      cases hs
    cases hk : (e.1.kind == 2)
    · exact begin_go h hlt hgd T hT hs (.inl hk)
    · cases hf : (e.1.parts.length == Tm.maxArgs e.1.name e.1.parts)
      · exact begin_go h hlt hgd T hT hs (.inr ⟨hk, hf⟩)
      · have he : Tm.begin_ ts en s = .error (T.2.2, 6) := by
          unfold Tm.begin_
          have hfull : Tm.full s = true := by rw [Tm.full_of h.stack, hk, hf]; rfl
          simp only [hT, hs, hfull]
          rfl
        rw [he]
        exact begin_full h hi T hT hs hk hf
/-- All cells of the innermost open term. -/
theorem RInv.top9 {w : World} {κ : Nat → Nat} {g : Nat} {ts : List Tm.T} {en : Tm.T} {s : Tm.S} {e : Tm.E} {es : List Tm.E} {tv av : Value} {q cap : Nat} (h : RInv w κ g ts en s (e :: es) tv (.slice (some ⟨q, 0, none⟩) (es.length + 1) cap) av) :
    ∃ Ap cp Aq cq, e.2 = (.slice Ap e.1.parts.length cp, .slice Aq e.1.places.length cq) ∧ HeadR w (.slice Ap e.1.parts.length cp) e.1.parts ∧ q < w.heap.size ∧ κ q = 3 ∧
      (w.cell? ⟨q, es.length * 9, none⟩ = some (.int .i64 e.1.kind) ∧ w.cell? ⟨q, es.length * 9 + 1, none⟩ = some (.int .i64 e.1.most) ∧ w.cell? ⟨q, es.length * 9 + 2, none⟩ = some (.string ⟨e.1.name.toArray⟩) ∧
      w.cell? ⟨q, es.length * 9 + 3, none⟩ = some (.int .i64 e.1.at_) ∧ w.cell? ⟨q, es.length * 9 + 4, none⟩ = some (.slice Ap e.1.parts.length cp) ∧ w.cell? ⟨q, es.length * 9 + 5, none⟩ = some (.slice Aq e.1.places.length cq) ∧
      w.cell? ⟨q, es.length * 9 + 6, none⟩ = some (.int .i64 e.1.need) ∧ w.cell? ⟨q, es.length * 9 + 7, none⟩ = some (.int .i64 e.1.last) ∧ w.cell? ⟨q, es.length * 9 + 8, none⟩ = some (.int .i64 e.1.prio)) ∧ (∀ j, w.frozen? ⟨q, j, none⟩ = false) := by
  obtain ⟨q', cap', hv, hk, hl, hc⟩ := h.topCells
  cases hv
  obtain ⟨⟨vs, hvl, hvo, _⟩, _, hqo, _⟩ := h.ents.1
  obtain ⟨Ap, cp, hp⟩ := own_slice hvo
  obtain ⟨Aq, cq, hq⟩ := own_slice hqo
  rw [hp] at hvo
  refine ⟨Ap, cp, Aq, cq, Prod.ext hp hq, own_head hvl hvo, hl, hk, ⟨hc 0 _ rfl, hc 1 _ rfl, hc 2 _ rfl, hc 3 _ rfl, ?_, ?_, hc 6 _ rfl, hc 7 _ rfl, hc 8 _ rfl⟩, fun j => World.ownsRow.frozenAt (n := es.length + 1) h.own j⟩
  · have := hc 4 e.2.1 rfl
    rw [hp] at this
    exact this
  · have := hc 5 e.2.2 rfl
    rw [hq] at this
    exact this
/-- What stands behind a part of the innermost open term. -/
def GPost (w : World) (κ : Nat → Nat) (g : Nat) (ts : List Tm.T) (en : Tm.T) (tv sv av : Value) (s : Tm.S) (es : List Tm.E) (r : Except Tm.F (Nat × Tm.O × Option Tm)) (x : Ending) (w' : World) : Prop :=
  match r with
  | .error f => x = Tm.thrown f.1 f.2 ∧ ∃ κ', Kept κ κ' w w'
  | .ok (i, o, none) => ∃ (t : Tm) (A : Option Addr) (n c : Nat), x = .returned (.tuple #[Tm.val t (.slice A n c), .bool false]) ∧ ∃ κ' e', RInv w' κ' g ts en { s with i := i, stack := e'.1 :: es.map (·.1) } (e' :: es) tv sv av ∧ e'.1 = o ∧ Kept κ κ' w w'
  | .ok (i, o, some t) => ∃ v, x = .returned (.tuple #[Tm.val t v, .bool true]) ∧ ∃ κ' e', RInv w' κ' g ts en { s with i := i, stack := e'.1 :: es.map (·.1) } (e' :: es) tv sv av ∧ e'.1 = o ∧ GRet w' κ' e' t v ∧ Kept κ κ' w w'
/-- The reader, with its stack written out. -/
theorem RInv.spelt {w : World} {κ : Nat → Nat} {g : Nat} {ts : List Tm.T} {en : Tm.T} {s : Tm.S} {e : Tm.E} {es : List Tm.E} {tv sv av : Value} (h : RInv w κ g ts en s (e :: es) tv sv av) : RInv w κ g ts en { s with stack := e.1 :: es.map (·.1) } (e :: es) tv sv av := by
  have : s = { s with stack := e.1 :: es.map (·.1) } := by
    have h2 := h.stack
    cases s
    simp only [List.map_cons] at h2
    simp [h2]
  rw [← this]
  exact h
end Go.Proofs.YtaefonagbcnmdaaGreatDoor

