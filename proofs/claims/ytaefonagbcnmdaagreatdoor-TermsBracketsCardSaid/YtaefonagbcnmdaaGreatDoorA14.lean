import Derived.Test.YtaefonagbcnmdaaGreatDoorA13
set_option linter.unusedSimpArgs false
set_option linter.unusedVariables false
namespace Go.Proofs.YtaefonagbcnmdaaGreatDoor
open Go.RowKit

def Tk.isArgs (l : List UInt8) (a en : Nat) (b : Bool) : Bool := decide (Tk.bt l a = 40) && b && decide (en = a)
def Tk.punctText (l : List UInt8) (a en : Nat) (b : Bool) : List UInt8 := if Tk.isArgs l a en b then [40, 40] else Tk.sub l a (a + 1)
set_option maxRecDepth 100000 in
set_option maxHeartbeats 1000000 in
theorem readPunct_any (s : ByteArray) (g a en : Nat) (b : Bool) (w : World) (hs : s.size ≤ 65536) (ha : a < s.size) (hen : en ≤ s.size) (hS : Scan w g s a en b) :
    Calls Tryz.prog 93 #[.pointer (some ⟨g, 0, none⟩)] w fun e w' => e = .returned (Tk.tokV 6 (Tk.punctText s.data.toList a en b) a) ∧ Scan w' g s (a + 1) en b ∧ w.grownBy w' (some g) := by
  have hgl := hS.lt
  have hS1 := hS.alloc (.cells #[.int .i64 0, .string ⟨#[]⟩, .int .i64 0] 48)
  have hT1 := Blk.new w 48 #[.int .i64 0, .string ⟨#[]⟩, .int .i64 0]
  have hG1 := World.grownBy_alloc w (.cells #[.int .i64 0, .string ⟨#[]⟩, .int .i64 0] 48) (some g)
  have HB := Lib.hid (Tk.bt_of s a ha)
  obtain ⟨P, hP⟩ : ∃ P, Tk.isArgs s.data.toList a en b = P := ⟨_, rfl⟩
  have HP := Lib.hid hP; clear hP
  go_enter Tryz.func93, Tryz.ntmps93
  go_wp2_with fail
  generalize hw1 : w.alloc (.cells #[.int .i64 0, .string ⟨#[]⟩, .int .i64 0] 48) = w1 at *
  clear hw1
  have hc0 : w1.cell? ⟨g, 0, none⟩ = some (.string s) := by simpa using Blk.cell hS1 0
  have hc1 : w1.cell? ⟨g, 1, none⟩ = some (.int .i64 a) := by simpa using Blk.cell hS1 1
  have hc2 : w1.cell? ⟨g, 2, none⟩ = some (.int .i64 en) := by simpa using Blk.cell hS1 2
  have hc3 : w1.cell? ⟨g, 3, none⟩ = some (.bool b) := by simpa using Blk.cell hS1 3
  have hfin : ∀ (w2 : World), Scan w2 g s (a + 1) en b → w1.grownBy w2 (some g) → (w2.cell? ⟨w.heap.size, 0, none⟩ = some (.int .i64 0) ∧ w2.cell? ⟨w.heap.size, 1, none⟩ = some (.string ⟨#[]⟩) ∧ w2.cell? ⟨w.heap.size, 2, none⟩ = some (.int .i64 0)) ∧
     (w2.frozen? ⟨w.heap.size, 0, none⟩ = false ∧ w2.frozen? ⟨w.heap.size, 1, none⟩ = false ∧ w2.frozen? ⟨w.heap.size, 2, none⟩ = false) ∧ w.heap.size < w2.heap.size := fun w2 h1 h2 => by
    have h3 : Blk w2 w.heap.size 48 #[.int .i64 0, .string ⟨#[]⟩, .int .i64 0] := hT1.grown h2 (by simp; omega)
    exact ⟨⟨by simpa using h3.cell 0, by simpa using h3.cell 1, by simpa using h3.cell 2⟩, ⟨h3.frozen 0, h3.frozen 1, h3.frozen 2⟩, h3.lt⟩
  have HFIN := Lib.hid hfin; clear hfin
  by_cases h40 : (s[a].toNat : Int) = 40
  · have e40 : ((s[a].toNat : Int) == 40) = true := by rw [beq_iff_eq]; exact h40
    have H40 := Lib.hid h40; clear h40
    cases b
    · have hp : Tk.isArgs s.data.toList a en false = false := by simp only [Tk.isArgs, ← HB.out]; simp [H40.out]
      obtain rfl : P = false := by rw [← HP.out, hp]
      clear hp
      have hG0 := gb_refl w1 (some g)
      go_quiet (fail)
      go_wp2_with fail
      rw [show (a : Int) + 1 = ((a + 1 : Nat) : Int) from rfl]
      refine (take_any s g a en false 6 (a + 1) _ hs (by omega) (by omega) ((by first | with_reducible exact hS1 | (show Blk _ _ _ _; have hMSC : Blk _ _ _ _ := hS1; repeat (first | with_reducible exact hMSC | (with_reducible refine Blk.far ?_ (by first | (dsimp only; omega) | assumption) _) | (with_reducible refine Blk.drewN ?_ _) | (with_reducible refine Blk.drew ?_) | (with_reducible refine Blk.alloc ?_ _)))))).mono ?_; rintro e w2 ⟨rfl, hS2, hG2⟩
      have hG3 : w1.grownBy w2 (some g) := gb_trans ((by repeat (first | with_reducible exact hG0 | with_reducible exact gb_refl _ _ | (with_reducible refine gb_set ?_ (by first | (right; dsimp only; omega) | exact .inl rfl) _) | (with_reducible refine gb_drewN ?_ _) | (with_reducible refine gb_drew ?_) | (with_reducible refine gb_alloc ?_ _)))) hG2
      obtain ⟨⟨ht0, ht1, ht2⟩, ⟨hv0, hv1, hv2⟩, hlt2⟩ := HFIN.out w2 hS2 hG3
      have hG4 := gb_trans hG1 hG3
      have htx : Tk.punctText s.data.toList a en false = Tk.sub s.data.toList a (a + 1) := by rw [Tk.punctText, HP.out]; rfl
      have HTX := Lib.hid htx; clear htx
      clear hc0 hc1 hc2 hc3
      rw [sub_str]
      go_wp2_with fail
      rw [HTX.out]
      exact bodyPost_ret (v := Tk.tokV 6 (Tk.sub s.data.toList a (a + 1)) a) (by simp [results, Tryz.results93, go_sem, Tk.tokV, ht0, ht1, ht2, hlt2, World.cell?_alloc_past]) rfl ⟨rfl, (by first | with_reducible exact hS2 | (show Blk _ _ _ _; have hMSC : Blk _ _ _ _ := hS2; repeat (first | with_reducible exact hMSC | (with_reducible refine Blk.far ?_ (by first | (dsimp only; omega) | assumption) _) | (with_reducible refine Blk.drewN ?_ _) | (with_reducible refine Blk.drew ?_) | (with_reducible refine Blk.alloc ?_ _)))), (by repeat (first | with_reducible exact hG4 | with_reducible exact gb_refl _ _ | (with_reducible refine gb_set ?_ (by first | (right; dsimp only; omega) | exact .inl rfl) _) | (with_reducible refine gb_drewN ?_ _) | (with_reducible refine gb_drew ?_) | (with_reducible refine gb_alloc ?_ _)))⟩
    · by_cases hea : en = a
      · have ea : ((en : Int) == (a : Int)) = true := by rw [beq_iff_eq]; omega
        have HEA := Lib.hid hea; clear hea
        have hp : Tk.isArgs s.data.toList a en true = true := by simp only [Tk.isArgs, ← HB.out]; simp [H40.out, HEA.out]
        obtain rfl : P = true := by rw [← HP.out, hp]
        clear hp
        have hG0 := gb_refl w1 (some g)
        go_quiet (fail)
        go_wp2_with fail
        rw [show (a : Int) + 1 = ((a + 1 : Nat) : Int) from rfl]
        refine (take_any s g a en true 6 (a + 1) _ hs (by omega) (by omega) ((by first | with_reducible exact hS1 | (show Blk _ _ _ _; have hMSC : Blk _ _ _ _ := hS1; repeat (first | with_reducible exact hMSC | (with_reducible refine Blk.far ?_ (by first | (dsimp only; omega) | assumption) _) | (with_reducible refine Blk.drewN ?_ _) | (with_reducible refine Blk.drew ?_) | (with_reducible refine Blk.alloc ?_ _)))))).mono ?_; rintro e w2 ⟨rfl, hS2, hG2⟩
        have hG3 : w1.grownBy w2 (some g) := gb_trans ((by repeat (first | with_reducible exact hG0 | with_reducible exact gb_refl _ _ | (with_reducible refine gb_set ?_ (by first | (right; dsimp only; omega) | exact .inl rfl) _) | (with_reducible refine gb_drewN ?_ _) | (with_reducible refine gb_drew ?_) | (with_reducible refine gb_alloc ?_ _)))) hG2
        obtain ⟨⟨ht0, ht1, ht2⟩, ⟨hv0, hv1, hv2⟩, hlt2⟩ := HFIN.out w2 hS2 hG3
        have hG4 := gb_trans hG1 hG3
        have htx : Tk.punctText s.data.toList a en true = [40, 40] := by rw [Tk.punctText, HP.out]; rfl
        have HTX := Lib.hid htx; clear htx
        clear hc0 hc1 hc2 hc3
        rw [sub_str]
        go_wp2_with fail
        rw [HTX.out]
        exact bodyPost_ret (v := Tk.tokV 6 ([40, 40]) a) (by simp [results, Tryz.results93, go_sem, Tk.tokV, ht0, ht1, ht2, hlt2, World.cell?_alloc_past]) rfl ⟨rfl, (by first | with_reducible exact hS2 | (show Blk _ _ _ _; have hMSC : Blk _ _ _ _ := hS2; repeat (first | with_reducible exact hMSC | (with_reducible refine Blk.far ?_ (by first | (dsimp only; omega) | assumption) _) | (with_reducible refine Blk.drewN ?_ _) | (with_reducible refine Blk.drew ?_) | (with_reducible refine Blk.alloc ?_ _)))), (by repeat (first | with_reducible exact hG4 | with_reducible exact gb_refl _ _ | (with_reducible refine gb_set ?_ (by first | (right; dsimp only; omega) | exact .inl rfl) _) | (with_reducible refine gb_drewN ?_ _) | (with_reducible refine gb_drew ?_) | (with_reducible refine gb_alloc ?_ _)))⟩
      · have ea : ((en : Int) == (a : Int)) = false := by rw [beq_eq_false_iff_ne]; omega
        have HEA := Lib.hid hea; clear hea
        have hp : Tk.isArgs s.data.toList a en true = false := by simp only [Tk.isArgs, ← HB.out]; simp [H40.out, HEA.out]
        obtain rfl : P = false := by rw [← HP.out, hp]
        clear hp
        have hG0 := gb_refl w1 (some g)
        go_quiet (fail)
        go_wp2_with fail
        rw [show (a : Int) + 1 = ((a + 1 : Nat) : Int) from rfl]
        refine (take_any s g a en true 6 (a + 1) _ hs (by omega) (by omega) ((by first | with_reducible exact hS1 | (show Blk _ _ _ _; have hMSC : Blk _ _ _ _ := hS1; repeat (first | with_reducible exact hMSC | (with_reducible refine Blk.far ?_ (by first | (dsimp only; omega) | assumption) _) | (with_reducible refine Blk.drewN ?_ _) | (with_reducible refine Blk.drew ?_) | (with_reducible refine Blk.alloc ?_ _)))))).mono ?_; rintro e w2 ⟨rfl, hS2, hG2⟩
        have hG3 : w1.grownBy w2 (some g) := gb_trans ((by repeat (first | with_reducible exact hG0 | with_reducible exact gb_refl _ _ | (with_reducible refine gb_set ?_ (by first | (right; dsimp only; omega) | exact .inl rfl) _) | (with_reducible refine gb_drewN ?_ _) | (with_reducible refine gb_drew ?_) | (with_reducible refine gb_alloc ?_ _)))) hG2
        obtain ⟨⟨ht0, ht1, ht2⟩, ⟨hv0, hv1, hv2⟩, hlt2⟩ := HFIN.out w2 hS2 hG3
        have hG4 := gb_trans hG1 hG3
        have htx : Tk.punctText s.data.toList a en true = Tk.sub s.data.toList a (a + 1) := by rw [Tk.punctText, HP.out]; rfl
        have HTX := Lib.hid htx; clear htx
        clear hc0 hc1 hc2 hc3
        rw [sub_str]
        go_wp2_with fail
        rw [HTX.out]
        exact bodyPost_ret (v := Tk.tokV 6 (Tk.sub s.data.toList a (a + 1)) a) (by simp [results, Tryz.results93, go_sem, Tk.tokV, ht0, ht1, ht2, hlt2, World.cell?_alloc_past]) rfl ⟨rfl, (by first | with_reducible exact hS2 | (show Blk _ _ _ _; have hMSC : Blk _ _ _ _ := hS2; repeat (first | with_reducible exact hMSC | (with_reducible refine Blk.far ?_ (by first | (dsimp only; omega) | assumption) _) | (with_reducible refine Blk.drewN ?_ _) | (with_reducible refine Blk.drew ?_) | (with_reducible refine Blk.alloc ?_ _)))), (by repeat (first | with_reducible exact hG4 | with_reducible exact gb_refl _ _ | (with_reducible refine gb_set ?_ (by first | (right; dsimp only; omega) | exact .inl rfl) _) | (with_reducible refine gb_drewN ?_ _) | (with_reducible refine gb_drew ?_) | (with_reducible refine gb_alloc ?_ _)))⟩
  · have e40 : ((s[a].toNat : Int) == 40) = false := by rw [beq_eq_false_iff_ne]; exact h40
    have H40 := Lib.hid h40; clear h40
    have hp : Tk.isArgs s.data.toList a en b = false := by simp only [Tk.isArgs, ← HB.out]; simp [H40.out]
    obtain rfl : P = false := by rw [← HP.out, hp]
    clear hp
    have hG0 := gb_refl w1 (some g)
    go_quiet (fail)
    go_wp2_with fail
    rw [show (a : Int) + 1 = ((a + 1 : Nat) : Int) from rfl]
    refine (take_any s g a en b 6 (a + 1) _ hs (by omega) (by omega) ((by first | with_reducible exact hS1 | (show Blk _ _ _ _; have hMSC : Blk _ _ _ _ := hS1; repeat (first | with_reducible exact hMSC | (with_reducible refine Blk.far ?_ (by first | (dsimp only; omega) | assumption) _) | (with_reducible refine Blk.drewN ?_ _) | (with_reducible refine Blk.drew ?_) | (with_reducible refine Blk.alloc ?_ _)))))).mono ?_; rintro e w2 ⟨rfl, hS2, hG2⟩
    have hG3 : w1.grownBy w2 (some g) := gb_trans ((by repeat (first | with_reducible exact hG0 | with_reducible exact gb_refl _ _ | (with_reducible refine gb_set ?_ (by first | (right; dsimp only; omega) | exact .inl rfl) _) | (with_reducible refine gb_drewN ?_ _) | (with_reducible refine gb_drew ?_) | (with_reducible refine gb_alloc ?_ _)))) hG2
    obtain ⟨⟨ht0, ht1, ht2⟩, ⟨hv0, hv1, hv2⟩, hlt2⟩ := HFIN.out w2 hS2 hG3
    have hG4 := gb_trans hG1 hG3
    have htx : Tk.punctText s.data.toList a en b = Tk.sub s.data.toList a (a + 1) := by rw [Tk.punctText, HP.out]; rfl
    have HTX := Lib.hid htx; clear htx
    clear hc0 hc1 hc2 hc3
    rw [sub_str]
    go_wp2_with fail
    rw [HTX.out]
    exact bodyPost_ret (v := Tk.tokV 6 (Tk.sub s.data.toList a (a + 1)) a) (by simp [results, Tryz.results93, go_sem, Tk.tokV, ht0, ht1, ht2, hlt2, World.cell?_alloc_past]) rfl ⟨rfl, (by first | with_reducible exact hS2 | (show Blk _ _ _ _; have hMSC : Blk _ _ _ _ := hS2; repeat (first | with_reducible exact hMSC | (with_reducible refine Blk.far ?_ (by first | (dsimp only; omega) | assumption) _) | (with_reducible refine Blk.drewN ?_ _) | (with_reducible refine Blk.drew ?_) | (with_reducible refine Blk.alloc ?_ _)))), (by repeat (first | with_reducible exact hG4 | with_reducible exact gb_refl _ _ | (with_reducible refine gb_set ?_ (by first | (right; dsimp only; omega) | exact .inl rfl) _) | (with_reducible refine gb_drewN ?_ _) | (with_reducible refine gb_drew ?_) | (with_reducible refine gb_alloc ?_ _)))⟩
end Go.Proofs.YtaefonagbcnmdaaGreatDoor
