import Derived.Test.YtaefonagbcnmdaaGreatDoorGA
set_option linter.unusedSimpArgs false
set_option linter.unusedVariables false
namespace Go.Proofs.YtaefonagbcnmdaaGreatDoor
open Go.RowKit

def Tk.inLine (c : Int) : Bool := c != 10 && Tk.inText c
/-- The index and the code of the fault of a line comment; code 0: none. -/
def Tk.lineEnd (l : List UInt8) (a : Nat) : Nat := Tk.run Tk.inLine l a
def Tk.lineFault (l : List UInt8) (a : Nat) : Nat × Int := let j := Tk.lineEnd l a; if j < l.length ∧ Tk.bt l j ≠ 10 then (j, 2) else (0, 0)
def Tk.cellAt (w : World) (g i : Nat) : Int := intOf ((w.cell? ⟨g, i, none⟩).getD undef)
theorem Scan.at_ {w : World} {g : Nat} {s : ByteArray} {a e : Nat} {b : Bool} (h : Scan w g s a e b) : Tk.cellAt w g 1 = a := by
  have := h.cell 1
  simp at this
  simp [Tk.cellAt, this, intOf]
theorem Scan.move {w : World} {g : Nat} {s : ByteArray} {a e : Nat} {b : Bool} (h : Scan w g s a e b) {v : Int} {z : Nat} (hv : v = z) : Scan (w.setCell ⟨g, 1, none⟩ (.int .i64 v)) g s z e b := by
  subst hv
  exact Blk.put h 1 (.int .i64 z)

set_option maxRecDepth 100000 in
set_option maxHeartbeats 1000000 in
theorem skipLine_any (s : ByteArray) (g a en : Nat) (b : Bool) (w : World) (hs : s.size ≤ 65536) (ha : a ≤ s.size) (hS : Scan w g s a en b) :
    Calls Tryz.prog 77 #[.pointer (some ⟨g, 0, none⟩)] w fun e w' => e = .returned (.agg #[.int .i64 (Tk.lineFault s.data.toList a).1, .int .i64 (Tk.lineFault s.data.toList a).2]) ∧ Scan w' g s (Tk.lineEnd s.data.toList a) en b ∧ w.grownBy w' (some g) := by
  have HZ := Lib.hid (size_data s)
  have hgl := hS.lt
  go_enter Tryz.func77, Tryz.ntmps77
  go_wp2_with fail
  go_loopw [] (fun wr => ∃ k : Nat, a ≤ k ∧ k ≤ s.size ∧ Scan wr g s k en b ∧ Blk wr w.heap.size 26 #[.int .i64 0, .int .i64 0] ∧ w.grownBy wr (some g) ∧ Hid (Tk.lineEnd s.data.toList a = Tk.lineEnd s.data.toList k)) (fun wr => s.size - (Tk.cellAt wr g 1).toNat)
  case atStart => exact ⟨a, Nat.le_refl _, ha, hS.alloc _, Blk.new _ _ _, gb_alloc (gb_refl _ _) _, Lib.hid rfl⟩
  case round =>
    obtain ⟨k, hak, hk, hSk, hR, hG, hr⟩ := hrel
    have hc0 := hSk.cell 0
    have hc1 := hSk.cell 1
    have hf1 := hSk.frozen 1
    have hr0 := hR.cell 0
    have hr1 := hR.cell 1
    have hq0 := hR.frozen 0
    have hq1 := hR.frozen 1
    have hgk := hSk.lt
    have hne : g ≠ w.heap.size := by omega
    simp at hc0 hc1 hr0 hr1
    by_cases hlt : k < s.size
    · have HB := Lib.hid (Tk.bt_of s k hlt)
      by_cases h10 : (s[k].toNat : Int) = 10
      · have e10 : ((s[k].toNat : Int) != 10) = false := by rw [bne_eq_false_iff_eq]; exact h10
        have H10 := Lib.hid h10; clear h10
        go_wp2_with fail
        go_quiet (fail)
        go_wp2_with fail
        have hl : Tk.lineEnd s.data.toList k = k := Tk.run_no (by rw [HZ.out]; exact hlt) (by rw [← HB.out, H10.out]; rfl)
        have hfl : Tk.lineFault s.data.toList a = (0, 0) := by simp only [Tk.lineFault, hr.out, hl, HZ.out, ← HB.out, H10.out]; simp
        rw [hfl, hr.out, hl]
        exact bodyPost_ret (v := .agg #[.int .i64 0, .int .i64 0]) (by simp [results, Tryz.results77, go_sem, hr0, hr1]) rfl ⟨rfl, (by first | with_reducible exact hSk | (show Blk _ _ _ _; have hMSC : Blk _ _ _ _ := hSk; repeat (first | with_reducible exact hMSC | (with_reducible refine Blk.far ?_ (by first | (dsimp only; omega) | assumption) _) | (with_reducible refine Blk.drewN ?_ _) | (with_reducible refine Blk.drew ?_) | (with_reducible refine Blk.alloc ?_ _)))), (by repeat (first | with_reducible exact hG | with_reducible exact gb_refl _ _ | (with_reducible refine gb_set ?_ (by first | (right; dsimp only; omega) | exact .inl rfl) _) | (with_reducible refine gb_drewN ?_ _) | (with_reducible refine gb_drew ?_) | (with_reducible refine gb_alloc ?_ _)))⟩
      · have e10 : ((s[k].toNat : Int) != 10) = true := by rw [bne_iff_ne]; exact h10
        have H10 := Lib.hid h10; clear h10
        cases hin : Tk.inText (s[k].toNat : Int)
        · have HIN := Lib.hid hin; clear hin
          go_wp2_with fail
          go_quiet (fail)
          go_wp2_with fail
          go_quiet ((go_at_call 134; exact q2 (inText_any _ _)))
          rw [HIN.out]
          go_wp2_with fail
          have hl : Tk.lineEnd s.data.toList k = k := Tk.run_no (by rw [HZ.out]; exact hlt) (by rw [← HB.out]; simp [Tk.inLine, HIN.out])
          have hfl : Tk.lineFault s.data.toList a = (k, 2) := by simp only [Tk.lineFault, hr.out, hl, HZ.out, ← HB.out]; rw [if_pos ⟨hlt, H10.out⟩]
          rw [hfl, hr.out, hl]
          exact bodyPost_ret (v := .agg #[.int .i64 k, .int .i64 2]) (by simp [results, Tryz.results77, go_sem, hr0, hr1]) rfl ⟨rfl, (by first | with_reducible exact hSk | (show Blk _ _ _ _; have hMSC : Blk _ _ _ _ := hSk; repeat (first | with_reducible exact hMSC | (with_reducible refine Blk.far ?_ (by first | (dsimp only; omega) | assumption) _) | (with_reducible refine Blk.drewN ?_ _) | (with_reducible refine Blk.drew ?_) | (with_reducible refine Blk.alloc ?_ _)))), (by repeat (first | with_reducible exact hG | with_reducible exact gb_refl _ _ | (with_reducible refine gb_set ?_ (by first | (right; dsimp only; omega) | exact .inl rfl) _) | (with_reducible refine gb_drewN ?_ _) | (with_reducible refine gb_drew ?_) | (with_reducible refine gb_alloc ?_ _)))⟩
        · have HIN := Lib.hid hin; clear hin
          go_wp2_with fail
          go_quiet (fail)
          go_wp2_with fail
          go_quiet ((go_at_call 134; exact q2 (inText_any _ _)))
          rw [HIN.out]
          go_wp2_with fail
          have hl : Tk.lineEnd s.data.toList k = Tk.lineEnd s.data.toList (k + 1) := Tk.run_yes (by rw [HZ.out]; exact hlt) (by rw [← HB.out]; simp [Tk.inLine, HIN.out, H10.out])
          go_roundw
          case rel => exact ⟨k + 1, by omega, by omega, Scan.move (by first | with_reducible exact hSk | (show Blk _ _ _ _; have hMSC : Blk _ _ _ _ := hSk; repeat (first | with_reducible exact hMSC | (with_reducible refine Blk.far ?_ (by first | (dsimp only; omega) | assumption) _) | (with_reducible refine Blk.drewN ?_ _) | (with_reducible refine Blk.drew ?_) | (with_reducible refine Blk.alloc ?_ _)))) (by omega), (by first | with_reducible exact hR | (show Blk _ _ _ _; have hMSC : Blk _ _ _ _ := hR; repeat (first | with_reducible exact hMSC | (with_reducible refine Blk.far ?_ (by first | (dsimp only; omega) | assumption) _) | (with_reducible refine Blk.drewN ?_ _) | (with_reducible refine Blk.drew ?_) | (with_reducible refine Blk.alloc ?_ _)))), (by repeat (first | with_reducible exact hG | with_reducible exact gb_refl _ _ | (with_reducible refine gb_set ?_ (by first | (right; dsimp only; omega) | exact .inl rfl) _) | (with_reducible refine gb_drewN ?_ _) | (with_reducible refine gb_drew ?_) | (with_reducible refine gb_alloc ?_ _))), Lib.hid (by rw [hr.out, hl])⟩
          case measure => rw [hSk.at_, (Scan.move (z := k + 1) (by first | with_reducible exact hSk | (show Blk _ _ _ _; have hMSC : Blk _ _ _ _ := hSk; repeat (first | with_reducible exact hMSC | (with_reducible refine Blk.far ?_ (by first | (dsimp only; omega) | assumption) _) | (with_reducible refine Blk.drewN ?_ _) | (with_reducible refine Blk.drew ?_) | (with_reducible refine Blk.alloc ?_ _)))) (by omega) : Scan ((wr.drewN _).setCell _ _) g s (k + 1) en b).at_]; omega
    · have e0 : decide ((k : Int) < (s.size : Int)) = false := by simp; omega
      go_wp2_with fail
      go_quiet (fail)
      go_wp2_with fail
      have hl : Tk.lineEnd s.data.toList k = k := Tk.run_end (by rw [HZ.out]; omega)
      have hfl : Tk.lineFault s.data.toList a = (0, 0) := by simp only [Tk.lineFault, hr.out, hl, HZ.out]; rw [if_neg (by omega)]
      rw [hfl, hr.out, hl]
      exact bodyPost_ret (v := .agg #[.int .i64 0, .int .i64 0]) (by simp [results, Tryz.results77, go_sem, hr0, hr1]) rfl ⟨rfl, (by first | with_reducible exact hSk | (show Blk _ _ _ _; have hMSC : Blk _ _ _ _ := hSk; repeat (first | with_reducible exact hMSC | (with_reducible refine Blk.far ?_ (by first | (dsimp only; omega) | assumption) _) | (with_reducible refine Blk.drewN ?_ _) | (with_reducible refine Blk.drew ?_) | (with_reducible refine Blk.alloc ?_ _)))), (by repeat (first | with_reducible exact hG | with_reducible exact gb_refl _ _ | (with_reducible refine gb_set ?_ (by first | (right; dsimp only; omega) | exact .inl rfl) _) | (with_reducible refine gb_drewN ?_ _) | (with_reducible refine gb_drew ?_) | (with_reducible refine gb_alloc ?_ _)))⟩
end Go.Proofs.YtaefonagbcnmdaaGreatDoor
