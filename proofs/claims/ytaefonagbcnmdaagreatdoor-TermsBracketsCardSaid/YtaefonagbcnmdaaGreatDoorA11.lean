import Derived.Test.YtaefonagbcnmdaaGreatDoorA10
set_option linter.unusedSimpArgs false
set_option linter.unusedVariables false
namespace Go.Proofs.YtaefonagbcnmdaaGreatDoor
open Go.RowKit

/-- Where the blanks and comments end, and the fault in them. -/
def Tk.skip : Nat → List UInt8 → Nat → Nat × Nat × Int
  | 0, _, k => (k, 0, 0)
  | f + 1, l, k =>
    if k < l.length then
      if Tk.blank (Tk.bt l k) then Tk.skip f l (k + 1)
      else if Tk.bt l k = 37 then
        if (Tk.lineFault l k).2 = 0 then Tk.skip f l (Tk.lineEnd l k) else (Tk.lineEnd l k, Tk.lineFault l k)
      else if Lib.hasPrefix (l.drop k) [47, 42] then
        if (Tk.comment l k).2.2 = 0 then Tk.skip f l (Tk.comment l k).1 else Tk.comment l k
      else (k, 0, 0)
    else (k, 0, 0)
def Tk.skipped (l : List UInt8) (a : Nat) : Nat × Nat × Int := Tk.skip (l.length + 1) l a
theorem Tk.lineEnd_le {l : List UInt8} {k : Nat} (h : k ≤ l.length) : Tk.lineEnd l k ≤ l.length := Tk.run_le h
theorem Tk.lineEnd_gt {l : List UInt8} {k : Nat} (h : k < l.length) (hb : Tk.bt l k = 37) : k < Tk.lineEnd l k := by
  unfold Tk.lineEnd
  rw [Tk.run_yes h (by rw [hb]; decide)]
  have := Tk.run_ge Tk.inLine l (k + 1)
  omega
theorem Tk.com_gt {l : List UInt8} {b : Nat} : ∀ (f : Nat) {k : Nat}, (Tk.com f l b k).2.2 = 0 → k < (Tk.com f l b k).1
  | 0, k, h => by simp [Tk.com] at h
  | f + 1, k, h => by
    rw [Tk.com] at h ⊢
    split
    · rename_i h1
      rw [if_pos h1] at h
      split
      · simp
      · rename_i h2
        rw [if_neg h2] at h
        split
        · rename_i h3
          rw [if_pos h3] at h
          have := Tk.com_gt f h
          omega
        · rename_i h3
          rw [if_neg h3] at h
          simp at h
    · rename_i h1
      rw [if_neg h1] at h
      simp at h
theorem Tk.comment_gt {l : List UInt8} {k : Nat} (h : (Tk.comment l k).2.2 = 0) : k < (Tk.comment l k).1 := by
  have := Tk.com_gt _ h
  unfold Tk.comment
  omega

set_option maxRecDepth 100000 in
set_option maxHeartbeats 1000000 in
theorem skip_any (s : ByteArray) (g a en : Nat) (b : Bool) (w : World) (hs : s.size ≤ 65536) (ha : a ≤ s.size) (hS : Scan w g s a en b) :
    Calls Tryz.prog 50 #[.pointer (some ⟨g, 0, none⟩)] w fun e w' => e = .returned (.agg #[.int .i64 (Tk.skipped s.data.toList a).2.1, .int .i64 (Tk.skipped s.data.toList a).2.2]) ∧ Scan w' g s (Tk.skipped s.data.toList a).1 en b ∧ w.grownBy w' (some g) ∧ (Tk.skipped s.data.toList a).1 ≤ s.size := by
  have HZ := Lib.hid (size_data s)
  have hgl := hS.lt
  go_enter Tryz.func50, Tryz.ntmps50
  go_wp2_with fail
  go_loopw [] (fun wr => ∃ k f : Nat, k ≤ s.size ∧ Scan wr g s k en b ∧ Blk wr w.heap.size 26 #[.int .i64 0, .int .i64 0] ∧ w.grownBy wr (some g) ∧ s.size - k < f ∧ Hid (Tk.skipped s.data.toList a = Tk.skip f s.data.toList k)) (fun wr => s.size - (Tk.cellAt wr g 1).toNat)
  case atStart => exact ⟨a, s.size + 1, ha, hS.alloc _, Blk.new _ _ _, (by repeat (first | with_reducible exact hS | with_reducible exact gb_refl _ _ | (with_reducible refine gb_set ?_ (by first | (right; dsimp only; omega) | exact .inl rfl) _) | (with_reducible refine gb_drewN ?_ _) | (with_reducible refine gb_drew ?_) | (with_reducible refine gb_alloc ?_ _))), by omega, Lib.hid (by rw [← HZ.out]; rfl)⟩
  case round =>
    obtain ⟨k, f, hk, hSk, hR, hG, hf, hr⟩ := hrel
    have hc0 := hSk.cell 0
    have hc1 := hSk.cell 1
    have hf1 := hSk.frozen 1
    have hr0 := hR.cell 0
    have hr1 := hR.cell 1
    have hq0 := hR.frozen 0
    have hq1 := hR.frozen 1
    have hgk := hSk.lt
    have hRk := hR.lt
    have hne : g ≠ w.heap.size := by omega
    have hne' : w.heap.size ≠ g := by omega
    simp at hc0 hc1 hr0 hr1
    obtain ⟨f', rfl⟩ : ∃ f', f = f' + 1 := ⟨f - 1, by omega⟩
    by_cases hlt : k < s.size
    · have HB := Lib.hid (Tk.bt_of s k hlt)
      go_wp2_with fail
      go_quiet (fail)
      go_wp2_with fail
      have hN := Blk.new (wr.drewN nq) 26 #[.int .i64 0, .int .i64 0]
      generalize hw1 : (wr.drewN nq).alloc (Obj.cells #[Value.int IntKind.i64 0, Value.int IntKind.i64 0] 26) = w1 at *
      have hS1 : Scan w1 g s k en b := by rw [← hw1]; exact (by first | with_reducible exact hSk | (show Blk _ _ _ _; have hMSC : Blk _ _ _ _ := hSk; repeat (first | with_reducible exact hMSC | (with_reducible refine Blk.far ?_ (by first | (dsimp only; omega) | assumption) _) | (with_reducible refine Blk.drewN ?_ _) | (with_reducible refine Blk.drew ?_) | (with_reducible refine Blk.alloc ?_ _))))
      have hR1 : Blk w1 w.heap.size 26 #[.int .i64 0, .int .i64 0] := by rw [← hw1]; exact (by first | with_reducible exact hR | (show Blk _ _ _ _; have hMSC : Blk _ _ _ _ := hR; repeat (first | with_reducible exact hMSC | (with_reducible refine Blk.far ?_ (by first | (dsimp only; omega) | assumption) _) | (with_reducible refine Blk.drewN ?_ _) | (with_reducible refine Blk.drew ?_) | (with_reducible refine Blk.alloc ?_ _))))
      have hG1 : w.grownBy w1 (some g) := by rw [← hw1]; exact (by repeat (first | with_reducible exact hG | with_reducible exact gb_refl _ _ | (with_reducible refine gb_set ?_ (by first | (right; dsimp only; omega) | exact .inl rfl) _) | (with_reducible refine gb_drewN ?_ _) | (with_reducible refine gb_drew ?_) | (with_reducible refine gb_alloc ?_ _)))
      have hN1 : Blk w1 wr.heap.size 26 #[.int .i64 0, .int .i64 0] := hN
      have hlk := hR.lt
      clear hN hc0 hc1 hf1 hr0 hr1 hq0 hq1 hw1 hG hR
      have hc0 := hS1.cell 0
      have hc1 := hS1.cell 1
      have hf1 := hS1.frozen 1
      have hr0 := hR1.cell 0
      have hr1 := hR1.cell 1
      have hq0 := hR1.frozen 0
      have hq1 := hR1.frozen 1
      have hn0 := hN1.cell 0
      have hn1 := hN1.cell 1
      have hp0 := hN1.frozen 0
      have hp1 := hN1.frozen 1
      have hd1 : wr.heap.size ≠ w.heap.size := by omega
      have hd2 : wr.heap.size ≠ g := by omega
      have hd3 : g ≠ wr.heap.size := by omega
      have hd4 : w.heap.size ≠ wr.heap.size := by omega
      simp at hc0 hc1 hr0 hr1 hn0 hn1
      cases hbl : Tk.blank (s[k].toNat : Int)
      · have HBL := Lib.hid hbl; clear hbl
        by_cases h37 : (s[k].toNat : Int) = 37
        · have e37 : ((s[k].toNat : Int) == 37) = true := by rw [beq_iff_eq]; exact h37
          have H37 := Lib.hid h37; clear h37
          go_quiet ((go_at_call 76; first | exact q2 (isBlank_any _ _) | exact q1 (isBlank_any _ _)))
          rw [HBL.out]
          go_wp2_with fail
          go_quiet (fail)
          go_wp2_with fail
          obtain ⟨fa, fc, hfl⟩ : ∃ fa fc, Tk.lineFault s.data.toList k = (fa, fc) := ⟨_, _, rfl⟩
          obtain ⟨kk, hkk⟩ : ∃ kk, Tk.lineEnd s.data.toList k = kk := ⟨_, rfl⟩
          have HFL := Lib.hid hfl; clear hfl
          have HKK := Lib.hid hkk; clear hkk
          refine (skipLine_any s g k en b _ hs hk (by first | with_reducible exact hS1 | (show Blk _ _ _ _; have hMSC : Blk _ _ _ _ := hS1; repeat (first | with_reducible exact hMSC | (with_reducible refine Blk.far ?_ (by first | (dsimp only; omega) | assumption) _) | (with_reducible refine Blk.drewN ?_ _) | (with_reducible refine Blk.drew ?_) | (with_reducible refine Blk.alloc ?_ _))))).mono ?_; rintro e w2 ⟨rfl, hS2, hG2⟩
          rw [HKK.out] at hS2
          simp only [HFL.out]
          have hR2 : Blk w2 w.heap.size 26 #[.int .i64 0, .int .i64 0] := Blk.grown (by first | with_reducible exact hR1 | (show Blk _ _ _ _; have hMSC : Blk _ _ _ _ := hR1; repeat (first | with_reducible exact hMSC | (with_reducible refine Blk.far ?_ (by first | (dsimp only; omega) | assumption) _) | (with_reducible refine Blk.drewN ?_ _) | (with_reducible refine Blk.drew ?_) | (with_reducible refine Blk.alloc ?_ _)))) hG2 (by simp; omega)
          have hN2 : Blk w2 wr.heap.size 26 #[.int .i64 0, .int .i64 0] := Blk.grown (by first | with_reducible exact hN1 | (show Blk _ _ _ _; have hMSC : Blk _ _ _ _ := hN1; repeat (first | with_reducible exact hMSC | (with_reducible refine Blk.far ?_ (by first | (dsimp only; omega) | assumption) _) | (with_reducible refine Blk.drewN ?_ _) | (with_reducible refine Blk.drew ?_) | (with_reducible refine Blk.alloc ?_ _)))) hG2 (by simp; omega)
          have hG3 : w.grownBy w2 (some g) := gb_trans (by repeat (first | with_reducible exact hG1 | with_reducible exact gb_refl _ _ | (with_reducible refine gb_set ?_ (by first | (right; dsimp only; omega) | exact .inl rfl) _) | (with_reducible refine gb_drewN ?_ _) | (with_reducible refine gb_drew ?_) | (with_reducible refine gb_alloc ?_ _))) hG2
          have hS3 : Scan w2 g s kk en b := hS2
          have hlk2 := hR2.lt
          have hlk3 := hN2.lt
          clear hc0 hc1 hf1 hr0 hr1 hq0 hq1 hn0 hn1 hp0 hp1
          have hc0 := hS3.cell 0
          have hc1 := hS3.cell 1
          have hf1 := hS3.frozen 1
          have hr0 := hR2.cell 0
          have hr1 := hR2.cell 1
          have hq0 := hR2.frozen 0
          have hq1 := hR2.frozen 1
          have hn0 := hN2.cell 0
          have hn1 := hN2.cell 1
          have hp0 := hN2.frozen 0
          have hp1 := hN2.frozen 1
          simp at hc0 hc1 hr0 hr1 hn0 hn1
          clear hS2 hG2 hS1 hR1 hN1 hG1
          by_cases hz : fc = 0
          · subst hz
            have hcom : Tk.skip (f' + 1) s.data.toList k = Tk.skip f' s.data.toList kk := by rw [Tk.skip, if_pos (show k < s.data.toList.length by rw [HZ.out]; exact hlt), ← HB.out, HBL.out, if_neg (by decide), H37.out, if_pos rfl, HFL.out, if_pos rfl, HKK.out]
            have HC := Lib.hid hcom; clear hcom
            have hkl : kk ≤ s.size := (by have := Tk.lineEnd_le (l := s.data.toList) (k := k) (by rw [HZ.out]; exact hk); rw [HKK.out, HZ.out] at this; exact this)
            have hkg : k < kk := (by have := Tk.lineEnd_gt (l := s.data.toList) (k := k) (by rw [HZ.out]; exact hlt) (by rw [← HB.out]; exact H37.out); rw [HKK.out] at this; exact this)
            go_wp2_with fail
            go_roundw
            case rel => exact ⟨kk, f', hkl, (by first | with_reducible exact hS3 | (show Blk _ _ _ _; have hMSC : Blk _ _ _ _ := hS3; repeat (first | with_reducible exact hMSC | (with_reducible refine Blk.far ?_ (by first | (dsimp only; omega) | assumption) _) | (with_reducible refine Blk.drewN ?_ _) | (with_reducible refine Blk.drew ?_) | (with_reducible refine Blk.alloc ?_ _)))), (by first | with_reducible exact hR2 | (show Blk _ _ _ _; have hMSC : Blk _ _ _ _ := hR2; repeat (first | with_reducible exact hMSC | (with_reducible refine Blk.far ?_ (by first | (dsimp only; omega) | assumption) _) | (with_reducible refine Blk.drewN ?_ _) | (with_reducible refine Blk.drew ?_) | (with_reducible refine Blk.alloc ?_ _)))), (by repeat (first | with_reducible exact hG3 | with_reducible exact gb_refl _ _ | (with_reducible refine gb_set ?_ (by first | (right; dsimp only; omega) | exact .inl rfl) _) | (with_reducible refine gb_drewN ?_ _) | (with_reducible refine gb_drew ?_) | (with_reducible refine gb_alloc ?_ _))), by omega, Lib.hid (by rw [hr.out, HC.out])⟩
            case measure => rw [hSk.at_, ((by first | with_reducible exact hS3 | (show Blk _ _ _ _; have hMSC : Blk _ _ _ _ := hS3; repeat (first | with_reducible exact hMSC | (with_reducible refine Blk.far ?_ (by first | (dsimp only; omega) | assumption) _) | (with_reducible refine Blk.drewN ?_ _) | (with_reducible refine Blk.drew ?_) | (with_reducible refine Blk.alloc ?_ _)))) : Scan ((w2.setCell _ _).setCell _ _) g s kk en b).at_]; omega
          · have ez : (fc != 0) = true := by rw [bne_iff_ne]; exact hz
            have hcom : Tk.skipped s.data.toList a = (kk, fa, fc) := by rw [hr.out, Tk.skip, if_pos (show k < s.data.toList.length by rw [HZ.out]; exact hlt), ← HB.out, HBL.out, if_neg (by decide), H37.out, if_pos rfl, HFL.out, if_neg hz, HKK.out]
            have HC := Lib.hid hcom; clear hcom
            go_wp2_with fail
            rw [HC.out]
            exact bodyPost_ret (v := .agg #[.int .i64 fa, .int .i64 fc]) (by simp [results, Tryz.results50, go_sem, hr0, hr1, hq0, hq1, hn0, hn1, hp0, hp1, hd1, hd2, hd3, hd4]) rfl ⟨rfl, (by first | with_reducible exact hS3 | (show Blk _ _ _ _; have hMSC : Blk _ _ _ _ := hS3; repeat (first | with_reducible exact hMSC | (with_reducible refine Blk.far ?_ (by first | (dsimp only; omega) | assumption) _) | (with_reducible refine Blk.drewN ?_ _) | (with_reducible refine Blk.drew ?_) | (with_reducible refine Blk.alloc ?_ _)))), (by repeat (first | with_reducible exact hG3 | with_reducible exact gb_refl _ _ | (with_reducible refine gb_set ?_ (by first | (right; dsimp only; omega) | exact .inl rfl) _) | (with_reducible refine gb_drewN ?_ _) | (with_reducible refine gb_drew ?_) | (with_reducible refine gb_alloc ?_ _))), (by have := Tk.lineEnd_le (l := s.data.toList) (k := k) (by rw [HZ.out]; exact hk); rw [HKK.out, HZ.out] at this; exact this)⟩
        · have e37 : ((s[k].toNat : Int) == 37) = false := by rw [beq_eq_false_iff_ne]; exact h37
          have H37 := Lib.hid h37; clear h37
          cases hp : Lib.hasPrefix (s.data.toList.drop k) [47, 42]
          · have HP := Lib.hid hp; clear hp
            have hcom : Tk.skipped s.data.toList a = (k, 0, 0) := by rw [hr.out, Tk.skip, if_pos (show k < s.data.toList.length by rw [HZ.out]; exact hlt), ← HB.out, HBL.out, if_neg (by decide), if_neg H37.out, HP.out, if_neg (by decide)]
            have HC := Lib.hid hcom; clear hcom
            go_quiet ((go_at_call 76; first | exact q2 (isBlank_any _ _) | exact q1 (isBlank_any _ _)))
            rw [HBL.out]
            go_wp2_with fail
            go_quiet (fail)
            go_wp2_with fail
            refine (has_any s ⟨#[47, 42]⟩ g k en b _ hs hk (by first | with_reducible exact hS1 | (show Blk _ _ _ _; have hMSC : Blk _ _ _ _ := hS1; repeat (first | with_reducible exact hMSC | (with_reducible refine Blk.far ?_ (by first | (dsimp only; omega) | assumption) _) | (with_reducible refine Blk.drewN ?_ _) | (with_reducible refine Blk.drew ?_) | (with_reducible refine Blk.alloc ?_ _))))).mono ?_; rintro e w' ⟨rfl, n1, rfl⟩
            rw [show (ByteArray.mk #[47, 42]).data.toList = [47, 42] from rfl, HP.out]
            go_wp2_with fail
            rw [HC.out]
            exact bodyPost_ret (v := .agg #[.int .i64 0, .int .i64 0]) (by simp [results, Tryz.results50, go_sem, hr0, hr1]) rfl ⟨rfl, (by first | with_reducible exact hS1 | (show Blk _ _ _ _; have hMSC : Blk _ _ _ _ := hS1; repeat (first | with_reducible exact hMSC | (with_reducible refine Blk.far ?_ (by first | (dsimp only; omega) | assumption) _) | (with_reducible refine Blk.drewN ?_ _) | (with_reducible refine Blk.drew ?_) | (with_reducible refine Blk.alloc ?_ _)))), (by repeat (first | with_reducible exact hG1 | with_reducible exact gb_refl _ _ | (with_reducible refine gb_set ?_ (by first | (right; dsimp only; omega) | exact .inl rfl) _) | (with_reducible refine gb_drewN ?_ _) | (with_reducible refine gb_drew ?_) | (with_reducible refine gb_alloc ?_ _))), hk⟩
          have HP := Lib.hid hp
          have h2 : k + 2 ≤ s.size := by have := prefix_len hp; simp at this; omega
          clear hp
          go_quiet ((go_at_call 76; first | exact q2 (isBlank_any _ _) | exact q1 (isBlank_any _ _)))
          rw [HBL.out]
          go_wp2_with fail
          go_quiet (fail)
          go_wp2_with fail
          refine (has_any s ⟨#[47, 42]⟩ g k en b _ hs hk (by first | with_reducible exact hS1 | (show Blk _ _ _ _; have hMSC : Blk _ _ _ _ := hS1; repeat (first | with_reducible exact hMSC | (with_reducible refine Blk.far ?_ (by first | (dsimp only; omega) | assumption) _) | (with_reducible refine Blk.drewN ?_ _) | (with_reducible refine Blk.drew ?_) | (with_reducible refine Blk.alloc ?_ _))))).mono ?_; rintro e w' ⟨rfl, n1, rfl⟩
          rw [show (ByteArray.mk #[47, 42]).data.toList = [47, 42] from rfl, HP.out]
          go_wp2_with fail
          obtain ⟨kk, fa, fc, hfl⟩ : ∃ kk fa fc, Tk.comment s.data.toList k = (kk, fa, fc) := ⟨_, _, _, rfl⟩
          have HFL := Lib.hid hfl; clear hfl
          refine (skipComment_any s g k en b _ hs h2 (by first | with_reducible exact hS1 | (show Blk _ _ _ _; have hMSC : Blk _ _ _ _ := hS1; repeat (first | with_reducible exact hMSC | (with_reducible refine Blk.far ?_ (by first | (dsimp only; omega) | assumption) _) | (with_reducible refine Blk.drewN ?_ _) | (with_reducible refine Blk.drew ?_) | (with_reducible refine Blk.alloc ?_ _))))).mono ?_; rintro e w2 ⟨rfl, hS2, hG2, hle2⟩
          rw [HFL.out] at hS2 hle2
          simp only [HFL.out]
          have hR2 : Blk w2 w.heap.size 26 #[.int .i64 0, .int .i64 0] := Blk.grown (by first | with_reducible exact hR1 | (show Blk _ _ _ _; have hMSC : Blk _ _ _ _ := hR1; repeat (first | with_reducible exact hMSC | (with_reducible refine Blk.far ?_ (by first | (dsimp only; omega) | assumption) _) | (with_reducible refine Blk.drewN ?_ _) | (with_reducible refine Blk.drew ?_) | (with_reducible refine Blk.alloc ?_ _)))) hG2 (by simp; omega)
          have hN2 : Blk w2 wr.heap.size 26 #[.int .i64 0, .int .i64 0] := Blk.grown (by first | with_reducible exact hN1 | (show Blk _ _ _ _; have hMSC : Blk _ _ _ _ := hN1; repeat (first | with_reducible exact hMSC | (with_reducible refine Blk.far ?_ (by first | (dsimp only; omega) | assumption) _) | (with_reducible refine Blk.drewN ?_ _) | (with_reducible refine Blk.drew ?_) | (with_reducible refine Blk.alloc ?_ _)))) hG2 (by simp; omega)
          have hG3 : w.grownBy w2 (some g) := gb_trans (by repeat (first | with_reducible exact hG1 | with_reducible exact gb_refl _ _ | (with_reducible refine gb_set ?_ (by first | (right; dsimp only; omega) | exact .inl rfl) _) | (with_reducible refine gb_drewN ?_ _) | (with_reducible refine gb_drew ?_) | (with_reducible refine gb_alloc ?_ _))) hG2
          have hS3 : Scan w2 g s kk en b := hS2
          have hlk2 := hR2.lt
          have hlk3 := hN2.lt
          clear hc0 hc1 hf1 hr0 hr1 hq0 hq1 hn0 hn1 hp0 hp1
          have hc0 := hS3.cell 0
          have hc1 := hS3.cell 1
          have hf1 := hS3.frozen 1
          have hr0 := hR2.cell 0
          have hr1 := hR2.cell 1
          have hq0 := hR2.frozen 0
          have hq1 := hR2.frozen 1
          have hn0 := hN2.cell 0
          have hn1 := hN2.cell 1
          have hp0 := hN2.frozen 0
          have hp1 := hN2.frozen 1
          simp at hc0 hc1 hr0 hr1 hn0 hn1
          clear hS2 hG2 hS1 hR1 hN1 hG1
          by_cases hz : fc = 0
          · subst hz
            have hcom : Tk.skip (f' + 1) s.data.toList k = Tk.skip f' s.data.toList kk := by rw [Tk.skip, if_pos (show k < s.data.toList.length by rw [HZ.out]; exact hlt), ← HB.out, HBL.out, if_neg (by decide), if_neg H37.out, HP.out, if_pos rfl, HFL.out, if_pos rfl]
            have HC := Lib.hid hcom; clear hcom
            have hkl : kk ≤ s.size := hle2
            have hkg : k < kk := (by have := Tk.comment_gt (l := s.data.toList) (k := k) (by rw [HFL.out]); rw [HFL.out] at this; exact this)
            go_wp2_with fail
            go_roundw
            case rel => exact ⟨kk, f', hkl, (by first | with_reducible exact hS3 | (show Blk _ _ _ _; have hMSC : Blk _ _ _ _ := hS3; repeat (first | with_reducible exact hMSC | (with_reducible refine Blk.far ?_ (by first | (dsimp only; omega) | assumption) _) | (with_reducible refine Blk.drewN ?_ _) | (with_reducible refine Blk.drew ?_) | (with_reducible refine Blk.alloc ?_ _)))), (by first | with_reducible exact hR2 | (show Blk _ _ _ _; have hMSC : Blk _ _ _ _ := hR2; repeat (first | with_reducible exact hMSC | (with_reducible refine Blk.far ?_ (by first | (dsimp only; omega) | assumption) _) | (with_reducible refine Blk.drewN ?_ _) | (with_reducible refine Blk.drew ?_) | (with_reducible refine Blk.alloc ?_ _)))), (by repeat (first | with_reducible exact hG3 | with_reducible exact gb_refl _ _ | (with_reducible refine gb_set ?_ (by first | (right; dsimp only; omega) | exact .inl rfl) _) | (with_reducible refine gb_drewN ?_ _) | (with_reducible refine gb_drew ?_) | (with_reducible refine gb_alloc ?_ _))), by omega, Lib.hid (by rw [hr.out, HC.out])⟩
            case measure => rw [hSk.at_, ((by first | with_reducible exact hS3 | (show Blk _ _ _ _; have hMSC : Blk _ _ _ _ := hS3; repeat (first | with_reducible exact hMSC | (with_reducible refine Blk.far ?_ (by first | (dsimp only; omega) | assumption) _) | (with_reducible refine Blk.drewN ?_ _) | (with_reducible refine Blk.drew ?_) | (with_reducible refine Blk.alloc ?_ _)))) : Scan ((w2.setCell _ _).setCell _ _) g s kk en b).at_]; omega
          · have ez : (fc != 0) = true := by rw [bne_iff_ne]; exact hz
            have hcom : Tk.skipped s.data.toList a = (kk, fa, fc) := by rw [hr.out, Tk.skip, if_pos (show k < s.data.toList.length by rw [HZ.out]; exact hlt), ← HB.out, HBL.out, if_neg (by decide), if_neg H37.out, HP.out, if_pos rfl, HFL.out, if_neg hz]
            have HC := Lib.hid hcom; clear hcom
            go_wp2_with fail
            rw [HC.out]
            exact bodyPost_ret (v := .agg #[.int .i64 fa, .int .i64 fc]) (by simp [results, Tryz.results50, go_sem, hr0, hr1, hq0, hq1, hn0, hn1, hp0, hp1, hd1, hd2, hd3, hd4]) rfl ⟨rfl, (by first | with_reducible exact hS3 | (show Blk _ _ _ _; have hMSC : Blk _ _ _ _ := hS3; repeat (first | with_reducible exact hMSC | (with_reducible refine Blk.far ?_ (by first | (dsimp only; omega) | assumption) _) | (with_reducible refine Blk.drewN ?_ _) | (with_reducible refine Blk.drew ?_) | (with_reducible refine Blk.alloc ?_ _)))), (by repeat (first | with_reducible exact hG3 | with_reducible exact gb_refl _ _ | (with_reducible refine gb_set ?_ (by first | (right; dsimp only; omega) | exact .inl rfl) _) | (with_reducible refine gb_drewN ?_ _) | (with_reducible refine gb_drew ?_) | (with_reducible refine gb_alloc ?_ _))), hle2⟩
      · have HBL := Lib.hid hbl; clear hbl
        have hcom : Tk.skip (f' + 1) s.data.toList k = Tk.skip f' s.data.toList (k + 1) := by rw [Tk.skip, if_pos (show k < s.data.toList.length by rw [HZ.out]; exact hlt), ← HB.out, HBL.out, if_pos rfl]
        have HC := Lib.hid hcom; clear hcom
        go_quiet ((go_at_call 76; first | exact q2 (isBlank_any _ _) | exact q1 (isBlank_any _ _)))
        rw [HBL.out]
        go_wp2_with fail
        go_roundw
        case rel => exact ⟨k + 1, f', by omega, Scan.move (by first | with_reducible exact hS1 | (show Blk _ _ _ _; have hMSC : Blk _ _ _ _ := hS1; repeat (first | with_reducible exact hMSC | (with_reducible refine Blk.far ?_ (by first | (dsimp only; omega) | assumption) _) | (with_reducible refine Blk.drewN ?_ _) | (with_reducible refine Blk.drew ?_) | (with_reducible refine Blk.alloc ?_ _)))) (by omega), (by first | with_reducible exact hR1 | (show Blk _ _ _ _; have hMSC : Blk _ _ _ _ := hR1; repeat (first | with_reducible exact hMSC | (with_reducible refine Blk.far ?_ (by first | (dsimp only; omega) | assumption) _) | (with_reducible refine Blk.drewN ?_ _) | (with_reducible refine Blk.drew ?_) | (with_reducible refine Blk.alloc ?_ _)))), (by repeat (first | with_reducible exact hG1 | with_reducible exact gb_refl _ _ | (with_reducible refine gb_set ?_ (by first | (right; dsimp only; omega) | exact .inl rfl) _) | (with_reducible refine gb_drewN ?_ _) | (with_reducible refine gb_drew ?_) | (with_reducible refine gb_alloc ?_ _))), by omega, Lib.hid (by rw [hr.out, HC.out])⟩
        case measure => rw [hSk.at_, (Scan.move (z := k + 1) (by first | with_reducible exact hS1 | (show Blk _ _ _ _; have hMSC : Blk _ _ _ _ := hS1; repeat (first | with_reducible exact hMSC | (with_reducible refine Blk.far ?_ (by first | (dsimp only; omega) | assumption) _) | (with_reducible refine Blk.drewN ?_ _) | (with_reducible refine Blk.drew ?_) | (with_reducible refine Blk.alloc ?_ _)))) (by omega) : Scan ((World.drewN _ _).setCell _ _) g s (k + 1) en b).at_]; omega
    · have e0 : decide ((k : Int) < (s.size : Int)) = false := by simp; omega
      have hcom : Tk.skipped s.data.toList a = (k, 0, 0) := by rw [hr.out, Tk.skip, if_neg (by rw [HZ.out]; exact hlt)]
      have HC := Lib.hid hcom; clear hcom
      go_wp2_with fail
      go_quiet (fail)
      go_wp2_with fail
      rw [HC.out]
      exact bodyPost_ret (v := .agg #[.int .i64 0, .int .i64 0]) (by simp [results, Tryz.results50, go_sem, hr0, hr1]) rfl ⟨rfl, (by first | with_reducible exact hSk | (show Blk _ _ _ _; have hMSC : Blk _ _ _ _ := hSk; repeat (first | with_reducible exact hMSC | (with_reducible refine Blk.far ?_ (by first | (dsimp only; omega) | assumption) _) | (with_reducible refine Blk.drewN ?_ _) | (with_reducible refine Blk.drew ?_) | (with_reducible refine Blk.alloc ?_ _)))), (by repeat (first | with_reducible exact hG | with_reducible exact gb_refl _ _ | (with_reducible refine gb_set ?_ (by first | (right; dsimp only; omega) | exact .inl rfl) _) | (with_reducible refine gb_drewN ?_ _) | (with_reducible refine gb_drew ?_) | (with_reducible refine gb_alloc ?_ _))), hk⟩
end Go.Proofs.YtaefonagbcnmdaaGreatDoor
