import Derived.Test.YtaefonagbcnmdaaGreatDoorA9
set_option linter.unusedSimpArgs false
set_option linter.unusedVariables false
namespace Go.Proofs.YtaefonagbcnmdaaGreatDoor
open Go.RowKit

/-- Where a long comment ends, and its fault (the index, the code; 0: none). -/
def Tk.com : Nat → List UInt8 → Nat → Nat → Nat × Nat × Int
  | 0, _, b, k => (k, b, 12)
  | f + 1, l, b, k =>
    if k < l.length then
      if Lib.hasPrefix (l.drop k) [42, 47] then (k + 2, 0, 0)
      else if Tk.inText (Tk.bt l k) then Tk.com f l b (k + 1)
      else (k, k, 2)
    else (k, b, 12)
def Tk.comment (l : List UInt8) (a : Nat) : Nat × Nat × Int := Tk.com (l.length + 1) l a (a + 2)
theorem prefix_len {l p : List UInt8} (h : Lib.hasPrefix l p = true) : p.length ≤ l.length := by
  unfold Lib.hasPrefix at h
  exact (List.isPrefixOf_iff_prefix.1 h).length_le

set_option maxRecDepth 100000 in
set_option maxHeartbeats 1000000 in
theorem skipComment_any (s : ByteArray) (g a en : Nat) (b : Bool) (w : World) (hs : s.size ≤ 65536) (ha : a + 2 ≤ s.size) (hS : Scan w g s a en b) :
    Calls Tryz.prog 79 #[.pointer (some ⟨g, 0, none⟩)] w fun e w' => e = .returned (.agg #[.int .i64 (Tk.comment s.data.toList a).2.1, .int .i64 (Tk.comment s.data.toList a).2.2]) ∧ Scan w' g s (Tk.comment s.data.toList a).1 en b ∧ w.grownBy w' (some g) ∧ (Tk.comment s.data.toList a).1 ≤ s.size := by
  have HZ := Lib.hid (size_data s)
  have hgl := hS.lt
  have hc0 := hS.cell 0
  have hc1 := hS.cell 1
  have hf1 := hS.frozen 1
  simp at hc0 hc1
  go_enter Tryz.func79, Tryz.ntmps79
  go_wp2_with fail
  go_loopw [] (fun wr => ∃ k f : Nat, a ≤ k ∧ k ≤ s.size ∧ Scan wr g s k en b ∧ Blk wr w.heap.size 26 #[.int .i64 0, .int .i64 0] ∧ w.grownBy wr (some g) ∧ s.size - k < f ∧ Hid (Tk.comment s.data.toList a = Tk.com f s.data.toList a k)) (fun wr => s.size - (Tk.cellAt wr g 1).toNat)
  case atStart => exact ⟨a + 2, s.size + 1, by omega, by omega, (Scan.move hS (by omega)).alloc _, by simpa using Blk.new (w.setCell ⟨g, 1, none⟩ (.int .i64 (↑a + 2))) 26 #[.int .i64 0, .int .i64 0], (by repeat (first | with_reducible exact hS | with_reducible exact gb_refl _ _ | (with_reducible refine gb_set ?_ (by first | (right; dsimp only; omega) | exact .inl rfl) _) | (with_reducible refine gb_drewN ?_ _) | (with_reducible refine gb_drew ?_) | (with_reducible refine gb_alloc ?_ _))), by omega, Lib.hid (by rw [← HZ.out]; rfl)⟩
  case round =>
    obtain ⟨k, f, hak, hk, hSk, hR, hG, hf, hr⟩ := hrel
    clear hc0 hc1 hf1
    have hc0 := hSk.cell 0
    have hc1 := hSk.cell 1
    have hf1 := hSk.frozen 1
    have hr0 := hR.cell 0
    have hr1 := hR.cell 1
    have hq0 := hR.frozen 0
    have hq1 := hR.frozen 1
    have hgk := hSk.lt
    have hne : g ≠ w.heap.size := by omega
    have hne' : w.heap.size ≠ g := by omega
    simp at hc0 hc1 hr0 hr1
    obtain ⟨f', rfl⟩ : ∃ f', f = f' + 1 := ⟨f - 1, by omega⟩
    by_cases hlt : k < s.size
    · have HB := Lib.hid (Tk.bt_of s k hlt)
      cases hp : Lib.hasPrefix (s.data.toList.drop k) [42, 47]
      · have HP := Lib.hid hp; clear hp
        cases hin : Tk.inText (s[k].toNat : Int)
        · have HIN := Lib.hid hin; clear hin
          have hcom : Tk.comment s.data.toList a = (k, k, 2) := by rw [hr.out, Tk.com, if_pos (show k < s.data.toList.length by rw [HZ.out]; exact hlt), HP.out, if_neg (by decide), ← HB.out, HIN.out, if_neg (by decide)]
          have HC := Lib.hid hcom; clear hcom
          go_wp2_with fail
          go_quiet (fail)
          go_wp2_with fail
          refine (has_any s ⟨#[42, 47]⟩ g k en b _ hs hk (by first | with_reducible exact hSk | (show Blk _ _ _ _; have hMSC : Blk _ _ _ _ := hSk; repeat (first | with_reducible exact hMSC | (with_reducible refine Blk.far ?_ (by first | (dsimp only; omega) | assumption) _) | (with_reducible refine Blk.drewN ?_ _) | (with_reducible refine Blk.drew ?_) | (with_reducible refine Blk.alloc ?_ _))))).mono ?_; rintro e w' ⟨rfl, n1, rfl⟩
          rw [show (ByteArray.mk #[42, 47]).data.toList = [42, 47] from rfl, HP.out]
          go_wp2_with fail
          go_quiet ((go_at_call 134; exact q2 (inText_any _ _)))
          rw [HIN.out]
          go_wp2_with fail
          rw [HC.out]
          exact bodyPost_ret (v := .agg #[.int .i64 k, .int .i64 2]) (by simp [results, Tryz.results79, go_sem, hr0, hr1]) rfl ⟨rfl, (by first | with_reducible exact hSk | (show Blk _ _ _ _; have hMSC : Blk _ _ _ _ := hSk; repeat (first | with_reducible exact hMSC | (with_reducible refine Blk.far ?_ (by first | (dsimp only; omega) | assumption) _) | (with_reducible refine Blk.drewN ?_ _) | (with_reducible refine Blk.drew ?_) | (with_reducible refine Blk.alloc ?_ _)))), (by repeat (first | with_reducible exact hG | with_reducible exact gb_refl _ _ | (with_reducible refine gb_set ?_ (by first | (right; dsimp only; omega) | exact .inl rfl) _) | (with_reducible refine gb_drewN ?_ _) | (with_reducible refine gb_drew ?_) | (with_reducible refine gb_alloc ?_ _))), hk⟩
        · have HIN := Lib.hid hin; clear hin
          have hcom : Tk.com (f' + 1) s.data.toList a k = Tk.com f' s.data.toList a (k + 1) := by rw [Tk.com, if_pos (show k < s.data.toList.length by rw [HZ.out]; exact hlt), HP.out, if_neg (by decide), ← HB.out, HIN.out, if_pos rfl]
          have HC := Lib.hid hcom; clear hcom
          go_wp2_with fail
          go_quiet (fail)
          go_wp2_with fail
          refine (has_any s ⟨#[42, 47]⟩ g k en b _ hs hk (by first | with_reducible exact hSk | (show Blk _ _ _ _; have hMSC : Blk _ _ _ _ := hSk; repeat (first | with_reducible exact hMSC | (with_reducible refine Blk.far ?_ (by first | (dsimp only; omega) | assumption) _) | (with_reducible refine Blk.drewN ?_ _) | (with_reducible refine Blk.drew ?_) | (with_reducible refine Blk.alloc ?_ _))))).mono ?_; rintro e w' ⟨rfl, n1, rfl⟩
          rw [show (ByteArray.mk #[42, 47]).data.toList = [42, 47] from rfl, HP.out]
          go_wp2_with fail
          go_quiet ((go_at_call 134; exact q2 (inText_any _ _)))
          rw [HIN.out]
          go_wp2_with fail
          go_roundw
          case rel => exact ⟨k + 1, f', by omega, by omega, Scan.move (by first | with_reducible exact hSk | (show Blk _ _ _ _; have hMSC : Blk _ _ _ _ := hSk; repeat (first | with_reducible exact hMSC | (with_reducible refine Blk.far ?_ (by first | (dsimp only; omega) | assumption) _) | (with_reducible refine Blk.drewN ?_ _) | (with_reducible refine Blk.drew ?_) | (with_reducible refine Blk.alloc ?_ _)))) (by omega), (by first | with_reducible exact hR | (show Blk _ _ _ _; have hMSC : Blk _ _ _ _ := hR; repeat (first | with_reducible exact hMSC | (with_reducible refine Blk.far ?_ (by first | (dsimp only; omega) | assumption) _) | (with_reducible refine Blk.drewN ?_ _) | (with_reducible refine Blk.drew ?_) | (with_reducible refine Blk.alloc ?_ _)))), (by repeat (first | with_reducible exact hG | with_reducible exact gb_refl _ _ | (with_reducible refine gb_set ?_ (by first | (right; dsimp only; omega) | exact .inl rfl) _) | (with_reducible refine gb_drewN ?_ _) | (with_reducible refine gb_drew ?_) | (with_reducible refine gb_alloc ?_ _))), by omega, Lib.hid (by rw [hr.out, HC.out])⟩
          case measure => rw [hSk.at_, (Scan.move (z := k + 1) (by first | with_reducible exact hSk | (show Blk _ _ _ _; have hMSC : Blk _ _ _ _ := hSk; repeat (first | with_reducible exact hMSC | (with_reducible refine Blk.far ?_ (by first | (dsimp only; omega) | assumption) _) | (with_reducible refine Blk.drewN ?_ _) | (with_reducible refine Blk.drew ?_) | (with_reducible refine Blk.alloc ?_ _)))) (by omega) : Scan ((wr.drewN _).setCell _ _) g s (k + 1) en b).at_]; omega
      · have HP := Lib.hid hp
        have h2 : k + 2 ≤ s.size := by have := prefix_len hp; simp at this; omega
        clear hp
        have hcom : Tk.comment s.data.toList a = (k + 2, 0, 0) := by rw [hr.out, Tk.com, if_pos (show k < s.data.toList.length by rw [HZ.out]; exact hlt), HP.out, if_pos rfl]
        have HC := Lib.hid hcom; clear hcom
        go_wp2_with fail
        go_quiet (fail)
        go_wp2_with fail
        refine (has_any s ⟨#[42, 47]⟩ g k en b _ hs hk (by first | with_reducible exact hSk | (show Blk _ _ _ _; have hMSC : Blk _ _ _ _ := hSk; repeat (first | with_reducible exact hMSC | (with_reducible refine Blk.far ?_ (by first | (dsimp only; omega) | assumption) _) | (with_reducible refine Blk.drewN ?_ _) | (with_reducible refine Blk.drew ?_) | (with_reducible refine Blk.alloc ?_ _))))).mono ?_; rintro e w' ⟨rfl, n1, rfl⟩
        rw [show (ByteArray.mk #[42, 47]).data.toList = [42, 47] from rfl, HP.out]
        go_wp2_with fail
        rw [HC.out]
        refine bodyPost_ret (v := .agg #[.int .i64 0, .int .i64 0]) (by simp [results, Tryz.results79, go_sem, hr0, hr1]) rfl ⟨rfl, ?_, (by repeat (first | with_reducible exact hG | with_reducible exact gb_refl _ _ | (with_reducible refine gb_set ?_ (by first | (right; dsimp only; omega) | exact .inl rfl) _) | (with_reducible refine gb_drewN ?_ _) | (with_reducible refine gb_drew ?_) | (with_reducible refine gb_alloc ?_ _))), h2⟩
        refine Blk.far (Blk.far ?_ (by simp; omega) _) (by simp; omega) _
        exact Scan.move (z := k + 2) (by first | with_reducible exact hSk | (show Blk _ _ _ _; have hMSC : Blk _ _ _ _ := hSk; repeat (first | with_reducible exact hMSC | (with_reducible refine Blk.far ?_ (by first | (dsimp only; omega) | assumption) _) | (with_reducible refine Blk.drewN ?_ _) | (with_reducible refine Blk.drew ?_) | (with_reducible refine Blk.alloc ?_ _)))) (by omega)
    · have e0 : decide ((k : Int) < (s.size : Int)) = false := by simp; omega
      have hcom : Tk.comment s.data.toList a = (k, a, 12) := by rw [hr.out, Tk.com, if_neg (by rw [HZ.out]; exact hlt)]
      have HC := Lib.hid hcom; clear hcom
      go_wp2_with fail
      go_quiet (fail)
      go_wp2_with fail
      rw [HC.out]
      exact bodyPost_ret (v := .agg #[.int .i64 a, .int .i64 12]) (by simp [results, Tryz.results79, go_sem, hr0, hr1]) rfl ⟨rfl, (by first | with_reducible exact hSk | (show Blk _ _ _ _; have hMSC : Blk _ _ _ _ := hSk; repeat (first | with_reducible exact hMSC | (with_reducible refine Blk.far ?_ (by first | (dsimp only; omega) | assumption) _) | (with_reducible refine Blk.drewN ?_ _) | (with_reducible refine Blk.drew ?_) | (with_reducible refine Blk.alloc ?_ _)))), (by repeat (first | with_reducible exact hG | with_reducible exact gb_refl _ _ | (with_reducible refine gb_set ?_ (by first | (right; dsimp only; omega) | exact .inl rfl) _) | (with_reducible refine gb_drewN ?_ _) | (with_reducible refine gb_drew ?_) | (with_reducible refine gb_alloc ?_ _))), hk⟩
end Go.Proofs.YtaefonagbcnmdaaGreatDoor
