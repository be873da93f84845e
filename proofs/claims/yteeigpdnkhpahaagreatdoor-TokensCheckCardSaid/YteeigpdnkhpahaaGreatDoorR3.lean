import Derived.Test.YteeigpdnkhpahaaGreatDoorR2
import Derived.Test.YteeigpdnkhpahaaGreatDoorA9
namespace Go.Proofs.YteeigpdnkhpahaaGreatDoor
open Go.RowKit

def Tk.bareEnd (l : List UInt8) : Nat := if Tk.small (Tk.bt l 0) then Tk.dottedEnd l 0 else if Tk.rsign (Tk.bt l 0) then Tk.run Tk.rsign l 1 else 1

theorem Blk.at1 {w : World} {g : Nat} {t : TypeId} {a b c d e : Value} {k : Int} (h : Blk w g t #[a, .int .i64 k, b, c, d, e]) : Tk.cellAt w g 1 = k := by
  unfold Tk.cellAt
  rw [h.cell 1]
  rfl

set_option maxRecDepth 100000 in
set_option maxHeartbeats 4000000 in
theorem rbare_any (s : ByteArray) (g : Nat) (w : World) (x1 : Int) (x2 x3 x4 x5 : Value) (hs : s.size ≤ 4611686018427387904) (h0 : 0 < s.size) (hc : Blk w g 66 #[.string s, .int .i64 x1, x2, x3, x4, x5]) :
    Calls Tryz.prog 117 #[.pointer (some ⟨g, 0, none⟩)] w fun e w' => (∃ v, e = .returned v) ∧ Blk w' g 66 #[.string s, .int .i64 (Tk.bareEnd s.data.toList), x2, x3, x4, x5] ∧ w.grownBy w' (some g) := by
  have HZ := Lib.hid (size_data s)
  have hm : s.size ≤ maxLen := by unfold maxLen; omega
  have HM := Lib.hid hm; clear hm
  have c0 : w.cell? ⟨g, 0, none⟩ = some (.string s) := by simpa using hc.cell 0
  have c1 : w.cell? ⟨g, 1, none⟩ = some (.int .i64 x1) := by simpa using hc.cell 1
  have f1 := hc.frozen 1
  have hgl := hc.lt
  have HB := Lib.hid (Tk.bt_of s 0 h0)
  cases h1 : Tk.small (Tk.bt s.data.toList 0)
  · cases h2 : Tk.rsign (Tk.bt s.data.toList 0)
    · have he : Tk.bareEnd s.data.toList = 1 := by simp [Tk.bareEnd, h1, h2]
      rw [he]
      clear he
      go_enter Tryz.func117, Tryz.ntmps117
      go_wp2_with fail
      refine (rsmall_any _ _).mono ?_; rintro e w' ⟨rfl, rfl⟩
      rw [HB.out, h1]
      go_wp2_with fail
      refine (rsign_any _ _).mono ?_; rintro e w' ⟨rfl, rfl⟩
      rw [h2]
      go_wp2_with fail
      exact bodyPost_end (v := .tuple #[]) (by simp [results, Tryz.results117, go_sem]) rfl ⟨⟨_, rfl⟩, by simpa using hc.put 1 (.int .i64 1), gb_set (gb_refl _ _) (.inl rfl) _⟩
    · have he : Tk.bareEnd s.data.toList = Tk.run Tk.rsign s.data.toList 1 := by simp [Tk.bareEnd, h1, h2]
      rw [he]
      clear he
      go_enter Tryz.func117, Tryz.ntmps117
      go_wp2_with fail
      refine (rsmall_any _ _).mono ?_; rintro e w' ⟨rfl, rfl⟩
      rw [HB.out, h1]
      go_wp2_with fail
      refine (rsign_any _ _).mono ?_; rintro e w' ⟨rfl, rfl⟩
      rw [h2]
      go_wp2_with fail
      go_loopw [] (fun wr => ∃ k : Nat, 1 ≤ k ∧ k ≤ s.size ∧ Blk wr g 66 #[.string s, .int .i64 k, x2, x3, x4, x5] ∧ w.grownBy wr (some g) ∧ Hid (Tk.run Tk.rsign s.data.toList 1 = Tk.run Tk.rsign s.data.toList k)) (fun wr => s.size - (Tk.cellAt wr g 1).toNat)
      case atStart => exact ⟨1, Nat.le_refl _, h0, by simpa using hc.put 1 (.int .i64 1), gb_set (gb_refl _ _) (.inl rfl) _, Lib.hid rfl⟩
      case round =>
        obtain ⟨k, h1k, hk, hR, hG, hr⟩ := hrel
        have k0 : wr.cell? ⟨g, 0, none⟩ = some (.string s) := by simpa using hR.cell 0
        have k1 : wr.cell? ⟨g, 1, none⟩ = some (.int .i64 k) := by simpa using hR.cell 1
        have q1 := hR.frozen 1
        have hgk := hR.lt
        cases hp : Tk.rsign (Tk.bt s.data.toList k)
        · go_wp2_with fail
          refine (rat_any s g k _ hs (by omega) k0).mono ?_; rintro e w' ⟨rfl, rfl⟩
          go_wp2_with fail
          refine (rsign_any _ _).mono ?_; rintro e w' ⟨rfl, rfl⟩
          rw [hp]
          go_wp2_with fail
          have hl : Tk.run Tk.rsign s.data.toList k = k := by
            by_cases hlt : k < s.size
            · exact Tk.run_no (by rw [HZ.out]; exact hlt) hp
            · exact Tk.run_end (by rw [HZ.out]; omega)
          rw [hr.out, hl]
          exact bodyPost_end (v := .tuple #[]) (by simp [results, Tryz.results117, go_sem]) rfl ⟨⟨_, rfl⟩, hR, hG⟩
        · have hlt : k < s.size := by
            refine Nat.lt_of_not_le fun h => ?_
            rw [Tk.bt_end (by rw [HZ.out]; exact h)] at hp
            revert hp; decide
          go_wp2_with fail
          refine (rat_any s g k _ hs (by omega) k0).mono ?_; rintro e w' ⟨rfl, rfl⟩
          go_wp2_with fail
          refine (rsign_any _ _).mono ?_; rintro e w' ⟨rfl, rfl⟩
          rw [hp]
          go_wp2_with fail
          have hR2 : Blk (wr.setCell ⟨g, 1, none⟩ (.int .i64 ((k : Int) + 1))) g 66 #[.string s, .int .i64 ((k : Int) + 1), x2, x3, x4, x5] := by simpa using hR.put 1 (.int .i64 ((k : Int) + 1))
          go_roundw
          case rel => exact ⟨k + 1, by omega, by omega, by simpa using hR2, gb_set hG (.inl rfl) _, Lib.hid (by rw [hr.out, Tk.run_yes (by rw [HZ.out]; exact hlt) hp])⟩
          case measure => rw [hR.at1, hR2.at1]; omega
  · have he : Tk.bareEnd s.data.toList = Tk.dottedEnd s.data.toList 0 := by simp [Tk.bareEnd, h1]
    rw [he]
    clear he
    have hr0 : Tk.run Tk.inWord s.data.toList 0 ≤ s.size := by rw [← HZ.out]; exact Tk.run_le (Nat.zero_le _)
    go_enter Tryz.func117, Tryz.ntmps117
    go_wp2_with fail
    refine (rsmall_any _ _).mono ?_; rintro e w' ⟨rfl, rfl⟩
    rw [HB.out, h1]
    go_wp2_with fail
    refine (rrun_any s g 0 _ hs (Nat.zero_le _) c0).mono ?_; rintro e w' ⟨rfl, rfl⟩
    go_wp2_with fail
    go_loopw [] (fun wr => ∃ k f : Nat, k ≤ s.size ∧ s.size - k ≤ f ∧ Blk wr g 66 #[.string s, .int .i64 k, x2, x3, x4, x5] ∧ w.grownBy wr (some g) ∧ Hid (Tk.dottedEnd s.data.toList 0 = Tk.dots f s.data.toList k)) (fun wr => s.size - (Tk.cellAt wr g 1).toNat)
    case atStart => exact ⟨_, s.size, hr0, by omega, by simpa using hc.put 1 (.int .i64 (Tk.run Tk.inWord s.data.toList 0)), gb_set (gb_refl _ _) (.inl rfl) _, Lib.hid (by rw [← HZ.out]; rfl)⟩
    case round =>
      obtain ⟨k, f, hk, hf, hR, hG, hr⟩ := hrel
      have HF := Lib.hid hf; clear hf
      have k0 : wr.cell? ⟨g, 0, none⟩ = some (.string s) := by simpa using hR.cell 0
      have k1 : wr.cell? ⟨g, 1, none⟩ = some (.int .i64 k) := by simpa using hR.cell 1
      have q1 := hR.frozen 1
      have hgk := hR.lt
      cases hp : Tk.bt s.data.toList k == 46
      · have hl : Tk.startsAt Tk.point s.data.toList k = false := by simp only [Tk.startsAt, Tk.point, hp, Bool.and_false]
        go_wp2_with fail
        refine (rat_any s g k _ hs (by omega) k0).mono ?_; rintro e w' ⟨rfl, rfl⟩
        go_wp2_with fail
        rw [hr.out, Tk.dots_no1 hl]
        exact bodyPost_ret (v := .tuple #[]) (by simp [results, Tryz.results117, go_sem]) rfl ⟨⟨_, rfl⟩, hR, hG⟩
      · have hlt : k < s.size := by
          refine Nat.lt_of_not_le fun h => ?_
          rw [Tk.bt_end (by rw [HZ.out]; exact h)] at hp
          revert hp; decide
        have hl : Tk.startsAt Tk.point s.data.toList k = true := by
          rw [Tk.starts_yes (by rw [HZ.out]; exact hlt)]; exact hp
        cases hp2 : Tk.small (Tk.bt s.data.toList (k + 1))
        · have hl2 : Tk.startsAt Tk.small s.data.toList (k + 1) = false := by simp only [Tk.startsAt, hp2, Bool.and_false]
          go_wp2_with fail
          refine (rat_any s g k _ hs (by omega) k0).mono ?_; rintro e w' ⟨rfl, rfl⟩
          go_wp2_with fail
          refine (rat_any s g (k + 1) _ hs (by omega) k0).mono ?_; rintro e w' ⟨rfl, rfl⟩
          go_wp2_with fail
          refine (rsmall_any _ _).mono ?_; rintro e w' ⟨rfl, rfl⟩
          rw [hp2]
          go_wp2_with fail
          rw [hr.out, Tk.dots_no2 hl2]
          exact bodyPost_ret (v := .tuple #[]) (by simp [results, Tryz.results117, go_sem]) rfl ⟨⟨_, rfl⟩, hR, hG⟩
        · have hlt2 : k + 1 < s.size := by
            refine Nat.lt_of_not_le fun h => ?_
            rw [Tk.bt_end (by rw [HZ.out]; exact h)] at hp2
            revert hp2; decide
          have hl2 : Tk.startsAt Tk.small s.data.toList (k + 1) = true := by
            rw [Tk.starts_yes (by rw [HZ.out]; exact hlt2)]; exact hp2
          obtain ⟨f', hfg, _, hd, hg'⟩ := Tk.dots_yes (by rw [HZ.out]; exact HF.out) hl hl2
          rw [HZ.out] at hg'
          have hle : Tk.run Tk.inWord s.data.toList (k + 1) ≤ s.size := by rw [← HZ.out]; exact Tk.run_le (by rw [HZ.out]; omega)
          have hge := Tk.run_ge Tk.inWord s.data.toList (k + 1)
          have HD := Lib.hid hd; clear hd
          have HFG := Lib.hid hfg; clear hfg
          go_wp2_with fail
          refine (rat_any s g k _ hs (by omega) k0).mono ?_; rintro e w' ⟨rfl, rfl⟩
          go_wp2_with fail
          refine (rat_any s g (k + 1) _ hs (by omega) k0).mono ?_; rintro e w' ⟨rfl, rfl⟩
          go_wp2_with fail
          refine (rsmall_any _ _).mono ?_; rintro e w' ⟨rfl, rfl⟩
          rw [hp2]
          go_wp2_with fail
          refine (rrun_any s g (k + 1) _ hs (by omega) k0).mono ?_; rintro e w' ⟨rfl, rfl⟩
          go_wp2_with fail
          have hR2 : Blk (wr.setCell ⟨g, 1, none⟩ (.int .i64 (Tk.run Tk.inWord s.data.toList (k + 1)))) g 66 #[.string s, .int .i64 (Tk.run Tk.inWord s.data.toList (k + 1)), x2, x3, x4, x5] := by simpa using hR.put 1 (.int .i64 (Tk.run Tk.inWord s.data.toList (k + 1)))
          go_roundw
          case rel => exact ⟨_, f', hle, by omega, hR2, gb_set hG (.inl rfl) _, Lib.hid (by rw [hr.out, HD.out])⟩
          case measure => rw [hR.at1, hR2.at1]; omega
end Go.Proofs.YteeigpdnkhpahaaGreatDoor
