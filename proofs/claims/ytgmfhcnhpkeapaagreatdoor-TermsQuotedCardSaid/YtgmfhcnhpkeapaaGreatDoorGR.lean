import Derived.Test.YtgmfhcnhpkeapaaGreatDoorGA
import Derived.Test.YtgmfhcnhpkeapaaGreatDoorA9
set_option linter.unusedSimpArgs false
set_option linter.unusedVariables false
namespace Go.Proofs.YtgmfhcnhpkeapaaGreatDoor
open Go.RowKit

theorem rsmall_any (n : Int) (w : World) :
    Calls Tryz.prog 104 #[.int .u8 n] w fun e w' => e = .returned (.bool (Tk.small n)) ∧ w = w' := by
  go_enter Tryz.func104, Tryz.ntmps104
  go_wp2
  all_goals (go_ret; exact ⟨by simp [Tk.small, *] <;> omega, rfl⟩)
theorem rcapital_any (n : Int) (w : World) :
    Calls Tryz.prog 106 #[.int .u8 n] w fun e w' => e = .returned (.bool (Tk.capital n)) ∧ w = w' := by
  go_enter Tryz.func106, Tryz.ntmps106
  go_wp2
  all_goals (go_ret; exact ⟨by simp [Tk.capital, *] <;> omega, rfl⟩)
theorem rdigit_any (n : Int) (w : World) :
    Calls Tryz.prog 109 #[.int .u8 n] w fun e w' => e = .returned (.bool (Tk.digit n)) ∧ w = w' := by
  go_enter Tryz.func109, Tryz.ntmps109
  go_wp2
  all_goals (go_ret; exact ⟨by simp [Tk.digit, *] <;> omega, rfl⟩)
theorem rblank_any (n : Int) (w : World) :
    Calls Tryz.prog 101 #[.int .u8 n] w fun e w' => e = .returned (.bool (Tk.blank n)) ∧ w = w' := by
  go_enter Tryz.func101, Tryz.ntmps101
  go_wp2
  all_goals (go_ret; exact ⟨ret_bool (by rw [Bool.eq_iff_iff]; simp [Tk.blank] <;> omega), rfl⟩)
theorem rByte_any (n : Int) (w : World) :
    Calls Tryz.prog 99 #[.int .u8 n] w fun e w' => e = .returned (.bool (Tk.inText n)) ∧ w = w' := by
  go_enter Tryz.func99, Tryz.ntmps99
  go_wp2
  all_goals (go_ret; exact ⟨ret_bool (by rw [Bool.eq_iff_iff]; simp [Tk.inText, Tk.shown, Tk.blank] <;> omega), rfl⟩)
theorem rword_any (n : Int) (w : World) :
    Calls Tryz.prog 151 #[.int .u8 n] w fun e w' => e = .returned (.bool (Tk.inWord n)) ∧ w = w' := by
  unfold Tk.inWord
  cases hs : Tk.small n <;> cases hc : Tk.capital n
  all_goals
    go_enter Tryz.func151, Tryz.ntmps151
    go_wp2_with (first | (go_at_call 104; refine (rsmall_any _ _).mono ?_; rintro e w' ⟨rfl, rfl⟩) | (go_at_call 106; refine (rcapital_any _ _).mono ?_; rintro e w' ⟨rfl, rfl⟩) | (go_at_call 109; refine (rdigit_any _ _).mono ?_; rintro e w' ⟨rfl, rfl⟩))
    go_ret
    exact ⟨by simp [hs, hc], rfl⟩

/-- Does a text have a byte from an index on. -/
def Tk.hasB (l : List UInt8) (c : Int) : Bool := l.any fun b => (b.toNat : Int) == c
theorem Tk.has_yes {l : List UInt8} {c : Int} {k : Nat} (h : k < l.length) (hc : (Tk.bt l k == c) = true) : Tk.hasB (l.drop k) c = true := by
  unfold Tk.bt at hc
  rw [getD_at h] at hc
  rw [List.drop_eq_getElem_cons h]
  simp only [Tk.hasB, List.any_cons, hc, Bool.true_or]
theorem Tk.has_no {l : List UInt8} {c : Int} {k : Nat} (h : k < l.length) (hc : (Tk.bt l k == c) = false) : Tk.hasB (l.drop k) c = Tk.hasB (l.drop (k + 1)) c := by
  unfold Tk.bt at hc
  rw [getD_at h] at hc
  rw [List.drop_eq_getElem_cons h]
  simp only [Tk.hasB, List.any_cons, hc, Bool.false_or]
theorem Tk.has_end {l : List UInt8} {c : Int} {k : Nat} (h : l.length ≤ k) : Tk.hasB (l.drop k) c = false := by
  rw [List.drop_of_length_le h]; rfl

set_option maxRecDepth 100000 in
set_option maxHeartbeats 400000 in
theorem rhas_any (s : ByteArray) (c : Int) (w : World) (hs : s.size ≤ maxLen) :
    Calls Tryz.prog 115 #[.string s, .int .u8 c] w fun e w' => e = .returned (.bool (Tk.hasB s.data.toList c)) ∧ w = w' := by
  unfold maxLen at hs
  have hz := size_data s
  have HZ := Lib.hid hz; clear hz
  go_enter Tryz.func115, Tryz.ntmps115
  go_wp2_with fail
  go_loop [5] (fun i' => ∃ k : Nat, k ≤ s.size ∧ i' = .int .i64 k ∧ Hid (Tk.hasB s.data.toList c = Tk.hasB (s.data.toList.drop k) c)) (fun i' => s.size - (intOf i').toNat)
  case atStart => exact ⟨0, Nat.zero_le _, by go_num, Lib.hid (by simp)⟩
  case round =>
    obtain ⟨k, hk, rfl, hr⟩ := hrel
    by_cases hlt : k < s.size
    · have hb := Tk.bt_of s k hlt
      have HB := Lib.hid hb
      cases hc : Tk.bt s.data.toList k == c
      · rw [← hb] at hc
        clear hb
        go_wp2_with fail
        go_round
        case rel => exact ⟨k + 1, by omega, by go_num, Lib.hid (by rw [hr.out, Tk.has_no (by rw [HZ.out]; exact hlt) (by rw [← HB.out]; exact hc)])⟩
        case measure => simp [intOf]; omega
      · rw [← hb] at hc
        clear hb
        go_wp2_with fail
        go_ret
        exact ⟨ret_bool (by rw [hr.out, Tk.has_yes (by rw [HZ.out]; exact hlt) (by rw [← HB.out]; exact hc)]), rfl⟩
    · go_wp2_with fail
      go_ret
      exact ⟨ret_bool (by rw [hr.out, Tk.has_end (by rw [HZ.out]; omega)]), rfl⟩

def Tk.rsign (n : Int) : Bool := Tk.hasB [43, 45, 42, 47, 92, 94, 60, 62, 61, 126, 58, 46, 63, 64, 35, 38, 36] n
theorem rsign_any (n : Int) (w : World) :
    Calls Tryz.prog 112 #[.int .u8 n] w fun e w' => e = .returned (.bool (Tk.rsign n)) ∧ w = w' := by
  go_enter Tryz.func112, Tryz.ntmps112
  go_wp2_with fail
  refine (rhas_any _ n _ (by decide)).mono ?_; rintro e w' ⟨rfl, rfl⟩
  go_wp2_with fail
  go_ret
  exact ⟨ret_bool rfl, rfl⟩
end Go.Proofs.YtgmfhcnhpkeapaaGreatDoor

namespace Go.Proofs.YtgmfhcnhpkeapaaGreatDoor
open Go.RowKit

theorem Tk.bt_end {l : List UInt8} {i : Nat} (h : l.length ≤ i) : Tk.bt l i = 0 := by
  unfold Tk.bt
  rw [List.getD_eq_getElem?_getD, List.getElem?_eq_none h]; rfl

set_option maxRecDepth 100000 in
set_option maxHeartbeats 400000 in
theorem rat_any (s : ByteArray) (g i : Nat) (w : World) (hs : s.size ≤ 4611686018427387904) (hi : i ≤ 4611686018427387904) (hc : w.cell? ⟨g, 0, none⟩ = some (.string s)) :
    Calls Tryz.prog 102 #[.pointer (some ⟨g, 0, none⟩), .int .i64 i] w fun e w' => e = .returned (.int .u8 (Tk.bt s.data.toList i)) ∧ w = w' := by
  have HZ := Lib.hid (size_data s)
  by_cases hlt : i < s.size
  · have HB := Lib.hid (Tk.bt_of s i hlt)
    go_enter Tryz.func102, Tryz.ntmps102
    go_wp2_with fail
    go_ret
    exact ⟨ret_int HB.out, rfl⟩
  · have hb : Tk.bt s.data.toList i = 0 := Tk.bt_end (by rw [HZ.out]; omega)
    have HB := Lib.hid hb; clear hb
    go_enter Tryz.func102, Tryz.ntmps102
    go_wp2_with fail
    go_ret
    exact ⟨ret_int HB.out.symm, rfl⟩

set_option maxRecDepth 100000 in
set_option maxHeartbeats 400000 in
theorem rrun_any (s : ByteArray) (g i : Nat) (w : World) (hs : s.size ≤ 4611686018427387904) (hi : i ≤ s.size) (hc : w.cell? ⟨g, 0, none⟩ = some (.string s)) :
    Calls Tryz.prog 107 #[.pointer (some ⟨g, 0, none⟩), .int .i64 i] w fun e w' => e = .returned (.int .i64 (Tk.run Tk.inWord s.data.toList i)) ∧ w = w' := by
  have hz := size_data s
  have HZ := Lib.hid hz; clear hz
  go_enter Tryz.func107, Tryz.ntmps107
  go_wp2_with fail
  go_loop [1] (fun i' => ∃ k : Nat, i ≤ k ∧ k ≤ s.size ∧ i' = .int .i64 k ∧ Hid (Tk.run Tk.inWord s.data.toList i = Tk.run Tk.inWord s.data.toList k)) (fun i' => s.size - (intOf i').toNat)
  case atStart => exact ⟨i, Nat.le_refl _, hi, rfl, Lib.hid rfl⟩
  case round =>
    obtain ⟨k, hik, hk, rfl, hr⟩ := hrel
    by_cases hlt : k < s.size
    · have hb := Tk.bt_of s k hlt
      have HB := Lib.hid hb; clear hb
      cases hp : Tk.inWord (Tk.bt s.data.toList k)
      · go_wp2_with fail
        refine (rat_any s g k _ hs (by omega) hc).mono ?_; rintro e w' ⟨rfl, rfl⟩
        go_wp2_with fail
        refine (rword_any _ _).mono ?_; rintro e w' ⟨rfl, rfl⟩
        rw [hp]
        go_wp2_with fail
        go_ret
        exact ⟨ret_int (by rw [hr.out, Tk.run_no (by rw [HZ.out]; exact hlt) hp]), rfl⟩
      · go_wp2_with fail
        refine (rat_any s g k _ hs (by omega) hc).mono ?_; rintro e w' ⟨rfl, rfl⟩
        go_wp2_with fail
        refine (rword_any _ _).mono ?_; rintro e w' ⟨rfl, rfl⟩
        rw [hp]
        go_wp2_with fail
        go_round
        case rel => exact ⟨k + 1, by omega, by omega, by go_num, Lib.hid (by rw [hr.out, Tk.run_yes (by rw [HZ.out]; exact hlt) hp])⟩
        case measure => simp [intOf]; omega
    · have hb : Tk.bt s.data.toList k = 0 := Tk.bt_end (by rw [HZ.out]; omega)
      go_wp2_with fail
      refine (rat_any s g k _ hs (by omega) hc).mono ?_; rintro e w' ⟨rfl, rfl⟩
      rw [hb]
      go_wp2_with fail
      refine (rword_any _ _).mono ?_; rintro e w' ⟨rfl, rfl⟩
      rw [show Tk.inWord 0 = false from by decide]
      go_wp2_with fail
      go_ret
      exact ⟨ret_int (by rw [hr.out, Tk.run_end (by rw [HZ.out]; omega)]), rfl⟩
end Go.Proofs.YtgmfhcnhpkeapaaGreatDoor

namespace Go.Proofs.YtgmfhcnhpkeapaaGreatDoor
open Go.RowKit

def Tk.bareEnd (l : List UInt8) : Nat := if Tk.small (Tk.bt l 0) then Tk.dottedEnd l 0 else if Tk.rsign (Tk.bt l 0) then Tk.run Tk.rsign l 1 else 1

theorem Blk.at1 {w : World} {g : Nat} {t : TypeId} {a b c d e : Value} {k : Int} (h : Blk w g t #[a, .int .i64 k, b, c, d, e]) : Tk.cellAt w g 1 = k := by
  unfold Tk.cellAt
  rw [h.cell 1]
  rfl

set_option maxRecDepth 100000 in
set_option maxHeartbeats 4000000 in
theorem rbare_any (s : ByteArray) (g : Nat) (w : World) (x1 : Int) (x2 x3 x4 x5 : Value) (hs : s.size ≤ 4611686018427387904) (h0 : 0 < s.size) (hc : Blk w g 86 #[.string s, .int .i64 x1, x2, x3, x4, x5]) :
    Calls Tryz.prog 179 #[.pointer (some ⟨g, 0, none⟩)] w fun e w' => (∃ v, e = .returned v) ∧ Blk w' g 86 #[.string s, .int .i64 (Tk.bareEnd s.data.toList), x2, x3, x4, x5] ∧ w.grownBy w' (some g) := by
  have HZ := Lib.hid (size_data s)
  have hm : s.size ≤ maxLen := by unfold maxLen; omega
  have HM := Lib.hid hm; clear hm
  have c0 : w.cell? ⟨g, 0, none⟩ = some (.string s) := by simpa using hc.cell 0
  have c1 : w.cell? ⟨g, 1, none⟩ = some (.int .i64 x1) := by simpa using hc.cell 1
  have f1 := hc.frozen 1
  have hgl := hc.lt
  have HB := Lib.hid (Tk.bt_of s 0 h0)
  cases h1 : Tk.small (Tk.bt s.data.toList 0)
  · cases h2 : Tk.rsign (Tk.bt s.data.toList 0)
    · have he : Tk.bareEnd s.data.toList = 1 := by simp [Tk.bareEnd, h1, h2]
      rw [he]
      clear he
      go_enter Tryz.func179, Tryz.ntmps179
      go_wp2_with fail
      refine (rsmall_any _ _).mono ?_; rintro e w' ⟨rfl, rfl⟩
      rw [HB.out, h1]
      go_wp2_with fail
      refine (rsign_any _ _).mono ?_; rintro e w' ⟨rfl, rfl⟩
      rw [h2]
      go_wp2_with fail
      exact bodyPost_end (v := .tuple #[]) (by simp [results, Tryz.results179, go_sem]) rfl ⟨⟨_, rfl⟩, by simpa using hc.put 1 (.int .i64 1), gb_set (gb_refl _ _) (.inl rfl) _⟩
    · have he : Tk.bareEnd s.data.toList = Tk.run Tk.rsign s.data.toList 1 := by simp [Tk.bareEnd, h1, h2]
      rw [he]
      clear he
      go_enter Tryz.func179, Tryz.ntmps179
      go_wp2_with fail
      refine (rsmall_any _ _).mono ?_; rintro e w' ⟨rfl, rfl⟩
      rw [HB.out, h1]
      go_wp2_with fail
      refine (rsign_any _ _).mono ?_; rintro e w' ⟨rfl, rfl⟩
      rw [h2]
      go_wp2_with fail
      go_loopw [] (fun wr => ∃ k : Nat, 1 ≤ k ∧ k ≤ s.size ∧ Blk wr g 86 #[.string s, .int .i64 k, x2, x3, x4, x5] ∧ w.grownBy wr (some g) ∧ Hid (Tk.run Tk.rsign s.data.toList 1 = Tk.run Tk.rsign s.data.toList k)) (fun wr => s.size - (Tk.cellAt wr g 1).toNat)
      case atStart => exact ⟨1, Nat.le_refl _, h0, by simpa using hc.put 1 (.int .i64 1), gb_set (gb_refl _ _) (.inl rfl) _, Lib.hid rfl⟩
      case round =>
        obtain ⟨k, h1k, hk, hR, hG, hr⟩ := hrel
        have k0 : wr.cell? ⟨g, 0, none⟩ = some (.string s) := by simpa using hR.cell 0
        have k1 : wr.cell? ⟨g, 1, none⟩ = some (.int .i64 k) := by simpa using hR.cell 1
        have q1 := hR.frozen 1
        have hgk := hR.lt
        cases hp : Tk.rsign (Tk.bt s.data.toList k)
        · go_wp2_with fail
          refine (rat_any s g k _ hs (by omega) k0).mono ?_; rintro e w' ⟨rfl, rfl⟩
          go_wp2_with fail
          refine (rsign_any _ _).mono ?_; rintro e w' ⟨rfl, rfl⟩
          rw [hp]
          go_wp2_with fail
          have hl : Tk.run Tk.rsign s.data.toList k = k := by
            by_cases hlt : k < s.size
            · exact Tk.run_no (by rw [HZ.out]; exact hlt) hp
            · exact Tk.run_end (by rw [HZ.out]; omega)
          rw [hr.out, hl]
          exact bodyPost_end (v := .tuple #[]) (by simp [results, Tryz.results179, go_sem]) rfl ⟨⟨_, rfl⟩, hR, hG⟩
        · have hlt : k < s.size := by
            refine Nat.lt_of_not_le fun h => ?_
            rw [Tk.bt_end (by rw [HZ.out]; exact h)] at hp
            revert hp; decide
          go_wp2_with fail
          refine (rat_any s g k _ hs (by omega) k0).mono ?_; rintro e w' ⟨rfl, rfl⟩
          go_wp2_with fail
          refine (rsign_any _ _).mono ?_; rintro e w' ⟨rfl, rfl⟩
          rw [hp]
          go_wp2_with fail
          have hR2 : Blk (wr.setCell ⟨g, 1, none⟩ (.int .i64 ((k : Int) + 1))) g 86 #[.string s, .int .i64 ((k : Int) + 1), x2, x3, x4, x5] := by simpa using hR.put 1 (.int .i64 ((k : Int) + 1))
          go_roundw
          case rel => exact ⟨k + 1, by omega, by omega, by simpa using hR2, gb_set hG (.inl rfl) _, Lib.hid (by rw [hr.out, Tk.run_yes (by rw [HZ.out]; exact hlt) hp])⟩
          case measure => rw [hR.at1, hR2.at1]; omega
  · have he : Tk.bareEnd s.data.toList = Tk.dottedEnd s.data.toList 0 := by simp [Tk.bareEnd, h1]
    rw [he]
    clear he
    have hr0 : Tk.run Tk.inWord s.data.toList 0 ≤ s.size := by rw [← HZ.out]; exact Tk.run_le (Nat.zero_le _)
    go_enter Tryz.func179, Tryz.ntmps179
    go_wp2_with fail
    refine (rsmall_any _ _).mono ?_; rintro e w' ⟨rfl, rfl⟩
    rw [HB.out, h1]
    go_wp2_with fail
    refine (rrun_any s g 0 _ hs (Nat.zero_le _) c0).mono ?_; rintro e w' ⟨rfl, rfl⟩
    go_wp2_with fail
    go_loopw [] (fun wr => ∃ k f : Nat, k ≤ s.size ∧ s.size - k ≤ f ∧ Blk wr g 86 #[.string s, .int .i64 k, x2, x3, x4, x5] ∧ w.grownBy wr (some g) ∧ Hid (Tk.dottedEnd s.data.toList 0 = Tk.dots f s.data.toList k)) (fun wr => s.size - (Tk.cellAt wr g 1).toNat)
    case atStart => exact ⟨_, s.size, hr0, by omega, by simpa using hc.put 1 (.int .i64 (Tk.run Tk.inWord s.data.toList 0)), gb_set (gb_refl _ _) (.inl rfl) _, Lib.hid (by rw [← HZ.out]; rfl)⟩
    case round =>
      obtain ⟨k, f, hk, hf, hR, hG, hr⟩ := hrel
      have HF := Lib.hid hf; clear hf
      have k0 : wr.cell? ⟨g, 0, none⟩ = some (.string s) := by simpa using hR.cell 0
      have k1 : wr.cell? ⟨g, 1, none⟩ = some (.int .i64 k) := by simpa using hR.cell 1
      have q1 := hR.frozen 1
      have hgk := hR.lt
      cases hp : Tk.bt s.data.toList k == 46
      · have hl : Tk.startsAt Tk.point s.data.toList k = false := by simp only [Tk.startsAt, Tk.point, hp, Bool.and_false]
        go_wp2_with fail
        refine (rat_any s g k _ hs (by omega) k0).mono ?_; rintro e w' ⟨rfl, rfl⟩
        go_wp2_with fail
        rw [hr.out, Tk.dots_no1 hl]
        exact bodyPost_ret (v := .tuple #[]) (by simp [results, Tryz.results179, go_sem]) rfl ⟨⟨_, rfl⟩, hR, hG⟩
      · have hlt : k < s.size := by
          refine Nat.lt_of_not_le fun h => ?_
          rw [Tk.bt_end (by rw [HZ.out]; exact h)] at hp
          revert hp; decide
        have hl : Tk.startsAt Tk.point s.data.toList k = true := by
          rw [Tk.starts_yes (by rw [HZ.out]; exact hlt)]; exact hp
        cases hp2 : Tk.small (Tk.bt s.data.toList (k + 1))
        · have hl2 : Tk.startsAt Tk.small s.data.toList (k + 1) = false := by simp only [Tk.startsAt, hp2, Bool.and_false]
          go_wp2_with fail
          refine (rat_any s g k _ hs (by omega) k0).mono ?_; rintro e w' ⟨rfl, rfl⟩
          go_wp2_with fail
          refine (rat_any s g (k + 1) _ hs (by omega) k0).mono ?_; rintro e w' ⟨rfl, rfl⟩
          go_wp2_with fail
          refine (rsmall_any _ _).mono ?_; rintro e w' ⟨rfl, rfl⟩
          rw [hp2]
          go_wp2_with fail
          rw [hr.out, Tk.dots_no2 hl2]
          exact bodyPost_ret (v := .tuple #[]) (by simp [results, Tryz.results179, go_sem]) rfl ⟨⟨_, rfl⟩, hR, hG⟩
        · have hlt2 : k + 1 < s.size := by
            refine Nat.lt_of_not_le fun h => ?_
            rw [Tk.bt_end (by rw [HZ.out]; exact h)] at hp2
            revert hp2; decide
          have hl2 : Tk.startsAt Tk.small s.data.toList (k + 1) = true := by
            rw [Tk.starts_yes (by rw [HZ.out]; exact hlt2)]; exact hp2
          obtain ⟨f', hfg, _, hd, hg'⟩ := Tk.dots_yes (by rw [HZ.out]; exact HF.out) hl hl2
          rw [HZ.out] at hg'
          have hle : Tk.run Tk.inWord s.data.toList (k + 1) ≤ s.size := by rw [← HZ.out]; exact Tk.run_le (by rw [HZ.out]; omega)
          have hge := Tk.run_ge Tk.inWord s.data.toList (k + 1)
          have HD := Lib.hid hd; clear hd
          have HFG := Lib.hid hfg; clear hfg
          go_wp2_with fail
          refine (rat_any s g k _ hs (by omega) k0).mono ?_; rintro e w' ⟨rfl, rfl⟩
          go_wp2_with fail
          refine (rat_any s g (k + 1) _ hs (by omega) k0).mono ?_; rintro e w' ⟨rfl, rfl⟩
          go_wp2_with fail
          refine (rsmall_any _ _).mono ?_; rintro e w' ⟨rfl, rfl⟩
          rw [hp2]
          go_wp2_with fail
          refine (rrun_any s g (k + 1) _ hs (by omega) k0).mono ?_; rintro e w' ⟨rfl, rfl⟩
          go_wp2_with fail
          have hR2 : Blk (wr.setCell ⟨g, 1, none⟩ (.int .i64 (Tk.run Tk.inWord s.data.toList (k + 1)))) g 86 #[.string s, .int .i64 (Tk.run Tk.inWord s.data.toList (k + 1)), x2, x3, x4, x5] := by simpa using hR.put 1 (.int .i64 (Tk.run Tk.inWord s.data.toList (k + 1)))
          go_roundw
          case rel => exact ⟨_, f', hle, by omega, hR2, gb_set hG (.inl rfl) _, Lib.hid (by rw [hr.out, HD.out])⟩
          case measure => rw [hR.at1, hR2.at1]; omega
end Go.Proofs.YtgmfhcnhpkeapaaGreatDoor

namespace Go.Proofs.YtgmfhcnhpkeapaaGreatDoor
open Go.RowKit

def Tk.rhead (l : List UInt8) : Bool := Tk.small (Tk.bt l 0) || Tk.rsign (Tk.bt l 0) || Tk.bt l 0 == 59 || Tk.bt l 0 == 33
def Tk.rplain (l : List UInt8) : Bool := !l.isEmpty && Tk.rhead l && !(l == [46]) && !(decide (1 < l.length) && l.take 2 == [47, 42]) && (Tk.bareEnd l == l.length)

set_option maxRecDepth 100000 in
set_option maxHeartbeats 4000000 in
theorem rplain_any (s : ByteArray) (w : World) (hs : s.size ≤ 4611686018427387904) :
    Calls Tryz.prog 155 #[.string s] w fun e w' => e = .returned (.bool (Tk.rplain s.data.toList)) ∧ Below w.heap.size w w' := by
  have HZ := Lib.hid (size_data s)
  have HL := Lib.hid (Go.ByteArray.toList_eq s)
  by_cases e0 : s.size = 0
  · have hl : s.data.toList = [] := List.eq_nil_of_length_eq_zero (by rw [HZ.out]; exact e0)
    have hl' : s.toList = [] := by rw [HL.out]; exact hl
    have hv : Tk.rplain s.data.toList = false := by rw [hl]; rfl
    rw [hv]
    have e1 : (s.toList == []) = true := by rw [hl']; rfl
    go_enter Tryz.func155, Tryz.ntmps155
    go_wp2_with fail
    go_ret
    exact ⟨rfl, Below.alloc (Below.refl _ _) (Nat.le_refl _) _⟩
  · have h0 : 0 < s.size := by omega
    have HB := Lib.hid (Tk.bt_of s 0 h0)
    have hne : s.data.toList.isEmpty = false := by
      cases h : s.data.toList with
      | nil => have := HZ.out; rw [h] at this; simp at this; omega
      | cons a b => rfl
    have e1 : (s.toList == []) = false := by
      rw [HL.out]
      cases h : s.data.toList with
      | nil => have := HZ.out; rw [h] at this; simp at this; omega
      | cons a b => rfl
    have HNE := Lib.hid hne; clear hne
    have HW := Lib.hid (Blk.new w 86 #[.string s, .int .i64 0, .slice none 0 0, .int .i64 0, .int .i64 0, .int .i64 0])
    have HBW := Lib.hid (Below.alloc (Below.refl w.heap.size w) (Nat.le_refl _) (.cells #[.string s, .int .i64 0, .slice none 0 0, .int .i64 0, .int .i64 0, .int .i64 0] 86))
    cases h1 : Tk.small (Tk.bt s.data.toList 0)
    · cases h2 : Tk.rsign (Tk.bt s.data.toList 0)
      · cases h3 : Tk.bt s.data.toList 0 == 59
        · cases h4 : Tk.bt s.data.toList 0 == 33
          · have hv : Tk.rplain s.data.toList = false := by simp only [Tk.rplain, Tk.rhead, h1, h2, h3, h4, Bool.or_self, Bool.and_false, Bool.false_and]
            rw [hv]
            clear hv
            have h3' : ((s[0].toNat : Int) == 59) = false := by rw [HB.out]; exact h3
            have h4' : ((s[0].toNat : Int) == 33) = false := by rw [HB.out]; exact h4
            go_enter Tryz.func155, Tryz.ntmps155
            go_wp2_with (first | (go_at_call 104; refine (rsmall_any _ _).mono ?_; rintro e w' ⟨rfl, rfl⟩; rw [HB.out, h1]) | (go_at_call 112; refine (rsign_any _ _).mono ?_; rintro e w' ⟨rfl, rfl⟩; rw [HB.out, h2]))
            go_ret
            exact ⟨rfl, HBW.out⟩
          · have hd : Tk.rhead s.data.toList = true := by simp only [Tk.rhead, h1, h2, h3, h4, Bool.or_true, Bool.or_self, Bool.false_or]
            have HD := Lib.hid hd; clear hd
            have h3' : ((s[0].toNat : Int) == 59) = false := by rw [HB.out]; exact h3
            have h4' : ((s[0].toNat : Int) == 33) = true := by rw [HB.out]; exact h4
            cases h5 : (s.toList == [46])
            · by_cases h6 : 1 < s.size
              · cases h7 : ((s.extract 0 2).toList == [47, 42])
                · have H5 : Hid ((s.data.toList == [46]) = false) := by unfold Hid; rw [← HL.out]; exact h5
                  have H6 : Hid ((decide (1 < s.size) && s.data.toList.take 2 == [47, 42]) = false) := by
                    unfold Hid
                    rw [Go.ByteArray.toList_eq, cut_mid] at h7
                    have h8 : (s.data.toList.take 2 == [47, 42]) = false := by rw [← h7]; simp
                    rw [h8, Bool.and_false]
                  go_enter Tryz.func155, Tryz.ntmps155
                  go_wp2_with (first | (go_at_call 104; refine (rsmall_any _ _).mono ?_; rintro e w' ⟨rfl, rfl⟩; rw [HB.out, h1]) | (go_at_call 112; refine (rsign_any _ _).mono ?_; rintro e w' ⟨rfl, rfl⟩; rw [HB.out, h2]))
                  refine (rbare_any s _ _ 0 _ _ _ _ hs h0 HW.out).mono ?_
                  rintro e w2 ⟨⟨v, rfl⟩, hb, hg⟩
                  have d1 : w2.cell? ⟨w.heap.size, 1, none⟩ = some (.int .i64 (Tk.bareEnd s.data.toList)) := by simpa using hb.cell 1
                  go_wp2_with fail
                  go_ret
                  exact ⟨ret_bool (by rw [cast_beq]; simp only [Tk.rplain, HNE.out, HD.out, H5.out, H6.out, HZ.out, Bool.not_false, Bool.true_and, Bool.and_true]), below_gb HBW.out hg HBW.out.size (Nat.le_refl _)⟩
                · have hv : Tk.rplain s.data.toList = false := by
                    have h8 : (s.data.toList.take 2 == [47, 42]) = true := by rw [← h7, Go.ByteArray.toList_eq, cut_mid]; simp
                    simp only [Tk.rplain, h8, HZ.out, h6, decide_true, Bool.and_self, Bool.not_true, Bool.and_false, Bool.false_and]
                  rw [hv]
                  clear hv
                  go_enter Tryz.func155, Tryz.ntmps155
                  go_wp2_with (first | (go_at_call 104; refine (rsmall_any _ _).mono ?_; rintro e w' ⟨rfl, rfl⟩; rw [HB.out, h1]) | (go_at_call 112; refine (rsign_any _ _).mono ?_; rintro e w' ⟨rfl, rfl⟩; rw [HB.out, h2]))
                  go_ret
                  exact ⟨rfl, HBW.out⟩
              · have H5 : Hid ((s.data.toList == [46]) = false) := by unfold Hid; rw [← HL.out]; exact h5
                have H6 : Hid ((decide (1 < s.size) && s.data.toList.take 2 == [47, 42]) = false) := by unfold Hid; rw [decide_eq_false h6, Bool.false_and]
                go_enter Tryz.func155, Tryz.ntmps155
                go_wp2_with (first | (go_at_call 104; refine (rsmall_any _ _).mono ?_; rintro e w' ⟨rfl, rfl⟩; rw [HB.out, h1]) | (go_at_call 112; refine (rsign_any _ _).mono ?_; rintro e w' ⟨rfl, rfl⟩; rw [HB.out, h2]))
                refine (rbare_any s _ _ 0 _ _ _ _ hs h0 HW.out).mono ?_
                rintro e w2 ⟨⟨v, rfl⟩, hb, hg⟩
                have d1 : w2.cell? ⟨w.heap.size, 1, none⟩ = some (.int .i64 (Tk.bareEnd s.data.toList)) := by simpa using hb.cell 1
                go_wp2_with fail
                go_ret
                exact ⟨ret_bool (by rw [cast_beq]; simp only [Tk.rplain, HNE.out, HD.out, H5.out, H6.out, HZ.out, Bool.not_false, Bool.true_and, Bool.and_true]), below_gb HBW.out hg HBW.out.size (Nat.le_refl _)⟩
            · have hv : Tk.rplain s.data.toList = false := by
                have h8 : (s.data.toList == [46]) = true := by rw [← HL.out]; exact h5
                simp only [Tk.rplain, h8, Bool.not_true, Bool.and_false, Bool.false_and]
              rw [hv]
              clear hv
              go_enter Tryz.func155, Tryz.ntmps155
              go_wp2_with (first | (go_at_call 104; refine (rsmall_any _ _).mono ?_; rintro e w' ⟨rfl, rfl⟩; rw [HB.out, h1]) | (go_at_call 112; refine (rsign_any _ _).mono ?_; rintro e w' ⟨rfl, rfl⟩; rw [HB.out, h2]))
              go_ret
              exact ⟨rfl, HBW.out⟩
        · have hd : Tk.rhead s.data.toList = true := by simp only [Tk.rhead, h1, h2, h3, Bool.or_true, Bool.true_or, Bool.or_self, Bool.false_or]
          have HD := Lib.hid hd; clear hd
          have h3' : ((s[0].toNat : Int) == 59) = true := by rw [HB.out]; exact h3
          cases h5 : (s.toList == [46])
          · by_cases h6 : 1 < s.size
            · cases h7 : ((s.extract 0 2).toList == [47, 42])
              · have H5 : Hid ((s.data.toList == [46]) = false) := by unfold Hid; rw [← HL.out]; exact h5
                have H6 : Hid ((decide (1 < s.size) && s.data.toList.take 2 == [47, 42]) = false) := by
                  unfold Hid
                  rw [Go.ByteArray.toList_eq, cut_mid] at h7
                  have h8 : (s.data.toList.take 2 == [47, 42]) = false := by rw [← h7]; simp
                  rw [h8, Bool.and_false]
                go_enter Tryz.func155, Tryz.ntmps155
                go_wp2_with (first | (go_at_call 104; refine (rsmall_any _ _).mono ?_; rintro e w' ⟨rfl, rfl⟩; rw [HB.out, h1]) | (go_at_call 112; refine (rsign_any _ _).mono ?_; rintro e w' ⟨rfl, rfl⟩; rw [HB.out, h2]))
                refine (rbare_any s _ _ 0 _ _ _ _ hs h0 HW.out).mono ?_
                rintro e w2 ⟨⟨v, rfl⟩, hb, hg⟩
                have d1 : w2.cell? ⟨w.heap.size, 1, none⟩ = some (.int .i64 (Tk.bareEnd s.data.toList)) := by simpa using hb.cell 1
                go_wp2_with fail
                go_ret
                exact ⟨ret_bool (by rw [cast_beq]; simp only [Tk.rplain, HNE.out, HD.out, H5.out, H6.out, HZ.out, Bool.not_false, Bool.true_and, Bool.and_true]), below_gb HBW.out hg HBW.out.size (Nat.le_refl _)⟩
              · have hv : Tk.rplain s.data.toList = false := by
                  have h8 : (s.data.toList.take 2 == [47, 42]) = true := by rw [← h7, Go.ByteArray.toList_eq, cut_mid]; simp
                  simp only [Tk.rplain, h8, HZ.out, h6, decide_true, Bool.and_self, Bool.not_true, Bool.and_false, Bool.false_and]
                rw [hv]
                clear hv
                go_enter Tryz.func155, Tryz.ntmps155
                go_wp2_with (first | (go_at_call 104; refine (rsmall_any _ _).mono ?_; rintro e w' ⟨rfl, rfl⟩; rw [HB.out, h1]) | (go_at_call 112; refine (rsign_any _ _).mono ?_; rintro e w' ⟨rfl, rfl⟩; rw [HB.out, h2]))
                go_ret
                exact ⟨rfl, HBW.out⟩
            · have H5 : Hid ((s.data.toList == [46]) = false) := by unfold Hid; rw [← HL.out]; exact h5
              have H6 : Hid ((decide (1 < s.size) && s.data.toList.take 2 == [47, 42]) = false) := by unfold Hid; rw [decide_eq_false h6, Bool.false_and]
              go_enter Tryz.func155, Tryz.ntmps155
              go_wp2_with (first | (go_at_call 104; refine (rsmall_any _ _).mono ?_; rintro e w' ⟨rfl, rfl⟩; rw [HB.out, h1]) | (go_at_call 112; refine (rsign_any _ _).mono ?_; rintro e w' ⟨rfl, rfl⟩; rw [HB.out, h2]))
              refine (rbare_any s _ _ 0 _ _ _ _ hs h0 HW.out).mono ?_
              rintro e w2 ⟨⟨v, rfl⟩, hb, hg⟩
              have d1 : w2.cell? ⟨w.heap.size, 1, none⟩ = some (.int .i64 (Tk.bareEnd s.data.toList)) := by simpa using hb.cell 1
              go_wp2_with fail
              go_ret
              exact ⟨ret_bool (by rw [cast_beq]; simp only [Tk.rplain, HNE.out, HD.out, H5.out, H6.out, HZ.out, Bool.not_false, Bool.true_and, Bool.and_true]), below_gb HBW.out hg HBW.out.size (Nat.le_refl _)⟩
          · have hv : Tk.rplain s.data.toList = false := by
              have h8 : (s.data.toList == [46]) = true := by rw [← HL.out]; exact h5
              simp only [Tk.rplain, h8, Bool.not_true, Bool.and_false, Bool.false_and]
            rw [hv]
            clear hv
            go_enter Tryz.func155, Tryz.ntmps155
            go_wp2_with (first | (go_at_call 104; refine (rsmall_any _ _).mono ?_; rintro e w' ⟨rfl, rfl⟩; rw [HB.out, h1]) | (go_at_call 112; refine (rsign_any _ _).mono ?_; rintro e w' ⟨rfl, rfl⟩; rw [HB.out, h2]))
            go_ret
            exact ⟨rfl, HBW.out⟩
      · have hd : Tk.rhead s.data.toList = true := by simp only [Tk.rhead, h1, h2, Bool.or_true, Bool.true_or, Bool.or_self, Bool.false_or]
        have HD := Lib.hid hd; clear hd
        cases h5 : (s.toList == [46])
        · by_cases h6 : 1 < s.size
          · cases h7 : ((s.extract 0 2).toList == [47, 42])
            · have H5 : Hid ((s.data.toList == [46]) = false) := by unfold Hid; rw [← HL.out]; exact h5
              have H6 : Hid ((decide (1 < s.size) && s.data.toList.take 2 == [47, 42]) = false) := by
                unfold Hid
                rw [Go.ByteArray.toList_eq, cut_mid] at h7
                have h8 : (s.data.toList.take 2 == [47, 42]) = false := by rw [← h7]; simp
                rw [h8, Bool.and_false]
              go_enter Tryz.func155, Tryz.ntmps155
              go_wp2_with (first | (go_at_call 104; refine (rsmall_any _ _).mono ?_; rintro e w' ⟨rfl, rfl⟩; rw [HB.out, h1]) | (go_at_call 112; refine (rsign_any _ _).mono ?_; rintro e w' ⟨rfl, rfl⟩; rw [HB.out, h2]))
              refine (rbare_any s _ _ 0 _ _ _ _ hs h0 HW.out).mono ?_
              rintro e w2 ⟨⟨v, rfl⟩, hb, hg⟩
              have d1 : w2.cell? ⟨w.heap.size, 1, none⟩ = some (.int .i64 (Tk.bareEnd s.data.toList)) := by simpa using hb.cell 1
              go_wp2_with fail
              go_ret
              exact ⟨ret_bool (by rw [cast_beq]; simp only [Tk.rplain, HNE.out, HD.out, H5.out, H6.out, HZ.out, Bool.not_false, Bool.true_and, Bool.and_true]), below_gb HBW.out hg HBW.out.size (Nat.le_refl _)⟩
            · have hv : Tk.rplain s.data.toList = false := by
                have h8 : (s.data.toList.take 2 == [47, 42]) = true := by rw [← h7, Go.ByteArray.toList_eq, cut_mid]; simp
                simp only [Tk.rplain, h8, HZ.out, h6, decide_true, Bool.and_self, Bool.not_true, Bool.and_false, Bool.false_and]
              rw [hv]
              clear hv
              go_enter Tryz.func155, Tryz.ntmps155
              go_wp2_with (first | (go_at_call 104; refine (rsmall_any _ _).mono ?_; rintro e w' ⟨rfl, rfl⟩; rw [HB.out, h1]) | (go_at_call 112; refine (rsign_any _ _).mono ?_; rintro e w' ⟨rfl, rfl⟩; rw [HB.out, h2]))
              go_ret
              exact ⟨rfl, HBW.out⟩
          · have H5 : Hid ((s.data.toList == [46]) = false) := by unfold Hid; rw [← HL.out]; exact h5
            have H6 : Hid ((decide (1 < s.size) && s.data.toList.take 2 == [47, 42]) = false) := by unfold Hid; rw [decide_eq_false h6, Bool.false_and]
            go_enter Tryz.func155, Tryz.ntmps155
            go_wp2_with (first | (go_at_call 104; refine (rsmall_any _ _).mono ?_; rintro e w' ⟨rfl, rfl⟩; rw [HB.out, h1]) | (go_at_call 112; refine (rsign_any _ _).mono ?_; rintro e w' ⟨rfl, rfl⟩; rw [HB.out, h2]))
            refine (rbare_any s _ _ 0 _ _ _ _ hs h0 HW.out).mono ?_
            rintro e w2 ⟨⟨v, rfl⟩, hb, hg⟩
            have d1 : w2.cell? ⟨w.heap.size, 1, none⟩ = some (.int .i64 (Tk.bareEnd s.data.toList)) := by simpa using hb.cell 1
            go_wp2_with fail
            go_ret
            exact ⟨ret_bool (by rw [cast_beq]; simp only [Tk.rplain, HNE.out, HD.out, H5.out, H6.out, HZ.out, Bool.not_false, Bool.true_and, Bool.and_true]), below_gb HBW.out hg HBW.out.size (Nat.le_refl _)⟩
        · have hv : Tk.rplain s.data.toList = false := by
            have h8 : (s.data.toList == [46]) = true := by rw [← HL.out]; exact h5
            simp only [Tk.rplain, h8, Bool.not_true, Bool.and_false, Bool.false_and]
          rw [hv]
          clear hv
          go_enter Tryz.func155, Tryz.ntmps155
          go_wp2_with (first | (go_at_call 104; refine (rsmall_any _ _).mono ?_; rintro e w' ⟨rfl, rfl⟩; rw [HB.out, h1]) | (go_at_call 112; refine (rsign_any _ _).mono ?_; rintro e w' ⟨rfl, rfl⟩; rw [HB.out, h2]))
          go_ret
          exact ⟨rfl, HBW.out⟩
    · have hd : Tk.rhead s.data.toList = true := by simp [Tk.rhead, h1]
      have HD := Lib.hid hd; clear hd
      cases h5 : (s.toList == [46])
      · by_cases h6 : 1 < s.size
        · cases h7 : ((s.extract 0 2).toList == [47, 42])
          · have H5 : Hid ((s.data.toList == [46]) = false) := by unfold Hid; rw [← HL.out]; exact h5
            have H6 : Hid ((decide (1 < s.size) && s.data.toList.take 2 == [47, 42]) = false) := by
              unfold Hid
              rw [Go.ByteArray.toList_eq, cut_mid] at h7
              have h8 : (s.data.toList.take 2 == [47, 42]) = false := by rw [← h7]; simp
              rw [h8, Bool.and_false]
            go_enter Tryz.func155, Tryz.ntmps155
            go_wp2_with (first | (go_at_call 104; refine (rsmall_any _ _).mono ?_; rintro e w' ⟨rfl, rfl⟩; rw [HB.out, h1]) | (go_at_call 112; refine (rsign_any _ _).mono ?_; rintro e w' ⟨rfl, rfl⟩; rw [HB.out, h2]))
            refine (rbare_any s _ _ 0 _ _ _ _ hs h0 HW.out).mono ?_
            rintro e w2 ⟨⟨v, rfl⟩, hb, hg⟩
            have d1 : w2.cell? ⟨w.heap.size, 1, none⟩ = some (.int .i64 (Tk.bareEnd s.data.toList)) := by simpa using hb.cell 1
            go_wp2_with fail
            go_ret
            exact ⟨ret_bool (by rw [cast_beq]; simp only [Tk.rplain, HNE.out, HD.out, H5.out, H6.out, HZ.out, Bool.not_false, Bool.true_and, Bool.and_true]), below_gb HBW.out hg HBW.out.size (Nat.le_refl _)⟩
          · have hv : Tk.rplain s.data.toList = false := by
              have h8 : (s.data.toList.take 2 == [47, 42]) = true := by rw [← h7, Go.ByteArray.toList_eq, cut_mid]; simp
              simp only [Tk.rplain, h8, HZ.out, h6, decide_true, Bool.and_self, Bool.not_true, Bool.and_false, Bool.false_and]
            rw [hv]
            clear hv
            go_enter Tryz.func155, Tryz.ntmps155
            go_wp2_with (first | (go_at_call 104; refine (rsmall_any _ _).mono ?_; rintro e w' ⟨rfl, rfl⟩; rw [HB.out, h1]) | (go_at_call 112; refine (rsign_any _ _).mono ?_; rintro e w' ⟨rfl, rfl⟩; rw [HB.out, h2]))
            go_ret
            exact ⟨rfl, HBW.out⟩
        · have H5 : Hid ((s.data.toList == [46]) = false) := by unfold Hid; rw [← HL.out]; exact h5
          have H6 : Hid ((decide (1 < s.size) && s.data.toList.take 2 == [47, 42]) = false) := by unfold Hid; rw [decide_eq_false h6, Bool.false_and]
          go_enter Tryz.func155, Tryz.ntmps155
          go_wp2_with (first | (go_at_call 104; refine (rsmall_any _ _).mono ?_; rintro e w' ⟨rfl, rfl⟩; rw [HB.out, h1]) | (go_at_call 112; refine (rsign_any _ _).mono ?_; rintro e w' ⟨rfl, rfl⟩; rw [HB.out, h2]))
          refine (rbare_any s _ _ 0 _ _ _ _ hs h0 HW.out).mono ?_
          rintro e w2 ⟨⟨v, rfl⟩, hb, hg⟩
          have d1 : w2.cell? ⟨w.heap.size, 1, none⟩ = some (.int .i64 (Tk.bareEnd s.data.toList)) := by simpa using hb.cell 1
          go_wp2_with fail
          go_ret
          exact ⟨ret_bool (by rw [cast_beq]; simp only [Tk.rplain, HNE.out, HD.out, H5.out, H6.out, HZ.out, Bool.not_false, Bool.true_and, Bool.and_true]), below_gb HBW.out hg HBW.out.size (Nat.le_refl _)⟩
      · have hv : Tk.rplain s.data.toList = false := by
          have h8 : (s.data.toList == [46]) = true := by rw [← HL.out]; exact h5
          simp only [Tk.rplain, h8, Bool.not_true, Bool.and_false, Bool.false_and]
        rw [hv]
        clear hv
        go_enter Tryz.func155, Tryz.ntmps155
        go_wp2_with (first | (go_at_call 104; refine (rsmall_any _ _).mono ?_; rintro e w' ⟨rfl, rfl⟩; rw [HB.out, h1]) | (go_at_call 112; refine (rsign_any _ _).mono ?_; rintro e w' ⟨rfl, rfl⟩; rw [HB.out, h2]))
        go_ret
        exact ⟨rfl, HBW.out⟩
end Go.Proofs.YtgmfhcnhpkeapaaGreatDoor

namespace Go.Proofs.YtgmfhcnhpkeapaaGreatDoor
open Go.RowKit

def Tk.rok (lines : Bool) (c : Int) : Bool := Tk.inText c && (decide (32 ≤ c) || lines)
def Tk.rall (lines : Bool) (l : List UInt8) : Bool := l.all fun b => Tk.rok lines (b.toNat : Int)
theorem Tk.all_yes {p : Int → Bool} {l : List UInt8} {k : Nat} (h : k < l.length) (hc : p (Tk.bt l k) = true) : ((l.drop k).all fun b => p (b.toNat : Int)) = ((l.drop (k + 1)).all fun b => p (b.toNat : Int)) := by
  unfold Tk.bt at hc
  rw [getD_at h] at hc
  rw [List.drop_eq_getElem_cons h]
  simp only [List.all_cons, hc, Bool.true_and]
theorem Tk.all_no {p : Int → Bool} {l : List UInt8} {k : Nat} (h : k < l.length) (hc : p (Tk.bt l k) = false) : ((l.drop k).all fun b => p (b.toNat : Int)) = false := by
  unfold Tk.bt at hc
  rw [getD_at h] at hc
  rw [List.drop_eq_getElem_cons h]
  simp only [List.all_cons, hc, Bool.false_and]

set_option maxRecDepth 100000 in
set_option maxHeartbeats 400000 in
theorem rall_any (s : ByteArray) (lines : Bool) (w : World) (hs : s.size ≤ 4611686018427387904) :
    Calls Tryz.prog 154 #[.string s, .bool lines] w fun e w' => e = .returned (.bool (Tk.rall lines s.data.toList)) ∧ w = w' := by
  have HZ := Lib.hid (size_data s)
  go_enter Tryz.func154, Tryz.ntmps154
  go_wp2_with fail
  go_loop [5] (fun i' => ∃ k : Nat, k ≤ s.size ∧ i' = .int .i64 k ∧ Hid (Tk.rall lines s.data.toList = ((s.data.toList.drop k).all fun b => Tk.rok lines (b.toNat : Int)))) (fun i' => s.size - (intOf i').toNat)
  case atStart => exact ⟨0, Nat.zero_le _, by go_num, Lib.hid (by simp [Tk.rall])⟩
  case round =>
    obtain ⟨k, hk, rfl, hr⟩ := hrel
    by_cases hlt : k < s.size
    · have hb := Tk.bt_of s k hlt
      have HB := Lib.hid hb; clear hb
      cases h1 : Tk.inText (Tk.bt s.data.toList k)
      · go_wp2_with fail
        refine (rByte_any _ _).mono ?_; rintro e w' ⟨rfl, rfl⟩
        rw [HB.out, h1]
        go_wp2_with fail
        go_ret
        exact ⟨ret_bool (by rw [hr.out, Tk.all_no (by rw [HZ.out]; exact hlt) (by simp only [Tk.rok, h1, Bool.false_and])]), rfl⟩
      · by_cases h2 : (s[k].toNat : Int) < 32
        · have h3 : decide (32 ≤ Tk.bt s.data.toList k) = false := decide_eq_false (by rw [← HB.out]; omega)
          have h2' : decide ((s[k].toNat : Int) < 32) = true := decide_eq_true h2
          have H3 := Lib.hid h3; clear h3
          cases lines
          · go_wp2_with fail
            refine (rByte_any _ _).mono ?_; rintro e w' ⟨rfl, rfl⟩
            rw [HB.out, h1]
            go_wp2_with fail
            go_ret
            exact ⟨ret_bool (by rw [hr.out, Tk.all_no (by rw [HZ.out]; exact hlt) (by simp only [Tk.rok, h1, H3.out, Bool.or_self, Bool.and_false])]), rfl⟩
          · go_wp2_with fail
            refine (rByte_any _ _).mono ?_; rintro e w' ⟨rfl, rfl⟩
            rw [HB.out, h1]
            go_wp2_with fail
            go_round
            case rel => exact ⟨k + 1, by omega, by go_num, Lib.hid (by rw [hr.out, Tk.all_yes (by rw [HZ.out]; exact hlt) (by simp only [Tk.rok, h1, H3.out, Bool.or_true, Bool.and_true])])⟩
            case measure => simp [intOf]; omega
        · have h3 : decide (32 ≤ Tk.bt s.data.toList k) = true := decide_eq_true (by rw [← HB.out]; omega)
          have h2' : decide ((s[k].toNat : Int) < 32) = false := decide_eq_false h2
          have H3 := Lib.hid h3; clear h3
          go_wp2_with fail
          refine (rByte_any _ _).mono ?_; rintro e w' ⟨rfl, rfl⟩
          rw [HB.out, h1]
          go_wp2_with fail
          go_round
          case rel => exact ⟨k + 1, by omega, by go_num, Lib.hid (by rw [hr.out, Tk.all_yes (by rw [HZ.out]; exact hlt) (by simp only [Tk.rok, h1, H3.out, Bool.true_or, Bool.and_true])])⟩
          case measure => simp [intOf]; omega
    · go_wp2_with fail
      go_ret
      exact ⟨ret_bool (by rw [hr.out, List.drop_of_length_le (by rw [HZ.out]; omega)]; rfl), rfl⟩
end Go.Proofs.YtgmfhcnhpkeapaaGreatDoor

namespace Go.Proofs.YtgmfhcnhpkeapaaGreatDoor
open Go.RowKit

def Tk.rgo : Nat → List UInt8 → Bool
  | _, [] => false
  | n, c :: r => if 40 < (if (c.toNat : Int) == 46 then 0 else n + 1) then true else Tk.rgo (if (c.toNat : Int) == 46 then 0 else n + 1) r
def Tk.rlong (l : List UInt8) : Bool := if Tk.rplain l && Tk.small (Tk.bt l 0) then Tk.rgo 0 l else decide (40 < l.length)
theorem Tk.rgo_at {l : List UInt8} {n k : Nat} (h : k < l.length) : Tk.rgo n (l.drop k) = if 40 < (if Tk.bt l k == 46 then 0 else n + 1) then true else Tk.rgo (if Tk.bt l k == 46 then 0 else n + 1) (l.drop (k + 1)) := by
  unfold Tk.bt
  rw [getD_at h, List.drop_eq_getElem_cons h, Tk.rgo]

set_option maxRecDepth 100000 in
set_option maxHeartbeats 400000 in
theorem rlong_any (s : ByteArray) (w : World) (hs : s.size ≤ 4611686018427387904) :
    Calls Tryz.prog 156 #[.string s] w fun e w' => e = .returned (.bool (Tk.rlong s.data.toList)) ∧ Below w.heap.size w w' := by
  have HZ := Lib.hid (size_data s)
  cases hp : Tk.rplain s.data.toList
  · have hv : Tk.rlong s.data.toList = decide (40 < s.size) := by simp [Tk.rlong, hp]
    have HV := Lib.hid hv; clear hv
    have HP := Lib.hid hp; clear hp
    by_cases h40 : 40 < s.size
    all_goals
      go_enter Tryz.func156, Tryz.ntmps156
      go_wp2_with (go_at_call 155; refine (rplain_any s _ hs).mono ?_; rintro e w1 ⟨rfl, hB⟩; rw [HP.out])
      go_ret
      exact ⟨ret_bool (by rw [HV.out, Bool.eq_iff_iff]; simp <;> omega), hB⟩
  · have h0 : 0 < s.size := by
      refine Nat.pos_of_ne_zero fun h => ?_
      have : s.data.toList = [] := List.eq_nil_of_length_eq_zero (by rw [HZ.out]; exact h)
      rw [this] at hp
      revert hp; decide
    have HB0 := Lib.hid (Tk.bt_of s 0 h0)
    have HP := Lib.hid hp; clear hp
    cases h1 : Tk.small (Tk.bt s.data.toList 0)
    · have hv : Tk.rlong s.data.toList = decide (40 < s.size) := by simp [Tk.rlong, h1]
      have HV := Lib.hid hv; clear hv
      by_cases h40 : 40 < s.size
      all_goals
        go_enter Tryz.func156, Tryz.ntmps156
        go_wp2_with (first | (go_at_call 155; refine (rplain_any s _ hs).mono ?_; rintro e w1 ⟨rfl, hB⟩; rw [HP.out]) | (go_at_call 104; refine (rsmall_any _ _).mono ?_; rintro e w' ⟨rfl, rfl⟩; rw [HB0.out, h1]))
        go_ret
        exact ⟨ret_bool (by rw [HV.out, Bool.eq_iff_iff]; simp <;> omega), hB⟩
    · have hv : Tk.rlong s.data.toList = Tk.rgo 0 s.data.toList := by simp [Tk.rlong, HP.out, h1]
      rw [hv]
      clear hv
      go_enter Tryz.func156, Tryz.ntmps156
      go_wp2_with fail
      refine (rplain_any s _ hs).mono ?_; rintro e w1 ⟨rfl, hB⟩; rw [HP.out]
      go_wp2_with fail
      refine (rsmall_any _ _).mono ?_; rintro e w' ⟨rfl, rfl⟩; rw [HB0.out, h1]
      go_wp2_with fail
      have hb1 := hB.size
      go_loop [3, 4] (fun n' i' => ∃ n k : Nat, n ≤ 40 ∧ k ≤ s.size ∧ n' = .int .i64 n ∧ i' = .int .i64 k ∧ Hid (Tk.rgo 0 s.data.toList = Tk.rgo n (s.data.toList.drop k))) (fun _ i' => s.size - (intOf i').toNat)
      case atStart => exact ⟨0, 0, by omega, by omega, by go_num, by go_num, Lib.hid (by simp)⟩
      case round =>
        obtain ⟨n, k, hn, hk, rfl, rfl, hr⟩ := hrel
        by_cases hlt : k < s.size
        · have HB := Lib.hid (Tk.bt_of s k hlt)
          have HG := Lib.hid (Tk.rgo_at (n := n) (l := s.data.toList) (k := k) (by rw [HZ.out]; exact hlt))
          cases h46 : (s[k].toNat : Int) == 46
          · have H46 := Lib.hid h46
            by_cases h40 : 40 < n + 1
            · have e40 : decide ((40 : Int) < (n : Int) + 1) = true := decide_eq_true (by omega)
              go_wp2_with fail
              go_ret
              exact ⟨ret_bool (by rw [hr.out, HG.out, ← HB.out, H46.out]; simp; omega), hB⟩
            · have e40 : decide ((40 : Int) < (n : Int) + 1) = false := decide_eq_false (by omega)
              go_wp2_with fail
              go_round
              case rel => exact ⟨n + 1, k + 1, by omega, by omega, by go_num, by go_num, Lib.hid (by rw [hr.out, HG.out, ← HB.out, H46.out]; simp [h40])⟩
              case measure => simp [intOf]; omega
          · have H46 := Lib.hid h46
            go_wp2_with fail
            go_round
            case rel => exact ⟨0, k + 1, by omega, by omega, by go_num, by go_num, Lib.hid (by rw [hr.out, HG.out, ← HB.out, H46.out]; simp)⟩
            case measure => simp [intOf]; omega
        · go_wp2_with fail
          go_ret
          exact ⟨ret_bool (by rw [hr.out, List.drop_of_length_le (by rw [HZ.out]; omega)]; rfl), hB⟩
end Go.Proofs.YtgmfhcnhpkeapaaGreatDoor

namespace Go.Proofs.YtgmfhcnhpkeapaaGreatDoor
open Go.RowKit

def Tk.ggo : Nat → List UInt8 → Bool
  | _, [] => false
  | n, c :: r => if (4611686018427387903 - (c.toNat - 48)) / 10 < n then true else Tk.ggo (10 * n + (c.toNat - 48)) r
theorem Tk.ggo_at {l : List UInt8} {n k : Nat} (h : k < l.length) : Tk.ggo n (l.drop k) = if (4611686018427387903 - (l[k].toNat - 48)) / 10 < n then true else Tk.ggo (10 * n + (l[k].toNat - 48)) (l.drop (k + 1)) := by
  rw [List.drop_eq_getElem_cons h, Tk.ggo]

set_option maxRecDepth 100000 in
set_option maxHeartbeats 400000 in
theorem rgreat_any (s : ByteArray) (w : World) (hs : s.size ≤ 4611686018427387904) (hd : ∀ (k : Nat) (h : k < s.size), 48 ≤ s[k].toNat ∧ s[k].toNat ≤ 57) :
    Calls Tryz.prog 157 #[.string s] w fun e w' => e = .returned (.bool (Tk.ggo 0 s.data.toList)) ∧ w = w' := by
  have HZ := Lib.hid (size_data s)
  have HD := Lib.hid hd; clear hd
  go_enter Tryz.func157, Tryz.ntmps157
  go_wp2_with fail
  go_loop [3, 4] (fun n' i' => ∃ n k : Nat, n ≤ 4611686018427387903 ∧ k ≤ s.size ∧ n' = .int .i64 n ∧ i' = .int .i64 k ∧ Hid (Tk.ggo 0 s.data.toList = Tk.ggo n (s.data.toList.drop k))) (fun _ i' => s.size - (intOf i').toNat)
  case atStart => exact ⟨0, 0, by omega, by omega, by go_num, by go_num, Lib.hid (by simp)⟩
  case round =>
    obtain ⟨n, k, hn, hk, rfl, rfl, hr⟩ := hrel
    by_cases hlt : k < s.size
    · have HG : Hid (Tk.ggo n (s.data.toList.drop k) = if (4611686018427387903 - (s[k].toNat - 48)) / 10 < n then true else Tk.ggo (10 * n + (s[k].toNat - 48)) (s.data.toList.drop (k + 1))) := Tk.ggo_at (by rw [HZ.out]; exact hlt)
      obtain ⟨hd1, hd2⟩ := HD.out k hlt
      by_cases hg : (4611686018427387903 - (s[k].toNat - 48)) / 10 < n
      · go_wp2_with fail
        go_ret
        exact ⟨ret_bool (by rw [hr.out, HG.out, if_pos hg]), rfl⟩
      · go_wp2_with fail
        go_round
        case rel => exact ⟨10 * n + (s[k].toNat - 48), k + 1, by omega, by omega, by congr 1; omega, by go_num, Lib.hid (by rw [hr.out, HG.out, if_neg hg])⟩
        case measure => simp [intOf]; omega
    · go_wp2_with fail
      go_ret
      exact ⟨ret_bool (by rw [hr.out, List.drop_of_length_le (by rw [HZ.out]; omega)]; rfl), rfl⟩
end Go.Proofs.YtgmfhcnhpkeapaaGreatDoor

namespace Go.Proofs.YtgmfhcnhpkeapaaGreatDoor
open Go.RowKit

def Tk.okCode (b : Bool) : Int := if b then 0 else 2
set_option maxRecDepth 100000 in
set_option maxHeartbeats 400000 in
theorem rcheck_end (s : ByteArray) (a : Int) (w : World) :
    Calls Tryz.prog 116 #[.agg #[.int .i64 0, .string s, .int .i64 a]] w fun e w' => e = .returned (.int .i64 (Tk.okCode (s.data.toList == []))) ∧ Below w.heap.size w w' := by
  have HL := Lib.hid (Go.ByteArray.toList_eq s)
  cases h : (s.toList == [])
  all_goals
    have H := Lib.hid h
    go_enter Tryz.func116, Tryz.ntmps116
    go_wp2_with fail
    go_ret
    exact ⟨ret_int (by rw [← HL.out, H.out]; rfl), by first | exact Below.refl _ _ | exact Below.alloc (Below.refl _ _) (Nat.le_refl _) _⟩
set_option maxRecDepth 100000 in
set_option maxHeartbeats 400000 in
theorem rcheck_stop (s : ByteArray) (a : Int) (w : World) :
    Calls Tryz.prog 116 #[.agg #[.int .i64 7, .string s, .int .i64 a]] w fun e w' => e = .returned (.int .i64 (Tk.okCode (s.data.toList == [46]))) ∧ Below w.heap.size w w' := by
  have HL := Lib.hid (Go.ByteArray.toList_eq s)
  cases h : (s.toList == [46])
  all_goals
    have H := Lib.hid h
    go_enter Tryz.func116, Tryz.ntmps116
    go_wp2_with fail
    go_ret
    exact ⟨ret_int (by rw [← HL.out, H.out]; rfl), by first | exact Below.refl _ _ | exact Below.alloc (Below.refl _ _) (Nat.le_refl _) _⟩
set_option maxRecDepth 100000 in
set_option maxHeartbeats 400000 in
theorem rcheck_text (s : ByteArray) (a : Int) (w : World) (hs : s.size ≤ 4611686018427387904) :
    Calls Tryz.prog 116 #[.agg #[.int .i64 5, .string s, .int .i64 a]] w fun e w' => e = .returned (.int .i64 (Tk.okCode (Tk.rall true s.data.toList))) ∧ Below w.heap.size w w' := by
  cases h : Tk.rall true s.data.toList
  all_goals
    have H := Lib.hid h
    go_enter Tryz.func116, Tryz.ntmps116
    go_wp2_with (go_at_call 154; refine (rall_any s true _ hs).mono ?_; rintro e w' ⟨rfl, rfl⟩; rw [H.out])
    go_ret
    exact ⟨ret_int (by first | rfl | (rw [H.out]; rfl)), by first | exact Below.refl _ _ | exact Below.alloc (Below.refl _ _) (Nat.le_refl _) _⟩
set_option maxRecDepth 100000 in
set_option maxHeartbeats 400000 in
theorem rcheck_kind (k : Int) (s : ByteArray) (a : Int) (w : World) (hk : k < 0 ∨ 7 < k) :
    Calls Tryz.prog 116 #[.agg #[.int .i64 k, .string s, .int .i64 a]] w fun e w' => e = .returned (.int .i64 3) ∧ Below w.heap.size w w' := by
  have e0 : (k == 0) = false := beq_eq_false_iff_ne.2 (by omega)
  have e1 : (k == 1) = false := beq_eq_false_iff_ne.2 (by omega)
  have e2 : (k == 2) = false := beq_eq_false_iff_ne.2 (by omega)
  have e3 : (k == 3) = false := beq_eq_false_iff_ne.2 (by omega)
  have e4 : (k == 4) = false := beq_eq_false_iff_ne.2 (by omega)
  have e5 : (k == 5) = false := beq_eq_false_iff_ne.2 (by omega)
  have e6 : (k == 6) = false := beq_eq_false_iff_ne.2 (by omega)
  have e7 : (k == 7) = false := beq_eq_false_iff_ne.2 (by omega)
  have HK := Lib.hid hk; clear hk
  go_enter Tryz.func116, Tryz.ntmps116
  go_wp2_with fail
  go_ret
  exact ⟨rfl, by first | exact Below.refl _ _ | exact Below.alloc (Below.refl _ _) (Nat.le_refl _) _⟩
set_option maxRecDepth 100000 in
set_option maxHeartbeats 400000 in
theorem rcheck_char (s : ByteArray) (a : Int) (w : World) (hs : s.size ≤ 4611686018427387904) :
    Calls Tryz.prog 116 #[.agg #[.int .i64 4, .string s, .int .i64 a]] w fun e w' => e = .returned (.int .i64 (Tk.okCode (s.data.toList.length == 1 && Tk.rall true s.data.toList))) ∧ Below w.heap.size w w' := by
  have HZ := Lib.hid (size_data s)
  by_cases h1 : s.size = 1
  · have e1 : ((s.size : Int) == 1) = true := beq_iff_eq.2 (by omega)
    have H1 : Hid ((s.data.toList.length == 1) = true) := by unfold Hid; rw [HZ.out, h1]; rfl
    have HH := Lib.hid h1; clear h1
    cases h : Tk.rall true s.data.toList
    all_goals
      have H := Lib.hid h
      go_enter Tryz.func116, Tryz.ntmps116
      go_wp2_with (go_at_call 154; refine (rall_any s true _ hs).mono ?_; rintro e w' ⟨rfl, rfl⟩; rw [H.out])
      go_ret
      exact ⟨ret_int (by first | (rw [H1.out]; rfl) | (rw [H1.out, H.out]; rfl)), by first | exact Below.refl _ _ | exact Below.alloc (Below.refl _ _) (Nat.le_refl _) _⟩
  · have e1 : ((s.size : Int) == 1) = false := beq_eq_false_iff_ne.2 (by omega)
    have H1 : Hid ((s.data.toList.length == 1) = false) := by unfold Hid; rw [HZ.out]; exact beq_eq_false_iff_ne.2 h1
    have HH := Lib.hid h1; clear h1
    go_enter Tryz.func116, Tryz.ntmps116
    go_wp2_with fail
    go_ret
    exact ⟨ret_int (by rw [H1.out]; rfl), by first | exact Below.refl _ _ | exact Below.alloc (Below.refl _ _) (Nat.le_refl _) _⟩

def Tk.rpunct (l : List UInt8) : Bool := l == [40, 40] || (l.length == 1 && Tk.hasB [40, 41, 91, 93, 123, 125, 44, 124] (Tk.bt l 0))
set_option maxRecDepth 100000 in
set_option maxHeartbeats 400000 in
theorem rcheck_punct (s : ByteArray) (a : Int) (w : World) (hs : s.size ≤ 4611686018427387904) :
    Calls Tryz.prog 116 #[.agg #[.int .i64 6, .string s, .int .i64 a]] w fun e w' => e = .returned (.int .i64 (Tk.okCode (Tk.rpunct s.data.toList))) ∧ Below w.heap.size w w' := by
  have HZ := Lib.hid (size_data s)
  have HL := Lib.hid (Go.ByteArray.toList_eq s)
  cases h0 : (s.toList == [40, 40])
  · have H0 : Hid ((s.data.toList == [40, 40]) = false) := by unfold Hid; rw [← HL.out]; exact h0
    by_cases h1 : s.size = 1
    · have e1 : ((s.size : Int) == 1) = true := beq_iff_eq.2 (by omega)
      have H1 : Hid ((s.data.toList.length == 1) = true) := by unfold Hid; rw [HZ.out, h1]; rfl
      have hpos : 0 < s.size := by omega
      have HB := Lib.hid (Tk.bt_of s 0 hpos)
      have HH := Lib.hid h1; clear h1
      cases h : Tk.hasB [40, 41, 91, 93, 123, 125, 44, 124] (Tk.bt s.data.toList 0)
      all_goals
        have H := Lib.hid h
        go_enter Tryz.func116, Tryz.ntmps116
        go_wp2_with (go_at_call 115; refine (rhas_any _ _ _ (by decide)).mono ?_; rintro e w' ⟨rfl, rfl⟩; rw [HB.out, show Tk.hasB _ (Tk.bt s.data.toList 0) = _ from H.out])
        go_ret
        exact ⟨ret_int (by simp only [Tk.rpunct, H0.out, H1.out, H.out]; rfl), by first | exact Below.refl _ _ | exact Below.alloc (Below.refl _ _) (Nat.le_refl _) _⟩
    · have e1 : ((s.size : Int) == 1) = false := beq_eq_false_iff_ne.2 (by omega)
      have H1 : Hid ((s.data.toList.length == 1) = false) := by unfold Hid; rw [HZ.out]; exact beq_eq_false_iff_ne.2 h1
      have HH := Lib.hid h1; clear h1
      go_enter Tryz.func116, Tryz.ntmps116
      go_wp2_with fail
      go_ret
      exact ⟨ret_int (by simp only [Tk.rpunct, H0.out, H1.out]; rfl), by first | exact Below.refl _ _ | exact Below.alloc (Below.refl _ _) (Nat.le_refl _) _⟩
  · have H0 : Hid ((s.data.toList == [40, 40]) = true) := by unfold Hid; rw [← HL.out]; exact h0
    go_enter Tryz.func116, Tryz.ntmps116
    go_wp2_with fail
    go_ret
    exact ⟨ret_int (by simp only [Tk.rpunct, H0.out]; rfl), by first | exact Below.refl _ _ | exact Below.alloc (Below.refl _ _) (Nat.le_refl _) _⟩
end Go.Proofs.YtgmfhcnhpkeapaaGreatDoor

namespace Go.Proofs.YtgmfhcnhpkeapaaGreatDoor
open Go.RowKit

def Tk.rnameOk (l : List UInt8) : Bool := !(l == []) && Tk.rall false l && (Tk.rplain l || l == [33, 46] || !(Tk.hasB l 46))
def Tk.rname (l : List UInt8) : Int := if Tk.rnameOk l then (if Tk.rlong l then 6 else 0) else 2

set_option maxRecDepth 100000 in
set_option maxHeartbeats 1000000 in
theorem rcheck_name (s : ByteArray) (a : Int) (w : World) (hs : s.size ≤ 4611686018427387904) :
    Calls Tryz.prog 116 #[.agg #[.int .i64 1, .string s, .int .i64 a]] w fun e w' => e = .returned (.int .i64 (Tk.rname s.data.toList)) ∧ Below w.heap.size w w' := by
  have HZ := Lib.hid (size_data s)
  have HM : Hid (s.size ≤ maxLen) := by unfold Hid maxLen; omega
  have HL := Lib.hid (Go.ByteArray.toList_eq s)
  have HT := Lib.hid (Blk.new w 48 #[.int .i64 1, .string s, .int .i64 a])
  have HTL := HT.out.lt
  have HTH := Lib.hid HTL; clear HTL
  have HBW := Lib.hid (Below.alloc (Below.refl w.heap.size w) (Nat.le_refl _) (.cells #[.int .i64 1, .string s, .int .i64 a] 48))
  cases h0 : (s.toList == [])
  · have H0 : Hid ((s.data.toList == []) = false) := by unfold Hid; rw [← HL.out]; exact h0
    cases h1 : Tk.rall false s.data.toList
    · have H1 := Lib.hid h1
      go_enter Tryz.func116, Tryz.ntmps116
      go_wp2_with (go_at_call 154; refine (rall_any s false _ hs).mono ?_; rintro e w' ⟨rfl, rfl⟩; rw [H1.out])
      go_ret
      exact ⟨ret_int (by simp [Tk.rname, Tk.rnameOk, H1.out]), HBW.out⟩
    · have H1 := Lib.hid h1
      cases h2 : Tk.rplain s.data.toList
      · have H2 := Lib.hid h2
        cases h3 : (s.toList == [33, 46])
        · have H3 : Hid ((s.data.toList == [33, 46]) = false) := by unfold Hid; rw [← HL.out]; exact h3
          cases h4 : Tk.hasB s.data.toList 46
          · have H4 := Lib.hid h4
            have hv : Tk.rname s.data.toList = if Tk.rlong s.data.toList then 6 else 0 := by simp [Tk.rname, Tk.rnameOk, H0.out, H1.out, H2.out, H3.out, H4.out]
            have HV := Lib.hid hv; clear hv
            cases h5 : Tk.rlong s.data.toList
            all_goals
              have H5 := Lib.hid h5
              go_enter Tryz.func116, Tryz.ntmps116
              go_wp2_with (go_at_call 154; refine (rall_any s false _ hs).mono ?_; rintro e w' ⟨rfl, rfl⟩; rw [H1.out])
              refine (rplain_any s _ hs).mono ?_
              rintro e w1 ⟨rfl, hB⟩
              rw [H2.out]
              have hT1 := Blk.below HT.out hB HTH.out
              have d0 : w1.cell? ⟨w.heap.size, 0, none⟩ = some (.int .i64 1) := by simpa using hT1.cell 0
              have hB1 := HBW.out.trans (hB.mono HBW.out.size)
              have HT1 := Lib.hid hT1; clear hT1
              go_wp2_with (first | (go_at_call 115; refine (rhas_any s 46 _ HM.out).mono ?_; rintro e w' ⟨rfl, rfl⟩; rw [H4.out]) | (go_at_call 156; refine (rlong_any s _ hs).mono ?_; rintro e w2 ⟨rfl, hB2⟩; rw [H5.out]; have d2 : w2.cell? ⟨w.heap.size, 0, none⟩ = some (.int .i64 1) := (hB2.cell HT1.out.lt).trans d0))
              go_ret
              exact ⟨ret_int (by rw [HV.out, H5.out]; rfl), hB1.trans (hB2.mono hB1.size)⟩
          · have H4 := Lib.hid h4
            go_enter Tryz.func116, Tryz.ntmps116
            go_wp2_with (go_at_call 154; refine (rall_any s false _ hs).mono ?_; rintro e w' ⟨rfl, rfl⟩; rw [H1.out])
            refine (rplain_any s _ hs).mono ?_
            rintro e w1 ⟨rfl, hB⟩
            rw [H2.out]
            have hT1 := Blk.below HT.out hB HTH.out
            have d0 : w1.cell? ⟨w.heap.size, 0, none⟩ = some (.int .i64 1) := by simpa using hT1.cell 0
            have hB1 := HBW.out.trans (hB.mono HBW.out.size)
            have HT1 := Lib.hid hT1; clear hT1
            go_wp2_with (first | (go_at_call 115; refine (rhas_any s 46 _ HM.out).mono ?_; rintro e w' ⟨rfl, rfl⟩; rw [H4.out]))
            go_ret
            exact ⟨ret_int (by simp [Tk.rname, Tk.rnameOk, H0.out, H1.out, H2.out, H3.out, H4.out]), hB1⟩
        · have H3 : Hid ((s.data.toList == [33, 46]) = true) := by unfold Hid; rw [← HL.out]; exact h3
          have hv : Tk.rname s.data.toList = if Tk.rlong s.data.toList then 6 else 0 := by simp [Tk.rname, Tk.rnameOk, H0.out, H1.out, H2.out, H3.out]
          have HV := Lib.hid hv; clear hv
          cases h5 : Tk.rlong s.data.toList
          all_goals
            have H5 := Lib.hid h5
            go_enter Tryz.func116, Tryz.ntmps116
            go_wp2_with (go_at_call 154; refine (rall_any s false _ hs).mono ?_; rintro e w' ⟨rfl, rfl⟩; rw [H1.out])
            refine (rplain_any s _ hs).mono ?_
            rintro e w1 ⟨rfl, hB⟩
            rw [H2.out]
            have hT1 := Blk.below HT.out hB HTH.out
            have d0 : w1.cell? ⟨w.heap.size, 0, none⟩ = some (.int .i64 1) := by simpa using hT1.cell 0
            have hB1 := HBW.out.trans (hB.mono HBW.out.size)
            have HT1 := Lib.hid hT1; clear hT1
            go_wp2_with (first | (go_at_call 156; refine (rlong_any s _ hs).mono ?_; rintro e w2 ⟨rfl, hB2⟩; rw [H5.out]; have d2 : w2.cell? ⟨w.heap.size, 0, none⟩ = some (.int .i64 1) := (hB2.cell HT1.out.lt).trans d0))
            go_ret
            exact ⟨ret_int (by rw [HV.out, H5.out]; rfl), hB1.trans (hB2.mono hB1.size)⟩
      · have H2 := Lib.hid h2
        have hv : Tk.rname s.data.toList = if Tk.rlong s.data.toList then 6 else 0 := by simp [Tk.rname, Tk.rnameOk, H0.out, H1.out, H2.out]
        have HV := Lib.hid hv; clear hv
        cases h5 : Tk.rlong s.data.toList
        all_goals
          have H5 := Lib.hid h5
          go_enter Tryz.func116, Tryz.ntmps116
          go_wp2_with (go_at_call 154; refine (rall_any s false _ hs).mono ?_; rintro e w' ⟨rfl, rfl⟩; rw [H1.out])
          refine (rplain_any s _ hs).mono ?_
          rintro e w1 ⟨rfl, hB⟩
          rw [H2.out]
          have hT1 := Blk.below HT.out hB HTH.out
          have d0 : w1.cell? ⟨w.heap.size, 0, none⟩ = some (.int .i64 1) := by simpa using hT1.cell 0
          have hB1 := HBW.out.trans (hB.mono HBW.out.size)
          have HT1 := Lib.hid hT1; clear hT1
          go_wp2_with (first | (go_at_call 156; refine (rlong_any s _ hs).mono ?_; rintro e w2 ⟨rfl, hB2⟩; rw [H5.out]; have d2 : w2.cell? ⟨w.heap.size, 0, none⟩ = some (.int .i64 1) := (hB2.cell HT1.out.lt).trans d0))
          go_ret
          exact ⟨ret_int (by rw [HV.out, H5.out]; rfl), hB1.trans (hB2.mono hB1.size)⟩
  · have H0 : Hid ((s.data.toList == []) = true) := by unfold Hid; rw [← HL.out]; exact h0
    go_enter Tryz.func116, Tryz.ntmps116
    go_wp2_with fail
    go_ret
    exact ⟨ret_int (by simp only [Tk.rname, Tk.rnameOk, H0.out]; rfl), HBW.out⟩
end Go.Proofs.YtgmfhcnhpkeapaaGreatDoor

namespace Go.Proofs.YtgmfhcnhpkeapaaGreatDoor
open Go.RowKit

def Tk.allB (p : Int → Bool) (l : List UInt8) : Bool := l.all fun b => p (b.toNat : Int)
def Tk.rvarOk (l : List UInt8) : Bool := !(l == []) && Tk.capital (Tk.bt l 0) && Tk.allB Tk.inWord l
def Tk.rvar (l : List UInt8) : Int := if Tk.rvarOk l then (if Tk.rlong l then 6 else 0) else 2

set_option maxRecDepth 100000 in
set_option maxHeartbeats 1000000 in
theorem rcheck_var (s : ByteArray) (a : Int) (w : World) (hs : s.size ≤ 4611686018427387904) :
    Calls Tryz.prog 116 #[.agg #[.int .i64 2, .string s, .int .i64 a]] w fun e w' => e = .returned (.int .i64 (Tk.rvar s.data.toList)) ∧ Below w.heap.size w w' := by
  have HZ := Lib.hid (size_data s)
  have HM : Hid (s.size ≤ maxLen) := by unfold Hid maxLen; omega
  have HL := Lib.hid (Go.ByteArray.toList_eq s)
  have HT := Lib.hid (Blk.new w 48 #[.int .i64 2, .string s, .int .i64 a])
  have HTL := HT.out.lt
  have HTH := Lib.hid HTL; clear HTL
  have HBW := Lib.hid (Below.alloc (Below.refl w.heap.size w) (Nat.le_refl _) (.cells #[.int .i64 2, .string s, .int .i64 a] 48))
  cases h0 : (s.toList == [])
  · have H0 : Hid ((s.data.toList == []) = false) := by unfold Hid; rw [← HL.out]; exact h0
    have hpos : 0 < s.size := by
      refine Nat.pos_of_ne_zero fun h => ?_
      have : s.data.toList = [] := List.eq_nil_of_length_eq_zero (by rw [HZ.out]; exact h)
      rw [← HL.out] at this
      rw [this] at h0
      cases h0
    have HB0 := Lib.hid (Tk.bt_of s 0 hpos)
    obtain ⟨c, hc⟩ : ∃ c, Tk.capital (Tk.bt s.data.toList 0) = c := ⟨_, rfl⟩
    have HC := Lib.hid hc; clear hc
    have hv : Tk.rvar s.data.toList = if (c && Tk.allB Tk.inWord s.data.toList) then (if Tk.rlong s.data.toList then 6 else 0) else 2 := by simp only [Tk.rvar, Tk.rvarOk, H0.out, HC.out, Bool.not_false, Bool.true_and]
    have HV := Lib.hid hv; clear hv
    go_enter Tryz.func116, Tryz.ntmps116
    go_wp2_with (go_at_call 106; refine (rcapital_any _ _).mono ?_; rintro e w' ⟨rfl, rfl⟩; rw [HB0.out, HC.out])
    go_loop [4, 5] (fun b' i' => ∃ (b : Bool) (k : Nat), k ≤ s.size ∧ b' = .bool b ∧ i' = .int .i64 k ∧ Hid ((c && Tk.allB Tk.inWord s.data.toList) = (b && ((s.data.toList.drop k).all fun x => Tk.inWord (x.toNat : Int))))) (fun _ i' => s.size - (intOf i').toNat)
    case atStart => exact ⟨c, 0, by omega, rfl, by go_num, Lib.hid (by simp [Tk.allB])⟩
    case round =>
      obtain ⟨b, k, hk, rfl, rfl, hr⟩ := hrel
      by_cases hlt : k < s.size
      · have HB := Lib.hid (Tk.bt_of s k hlt)
        cases b
        · go_wp2_with fail
          go_round
          case rel => exact ⟨false, k + 1, by omega, rfl, by go_num, Lib.hid (by rw [hr.out]; rfl)⟩
          case measure => simp [intOf]; omega
        · cases hw : Tk.inWord (Tk.bt s.data.toList k)
          · have HW := Lib.hid hw
            go_wp2_with (go_at_call 151; refine (rword_any _ _).mono ?_; rintro e w' ⟨rfl, rfl⟩; rw [HB.out, HW.out])
            go_round
            case rel => exact ⟨false, k + 1, by omega, rfl, by go_num, Lib.hid (by rw [hr.out, Tk.all_no (by rw [HZ.out]; exact hlt) HW.out]; rfl)⟩
            case measure => simp [intOf]; omega
          · have HW := Lib.hid hw
            go_wp2_with (go_at_call 151; refine (rword_any _ _).mono ?_; rintro e w' ⟨rfl, rfl⟩; rw [HB.out, HW.out])
            go_round
            case rel => exact ⟨true, k + 1, by omega, rfl, by go_num, Lib.hid (by rw [hr.out, Tk.all_yes (by rw [HZ.out]; exact hlt) HW.out])⟩
            case measure => simp [intOf]; omega
      · have hr2 : (c && Tk.allB Tk.inWord s.data.toList) = b := by rw [hr.out, List.drop_of_length_le (by rw [HZ.out]; omega)]; simp
        have HR := Lib.hid hr2; clear hr2
        cases b
        · go_wp2_with fail
          go_ret
          exact ⟨ret_int (by rw [HV.out, HR.out]; rfl), HBW.out⟩
        · cases h5 : Tk.rlong s.data.toList
          all_goals
            have H5 := Lib.hid h5
            go_wp2_with (go_at_call 156; refine (rlong_any s _ hs).mono ?_; rintro e w2 ⟨rfl, hB2⟩; rw [H5.out]; have hT2 := Blk.below HT.out hB2 HTH.out; have d2 : w2.cell? ⟨w.heap.size, 0, none⟩ = some (.int .i64 2) := (by simpa using hT2.cell 0))
            go_ret
            exact ⟨ret_int (by rw [HV.out, HR.out, H5.out]; rfl), HBW.out.trans (hB2.mono HBW.out.size)⟩
  · have H0 : Hid ((s.data.toList == []) = true) := by unfold Hid; rw [← HL.out]; exact h0
    have hl : s.toList = [] := by simpa using h0
    have := list_of_bytes hl; subst this
    clear h0 hl
    go_enter Tryz.func116, Tryz.ntmps116
    go_wp2_with fail
    go_loop [4, 5] (fun b' i' => b' = .bool false ∧ i' = .int .i64 0) (fun _ _ => 0)
    case atStart => exact ⟨rfl, by go_num⟩
    case round =>
      obtain ⟨rfl, rfl⟩ := hrel
      go_wp2_with fail
      go_ret
      exact ⟨rfl, HBW.out⟩
end Go.Proofs.YtgmfhcnhpkeapaaGreatDoor

namespace Go.Proofs.YtgmfhcnhpkeapaaGreatDoor
open Go.RowKit

def Tk.rintOk (l : List UInt8) : Bool := !(l == []) && Tk.allB Tk.digit l
def Tk.rint (l : List UInt8) : Int := if Tk.rintOk l then (if Tk.ggo 0 l then 5 else 0) else 2

set_option maxRecDepth 100000 in
set_option maxHeartbeats 1000000 in
theorem rcheck_int (s : ByteArray) (a : Int) (w : World) (hs : s.size ≤ 4611686018427387904) :
    Calls Tryz.prog 116 #[.agg #[.int .i64 3, .string s, .int .i64 a]] w fun e w' => e = .returned (.int .i64 (Tk.rint s.data.toList)) ∧ Below w.heap.size w w' := by
  have HZ := Lib.hid (size_data s)
  have HM : Hid (s.size ≤ maxLen) := by unfold Hid maxLen; omega
  have HL := Lib.hid (Go.ByteArray.toList_eq s)
  have HT := Lib.hid (Blk.new w 48 #[.int .i64 3, .string s, .int .i64 a])
  have HTL := HT.out.lt
  have HTH := Lib.hid HTL; clear HTL
  have HBW := Lib.hid (Below.alloc (Below.refl w.heap.size w) (Nat.le_refl _) (.cells #[.int .i64 3, .string s, .int .i64 a] 48))
  cases h0 : (s.toList == [])
  · have H0 : Hid ((s.data.toList == []) = false) := by unfold Hid; rw [← HL.out]; exact h0
    have hpos : 0 < s.size := by
      refine Nat.pos_of_ne_zero fun h => ?_
      have : s.data.toList = [] := List.eq_nil_of_length_eq_zero (by rw [HZ.out]; exact h)
      rw [← HL.out] at this
      rw [this] at h0
      cases h0
    have hv : Tk.rint s.data.toList = if Tk.allB Tk.digit s.data.toList then (if Tk.ggo 0 s.data.toList then 5 else 0) else 2 := by simp only [Tk.rint, Tk.rintOk, H0.out, Bool.not_false, Bool.true_and]
    have HV := Lib.hid hv; clear hv
    go_enter Tryz.func116, Tryz.ntmps116
    go_wp2_with fail
    go_loop [4, 6] (fun b' i' => ∃ (b : Bool) (k : Nat), k ≤ s.size ∧ b' = .bool b ∧ i' = .int .i64 k ∧ Hid ((Tk.allB Tk.digit s.data.toList) = (b && ((s.data.toList.drop k).all fun x => Tk.digit (x.toNat : Int))))) (fun _ i' => s.size - (intOf i').toNat)
    case atStart => exact ⟨true, 0, by omega, rfl, by go_num, Lib.hid (by simp [Tk.allB])⟩
    case round =>
      obtain ⟨b, k, hk, rfl, rfl, hr⟩ := hrel
      by_cases hlt : k < s.size
      · have HB := Lib.hid (Tk.bt_of s k hlt)
        cases b
        · go_wp2_with fail
          go_round
          case rel => exact ⟨false, k + 1, by omega, rfl, by go_num, Lib.hid (by rw [hr.out]; rfl)⟩
          case measure => simp [intOf]; omega
        · cases hw : Tk.digit (Tk.bt s.data.toList k)
          · have HW := Lib.hid hw
            go_wp2_with (go_at_call 109; refine (rdigit_any _ _).mono ?_; rintro e w' ⟨rfl, rfl⟩; rw [HB.out, HW.out])
            go_round
            case rel => exact ⟨false, k + 1, by omega, rfl, by go_num, Lib.hid (by rw [hr.out, Tk.all_no (by rw [HZ.out]; exact hlt) HW.out]; rfl)⟩
            case measure => simp [intOf]; omega
          · have HW := Lib.hid hw
            go_wp2_with (go_at_call 109; refine (rdigit_any _ _).mono ?_; rintro e w' ⟨rfl, rfl⟩; rw [HB.out, HW.out])
            go_round
            case rel => exact ⟨true, k + 1, by omega, rfl, by go_num, Lib.hid (by rw [hr.out, Tk.all_yes (by rw [HZ.out]; exact hlt) HW.out])⟩
            case measure => simp [intOf]; omega
      · have hr2 : (Tk.allB Tk.digit s.data.toList) = b := by rw [hr.out, List.drop_of_length_le (by rw [HZ.out]; omega)]; simp
        have HR := Lib.hid hr2; clear hr2
        cases b
        · go_wp2_with fail
          go_ret
          exact ⟨ret_int (by rw [HV.out, HR.out]; rfl), HBW.out⟩
        · have hd : ∀ (k : Nat) (h : k < s.size), 48 ≤ s[k].toNat ∧ s[k].toNat ≤ 57 := fun k h => by
            have h1 := HR.out
            unfold Tk.allB at h1
            have h2 := List.all_eq_true.1 h1 (s.data.toList[k]'(by rw [HZ.out]; exact h)) (List.getElem_mem _)
            have h3 : s.data.toList[k]'(by rw [HZ.out]; exact h) = s[k] := rfl
            rw [h3] at h2
            simp only [Tk.digit, Bool.and_eq_true, decide_eq_true_eq] at h2
            omega
          cases h5 : Tk.ggo 0 s.data.toList
          all_goals
            have H5 := Lib.hid h5
            go_wp2_with (go_at_call 157; refine (rgreat_any s _ hs hd).mono ?_; rintro e w2 ⟨rfl, rfl⟩; rw [H5.out])
            go_ret
            exact ⟨ret_int (by rw [HV.out, HR.out, H5.out]; rfl), HBW.out⟩
  · have H0 : Hid ((s.data.toList == []) = true) := by unfold Hid; rw [← HL.out]; exact h0
    have hl : s.toList = [] := by simpa using h0
    have := list_of_bytes hl; subst this
    clear h0 hl
    go_enter Tryz.func116, Tryz.ntmps116
    go_wp2_with fail
    go_loop [4, 6] (fun b' i' => b' = .bool false ∧ i' = .int .i64 0) (fun _ _ => 0)
    case atStart => exact ⟨rfl, by go_num⟩
    case round =>
      obtain ⟨rfl, rfl⟩ := hrel
      go_wp2_with fail
      go_ret
      exact ⟨rfl, HBW.out⟩
end Go.Proofs.YtgmfhcnhpkeapaaGreatDoor
