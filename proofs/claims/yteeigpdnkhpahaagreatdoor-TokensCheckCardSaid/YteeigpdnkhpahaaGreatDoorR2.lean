import Derived.Test.YteeigpdnkhpahaaGreatDoorR1
import Derived.Test.YteeigpdnkhpahaaGreatDoorA8
namespace Go.Proofs.YteeigpdnkhpahaaGreatDoor
open Go.RowKit

theorem Tk.bt_end {l : List UInt8} {i : Nat} (h : l.length ≤ i) : Tk.bt l i = 0 := by
  unfold Tk.bt
  rw [List.getD_eq_getElem?_getD, List.getElem?_eq_none h]; rfl

set_option maxRecDepth 100000 in
set_option maxHeartbeats 400000 in
theorem rat_any (s : ByteArray) (g i : Nat) (w : World) (hs : s.size ≤ 4611686018427387904) (hi : i ≤ 4611686018427387904) (hc : w.cell? ⟨g, 0, none⟩ = some (.string s)) :
    Calls Tryz.prog 99 #[.pointer (some ⟨g, 0, none⟩), .int .i64 i] w fun e w' => e = .returned (.int .u8 (Tk.bt s.data.toList i)) ∧ w = w' := by
  have HZ := Lib.hid (size_data s)
  by_cases hlt : i < s.size
  · have HB := Lib.hid (Tk.bt_of s i hlt)
    go_enter Tryz.func99, Tryz.ntmps99
    go_wp2_with fail
    go_ret
    exact ⟨ret_int HB.out, rfl⟩
  · have hb : Tk.bt s.data.toList i = 0 := Tk.bt_end (by rw [HZ.out]; omega)
    have HB := Lib.hid hb; clear hb
    go_enter Tryz.func99, Tryz.ntmps99
    go_wp2_with fail
    go_ret
    exact ⟨ret_int HB.out.symm, rfl⟩

set_option maxRecDepth 100000 in
set_option maxHeartbeats 400000 in
theorem rrun_any (s : ByteArray) (g i : Nat) (w : World) (hs : s.size ≤ 4611686018427387904) (hi : i ≤ s.size) (hc : w.cell? ⟨g, 0, none⟩ = some (.string s)) :
    Calls Tryz.prog 103 #[.pointer (some ⟨g, 0, none⟩), .int .i64 i] w fun e w' => e = .returned (.int .i64 (Tk.run Tk.inWord s.data.toList i)) ∧ w = w' := by
  have hz := size_data s
  have HZ := Lib.hid hz; clear hz
  go_enter Tryz.func103, Tryz.ntmps103
  go_wp2_with fail
  go_loop [1] (fun i' => ∃ k : Nat, i ≤ k ∧ k ≤ s.size ∧ i' = .int .i64 k ∧ Hid (Tk.run Tk.inWord s.data.toList i = Tk.run Tk.inWord s.data.toList k)) (fun i' => s.size - (intOf i').toNat)
  case atStart => exact ⟨i, Nat.le_refl _, hi, rfl, Lib.hid rfl⟩
  case round =>
    obtain ⟨k, hik, hk, rfl, hr⟩ := hrel
    by_cases hlt : k < s.size
    · have hb := Tk.bt_of s k hlt
      have HB := Lib.hid hb; clear hb
      cases hp : Tk.inWord (Tk.bt s.data.toList k)
      · go_wp2_with fail
        refine (rat_any s g k _ hs (by omega) hc).mono ?_; rintro e w' ⟨rfl, rfl⟩
        go_wp2_with fail
        refine (rword_any _ _).mono ?_; rintro e w' ⟨rfl, rfl⟩
        rw [hp]
        go_wp2_with fail
        go_ret
        exact ⟨ret_int (by rw [hr.out, Tk.run_no (by rw [HZ.out]; exact hlt) hp]), rfl⟩
      · go_wp2_with fail
        refine (rat_any s g k _ hs (by omega) hc).mono ?_; rintro e w' ⟨rfl, rfl⟩
        go_wp2_with fail
        refine (rword_any _ _).mono ?_; rintro e w' ⟨rfl, rfl⟩
        rw [hp]
        go_wp2_with fail
        go_round
        case rel => exact ⟨k + 1, by omega, by omega, by go_num, Lib.hid (by rw [hr.out, Tk.run_yes (by rw [HZ.out]; exact hlt) hp])⟩
        case measure => simp [intOf]; omega
    · have hb : Tk.bt s.data.toList k = 0 := Tk.bt_end (by rw [HZ.out]; omega)
      go_wp2_with fail
      refine (rat_any s g k _ hs (by omega) hc).mono ?_; rintro e w' ⟨rfl, rfl⟩
      rw [hb]
      go_wp2_with fail
      refine (rword_any _ _).mono ?_; rintro e w' ⟨rfl, rfl⟩
      rw [show Tk.inWord 0 = false from by decide]
      go_wp2_with fail
      go_ret
      exact ⟨ret_int (by rw [hr.out, Tk.run_end (by rw [HZ.out]; omega)]), rfl⟩
end Go.Proofs.YteeigpdnkhpahaaGreatDoor
