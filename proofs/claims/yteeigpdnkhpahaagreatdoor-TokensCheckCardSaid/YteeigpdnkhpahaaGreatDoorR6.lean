import Derived.Test.YteeigpdnkhpahaaGreatDoorR5
namespace Go.Proofs.YteeigpdnkhpahaaGreatDoor
open Go.RowKit

def Tk.rgo : Nat → List UInt8 → Bool
  | _, [] => false
  | n, c :: r => if 40 < (if (c.toNat : Int) == 46 then 0 else n + 1) then true else Tk.rgo (if (c.toNat : Int) == 46 then 0 else n + 1) r
def Tk.rlong (l : List UInt8) : Bool := if Tk.rplain l && Tk.small (Tk.bt l 0) then Tk.rgo 0 l else decide (40 < l.length)
theorem Tk.rgo_at {l : List UInt8} {n k : Nat} (h : k < l.length) : Tk.rgo n (l.drop k) = if 40 < (if Tk.bt l k == 46 then 0 else n + 1) then true else Tk.rgo (if Tk.bt l k == 46 then 0 else n + 1) (l.drop (k + 1)) := by
  unfold Tk.bt
  rw [getD_at h, List.drop_eq_getElem_cons h, Tk.rgo]

set_option maxRecDepth 100000 in
set_option maxHeartbeats 400000 in
theorem rlong_any (s : ByteArray) (w : World) (hs : s.size ≤ 4611686018427387904) :
    Calls Tryz.prog 52 #[.string s] w fun e w' => e = .returned (.bool (Tk.rlong s.data.toList)) ∧ Below w.heap.size w w' := by
  have HZ := Lib.hid (size_data s)
  cases hp : Tk.rplain s.data.toList
  · have hv : Tk.rlong s.data.toList = decide (40 < s.size) := by simp [Tk.rlong, hp]
    have HV := Lib.hid hv; clear hv
    have HP := Lib.hid hp; clear hp
    by_cases h40 : 40 < s.size
    all_goals
      go_enter Tryz.func52, Tryz.ntmps52
      go_wp2_with (go_at_call 47; refine (rplain_any s _ hs).mono ?_; rintro e w1 ⟨rfl, hB⟩; rw [HP.out])
      go_ret
      exact ⟨ret_bool (by rw [HV.out, Bool.eq_iff_iff]; simp <;> omega), hB⟩
  · have h0 : 0 < s.size := by
      refine Nat.pos_of_ne_zero fun h => ?_
      have : s.data.toList = [] := List.eq_nil_of_length_eq_zero (by rw [HZ.out]; exact h)
      rw [this] at hp
      revert hp; decide
    have HB0 := Lib.hid (Tk.bt_of s 0 h0)
    have HP := Lib.hid hp; clear hp
    cases h1 : Tk.small (Tk.bt s.data.toList 0)
    · have hv : Tk.rlong s.data.toList = decide (40 < s.size) := by simp [Tk.rlong, h1]
      have HV := Lib.hid hv; clear hv
      by_cases h40 : 40 < s.size
      all_goals
        go_enter Tryz.func52, Tryz.ntmps52
        go_wp2_with (first | (go_at_call 47; refine (rplain_any s _ hs).mono ?_; rintro e w1 ⟨rfl, hB⟩; rw [HP.out]) | (go_at_call 101; refine (rsmall_any _ _).mono ?_; rintro e w' ⟨rfl, rfl⟩; rw [HB0.out, h1]))
        go_ret
        exact ⟨ret_bool (by rw [HV.out, Bool.eq_iff_iff]; simp <;> omega), hB⟩
    · have hv : Tk.rlong s.data.toList = Tk.rgo 0 s.data.toList := by simp [Tk.rlong, HP.out, h1]
      rw [hv]
      clear hv
      go_enter Tryz.func52, Tryz.ntmps52
      go_wp2_with fail
      refine (rplain_any s _ hs).mono ?_; rintro e w1 ⟨rfl, hB⟩; rw [HP.out]
      go_wp2_with fail
      refine (rsmall_any _ _).mono ?_; rintro e w' ⟨rfl, rfl⟩; rw [HB0.out, h1]
      go_wp2_with fail
      have hb1 := hB.size
      go_loop [3, 4] (fun n' i' => ∃ n k : Nat, n ≤ 40 ∧ k ≤ s.size ∧ n' = .int .i64 n ∧ i' = .int .i64 k ∧ Hid (Tk.rgo 0 s.data.toList = Tk.rgo n (s.data.toList.drop k))) (fun _ i' => s.size - (intOf i').toNat)
      case atStart => exact ⟨0, 0, by omega, by omega, by go_num, by go_num, Lib.hid (by simp)⟩
      case round =>
        obtain ⟨n, k, hn, hk, rfl, rfl, hr⟩ := hrel
        by_cases hlt : k < s.size
        · have HB := Lib.hid (Tk.bt_of s k hlt)
          have HG := Lib.hid (Tk.rgo_at (n := n) (l := s.data.toList) (k := k) (by rw [HZ.out]; exact hlt))
          cases h46 : (s[k].toNat : Int) == 46
          · have H46 := Lib.hid h46
            by_cases h40 : 40 < n + 1
            · have e40 : decide ((40 : Int) < (n : Int) + 1) = true := decide_eq_true (by omega)
              go_wp2_with fail
              go_ret
              exact ⟨ret_bool (by rw [hr.out, HG.out, ← HB.out, H46.out]; simp; omega), hB⟩
            · have e40 : decide ((40 : Int) < (n : Int) + 1) = false := decide_eq_false (by omega)
              go_wp2_with fail
              go_round
              case rel => exact ⟨n + 1, k + 1, by omega, by omega, by go_num, by go_num, Lib.hid (by rw [hr.out, HG.out, ← HB.out, H46.out]; simp [h40])⟩
              case measure => simp [intOf]; omega
          · have H46 := Lib.hid h46
            go_wp2_with fail
            go_round
            case rel => exact ⟨0, k + 1, by omega, by omega, by go_num, by go_num, Lib.hid (by rw [hr.out, HG.out, ← HB.out, H46.out]; simp)⟩
            case measure => simp [intOf]; omega
        · go_wp2_with fail
          go_ret
          exact ⟨ret_bool (by rw [hr.out, List.drop_of_length_le (by rw [HZ.out]; omega)]; rfl), hB⟩
end Go.Proofs.YteeigpdnkhpahaaGreatDoor
