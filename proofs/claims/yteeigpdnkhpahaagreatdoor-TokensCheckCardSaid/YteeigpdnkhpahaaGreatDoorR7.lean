import Derived.Test.YteeigpdnkhpahaaGreatDoorR6
namespace Go.Proofs.YteeigpdnkhpahaaGreatDoor
open Go.RowKit

def Tk.ggo : Nat → List UInt8 → Bool
  | _, [] => false
  | n, c :: r => if (4611686018427387903 - (c.toNat - 48)) / 10 < n then true else Tk.ggo (10 * n + (c.toNat - 48)) r
theorem Tk.ggo_at {l : List UInt8} {n k : Nat} (h : k < l.length) : Tk.ggo n (l.drop k) = if (4611686018427387903 - (l[k].toNat - 48)) / 10 < n then true else Tk.ggo (10 * n + (l[k].toNat - 48)) (l.drop (k + 1)) := by
  rw [List.drop_eq_getElem_cons h, Tk.ggo]

set_option maxRecDepth 100000 in
set_option maxHeartbeats 400000 in
theorem rgreat_any (s : ByteArray) (w : World) (hs : s.size ≤ 4611686018427387904) (hd : ∀ (k : Nat) (h : k < s.size), 48 ≤ s[k].toNat ∧ s[k].toNat ≤ 57) :
    Calls Tryz.prog 53 #[.string s] w fun e w' => e = .returned (.bool (Tk.ggo 0 s.data.toList)) ∧ w = w' := by
  have HZ := Lib.hid (size_data s)
  have HD := Lib.hid hd; clear hd
  go_enter Tryz.func53, Tryz.ntmps53
  go_wp2_with fail
  go_loop [3, 4] (fun n' i' => ∃ n k : Nat, n ≤ 4611686018427387903 ∧ k ≤ s.size ∧ n' = .int .i64 n ∧ i' = .int .i64 k ∧ Hid (Tk.ggo 0 s.data.toList = Tk.ggo n (s.data.toList.drop k))) (fun _ i' => s.size - (intOf i').toNat)
  case atStart => exact ⟨0, 0, by omega, by omega, by go_num, by go_num, Lib.hid (by simp)⟩
  case round =>
    obtain ⟨n, k, hn, hk, rfl, rfl, hr⟩ := hrel
    by_cases hlt : k < s.size
    · have HG : Hid (Tk.ggo n (s.data.toList.drop k) = if (4611686018427387903 - (s[k].toNat - 48)) / 10 < n then true else Tk.ggo (10 * n + (s[k].toNat - 48)) (s.data.toList.drop (k + 1))) := Tk.ggo_at (by rw [HZ.out]; exact hlt)
      obtain ⟨hd1, hd2⟩ := HD.out k hlt
      by_cases hg : (4611686018427387903 - (s[k].toNat - 48)) / 10 < n
      · go_wp2_with fail
        go_ret
        exact ⟨ret_bool (by rw [hr.out, HG.out, if_pos hg]), rfl⟩
      · go_wp2_with fail
        go_round
        case rel => exact ⟨10 * n + (s[k].toNat - 48), k + 1, by omega, by omega, by congr 1; omega, by go_num, Lib.hid (by rw [hr.out, HG.out, if_neg hg])⟩
        case measure => simp [intOf]; omega
    · go_wp2_with fail
      go_ret
      exact ⟨ret_bool (by rw [hr.out, List.drop_of_length_le (by rw [HZ.out]; omega)]; rfl), rfl⟩
end Go.Proofs.YteeigpdnkhpahaaGreatDoor
