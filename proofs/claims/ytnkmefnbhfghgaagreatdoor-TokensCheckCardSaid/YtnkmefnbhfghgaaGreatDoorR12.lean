import Derived.Test.YtnkmefnbhfghgaaGreatDoorP2
set_option linter.unusedSimpArgs false
set_option linter.unusedVariables false
namespace Go.Proofs.YtnkmefnbhfghgaaGreatDoor
open Go.RowKit

theorem take_sub (s : ByteArray) (k : Nat) (h : k < s.size) : s.extract k (k + 1) = ⟨#[s[k]]⟩ := by
  rw [sub_str]
  have : Tk.sub s.data.toList k (k + 1) = [s[k]] := by
    unfold Tk.sub
    rw [Nat.add_sub_cancel_left, List.drop_eq_getElem_cons (by simpa using h)]
    rfl
  rw [this]
theorem ret_bytes {a b : ByteArray} (h : a = b) : Ending.returned (.string a) = .returned (.string b) := by rw [h]
theorem ret_strL {a b : List UInt8} (h : a = b) : Ending.returned (.string ⟨a.toArray⟩) = .returned (.string ⟨b.toArray⟩) := by rw [h]
theorem val_strL {a b : List UInt8} (h : a = b) : Value.string ⟨a.toArray⟩ = .string ⟨b.toArray⟩ := by rw [h]

set_option maxRecDepth 100000 in
set_option maxHeartbeats 1000000 in
theorem rname_any (s : ByteArray) (w : World) (hs : s.size ≤ 65536) :
    Calls Tryz.prog 13 #[.string s] w fun e w' => e = .returned (.string ⟨(Tk.name s.data.toList).toArray⟩) ∧ Below w.heap.size w w' := by
  have HZ := Lib.hid (size_data s)
  cases hp : Tk.rplain s.data.toList
  · have hv : Tk.name s.data.toList = [39] ++ s.data.toList.flatMap Tk.quoteOne ++ [39] := by rw [Tk.name, ← Tk.plain_eq, hp]; rfl
    have HV := Lib.hid hv; clear hv
    have HP := Lib.hid hp; clear hp
    rw [HV.out]
    go_enter Tryz.func13, Tryz.ntmps13
    go_wp2_with (go_at_call 25; refine (rplain_any s _ (by omega)).mono ?_; rintro e w1 ⟨rfl, hB⟩; rw [HP.out])
    go_loop [3, 4] (fun v i => ∃ (k : Nat), i = .int .i64 k ∧ k ≤ s.size ∧ v = .string ⟨([39] ++ (s.data.toList.take k).flatMap Tk.quoteOne).toArray⟩) (fun _ i => s.size - (intOf i).toNat)
    case atStart => exact ⟨0, by go_num, by omega, rfl⟩
    case round =>
      obtain ⟨k, rfl, hk, rfl⟩ := hrel
      have hfl := flat_le quoteOne_le (s.data.toList.take k)
      have htl : (s.data.toList.take k).length ≤ k := List.length_take_le _ _
      have hlen : ([39] ++ (s.data.toList.take k).flatMap Tk.quoteOne).length ≤ 2 * k + 1 := by rw [List.length_append, List.length_singleton]; omega
      obtain ⟨acc, hacc⟩ : ∃ acc, [39] ++ (s.data.toList.take k).flatMap Tk.quoteOne = acc := ⟨_, rfl⟩
      rw [hacc] at hlen ⊢
      have HA := Lib.hid hacc; clear hacc hfl htl
      by_cases hlt : k < s.size
      · have htk := take_succ s k hlt
        have HTK := Lib.hid htk; clear htk
        have HTS := Lib.hid (take_sub s k hlt)
        by_cases hq : (s[k] = 92 ∨ s[k] = 39)
        · have HQ : Hid (Tk.quoteOne s[k] = [92] ++ [s[k]]) := if_pos hq
          have hkey : (((s[k].toNat : Int) == 92) || ((s[k].toNat : Int) == 39)) = true := by
            rcases hq with h | h
            · rw [show ((s[k].toNat : Int) == 92) = true from byte_is (d := 92) h]; rfl
            · rw [show ((s[k].toNat : Int) == 39) = true from byte_is (d := 39) h, Bool.or_true]
          cases h1 : ((s[k].toNat : Int) == 39)
          · have h2 : ((s[k].toNat : Int) == 92) = true := by rw [h1, Bool.or_false] at hkey; exact hkey
            clear hkey hq
            go_wp2_with fail
            go_round
            case rel => exact ⟨k + 1, by go_num, by omega, by rw [HTS.out]; exact val_strL (by rw [← HA.out, HTK.out, List.flatMap_append, List.flatMap_singleton, HQ.out]; simp)⟩
            case measure => simp [intOf]; omega
          · clear hkey hq
            go_wp2_with fail
            go_round
            case rel => exact ⟨k + 1, by go_num, by omega, by rw [HTS.out]; exact val_strL (by rw [← HA.out, HTK.out, List.flatMap_append, List.flatMap_singleton, HQ.out]; simp)⟩
            case measure => simp [intOf]; omega
        · have h1 : ((s[k].toNat : Int) == 92) = false := byte_ne (d := 92) (fun e => hq (.inl e))
          have h2 : ((s[k].toNat : Int) == 39) = false := byte_ne (d := 39) (fun e => hq (.inr e))
          have HQ : Hid (Tk.quoteOne s[k] = [s[k]]) := if_neg hq
          clear hq
          go_wp2_with fail
          go_round
          case rel => exact ⟨k + 1, by go_num, by omega, by rw [HTS.out]; exact val_strL (by rw [← HA.out, HTK.out, List.flatMap_append, List.flatMap_singleton, HQ.out]; simp)⟩
          case measure => simp [intOf]; omega
      · have hall : s.data.toList.take k = s.data.toList := List.take_of_length_le (by rw [size_data]; omega)
        have HALL := Lib.hid hall; clear hall
        go_wp2_with fail
        go_ret
        exact ⟨ret_strL (by rw [← HA.out, HALL.out]; simp), hB⟩
  · have hv : Tk.name s.data.toList = s.data.toList := by rw [Tk.name, ← Tk.plain_eq, hp]; rfl
    have HV := Lib.hid hv; clear hv
    have HP := Lib.hid hp; clear hp
    go_enter Tryz.func13, Tryz.ntmps13
    go_wp2_with (go_at_call 25; refine (rplain_any s _ (by omega)).mono ?_; rintro e w1 ⟨rfl, hB⟩; rw [HP.out])
    go_ret
    exact ⟨ret_bytes (by rw [HV.out]), hB⟩
end Go.Proofs.YtnkmefnbhfghgaaGreatDoor
