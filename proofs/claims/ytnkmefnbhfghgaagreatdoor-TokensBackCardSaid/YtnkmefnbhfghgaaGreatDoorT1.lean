import Derived.Test.YtnkmefnbhfghgaaGreatDoorS5
import Derived.Test.YtnkmefnbhfghgaaGreatDoorA30
import Derived.Deep.QuietTactic
import Derived.BigQuiet
set_option linter.unusedSimpArgs false
set_option linter.unusedVariables false
namespace Go.Proofs.YtnkmefnbhfghgaaGreatDoor
open Go.RowKit

/-- Whether the law looks at tokens. -/
def Tk.lngGo : Nat → Nat → List Tk.T → Bool
  | _, _, [] => false
  | i, n, t :: r => if 2000 < n + t.2.1.length then true else if 300 < i then true else Tk.lngGo (i + 1) (n + t.2.1.length) r
def Tk.lng (ts : List Tk.T) : Bool := Tk.lngGo 0 0 ts
theorem Tk.lngGo_at {ts : List Tk.T} {i n k : Nat} (h : k < ts.length) : Tk.lngGo i n (ts.drop k) = if 2000 < n + (Tk.at_ ts k).2.1.length then true else if 300 < i then true else Tk.lngGo (i + 1) (n + (Tk.at_ ts k).2.1.length) (ts.drop (k + 1)) := by
  rw [List.drop_eq_getElem_cons h, Tk.lngGo, Tk.at_eq h]
theorem Tk.lngGo_small : ∀ (ts : List Tk.T) (i n : Nat), i ≤ 301 → Tk.lngGo i n ts = false → i + ts.length ≤ 301 ∧ ∀ t ∈ ts, t.2.1.length ≤ 2000
  | [], i, n, hi, _ => ⟨by simpa using hi, fun t ht => by cases ht⟩
  | a :: r, i, n, hi, h => by
    rw [Tk.lngGo] at h
    split at h
    · cases h
    · split at h
      · cases h
      · obtain ⟨h1, h2⟩ := Tk.lngGo_small r (i + 1) _ (by omega) h
        refine ⟨by simp; omega, fun t ht => ?_⟩
        rcases List.mem_cons.1 ht with rfl | ht
        · omega
        · exact h2 t ht
set_option maxRecDepth 100000 in
set_option maxHeartbeats 1000000 in
theorem long_any (v : Value) (ts : List Tk.T) {pl : Nat → Int} (B : Nat) (w : World) (hn : ts.length ≤ 9223372036854775807) (hsz : ∀ t ∈ ts, t.2.1.length ≤ 4611686018427387904) (hT : TR w B v ts pl) :
    Calls Tryz.prog 14 #[v] w fun e w' => e = .returned (.bool (Tk.lng ts)) ∧ w = w' := by
  have HSZ := Lib.hid hsz; clear hsz
  have HT := Lib.hid hT
  obtain ⟨A, cap, rfl, hcap, hi⟩ := hT
  have HI := Lib.hid hi; clear hi
  go_enter Tryz.func14, Tryz.ntmps14
  go_wp2_with fail
  go_loop [3, 4] (fun n' i' => ∃ n k : Nat, k ≤ ts.length ∧ k ≤ 301 ∧ n ≤ 2000 ∧ n' = .int .i64 n ∧ i' = .int .i64 k ∧ Hid (Tk.lng ts = Tk.lngGo k n (ts.drop k))) (fun _ i' => ts.length - (intOf i').toNat)
  case atStart => exact ⟨0, 0, by omega, by omega, by omega, by go_num, by go_num, Lib.hid rfl⟩
  case round =>
    obtain ⟨n, k, hk, hk3, hn2, rfl, rfl, hr⟩ := hrel
    by_cases hlt : k < ts.length
    · obtain ⟨g, o, cap', hv', hcap', hg, c0, c1, c2⟩ := HT.out.readp hlt
      obtain ⟨rfl, _, rfl⟩ := slice_inj hv'
      clear hv'
      have hl := HSZ.out _ (List.getElem_mem hlt)
      rw [← Tk.at_eq hlt] at hl
      have hgo := Tk.lngGo_at (i := k) (n := n) hlt
      have HGO := Lib.hid hgo; clear hgo
      obtain ⟨x, hx⟩ : ∃ x, (Tk.at_ ts k).2.1 = x := ⟨_, rfl⟩
      rw [hx] at c1 hl
      have HX := Lib.hid hx; clear hx
      have HXS : Hid ((⟨x.toArray⟩ : ByteArray).size = x.length) := Lib.hid (by simp [ByteArray.size])
      by_cases h1 : 2000 < n + x.length
      · go_wp2_with fail
        all_goals
          go_ret
          exact ⟨ret_bool (by rw [hr.out, HGO.out, HX.out, if_pos h1]), rfl⟩
      · by_cases h2 : 300 < k
        · go_wp2_with fail
          all_goals
            go_ret
            exact ⟨ret_bool (by rw [hr.out, HGO.out, HX.out, if_neg h1, if_pos h2]), rfl⟩
        · go_wp2_with fail
          all_goals
            go_round
            case rel => exact ⟨n + x.length, k + 1, by omega, by omega, by omega, by go_num, by go_num, Lib.hid (by rw [hr.out, HGO.out, HX.out, if_neg h1, if_neg h2])⟩
            case measure => simp [intOf]; omega
    · go_wp2_with fail
      go_ret
      exact ⟨ret_bool (by rw [hr.out, List.drop_of_length_le (by omega)]; rfl), rfl⟩
end Go.Proofs.YtnkmefnbhfghgaaGreatDoor
