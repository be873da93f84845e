import Derived.Test.YtnkmefnbhfghgaaGreatDoorT4
import Derived.Test.YtnkmefnbhfghgaaGreatDoorT5
set_option linter.unusedSimpArgs false
set_option linter.unusedVariables false
namespace Go.Proofs.YtnkmefnbhfghgaaGreatDoor
open Go.RowKit

set_option maxRecDepth 100000 in
set_option maxHeartbeats 4000000 in
set_option maxRecDepth 100000 in
theorem law_back (v : Value) (ts : List Tk.T) {pl : Nat → Int} (w : World) (hn : ts.length ≤ 9223372036854775807) (hsz : ∀ t ∈ ts, t.2.1.length ≤ 4611686018427387904) (hT : TR w w.heap.size v ts pl) (hnil : ∀ n c, v = .slice none n c → c = 0) (hG : Glob w) :
    Calls Tryz.prog 5 #[v] w fun e w' => e = .returned (.bool true) ∧ Below w.heap.size w w' := by
  have hgl := hG.lt
  cases hlg : Tk.lng ts
  · obtain ⟨hn3, hs2⟩ := Tk.lngGo_small ts 0 0 (by omega) hlg
    have HLG := Lib.hid hlg; clear hlg
    have HS2 := Lib.hid hs2; clear hs2
    cases htx : Tk.text ts with
    | error c =>
      have hc : (c == 0) = false := text_bad htx
      have HTX := Lib.hid htx; clear htx
      go_enter Tryz.func5, Tryz.ntmps5
      go_wp2_with fail
      refine (long_any v ts w.heap.size _ hn hsz hT).mono ?_; rintro e w' ⟨rfl, rfl⟩; rw [HLG.out]
      clear hsz
      go_wp2_with fail
      refine (text_any v ts _ (by omega) (fun t ht => Nat.le_trans (HS2.out t ht) (by omega)) hT hG).mono ?_
      intro e w1 hp
      rw [HTX.out] at hp
      obtain ⟨rfl, hB⟩ := hp
      go_wp2_with fail
      refine (awake_any _ (hG.below hB hgl)).mono ?_; rintro e w2 ⟨rfl, hB2⟩
      go_wp2_with fail
      go_ret
      exact ⟨rfl, hB.trans (hB2.mono hB.size)⟩
    | ok s =>
      by_cases hm : Tk.endIdx ts < ts.length
      · exact law_back_in v ts w hn hsz hT hnil hG HLG.out s htx hm
      · exact law_back_all v ts w hn hsz hT hnil hG HLG.out s htx hm
  · have HLG := Lib.hid hlg; clear hlg
    go_enter Tryz.func5, Tryz.ntmps5
    go_wp2_with fail
    refine (long_any v ts w.heap.size _ hn hsz hT).mono ?_; rintro e w' ⟨rfl, rfl⟩; rw [HLG.out]
    clear hsz
    go_wp2_with fail
    refine (awake_any _ hG).mono ?_; rintro e w2 ⟨rfl, hB2⟩
    go_wp2_with fail
    go_ret
    exact ⟨rfl, hB2⟩
end Go.Proofs.YtnkmefnbhfghgaaGreatDoor
