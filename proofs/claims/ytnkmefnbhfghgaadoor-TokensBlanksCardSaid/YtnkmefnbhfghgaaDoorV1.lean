import Derived.Test.YtnkmefnbhfghgaaDoorU6
import Derived.Test.YtnkmefnbhfghgaaDoorF1
import Derived.Deep.QuietTactic
import Derived.BigQuiet
set_option linter.unusedSimpArgs false
set_option linter.unusedVariables false
namespace Go.Proofs.YtnkmefnbhfghgaaDoor
open Go.RowKit

theorem tokens_bad {l : List UInt8} {x : Nat × Int} (h : Tk.tokens l = .error x) : x.2 ≠ 0 := by
  unfold Tk.tokens at h
  split at h
  · cases h; decide
  · rename_i hl
    exact Tk.toks_bad (by omega) h (Nat.zero_le _) (by omega)
set_option maxRecDepth 100000 in
set_option maxHeartbeats 4000000 in
theorem blanks_bad (s : ByteArray) (wh kd : Int) (w : World) (hm : s.size ≤ maxLen) (hG : Glob w) (x : Nat × Int) (hr : Tk.tokens s.data.toList = .error x) :
    Calls Tryd.prog 3 #[.string s, .int .i64 wh, .int .i64 kd] w fun e w' => e = .returned (.bool true) ∧ Below w.heap.size w w' := by
  unfold maxLen at hm
  have hgl := hG.lt
  have hb := tokens_bad hr
  have hb2 : (x.2 == 0) = false := beq_eq_false_iff_ne.2 hb
  have hb3 : (x.2 != 0) = true := bne_iff_ne.2 hb
  clear hb
  have HR := Lib.hid hr; clear hr
  by_cases h4 : 400 < s.size
  all_goals
    go_enter Tryd.func3, Tryd.ntmps3
    go_wp2_with fail
    refine (tokens_all s _ hG).mono ?_
    intro e w1 hp
    rw [HR.out] at hp
    obtain ⟨rfl, hB⟩ := hp
    unfold Tk.fauV
    have hB1 := hB.alloc hB.size (.cells #[.int .i64 x.1, .int .i64 x.2] 25)
    go_wp2_with fail
    refine (awake_any _ (hG.below hB1 hgl)).mono ?_; rintro e w2 ⟨rfl, hB2⟩
    go_wp2_with fail
    go_ret
    exact ⟨rfl, hB1.trans (hB2.mono hB1.size)⟩
set_option maxRecDepth 100000 in
set_option maxHeartbeats 4000000 in
theorem blanks_long (s : ByteArray) (wh kd : Int) (w : World) (hm : s.size ≤ maxLen) (hG : Glob w) (ts : List Tk.T) (hr : Tk.tokens s.data.toList = .ok ts) (h4 : 400 < s.size) :
    Calls Tryd.prog 3 #[.string s, .int .i64 wh, .int .i64 kd] w fun e w' => e = .returned (.bool true) ∧ Below w.heap.size w w' := by
  unfold maxLen at hm
  have hgl := hG.lt
  have HR := Lib.hid hr; clear hr
  go_enter Tryd.func3, Tryd.ntmps3
  go_wp2_with fail
  refine (tokens_all s _ hG).mono ?_
  intro e w1 hp
  rw [HR.out] at hp
  obtain ⟨v, rfl, hown, hB⟩ := hp
  unfold Tk.fauV
  have hB1 := hB.alloc hB.size (.cells #[.int .i64 0, .int .i64 0] 25)
  clear hown
  go_wp2_with fail
  refine (awake_any _ (hG.below hB1 hgl)).mono ?_; rintro e w2 ⟨rfl, hB2⟩
  go_wp2_with fail
  go_ret
  exact ⟨rfl, hB1.trans (hB2.mono hB1.size)⟩
end Go.Proofs.YtnkmefnbhfghgaaDoor
