import Derived.Test.YtnkmefnbhfghgaaDoorV3
set_option linter.unusedSimpArgs false
set_option linter.unusedVariables false
namespace Go.Proofs.YtnkmefnbhfghgaaDoor
open Go.RowKit

theorem law_blanks (s : ByteArray) (wh kd : Int) (w : World) (hm : s.size ≤ maxLen) (hG : Glob w) :
    Calls Tryd.prog 3 #[.string s, .int .i64 wh, .int .i64 kd] w fun e w' => e = .returned (.bool true) ∧ Below w.heap.size w w' := by
  cases hr : Tk.tokens s.data.toList with
  | error x => exact blanks_bad s wh kd w hm hG x hr
  | ok ts =>
    by_cases h4 : 400 < s.size
    · exact blanks_long s wh kd w hm hG ts hr h4
    · have hf := Tk.tokens_fine hr
      have hsz := hf.size
      rw [size_data] at hsz
      obtain ⟨i, hi, he⟩ := index_of wh ts.length hf.pos (by omega)
      by_cases h0 : 0 < i
      · exact blanks_next s wh kd w hG ts hr (by omega) i hi he h0
      · exact blanks_zero s wh kd w hG ts hr (by omega) i hi he h0
end Go.Proofs.YtnkmefnbhfghgaaDoor
