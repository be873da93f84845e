import Derived.Test.YtnkmefnbhfghgaaGreatDoorA24
set_option linter.unusedSimpArgs false
set_option linter.unusedVariables false
namespace Go.Proofs.YtnkmefnbhfghgaaGreatDoor
open Go.RowKit

set_option maxRecDepth 100000 in
set_option maxHeartbeats 2000000 in
theorem escape_any (s : ByteArray) (w : World) (hs : s.size ≤ 65536) :
    Calls Tryz.prog 83 #[.string s] w fun e w' => e = .returned (.string ⟨(Tk.esc s.data.toList).toArray⟩) ∧ Below w.heap.size w w' := by
  go_enter Tryz.func83, Tryz.ntmps83
  go_wp2_with fail
  go_loopw [3, 7] (fun v i wr => ∃ (k : Nat), i = .int .i64 k ∧ k ≤ s.size ∧ wr.ownsRow w.heap.size 5 1 v ((s.data.toList.take k).flatMap Tk.escOne).length (Tk.cells ((s.data.toList.take k).flatMap Tk.escOne)) ∧ Below w.heap.size w wr) (fun _ i _ => s.size - (intOf i).toNat)
  case atStart => exact ⟨0, by go_num, by omega, World.ownsRow_nil _ _ _ _, Below.refl _ _⟩
  case round =>
    obtain ⟨k, rfl, hk, hown, hB⟩ := hrel
    have hbz := hB.size
    have hfl := flat_le escOne_le (s.data.toList.take k)
    have htl : (s.data.toList.take k).length ≤ k := List.length_take_le _ _
    by_cases hlt : k < s.size
    · have htk := take_succ s k hlt
      have HTK := Lib.hid htk; clear htk
      by_cases h10 : s[k] = 10
      · have e1 : ((s[k].toNat : Int) == 10) = true := byte_is (d := 10) h10
        have HQ : Hid (Tk.escOne s[k] = [92, 110]) := by unfold Hid Tk.escOne; rw [if_pos h10]
        clear h10
        go_wp2_with (at_builtin; refine app_bytes rfl (.tmp 21) (.tmp 22) rfl w.heap.size _ _ rfl (hown.alloc _) ⟨wr.heap.size, 0, none⟩ 2 [92, 110] rfl (cells_new _ _ _) (by simp only [List.length_cons, List.length_nil]; omega) (by simp; omega) ?_; intro v' w4 hown' hgrow; have hB4 := (hB.alloc hbz (.cells #[.int .u8 92, .int .u8 110] 5)).grown hgrow (by simp; omega) (fun q e => (hown.lt q e).1))
        go_roundw
        case rel => exact ⟨k + 1, by go_num, by omega, (by rw [HTK.out, List.flatMap_append, List.flatMap_singleton, HQ.out]; exact hown'), hB4⟩
        case measure => simp [intOf]; omega
      have e1 : ((s[k].toNat : Int) == 10) = false := byte_ne (d := 10) h10
      by_cases h9 : s[k] = 9
      · have e2 : ((s[k].toNat : Int) == 9) = true := byte_is (d := 9) h9
        have HQ : Hid (Tk.escOne s[k] = [92, 116]) := by unfold Hid Tk.escOne; rw [if_neg h10, if_pos h9]
        clear h10 h9
        go_wp2_with (at_builtin; refine app_bytes rfl (.tmp 26) (.tmp 27) rfl w.heap.size _ _ rfl (hown.alloc _) ⟨wr.heap.size, 0, none⟩ 2 [92, 116] rfl (cells_new _ _ _) (by simp only [List.length_cons, List.length_nil]; omega) (by simp; omega) ?_; intro v' w4 hown' hgrow; have hB4 := (hB.alloc hbz (.cells #[.int .u8 92, .int .u8 116] 5)).grown hgrow (by simp; omega) (fun q e => (hown.lt q e).1))
        go_roundw
        case rel => exact ⟨k + 1, by go_num, by omega, (by rw [HTK.out, List.flatMap_append, List.flatMap_singleton, HQ.out]; exact hown'), hB4⟩
        case measure => simp [intOf]; omega
      have e2 : ((s[k].toNat : Int) == 9) = false := byte_ne (d := 9) h9
      by_cases h92 : s[k] = 92
      · have e3 : ((s[k].toNat : Int) == 92) = true := byte_is (d := 92) h92
        have HQ : Hid (Tk.escOne s[k] = [92, s[k]]) := by unfold Hid Tk.escOne; rw [if_neg h10, if_neg h9, if_pos (.inl h92)]
        clear h10 h9 h92
        go_wp2_with (at_builtin; refine app_bytes rfl (.tmp 32) (.tmp 36) rfl w.heap.size _ _ rfl (hown.alloc _) ⟨wr.heap.size, 0, none⟩ 2 [92, s[k]] rfl (cells_new _ _ _) (by simp only [List.length_cons, List.length_nil]; omega) (by simp; omega) ?_; intro v' w4 hown' hgrow; have hB4 := (hB.alloc hbz (.cells #[.int .u8 92, .int .u8 (s[k].toNat : Int)] 5)).grown hgrow (by simp; omega) (fun q e => (hown.lt q e).1))
        go_roundw
        case rel => exact ⟨k + 1, by go_num, by omega, (by rw [HTK.out, List.flatMap_append, List.flatMap_singleton, HQ.out]; exact hown'), hB4⟩
        case measure => simp [intOf]; omega
      have e3 : ((s[k].toNat : Int) == 92) = false := byte_ne (d := 92) h92
      by_cases h34 : s[k] = 34
      · have e4 : ((s[k].toNat : Int) == 34) = true := byte_is (d := 34) h34
        have HQ : Hid (Tk.escOne s[k] = [92, s[k]]) := by unfold Hid Tk.escOne; rw [if_neg h10, if_neg h9, if_pos (.inr h34)]
        clear h10 h9 h92 h34
        go_wp2_with (at_builtin; refine app_bytes rfl (.tmp 32) (.tmp 36) rfl w.heap.size _ _ rfl (hown.alloc _) ⟨wr.heap.size, 0, none⟩ 2 [92, s[k]] rfl (cells_new _ _ _) (by simp only [List.length_cons, List.length_nil]; omega) (by simp; omega) ?_; intro v' w4 hown' hgrow; have hB4 := (hB.alloc hbz (.cells #[.int .u8 92, .int .u8 (s[k].toNat : Int)] 5)).grown hgrow (by simp; omega) (fun q e => (hown.lt q e).1))
        go_roundw
        case rel => exact ⟨k + 1, by go_num, by omega, (by rw [HTK.out, List.flatMap_append, List.flatMap_singleton, HQ.out]; exact hown'), hB4⟩
        case measure => simp [intOf]; omega
      have e4 : ((s[k].toNat : Int) == 34) = false := byte_ne (d := 34) h34
      have HQ : Hid (Tk.escOne s[k] = [s[k]]) := by unfold Hid Tk.escOne; rw [if_neg h10, if_neg h9, if_neg (fun e => e.elim h92 h34)]
      clear h10 h9 h92 h34
      go_wp2_with (at_builtin; refine app_bytes rfl (.tmp 13) (.tmp 17) rfl w.heap.size _ _ rfl (hown.alloc _) ⟨wr.heap.size, 0, none⟩ 1 [s[k]] rfl (cells_new _ _ _) (by simp only [List.length_cons, List.length_nil]; omega) (by simp; omega) ?_; intro v' w4 hown' hgrow; have hB4 := (hB.alloc hbz (.cells #[.int .u8 (s[k].toNat : Int)] 5)).grown hgrow (by simp; omega) (fun q e => (hown.lt q e).1))
      go_roundw
      case rel => exact ⟨k + 1, by go_num, by omega, (by rw [HTK.out, List.flatMap_append, List.flatMap_singleton, HQ.out]; exact hown'), hB4⟩
      case measure => simp [intOf]; omega
    · have hall : s.data.toList.take k = s.data.toList := List.take_of_length_le (by rw [size_data]; omega)
      rw [hall] at hown hfl
      go_wp2_with fail
      rw [conv_row hown]
      go_wp2_with fail
      go_ret
      exact ⟨rfl, hB⟩

theorem str_app (a b : List UInt8) : (⟨a.toArray⟩ : ByteArray) ++ ⟨b.toArray⟩ = ⟨(a ++ b).toArray⟩ := by
  apply Go.WideShapes.bytes_inj
  simp
theorem esc_len (l : List UInt8) : (Tk.esc l).length ≤ 2 * l.length := flat_le escOne_le l
theorem ret_str {a b : ByteArray} (h : a = b) : Ending.returned (.string a) = .returned (.string b) := by rw [h]
/-- The bracket of arguments. -/
def Tk.isArg (k : Int) (l : List UInt8) : Bool := k == 6 && l == [40, 40]
set_option maxRecDepth 100000 in
theorem isArguments_any (k : Int) (s : ByteArray) (a : Int) (w : World) :
    Calls Tryz.prog 81 #[.agg #[.int .i64 k, .string s, .int .i64 a]] w fun e w' => e = .returned (.bool (Tk.isArg k s.data.toList)) ∧ Below w.heap.size w w' := by
  have HL := Lib.hid (Go.ByteArray.toList_eq s)
  cases hk : (k == 6)
  all_goals
    go_enter Tryz.func81, Tryz.ntmps81
    go_wp2
    go_ret
    exact ⟨ret_bool (by simp [Tk.isArg, hk, ← HL.out]), (Below.refl _ _).alloc (Nat.le_refl _) _⟩
def Tk.isBangPairTok (k : Int) (l : List UInt8) : Bool := k == 1 && Tk.bangPair l

/-- How a token is written. -/
def Tk.written (k : Int) (l : List UInt8) (bare : Bool) : List UInt8 :=
  if k == 1 && !bare then Tk.name l
  else if k == 4 && l == [34] then [48, 39, 34]
  else if k == 4 then [48, 39] ++ Tk.esc l
  else if k == 5 then [34] ++ Tk.esc l ++ [34]
  else if Tk.isArg k l then [40]
  else l
set_option maxRecDepth 100000 in
set_option maxHeartbeats 1000000 in
theorem written_name (s : ByteArray) (a : Int) (w : World) (hs : s.size ≤ 65536) :
    Calls Tryz.prog 37 #[.agg #[.int .i64 1, .string s, .int .i64 a], .bool false] w fun e w' => e = .returned (.string ⟨(Tk.written 1 s.data.toList false).toArray⟩) ∧ Below w.heap.size w w' := by
  go_enter Tryz.func37, Tryz.ntmps37
  go_wp2_with (go_at_call 12; refine (name_any s _ hs).mono ?_; rintro e w' ⟨rfl, hB⟩)
  go_ret
  exact ⟨rfl, ((Below.refl w.heap.size w).alloc (Nat.le_refl _) _).trans (hB.mono (by simp))⟩
set_option maxRecDepth 100000 in
set_option maxHeartbeats 1000000 in
theorem written_char (s : ByteArray) (a : Int) (b : Bool) (w : World) (hs : s.size ≤ 65536) :
    Calls Tryz.prog 37 #[.agg #[.int .i64 4, .string s, .int .i64 a], .bool b] w fun e w' => e = .returned (.string ⟨(Tk.written 4 s.data.toList b).toArray⟩) ∧ Below w.heap.size w w' := by
  have HL := Lib.hid (Go.ByteArray.toList_eq s)
  have hT := Blk.new w 32 #[.int .i64 4, .string s, .int .i64 a]
  cases hq : (s.toList == [34])
  · have hw : Tk.written 4 s.data.toList b = [48, 39] ++ Tk.esc s.data.toList := by
      rw [Tk.written, show ((4 : Int) == 1) = false from rfl, show ((4 : Int) == 4) = true from rfl, ← HL.out, hq]; rfl
    have HW := Lib.hid hw; clear hw
    have hq2 : ¬ s.toList = [34] := by simpa using hq
    have hes : ¬ 9223372036854775807 < 2 + (Tk.esc s.data.toList).length := by have := esc_len s.data.toList; rw [size_data] at this; omega
    go_enter Tryz.func37, Tryz.ntmps37
    go_wp2_with (go_at_call 83; refine (escape_any s _ hs).mono ?_; rintro e w' ⟨rfl, hB⟩)
    go_ret
    rw [HW.out]
    exact ⟨ret_str (str_app [48, 39] _), ((Below.refl w.heap.size w).alloc (Nat.le_refl _) _).trans (hB.mono (by simp))⟩
  · have hw : Tk.written 4 s.data.toList b = [48, 39, 34] := by
      rw [Tk.written, show ((4 : Int) == 1) = false from rfl, show ((4 : Int) == 4) = true from rfl, ← HL.out, hq]; rfl
    have HW := Lib.hid hw; clear hw
    have hq2 : s.toList = [34] := by simpa using hq
    go_enter Tryz.func37, Tryz.ntmps37
    go_wp2_with fail
    go_ret
    rw [HW.out]
    exact ⟨rfl, (Below.refl _ _).alloc (Nat.le_refl _) _⟩
set_option maxRecDepth 100000 in
set_option maxHeartbeats 1000000 in
theorem written_text (s : ByteArray) (a : Int) (b : Bool) (w : World) (hs : s.size ≤ 65536) :
    Calls Tryz.prog 37 #[.agg #[.int .i64 5, .string s, .int .i64 a], .bool b] w fun e w' => e = .returned (.string ⟨(Tk.written 5 s.data.toList b).toArray⟩) ∧ Below w.heap.size w w' := by
  have hw : Tk.written 5 s.data.toList b = [34] ++ Tk.esc s.data.toList ++ [34] := rfl
  have HW := Lib.hid hw; clear hw
  have hl := esc_len s.data.toList
  rw [size_data] at hl
  have hes : ¬ 9223372036854775807 < 1 + (Tk.esc s.data.toList).length := by omega
  have hes2 : ¬ 9223372036854775807 < 1 + (Tk.esc s.data.toList).length + 1 := by omega
  go_enter Tryz.func37, Tryz.ntmps37
  go_wp2_with (go_at_call 83; refine (escape_any s _ hs).mono ?_; rintro e w' ⟨rfl, hB⟩)
  all_goals go_ret
  rw [HW.out]
  exact ⟨ret_str (by rw [show (⟨#[34]⟩ : ByteArray) = ⟨([34] : List UInt8).toArray⟩ from rfl, str_app, str_app]), ((Below.refl w.heap.size w).alloc (Nat.le_refl _) _).trans (hB.mono (by simp))⟩

set_option maxRecDepth 100000 in
set_option maxHeartbeats 1000000 in
theorem written_arg (s : ByteArray) (a : Int) (b : Bool) (w : World) (hq : s.data.toList = [40, 40]) :
    Calls Tryz.prog 37 #[.agg #[.int .i64 6, .string s, .int .i64 a], .bool b] w fun e w' => e = .returned (.string ⟨#[40]⟩) ∧ Below w.heap.size w w' := by
  have hT := Blk.new w 32 #[.int .i64 6, .string s, .int .i64 a]
  have ha : Tk.isArg 6 s.data.toList = true := by rw [hq]; rfl
  have HA := Lib.hid ha; clear ha hq
  go_enter Tryz.func37, Tryz.ntmps37
  go_wp2_with (go_at_call 81; refine (isArguments_any 6 s a _).mono ?_; rintro e w' ⟨rfl, hB⟩; rw [HA.out])
  go_ret
  exact ⟨rfl, ((Below.refl w.heap.size w).alloc (Nat.le_refl _) _).trans (hB.mono (by simp))⟩

set_option maxRecDepth 100000 in
set_option maxHeartbeats 1000000 in
theorem written_else (k : Int) (s : ByteArray) (a : Int) (b : Bool) (w : World) (h1 : (k == 1 && !b) = false) (h4 : (k == 4) = false) (h5 : (k == 5) = false) (ha : Tk.isArg k s.data.toList = false) :
    Calls Tryz.prog 37 #[.agg #[.int .i64 k, .string s, .int .i64 a], .bool b] w fun e w' => e = .returned (.string s) ∧ Below w.heap.size w w' := by
  have hT := Blk.new w 32 #[.int .i64 k, .string s, .int .i64 a]
  have HA := Lib.hid ha; clear ha
  have H1 := Lib.hid h1; clear h1
  cases hk : (k == 1) <;> cases b
  case true.false => rw [hk] at H1; exact absurd H1.out (by decide)
  all_goals
    clear H1
    go_enter Tryz.func37, Tryz.ntmps37
    go_wp2_with (go_at_call 81; refine (isArguments_any k s a _).mono ?_; rintro e w2 ⟨rfl, hB⟩; rw [HA.out]; have hT2 := hT.below hB hT.lt; have hc1 : w2.cell? ⟨w.heap.size, 1, none⟩ = some (.string s) := by simpa using hT2.cell 1)
    go_ret
    exact ⟨rfl, ((Below.refl w.heap.size w).alloc (Nat.le_refl _) _).trans (hB.mono (by simp))⟩

theorem written_any (k : Int) (s : ByteArray) (a : Int) (b : Bool) (w : World) (hs : s.size ≤ 65536) :
    Calls Tryz.prog 37 #[.agg #[.int .i64 k, .string s, .int .i64 a], .bool b] w fun e w' => e = .returned (.string ⟨(Tk.written k s.data.toList b).toArray⟩) ∧ Below w.heap.size w w' := by
  by_cases h1 : k = 1 ∧ b = false
  · obtain ⟨rfl, rfl⟩ := h1
    exact written_name s a w hs
  have e1 : (k == 1 && !b) = false := by
    cases b
    · have : k ≠ 1 := fun e => h1 ⟨e, rfl⟩
      simp [this]
    · simp
  by_cases h4 : k = 4
  · subst h4; exact written_char s a b w hs
  by_cases h5 : k = 5
  · subst h5; exact written_text s a b w hs
  have e4 : (k == 4) = false := by simpa using h4
  have e5 : (k == 5) = false := by simpa using h5
  cases ha : Tk.isArg k s.data.toList
  · rw [show Tk.written k s.data.toList b = s.data.toList from by simp only [Tk.written, e1, e4, e5, ha, Bool.false_and]; rfl]
    exact written_else k s a b w e1 e4 e5 ha
  · have hk : k = 6 ∧ s.data.toList = [40, 40] := by simpa [Tk.isArg] using ha
    obtain ⟨rfl, hq⟩ := hk
    rw [show Tk.written 6 s.data.toList b = [40] from by rw [hq]; rfl]
    exact written_arg s a b w hq
end Go.Proofs.YtnkmefnbhfghgaaGreatDoor
