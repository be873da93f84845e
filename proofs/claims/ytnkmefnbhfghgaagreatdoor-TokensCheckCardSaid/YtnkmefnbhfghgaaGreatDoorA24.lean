import Derived.Test.YtnkmefnbhfghgaaGreatDoorA23
set_option linter.unusedSimpArgs false
set_option linter.unusedVariables false
namespace Go.Proofs.YtnkmefnbhfghgaaGreatDoor
open Go.RowKit

theorem tokens_all (s : ByteArray) (w : World) (hG : Glob w) :
    Calls Tryz.prog 7 #[.string s] w (Tk.TPost (Tk.tokens s.data.toList) w) := by
  unfold Tk.tokens
  rw [size_data]
  by_cases h : 65536 < s.size
  · rw [if_pos h]; exact tokens_long s w h
  · rw [if_neg h]; exact tokens_any s w (by omega) hG

theorem cells_app (a b : List UInt8) : Tk.cells (a ++ b) = Tk.cells a ++ Tk.cells b := by simp [Tk.cells]
theorem cells_len (a : List UInt8) : (Tk.cells a).length = a.length := by simp [Tk.cells]
theorem cells_one (a : List UInt8) : ∀ u ∈ Tk.cells a, u.oneCell' = true := by
  intro u hu
  obtain ⟨c, _, rfl⟩ := List.mem_map.1 hu
  rfl
/-- append of bytes onto bytes of the call's own. -/
theorem app_bytes {w : World} {ops : Array Oper} {rest : List Oper} {o : Oper} {a : Act} {Q : Exit → Act → World → Prop} (hgd : o.guard = none) (s x : Operand)
    (ho : o.op = .call { callee := .builtin .append, args := #[s, x], argTypes := #[52, 52] })
    (B : Nat) (v : Value) (acc : List UInt8) (hs : a.eval s = v) (hown : w.ownsRow B 5 1 v acc.length (Tk.cells acc))
    (ad : Addr) (c : Nat) (news : List UInt8) (hx : a.eval x = .slice (some ad) news.length c) (hnews : ∀ j u, (Tk.cells news)[j]? = some u → w.cell? (ad.add j) = some u)
    (hlen : acc.length + news.length ≤ 1000000) (hbase : B ≤ w.heap.size)
    (h : ∀ v' w', w'.ownsRow B 5 1 v' (acc ++ news).length (Tk.cells (acc ++ news)) → w.grownBy w' v.ownBlock → wpList Tryz.prog ops Q rest (a.put o.dst v') w') : wpList Tryz.prog ops Q (o :: rest) a w := by
  obtain ⟨i0, hi, hz0, hz1, hz2⟩ := info_parts info_byte
  refine wpList_append_own w hgd s x 52 ho B 5 i0 (.int .u8 0) 1 1 Tryz.underlying52 hi hz0 hz1 hz2 rfl (by decide) v acc.length (Tk.cells acc) hs hown ad news.length c (Tk.cells news) hx (by rw [cells_len]; omega) hnews (cells_one news) (by unfold maxLen; omega) (by omega) hbase ?_
  intro v' w' h1 h2 _
  exact h v' w' (by rw [List.length_append, cells_app]; exact h1) h2

theorem byte_ne {c d : UInt8} (h : c ≠ d) : ((c.toNat : Int) == (d.toNat : Int)) = false := by
  rw [beq_eq_false_iff_ne]
  intro e
  exact h (UInt8.toNat_inj.1 (by omega))
theorem byte_is {c d : UInt8} (h : c = d) : ((c.toNat : Int) == (d.toNat : Int)) = true := by rw [h, beq_iff_eq]
/-- How a name is written, as text. -/
def Tk.quoteOne (c : UInt8) : List UInt8 := if c = 92 ∨ c = 39 then [92, c] else [c]
def Tk.name (l : List UInt8) : List UInt8 := if Tk.bare l then l else [39] ++ l.flatMap Tk.quoteOne ++ [39]
def Tk.escOne (c : UInt8) : List UInt8 := if c = 10 then [92, 110] else if c = 9 then [92, 116] else if c = 92 ∨ c = 34 then [92, c] else [c]
def Tk.esc (l : List UInt8) : List UInt8 := l.flatMap Tk.escOne
theorem take_succ (s : ByteArray) (k : Nat) (h : k < s.size) : s.data.toList.take (k + 1) = s.data.toList.take k ++ [s[k]] := by
  rw [List.take_succ_eq_append_getElem (by simpa using h)]; rfl
theorem flat_le {f : UInt8 → List UInt8} (hf : ∀ c, (f c).length ≤ 2) : ∀ l : List UInt8, (l.flatMap f).length ≤ 2 * l.length
  | [] => by simp
  | c :: r => by
    have h1 := flat_le hf r
    have h2 := hf c
    simp only [List.flatMap_cons, List.length_append, List.length_cons]
    omega
theorem quoteOne_le (c : UInt8) : (Tk.quoteOne c).length ≤ 2 := by unfold Tk.quoteOne; split <;> simp
theorem escOne_le (c : UInt8) : (Tk.escOne c).length ≤ 2 := by unfold Tk.escOne; repeat' split
                                                               all_goals simp

set_option maxRecDepth 100000 in
set_option maxHeartbeats 1000000 in
theorem name_bare (s : ByteArray) (w : World) (hs : s.size ≤ 65536) (hb : Tk.bare s.data.toList = true) :
    Calls Tryz.prog 12 #[.string s] w fun e w' => e = .returned (.string s) ∧ Below w.heap.size w w' := by
  have HB := Lib.hid hb; clear hb
  go_enter Tryz.func12, Tryz.ntmps12
  go_wp2_with (go_at_call 32; refine (isBare_any s _ (by omega)).mono ?_; rintro e w' ⟨rfl, rfl⟩; rw [HB.out])
  go_ret
  exact ⟨rfl, Below.refl _ _⟩

set_option maxRecDepth 100000 in
set_option maxHeartbeats 2000000 in
theorem name_quoted (s : ByteArray) (w : World) (hs : s.size ≤ 65536) (hb : Tk.bare s.data.toList = false) :
    Calls Tryz.prog 12 #[.string s] w fun e w' => e = .returned (.string ⟨([39] ++ s.data.toList.flatMap Tk.quoteOne ++ [39]).toArray⟩) ∧ Below w.heap.size w w' := by
  have HB := Lib.hid hb; clear hb
  go_enter Tryz.func12, Tryz.ntmps12
  go_wp2_with (go_at_call 32; refine (isBare_any s _ (by omega)).mono ?_; rintro e w' ⟨rfl, rfl⟩; rw [HB.out])
  go_loopw [3, 11] (fun v i wr => ∃ (k : Nat), i = .int .i64 k ∧ k ≤ s.size ∧ wr.ownsRow w.heap.size 5 1 v ([39] ++ (s.data.toList.take k).flatMap Tk.quoteOne).length (Tk.cells ([39] ++ (s.data.toList.take k).flatMap Tk.quoteOne)) ∧ Below w.heap.size w wr) (fun _ i _ => s.size - (intOf i).toNat)
  case atStart =>
    refine ⟨0, by go_num, by omega, ⟨by simp [Tk.cells], .inr ⟨w.heap.size, 1, #[.int .u8 39], rfl, Nat.le_refl _, Blk.new w _ _, by simp, by unfold maxLen; omega, by simp, by simp [Tk.cells]⟩⟩, (Below.refl _ _).alloc (Nat.le_refl _) _⟩
  case round =>
    obtain ⟨k, rfl, hk, hown, hB⟩ := hrel
    have hbz := hB.size
    have hfl := flat_le quoteOne_le (s.data.toList.take k)
    have htl : (s.data.toList.take k).length ≤ k := List.length_take_le _ _
    by_cases hlt : k < s.size
    · have htk := take_succ s k hlt
      have HTK := Lib.hid htk; clear htk
      by_cases hq : (s[k] = 92 ∨ s[k] = 39)
      · have HQ : Hid (Tk.quoteOne s[k] = [92] ++ [s[k]]) := if_pos hq
        have hkey : (((s[k].toNat : Int) == 92) || ((s[k].toNat : Int) == 39)) = true := by
          rcases hq with h | h
          · rw [show ((s[k].toNat : Int) == 92) = true from byte_is (d := 92) h]; rfl
          · rw [show ((s[k].toNat : Int) == 39) = true from byte_is (d := 39) h, Bool.or_true]
        cases h1 : ((s[k].toNat : Int) == 92)
        · have h2 : ((s[k].toNat : Int) == 39) = true := by rw [h1] at hkey; exact hkey
          clear hkey hq
          go_wp2_with (first
            | (at_builtin; refine app_bytes rfl (.tmp 24) (.tmp 25) rfl w.heap.size _ _ rfl (hown.alloc _) ⟨wr.heap.size, 0, none⟩ 1 [92] rfl (cell_one_new _ _ _) (by simp only [List.length_append, List.length_cons, List.length_nil]; omega) (by simp; omega) ?_; intro v' w4 hown' hgrow; have hB4 := (hB.alloc hbz (.cells #[.int .u8 92] 5)).grown hgrow (by simp; omega) (fun q e => (hown.lt q e).1); have hbz4 := hB4.size; clear hgrow)
            | (at_builtin; refine app_bytes rfl (.tmp 27) (.tmp 31) rfl w.heap.size _ _ rfl (hown'.alloc _) ⟨w4.heap.size, 0, none⟩ 1 [s[k]] rfl (cell_one_new _ _ _) (by simp only [List.length_append, List.length_cons, List.length_nil]; omega) (by simp; omega) ?_; intro v6 w6 hown6 hgrow6; have hB6 := (hB4.alloc hbz4 (.cells #[.int .u8 (s[k].toNat : Int)] 5)).grown hgrow6 (by simp; omega) (fun q e => (hown'.lt q e).1)))
          go_roundw
          case rel => exact ⟨k + 1, by go_num, by omega, (by rw [HTK.out, List.flatMap_append, List.flatMap_singleton, HQ.out, ← List.append_assoc, ← List.append_assoc]; exact hown6), hB6⟩
          case measure => simp [intOf]; omega
        · clear hkey hq
          go_wp2_with (first
            | (at_builtin; refine app_bytes rfl (.tmp 24) (.tmp 25) rfl w.heap.size _ _ rfl (hown.alloc _) ⟨wr.heap.size, 0, none⟩ 1 [92] rfl (cell_one_new _ _ _) (by simp only [List.length_append, List.length_cons, List.length_nil]; omega) (by simp; omega) ?_; intro v' w4 hown' hgrow; have hB4 := (hB.alloc hbz (.cells #[.int .u8 92] 5)).grown hgrow (by simp; omega) (fun q e => (hown.lt q e).1); have hbz4 := hB4.size; clear hgrow)
            | (at_builtin; refine app_bytes rfl (.tmp 27) (.tmp 31) rfl w.heap.size _ _ rfl (hown'.alloc _) ⟨w4.heap.size, 0, none⟩ 1 [s[k]] rfl (cell_one_new _ _ _) (by simp only [List.length_append, List.length_cons, List.length_nil]; omega) (by simp; omega) ?_; intro v6 w6 hown6 hgrow6; have hB6 := (hB4.alloc hbz4 (.cells #[.int .u8 (s[k].toNat : Int)] 5)).grown hgrow6 (by simp; omega) (fun q e => (hown'.lt q e).1)))
          go_roundw
          case rel => exact ⟨k + 1, by go_num, by omega, (by rw [HTK.out, List.flatMap_append, List.flatMap_singleton, HQ.out, ← List.append_assoc, ← List.append_assoc]; exact hown6), hB6⟩
          case measure => simp [intOf]; omega
      · have h1 : ((s[k].toNat : Int) == 92) = false := byte_ne (d := 92) (fun e => hq (.inl e))
        have h2 : ((s[k].toNat : Int) == 39) = false := byte_ne (d := 39) (fun e => hq (.inr e))
        have HQ : Hid (Tk.quoteOne s[k] = [s[k]]) := if_neg hq
        clear hq
        go_wp2_with (at_builtin; refine app_bytes rfl _ _ rfl w.heap.size _ _ rfl (hown.alloc _) ⟨wr.heap.size, 0, none⟩ 1 [s[k]] rfl (cell_one_new _ _ _) (by simp only [List.length_append, List.length_cons, List.length_nil]; omega) (by simp; omega) ?_; intro v' w4 hown' hgrow; have hB4 := (hB.alloc hbz (.cells #[.int .u8 (s[k].toNat : Int)] 5)).grown hgrow (by simp; omega) (fun q e => (hown.lt q e).1))
        go_roundw
        case rel => exact ⟨k + 1, by go_num, by omega, (by rw [HTK.out, List.flatMap_append, List.flatMap_singleton, HQ.out, ← List.append_assoc]; exact hown'), hB4⟩
        case measure => simp [intOf]; omega
    · have hall : s.data.toList.take k = s.data.toList := List.take_of_length_le (by rw [size_data]; omega)
      rw [hall] at hown hfl
      have hl0 := size_data s
      go_wp2_with (at_builtin; refine app_bytes rfl _ _ rfl w.heap.size _ _ rfl (hown.alloc _) ⟨wr.heap.size, 0, none⟩ 1 [39] rfl (cell_one_new _ _ _) (by simp only [List.length_append, List.length_cons, List.length_nil]; omega) (by simp; omega) ?_; intro v' w4 hown' hgrow; have hB4 := (hB.alloc hbz (.cells #[.int .u8 39] 5)).grown hgrow (by simp; omega) (fun q e => (hown.lt q e).1))
      rw [conv_row hown']
      go_wp2_with fail
      go_ret
      exact ⟨rfl, hB4⟩

theorem name_any (s : ByteArray) (w : World) (hs : s.size ≤ 65536) :
    Calls Tryz.prog 12 #[.string s] w fun e w' => e = .returned (.string ⟨(Tk.name s.data.toList).toArray⟩) ∧ Below w.heap.size w w' := by
  unfold Tk.name
  cases hb : Tk.bare s.data.toList
  · rw [if_neg (by decide)]; exact name_quoted s w hs hb
  · rw [if_pos rfl]; exact name_bare s w hs hb
end Go.Proofs.YtnkmefnbhfghgaaGreatDoor
