import Derived.Test.YtaefonagbcnmdaaGreatDoorA14
import Derived.Laws.BytesArg
set_option linter.unusedSimpArgs false
set_option linter.unusedVariables false
namespace Go.Proofs.YtaefonagbcnmdaaGreatDoor
open Go.RowKit

theorem conv_one (W : World) (n : Nat) (k : Int) (h : W.cell? ⟨n, 0, none⟩ = some (.int .u8 k)) : (convert 137 9 (.slice (some ⟨n, 0, none⟩) 1 1)).run Tryz.prog W = .ok (.string ⟨#[UInt8.ofNat k.toNat]⟩) W := by
  rw [run_convert_bytes_arg W 137 5 Tryz.underlying137 Tryz.underlying5 n 0 1 1 [k] rfl (fun i hi => by have e0 : i = 0 := (by omega); subst e0; simpa using h) _ Tryz.underlying9]
  rfl

/-- What stands behind 0 and an apostrophe. -/
def Tk.readChar (l : List UInt8) (a : Nat) : Tk.R :=
  if Tk.startsAt Tk.backslash l (a + 2) then
    if a + 3 < l.length then
      if Tk.inText (Tk.bt l (a + 3)) then
        if Tk.meantOk (Tk.bt l (a + 3)) 92 then .tok 4 [UInt8.ofNat (Tk.meant (Tk.bt l (a + 3)) 92).toNat] (a + 4) else .fault a 11
      else .fault (a + 3) 2
    else .fault a 11
  else
    if a + 2 < l.length then
      if Tk.inText (Tk.bt l (a + 2)) then
        if Tk.shown (Tk.bt l (a + 2)) then .tok 4 [UInt8.ofNat (Tk.bt l (a + 2)).toNat] (a + 3) else .fault a 11
      else .fault (a + 2) 2
    else .fault a 11

set_option maxRecDepth 100000 in
set_option maxHeartbeats 1000000 in
theorem readChar_e0 (s : ByteArray) (g a en : Nat) (b : Bool) (w : World) (hs : s.size ≤ 65536) (ha : a + 2 ≤ s.size) (hS : Scan w g s a en b) (hbs : Tk.startsAt Tk.backslash s.data.toList (a + 2) = false) (hge : s.size ≤ a + 2) :
    Calls Tryz.prog 85 #[.pointer (some ⟨g, 0, none⟩)] w (Tk.RPost (.fault (a) 11) g s a en b w) := by
  have HM : Hid (s.size ≤ maxLen) := by unfold Hid maxLen; omega
  have HBS := Lib.hid hbs; clear hbs
  have hX := Fr.start hS
  have hc0 : w.cell? ⟨g, 0, none⟩ = some (.string s) := by simpa using Blk.cell hS 0
  have hc1 : w.cell? ⟨g, 1, none⟩ = some (.int .i64 a) := by simpa using Blk.cell hS 1
  have hgl := hS.lt
  go_enter Tryz.func85, Tryz.ntmps85
  go_wp2_with fail
  generalize hw1 : (w.alloc (.cells #[.int .i64 0, .string ⟨#[]⟩, .int .i64 0] 48)).alloc (.cells #[.int .i64 0, .int .i64 0] 26) = w1 at *
  clear hw1 hgl hc0 hc1
  obtain ⟨hgl, hgl1, hc0, hc1, ht0, ht1, ht2, hu0, hu1, hv0, hv1, hv2, hv3, hv4, hv5⟩ := hX.facts
  refine (starts_backslash s (a + 2) _ HM.out (by unfold maxLen; omega)).mono ?_; rintro e w' ⟨rfl, rfl⟩
  rw [HBS.out]
  go_wp2_with fail
  refine (faultAt_any a 11 _).mono ?_; rintro e w2 ⟨rfl, hB2⟩
  have hX2 := hX.below hB2
  clear hgl hgl1 hc0 hc1 ht0 ht1 ht2 hu0 hu1 hv0 hv1 hv2 hv3 hv4 hv5
  obtain ⟨hgl, hgl1, hc0, hc1, ht0, ht1, ht2, hu0, hu1, hv0, hv1, hv2, hv3, hv4, hv5⟩ := hX2.facts
  go_wp2_with fail
  exact bodyPost_ret (v := .tuple #[Tk.tokV 0 [] 0, Tk.fauV (a) 11]) (by simp [results, Tryz.results85, go_sem, Tk.tokV, Tk.fauV, ht0, ht1, ht2, hu0, hu1]) rfl ⟨rfl, (hX2.fin _ _ _ _ _).2⟩

set_option maxRecDepth 100000 in
set_option maxHeartbeats 1000000 in
theorem readChar_f0 (s : ByteArray) (g a en : Nat) (b : Bool) (w : World) (hs : s.size ≤ 65536) (ha : a + 2 ≤ s.size) (hS : Scan w g s a en b) (hbs : Tk.startsAt Tk.backslash s.data.toList (a + 2) = false) (hlt : a + 2 < s.size) (hin : Tk.inText (s[a + 2].toNat : Int) = false) :
    Calls Tryz.prog 85 #[.pointer (some ⟨g, 0, none⟩)] w (Tk.RPost (.fault (a + 2) 2) g s a en b w) := by
  have HM : Hid (s.size ≤ maxLen) := by unfold Hid maxLen; omega
  have HBS := Lib.hid hbs; clear hbs
  have HIN := Lib.hid hin; clear hin
  have hX := Fr.start hS
  have hc0 : w.cell? ⟨g, 0, none⟩ = some (.string s) := by simpa using Blk.cell hS 0
  have hc1 : w.cell? ⟨g, 1, none⟩ = some (.int .i64 a) := by simpa using Blk.cell hS 1
  have hgl := hS.lt
  go_enter Tryz.func85, Tryz.ntmps85
  go_wp2_with fail
  generalize hw1 : (w.alloc (.cells #[.int .i64 0, .string ⟨#[]⟩, .int .i64 0] 48)).alloc (.cells #[.int .i64 0, .int .i64 0] 26) = w1 at *
  clear hw1 hgl hc0 hc1
  obtain ⟨hgl, hgl1, hc0, hc1, ht0, ht1, ht2, hu0, hu1, hv0, hv1, hv2, hv3, hv4, hv5⟩ := hX.facts
  refine (starts_backslash s (a + 2) _ HM.out (by unfold maxLen; omega)).mono ?_; rintro e w' ⟨rfl, rfl⟩
  rw [HBS.out]
  go_wp2_with fail
  refine (inText_any _ _).mono ?_; rintro e w' ⟨rfl, rfl⟩
  rw [HIN.out]
  go_wp2_with fail
  try rw [show (a : Int) + 2 = ((a + 2 : Nat) : Int) from by omega]
  refine (faultAt_any (a + 2 : Nat) 2 _).mono ?_; rintro e w2 ⟨rfl, hB2⟩
  have hX2 := hX.below hB2
  clear hgl hgl1 hc0 hc1 ht0 ht1 ht2 hu0 hu1 hv0 hv1 hv2 hv3 hv4 hv5
  obtain ⟨hgl, hgl1, hc0, hc1, ht0, ht1, ht2, hu0, hu1, hv0, hv1, hv2, hv3, hv4, hv5⟩ := hX2.facts
  go_wp2_with fail
  exact bodyPost_ret (v := .tuple #[Tk.tokV 0 [] 0, Tk.fauV (a + 2) 2]) (by simp [results, Tryz.results85, go_sem, Tk.tokV, Tk.fauV, ht0, ht1, ht2, hu0, hu1]) rfl ⟨rfl, (hX2.fin _ _ _ _ _).2⟩

set_option maxRecDepth 100000 in
set_option maxHeartbeats 1000000 in
theorem readChar_b0 (s : ByteArray) (g a en : Nat) (b : Bool) (w : World) (hs : s.size ≤ 65536) (ha : a + 2 ≤ s.size) (hS : Scan w g s a en b) (hbs : Tk.startsAt Tk.backslash s.data.toList (a + 2) = false) (hlt : a + 2 < s.size) (hin : Tk.inText (s[a + 2].toNat : Int) = true) (hok : Tk.shown (s[a + 2].toNat : Int) = false) :
    Calls Tryz.prog 85 #[.pointer (some ⟨g, 0, none⟩)] w (Tk.RPost (.fault (a) 11) g s a en b w) := by
  have HM : Hid (s.size ≤ maxLen) := by unfold Hid maxLen; omega
  have HBS := Lib.hid hbs; clear hbs
  have HIN := Lib.hid hin; clear hin
  have HOK := Lib.hid hok; clear hok
  have hX := Fr.start hS
  have hc0 : w.cell? ⟨g, 0, none⟩ = some (.string s) := by simpa using Blk.cell hS 0
  have hc1 : w.cell? ⟨g, 1, none⟩ = some (.int .i64 a) := by simpa using Blk.cell hS 1
  have hgl := hS.lt
  go_enter Tryz.func85, Tryz.ntmps85
  go_wp2_with fail
  generalize hw1 : (w.alloc (.cells #[.int .i64 0, .string ⟨#[]⟩, .int .i64 0] 48)).alloc (.cells #[.int .i64 0, .int .i64 0] 26) = w1 at *
  clear hw1 hgl hc0 hc1
  obtain ⟨hgl, hgl1, hc0, hc1, ht0, ht1, ht2, hu0, hu1, hv0, hv1, hv2, hv3, hv4, hv5⟩ := hX.facts
  refine (starts_backslash s (a + 2) _ HM.out (by unfold maxLen; omega)).mono ?_; rintro e w' ⟨rfl, rfl⟩
  rw [HBS.out]
  go_wp2_with fail
  refine (inText_any _ _).mono ?_; rintro e w' ⟨rfl, rfl⟩
  rw [HIN.out]
  go_wp2_with fail
  refine (isShown_any _ _).mono ?_; rintro e w' ⟨rfl, rfl⟩
  rw [HOK.out]
  go_wp2_with fail
  refine (faultAt_any a 11 _).mono ?_; rintro e w2 ⟨rfl, hB2⟩
  have hX2 := hX.below hB2
  clear hgl hgl1 hc0 hc1 ht0 ht1 ht2 hu0 hu1 hv0 hv1 hv2 hv3 hv4 hv5
  obtain ⟨hgl, hgl1, hc0, hc1, ht0, ht1, ht2, hu0, hu1, hv0, hv1, hv2, hv3, hv4, hv5⟩ := hX2.facts
  go_wp2_with fail
  exact bodyPost_ret (v := .tuple #[Tk.tokV 0 [] 0, Tk.fauV (a) 11]) (by simp [results, Tryz.results85, go_sem, Tk.tokV, Tk.fauV, ht0, ht1, ht2, hu0, hu1]) rfl ⟨rfl, (hX2.fin _ _ _ _ _).2⟩

set_option maxRecDepth 100000 in
set_option maxHeartbeats 1000000 in
theorem readChar_o0 (s : ByteArray) (g a en : Nat) (b : Bool) (w : World) (hs : s.size ≤ 65536) (ha : a + 2 ≤ s.size) (hS : Scan w g s a en b) (hbs : Tk.startsAt Tk.backslash s.data.toList (a + 2) = false) (hlt : a + 2 < s.size) (hin : Tk.inText (s[a + 2].toNat : Int) = true) (hok : Tk.shown (s[a + 2].toNat : Int) = true) :
    Calls Tryz.prog 85 #[.pointer (some ⟨g, 0, none⟩)] w (Tk.RPost (.tok 4 [s[a + 2]] (a + 3)) g s a en b w) := by
  have HM : Hid (s.size ≤ maxLen) := by unfold Hid maxLen; omega
  have HBS := Lib.hid hbs; clear hbs
  have HIN := Lib.hid hin; clear hin
  have HOK := Lib.hid hok; clear hok
  have hX := Fr.start hS
  have hc0 : w.cell? ⟨g, 0, none⟩ = some (.string s) := by simpa using Blk.cell hS 0
  have hc1 : w.cell? ⟨g, 1, none⟩ = some (.int .i64 a) := by simpa using Blk.cell hS 1
  have hgl := hS.lt
  go_enter Tryz.func85, Tryz.ntmps85
  go_wp2_with fail
  generalize hw1 : (w.alloc (.cells #[.int .i64 0, .string ⟨#[]⟩, .int .i64 0] 48)).alloc (.cells #[.int .i64 0, .int .i64 0] 26) = w1 at *
  clear hw1 hgl hc0 hc1
  obtain ⟨hgl, hgl1, hc0, hc1, ht0, ht1, ht2, hu0, hu1, hv0, hv1, hv2, hv3, hv4, hv5⟩ := hX.facts
  refine (starts_backslash s (a + 2) _ HM.out (by unfold maxLen; omega)).mono ?_; rintro e w' ⟨rfl, rfl⟩
  rw [HBS.out]
  go_wp2_with fail
  refine (inText_any _ _).mono ?_; rintro e w' ⟨rfl, rfl⟩
  rw [HIN.out]
  go_wp2_with fail
  refine (isShown_any _ _).mono ?_; rintro e w' ⟨rfl, rfl⟩
  rw [HOK.out]
  go_wp2_with fail
  try rw [show (a : Int) + 3 = ((a + 3 : Nat) : Int) from by omega]
  try rw [show (a : Int) + 2 + 1 = ((a + 3 : Nat) : Int) from by omega]
  refine (take_any s g a en b 4 (a + 3) _ hs (by omega) (by omega) hX.2.1).mono ?_; rintro e w2 ⟨rfl, hS2, hG2⟩
  have hX2 := hX.step hG2 hS2
  clear hgl hgl1 hc0 hc1 ht0 ht1 ht2 hu0 hu1 hv0 hv1 hv2 hv3 hv4 hv5
  obtain ⟨hgl, hgl1, hc0, hc1, ht0, ht1, ht2, hu0, hu1, hv0, hv1, hv2, hv3, hv4, hv5⟩ := hX2.facts
  rw [sub_str]
  go_wp2_with fail
  have hx1 : w.heap.size < w2.heap.size := by omega
  have hx2 : w.heap.size < w2.heap.size + 1 := by omega
  have hx3 : w.heap.size + 1 < w2.heap.size + 1 := by omega
  rw [conv_one _ (w2.heap.size + 1) ((s[a + 2].toNat : Int)) (by simp [go_sem])]
  go_wp2_with fail
  have hfin := hX2.fin (.int .i64 4) (.string ⟨#[s[a + 2]]⟩) (.int .i64 a) (.int .i64 0) (.int .i64 0)
  exact bodyPost_ret (v := .tuple #[Tk.tokV 4 [s[a + 2]] a, Tk.fauV 0 0]) (by simp [results, Tryz.results85, go_sem, Tk.tokV, Tk.fauV, ht0, ht1, ht2, hu0, hu1, hx1, hx2, hx3, hgl1]) rfl ⟨rfl, (Blk.alloc (Blk.alloc hfin.1 _) _), gb_alloc (gb_alloc hfin.2 _) _⟩

set_option maxRecDepth 100000 in
set_option maxHeartbeats 1000000 in
theorem readChar_e1 (s : ByteArray) (g a en : Nat) (b : Bool) (w : World) (hs : s.size ≤ 65536) (ha : a + 2 ≤ s.size) (hS : Scan w g s a en b) (hbs : Tk.startsAt Tk.backslash s.data.toList (a + 2) = true) (hge : s.size ≤ a + 3) :
    Calls Tryz.prog 85 #[.pointer (some ⟨g, 0, none⟩)] w (Tk.RPost (.fault (a) 11) g s a en b w) := by
  have HM : Hid (s.size ≤ maxLen) := by unfold Hid maxLen; omega
  have HBS := Lib.hid hbs; clear hbs
  have hX := Fr.start hS
  have hc0 : w.cell? ⟨g, 0, none⟩ = some (.string s) := by simpa using Blk.cell hS 0
  have hc1 : w.cell? ⟨g, 1, none⟩ = some (.int .i64 a) := by simpa using Blk.cell hS 1
  have hgl := hS.lt
  go_enter Tryz.func85, Tryz.ntmps85
  go_wp2_with fail
  generalize hw1 : (w.alloc (.cells #[.int .i64 0, .string ⟨#[]⟩, .int .i64 0] 48)).alloc (.cells #[.int .i64 0, .int .i64 0] 26) = w1 at *
  clear hw1 hgl hc0 hc1
  obtain ⟨hgl, hgl1, hc0, hc1, ht0, ht1, ht2, hu0, hu1, hv0, hv1, hv2, hv3, hv4, hv5⟩ := hX.facts
  refine (starts_backslash s (a + 2) _ HM.out (by unfold maxLen; omega)).mono ?_; rintro e w' ⟨rfl, rfl⟩
  rw [HBS.out]
  go_wp2_with fail
  refine (faultAt_any a 11 _).mono ?_; rintro e w2 ⟨rfl, hB2⟩
  have hX2 := hX.below hB2
  clear hgl hgl1 hc0 hc1 ht0 ht1 ht2 hu0 hu1 hv0 hv1 hv2 hv3 hv4 hv5
  obtain ⟨hgl, hgl1, hc0, hc1, ht0, ht1, ht2, hu0, hu1, hv0, hv1, hv2, hv3, hv4, hv5⟩ := hX2.facts
  go_wp2_with fail
  exact bodyPost_ret (v := .tuple #[Tk.tokV 0 [] 0, Tk.fauV (a) 11]) (by simp [results, Tryz.results85, go_sem, Tk.tokV, Tk.fauV, ht0, ht1, ht2, hu0, hu1]) rfl ⟨rfl, (hX2.fin _ _ _ _ _).2⟩

set_option maxRecDepth 100000 in
set_option maxHeartbeats 1000000 in
theorem readChar_f1 (s : ByteArray) (g a en : Nat) (b : Bool) (w : World) (hs : s.size ≤ 65536) (ha : a + 2 ≤ s.size) (hS : Scan w g s a en b) (hbs : Tk.startsAt Tk.backslash s.data.toList (a + 2) = true) (hlt : a + 3 < s.size) (hin : Tk.inText (s[a + 3].toNat : Int) = false) :
    Calls Tryz.prog 85 #[.pointer (some ⟨g, 0, none⟩)] w (Tk.RPost (.fault (a + 3) 2) g s a en b w) := by
  have HM : Hid (s.size ≤ maxLen) := by unfold Hid maxLen; omega
  have HBS := Lib.hid hbs; clear hbs
  have HIN := Lib.hid hin; clear hin
  have hX := Fr.start hS
  have hc0 : w.cell? ⟨g, 0, none⟩ = some (.string s) := by simpa using Blk.cell hS 0
  have hc1 : w.cell? ⟨g, 1, none⟩ = some (.int .i64 a) := by simpa using Blk.cell hS 1
  have hgl := hS.lt
  go_enter Tryz.func85, Tryz.ntmps85
  go_wp2_with fail
  generalize hw1 : (w.alloc (.cells #[.int .i64 0, .string ⟨#[]⟩, .int .i64 0] 48)).alloc (.cells #[.int .i64 0, .int .i64 0] 26) = w1 at *
  clear hw1 hgl hc0 hc1
  obtain ⟨hgl, hgl1, hc0, hc1, ht0, ht1, ht2, hu0, hu1, hv0, hv1, hv2, hv3, hv4, hv5⟩ := hX.facts
  refine (starts_backslash s (a + 2) _ HM.out (by unfold maxLen; omega)).mono ?_; rintro e w' ⟨rfl, rfl⟩
  rw [HBS.out]
  go_wp2_with fail
  refine (inText_any _ _).mono ?_; rintro e w' ⟨rfl, rfl⟩
  rw [HIN.out]
  go_wp2_with fail
  try rw [show (a : Int) + 3 = ((a + 3 : Nat) : Int) from by omega]
  refine (faultAt_any (a + 3 : Nat) 2 _).mono ?_; rintro e w2 ⟨rfl, hB2⟩
  have hX2 := hX.below hB2
  clear hgl hgl1 hc0 hc1 ht0 ht1 ht2 hu0 hu1 hv0 hv1 hv2 hv3 hv4 hv5
  obtain ⟨hgl, hgl1, hc0, hc1, ht0, ht1, ht2, hu0, hu1, hv0, hv1, hv2, hv3, hv4, hv5⟩ := hX2.facts
  go_wp2_with fail
  exact bodyPost_ret (v := .tuple #[Tk.tokV 0 [] 0, Tk.fauV (a + 3) 2]) (by simp [results, Tryz.results85, go_sem, Tk.tokV, Tk.fauV, ht0, ht1, ht2, hu0, hu1]) rfl ⟨rfl, (hX2.fin _ _ _ _ _).2⟩

set_option maxRecDepth 100000 in
set_option maxHeartbeats 1000000 in
theorem readChar_b1 (s : ByteArray) (g a en : Nat) (b : Bool) (w : World) (hs : s.size ≤ 65536) (ha : a + 2 ≤ s.size) (hS : Scan w g s a en b) (hbs : Tk.startsAt Tk.backslash s.data.toList (a + 2) = true) (hlt : a + 3 < s.size) (hin : Tk.inText (s[a + 3].toNat : Int) = true) (hok : Tk.meantOk (s[a + 3].toNat : Int) 92 = false) :
    Calls Tryz.prog 85 #[.pointer (some ⟨g, 0, none⟩)] w (Tk.RPost (.fault (a) 11) g s a en b w) := by
  have HM : Hid (s.size ≤ maxLen) := by unfold Hid maxLen; omega
  have HBS := Lib.hid hbs; clear hbs
  have HIN := Lib.hid hin; clear hin
  have HOK := Lib.hid hok; clear hok
  have hX := Fr.start hS
  have hc0 : w.cell? ⟨g, 0, none⟩ = some (.string s) := by simpa using Blk.cell hS 0
  have hc1 : w.cell? ⟨g, 1, none⟩ = some (.int .i64 a) := by simpa using Blk.cell hS 1
  have hgl := hS.lt
  go_enter Tryz.func85, Tryz.ntmps85
  go_wp2_with fail
  generalize hw1 : (w.alloc (.cells #[.int .i64 0, .string ⟨#[]⟩, .int .i64 0] 48)).alloc (.cells #[.int .i64 0, .int .i64 0] 26) = w1 at *
  clear hw1 hgl hc0 hc1
  obtain ⟨hgl, hgl1, hc0, hc1, ht0, ht1, ht2, hu0, hu1, hv0, hv1, hv2, hv3, hv4, hv5⟩ := hX.facts
  refine (starts_backslash s (a + 2) _ HM.out (by unfold maxLen; omega)).mono ?_; rintro e w' ⟨rfl, rfl⟩
  rw [HBS.out]
  go_wp2_with fail
  refine (inText_any _ _).mono ?_; rintro e w' ⟨rfl, rfl⟩
  rw [HIN.out]
  go_wp2_with fail
  refine (isShown_any _ _).mono ?_; rintro e w' ⟨rfl, rfl⟩
  go_wp2_with fail
  refine (meant_any _ _ _).mono ?_; rintro e w' ⟨rfl, rfl⟩
  rw [HOK.out]
  go_wp2_with fail
  refine (faultAt_any a 11 _).mono ?_; rintro e w2 ⟨rfl, hB2⟩
  have hX2 := hX.below hB2
  clear hgl hgl1 hc0 hc1 ht0 ht1 ht2 hu0 hu1 hv0 hv1 hv2 hv3 hv4 hv5
  obtain ⟨hgl, hgl1, hc0, hc1, ht0, ht1, ht2, hu0, hu1, hv0, hv1, hv2, hv3, hv4, hv5⟩ := hX2.facts
  go_wp2_with fail
  exact bodyPost_ret (v := .tuple #[Tk.tokV 0 [] 0, Tk.fauV (a) 11]) (by simp [results, Tryz.results85, go_sem, Tk.tokV, Tk.fauV, ht0, ht1, ht2, hu0, hu1]) rfl ⟨rfl, (hX2.fin _ _ _ _ _).2⟩

set_option maxRecDepth 100000 in
set_option maxHeartbeats 1000000 in
theorem readChar_o1 (s : ByteArray) (g a en : Nat) (b : Bool) (w : World) (hs : s.size ≤ 65536) (ha : a + 2 ≤ s.size) (hS : Scan w g s a en b) (hbs : Tk.startsAt Tk.backslash s.data.toList (a + 2) = true) (hlt : a + 3 < s.size) (hin : Tk.inText (s[a + 3].toNat : Int) = true) (hok : Tk.meantOk (s[a + 3].toNat : Int) 92 = true) :
    Calls Tryz.prog 85 #[.pointer (some ⟨g, 0, none⟩)] w (Tk.RPost (.tok 4 [UInt8.ofNat (Tk.meant (s[a + 3].toNat : Int) 92).toNat] (a + 4)) g s a en b w) := by
  have HM : Hid (s.size ≤ maxLen) := by unfold Hid maxLen; omega
  have HBS := Lib.hid hbs; clear hbs
  have HIN := Lib.hid hin; clear hin
  have HOK := Lib.hid hok; clear hok
  have hX := Fr.start hS
  have hc0 : w.cell? ⟨g, 0, none⟩ = some (.string s) := by simpa using Blk.cell hS 0
  have hc1 : w.cell? ⟨g, 1, none⟩ = some (.int .i64 a) := by simpa using Blk.cell hS 1
  have hgl := hS.lt
  go_enter Tryz.func85, Tryz.ntmps85
  go_wp2_with fail
  generalize hw1 : (w.alloc (.cells #[.int .i64 0, .string ⟨#[]⟩, .int .i64 0] 48)).alloc (.cells #[.int .i64 0, .int .i64 0] 26) = w1 at *
  clear hw1 hgl hc0 hc1
  obtain ⟨hgl, hgl1, hc0, hc1, ht0, ht1, ht2, hu0, hu1, hv0, hv1, hv2, hv3, hv4, hv5⟩ := hX.facts
  refine (starts_backslash s (a + 2) _ HM.out (by unfold maxLen; omega)).mono ?_; rintro e w' ⟨rfl, rfl⟩
  rw [HBS.out]
  go_wp2_with fail
  refine (inText_any _ _).mono ?_; rintro e w' ⟨rfl, rfl⟩
  rw [HIN.out]
  go_wp2_with fail
  refine (isShown_any _ _).mono ?_; rintro e w' ⟨rfl, rfl⟩
  go_wp2_with fail
  refine (meant_any _ _ _).mono ?_; rintro e w' ⟨rfl, rfl⟩
  rw [HOK.out]
  go_wp2_with fail
  try rw [show (a : Int) + 4 = ((a + 4 : Nat) : Int) from by omega]
  try rw [show (a : Int) + 2 + 1 = ((a + 3 : Nat) : Int) from by omega]
  refine (take_any s g a en b 4 (a + 4) _ hs (by omega) (by omega) hX.2.1).mono ?_; rintro e w2 ⟨rfl, hS2, hG2⟩
  have hX2 := hX.step hG2 hS2
  clear hgl hgl1 hc0 hc1 ht0 ht1 ht2 hu0 hu1 hv0 hv1 hv2 hv3 hv4 hv5
  obtain ⟨hgl, hgl1, hc0, hc1, ht0, ht1, ht2, hu0, hu1, hv0, hv1, hv2, hv3, hv4, hv5⟩ := hX2.facts
  rw [sub_str]
  go_wp2_with fail
  have hx1 : w.heap.size < w2.heap.size := by omega
  have hx2 : w.heap.size < w2.heap.size + 1 := by omega
  have hx3 : w.heap.size + 1 < w2.heap.size + 1 := by omega
  rw [conv_one _ (w2.heap.size + 1) (Tk.meant (s[a + 3].toNat : Int) 92) (by simp [go_sem])]
  go_wp2_with fail
  have hfin := hX2.fin (.int .i64 4) (.string ⟨#[UInt8.ofNat (Tk.meant (s[a + 3].toNat : Int) 92).toNat]⟩) (.int .i64 a) (.int .i64 0) (.int .i64 0)
  exact bodyPost_ret (v := .tuple #[Tk.tokV 4 [UInt8.ofNat (Tk.meant (s[a + 3].toNat : Int) 92).toNat] a, Tk.fauV 0 0]) (by simp [results, Tryz.results85, go_sem, Tk.tokV, Tk.fauV, ht0, ht1, ht2, hu0, hu1, hx1, hx2, hx3, hgl1]) rfl ⟨rfl, (Blk.alloc (Blk.alloc hfin.1 _) _), gb_alloc (gb_alloc hfin.2 _) _⟩


theorem readChar_any (s : ByteArray) (g a en : Nat) (b : Bool) (w : World) (hs : s.size ≤ 65536) (ha : a + 2 ≤ s.size) (hS : Scan w g s a en b) :
    Calls Tryz.prog 85 #[.pointer (some ⟨g, 0, none⟩)] w (Tk.RPost (Tk.readChar s.data.toList a) g s a en b w) := by
  have hz := size_data s
  unfold Tk.readChar
  rw [hz]
  cases hbs : Tk.startsAt Tk.backslash s.data.toList (a + 2)
  · rw [if_neg (by decide)]
    by_cases hlt : a + 2 < s.size
    · rw [if_pos hlt, ← Tk.bt_of s (a + 2) hlt]
      cases hin : Tk.inText (s[a + 2].toNat : Int)
      · rw [if_neg (by decide)]
        exact readChar_f0 s g a en b w hs ha hS hbs hlt hin
      · rw [if_pos rfl]
        cases hok : Tk.shown (s[a + 2].toNat : Int)
        · rw [if_neg (by decide)]
          exact readChar_b0 s g a en b w hs ha hS hbs hlt hin hok
        · rw [if_pos rfl, show UInt8.ofNat ((s[a + 2].toNat : Int)).toNat = s[a + 2] from by simp]
          exact readChar_o0 s g a en b w hs ha hS hbs hlt hin hok
    · rw [if_neg hlt]
      exact readChar_e0 s g a en b w hs ha hS hbs (by omega)
  · rw [if_pos rfl]
    by_cases hlt : a + 3 < s.size
    · rw [if_pos hlt, ← Tk.bt_of s (a + 3) hlt]
      cases hin : Tk.inText (s[a + 3].toNat : Int)
      · rw [if_neg (by decide)]
        exact readChar_f1 s g a en b w hs ha hS hbs hlt hin
      · rw [if_pos rfl]
        cases hok : Tk.meantOk (s[a + 3].toNat : Int) 92
        · rw [if_neg (by decide)]
          exact readChar_b1 s g a en b w hs ha hS hbs hlt hin hok
        · rw [if_pos rfl]
          exact readChar_o1 s g a en b w hs ha hS hbs hlt hin hok
    · rw [if_neg hlt]
      exact readChar_e1 s g a en b w hs ha hS hbs (by omega)
end Go.Proofs.YtaefonagbcnmdaaGreatDoor
