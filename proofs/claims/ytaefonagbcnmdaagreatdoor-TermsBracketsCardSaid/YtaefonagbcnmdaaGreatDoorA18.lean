import Derived.Test.YtaefonagbcnmdaaGreatDoorA17
import Derived.Deep.RegionWith
set_option linter.unusedSimpArgs false
set_option linter.unusedVariables false
namespace Go.Proofs.YtaefonagbcnmdaaGreatDoor
open Go.RowKit

/-- One token. -/
def Tk.read (l : List UInt8) (a en : Nat) (b : Bool) : Tk.R :=
  if Tk.small (Tk.bt l a) then .tok 1 (Tk.sub l a (Tk.dottedEnd l a)) (Tk.dottedEnd l a)
  else if Tk.capital (Tk.bt l a) then .tok 2 (Tk.sub l a (Tk.run Tk.inWord l a)) (Tk.run Tk.inWord l a)
  else if Lib.hasPrefix (l.drop a) [48, 39] then Tk.readChar l a
  else if Tk.digit (Tk.bt l a) then .tok 3 (Tk.sub l a (Tk.run Tk.digit l a)) (Tk.run Tk.digit l a)
  else if Tk.sign (Tk.bt l a) then Tk.readSigns l a
  else if Tk.bt l a == 59 then .tok 1 (Tk.sub l a (a + 1)) (a + 1)
  else if Tk.bt l a == 33 then .tok 1 (Tk.sub l a (Tk.bangEnd l a)) (Tk.bangEnd l a)
  else if Tk.bt l a == 39 then Tk.readName l a
  else if Tk.bt l a == 34 then Tk.readEnclosed 5 l a
  else if Tk.punct (Tk.bt l a) then .tok 6 (Tk.punctText l a en b) (a + 1)
  else .fault a 2

set_option maxRecDepth 100000 in
set_option maxHeartbeats 4000000 in
theorem read_small (s : ByteArray) (g a en : Nat) (b : Bool) (w : World) (hs : s.size ≤ 65536) (ha : a < s.size) (hen : en ≤ s.size) (hS : Scan w g s a en b)  (h1 : Tk.small (s[a].toNat : Int) = true) :
    Calls Tryz.prog 52 #[.pointer (some ⟨g, 0, none⟩)] w (Tk.RPost (.tok 1 (Tk.sub s.data.toList a (Tk.dottedEnd s.data.toList a)) (Tk.dottedEnd s.data.toList a)) g s a en b w) := by
  have HZ := Lib.hid (size_data s)
  have H1 := Lib.hid h1; clear h1
  have hz1 : Tk.dottedEnd s.data.toList a ≤ s.size := by rw [← HZ.out]; exact Tk.dottedEnd_le (by rw [HZ.out]; omega)
  have hz2 : a ≤ Tk.dottedEnd s.data.toList a := Tk.dottedEnd_ge _ _
  obtain ⟨z, hz⟩ : ∃ z, Tk.dottedEnd s.data.toList a = z := ⟨_, rfl⟩
  rw [hz] at hz1 hz2 ⊢
  have HZZ := Lib.hid hz; clear hz
  have hX := Fr.start hS
  have hc0 : w.cell? ⟨g, 0, none⟩ = some (.string s) := by simpa using Blk.cell hS 0
  go_enter Tryz.func52, Tryz.ntmps52
  go_wp2_with fail
  generalize hw1 : (w.alloc (.cells #[.int .i64 0, .string ⟨#[]⟩, .int .i64 0] 48)).alloc (.cells #[.int .i64 0, .int .i64 0] 26) = w1 at *
  clear hw1 hc0
  obtain ⟨hgl, hgl1, hc0, hc1, ht0, ht1, ht2, hu0, hu1, hv0, hv1, hv2, hv3, hv4, hv5⟩ := hX.facts
  go_quiet (fail)
  go_wp2_with fail
  clear hgl hgl1 hc0 hc1 ht0 ht1 ht2 hu0 hu1 hv0 hv1 hv2 hv3 hv4 hv5
  have hY := hX.drewN nq
  generalize hw2 : w1.drewN nq = w2 at *
  clear hX hw2
  obtain ⟨hgl, hgl1, hc0, hc1, ht0, ht1, ht2, hu0, hu1, hv0, hv1, hv2, hv3, hv4, hv5⟩ := hY.facts
  refine (isSmall_any _ _).mono ?_; rintro e w' ⟨rfl, rfl⟩
  rw [H1.out]
  go_wp2_with fail
  have hS2 := hY.2.1
  have hy2 := hY.drew
  go_region_with (first
    | (go_at_call 81; refine (dottedEnd_any s a _ (by omega) (by omega)).mono ?_; rintro e w' ⟨rfl, rfl⟩; rw [HZZ.out])
    | (go_at_call 51; refine (take_any s g a en b 1 z _ hs hz2 hz1 ?_).mono ?_; exact (show Scan _ g s a en b from Blk.drew hS2); rintro e w4 ⟨rfl, hS3, hG3⟩; rw [sub_str]; have hX3 := hy2.step hG3 hS3; obtain ⟨kgl, kgl1, kc0, kc1, kt0, kt1, kt2, ku0, ku1, kv0, kv1, kv2, kv3, kv4, kv5⟩ := hX3.facts))
  all_goals
    go_wp2_with fail
    exact bodyPost_ret (v := .tuple #[Tk.tokV 1 (Tk.sub s.data.toList a z) a, Tk.fauV 0 0]) (by simp [results, Tryz.results52, go_sem, Tk.tokV, Tk.fauV, kt0, kt1, kt2, ku0, ku1]) rfl ⟨rfl, hX3.fin _ _ _ _ _⟩

set_option maxRecDepth 100000 in
set_option maxHeartbeats 4000000 in
theorem read_capital (s : ByteArray) (g a en : Nat) (b : Bool) (w : World) (hs : s.size ≤ 65536) (ha : a < s.size) (hen : en ≤ s.size) (hS : Scan w g s a en b) (h1 : Tk.small (s[a].toNat : Int) = false) (h2 : Tk.capital (s[a].toNat : Int) = true) :
    Calls Tryz.prog 52 #[.pointer (some ⟨g, 0, none⟩)] w (Tk.RPost (.tok 2 (Tk.sub s.data.toList a (Tk.run Tk.inWord s.data.toList a)) (Tk.run Tk.inWord s.data.toList a)) g s a en b w) := by
  have HZ := Lib.hid (size_data s)
  have H1 := Lib.hid h1; clear h1
  have H2 := Lib.hid h2; clear h2
  have HM : Hid (s.size ≤ maxLen) := by unfold Hid maxLen; omega
  have hz1 : Tk.run Tk.inWord s.data.toList a ≤ s.size := by rw [← HZ.out]; exact Tk.run_le (by rw [HZ.out]; omega)
  have hz2 : a ≤ Tk.run Tk.inWord s.data.toList a := Tk.run_ge _ _ _
  obtain ⟨z, hz⟩ : ∃ z, Tk.run Tk.inWord s.data.toList a = z := ⟨_, rfl⟩
  rw [hz] at hz1 hz2 ⊢
  have HZZ := Lib.hid hz; clear hz
  have hX := Fr.start hS
  have hc0 : w.cell? ⟨g, 0, none⟩ = some (.string s) := by simpa using Blk.cell hS 0
  go_enter Tryz.func52, Tryz.ntmps52
  go_wp2_with fail
  generalize hw1 : (w.alloc (.cells #[.int .i64 0, .string ⟨#[]⟩, .int .i64 0] 48)).alloc (.cells #[.int .i64 0, .int .i64 0] 26) = w1 at *
  clear hw1 hc0
  obtain ⟨hgl, hgl1, hc0, hc1, ht0, ht1, ht2, hu0, hu1, hv0, hv1, hv2, hv3, hv4, hv5⟩ := hX.facts
  go_quiet (fail)
  go_wp2_with fail
  clear hgl hgl1 hc0 hc1 ht0 ht1 ht2 hu0 hu1 hv0 hv1 hv2 hv3 hv4 hv5
  have hY := hX.drewN nq
  generalize hw2 : w1.drewN nq = w2 at *
  clear hX hw2
  obtain ⟨hgl, hgl1, hc0, hc1, ht0, ht1, ht2, hu0, hu1, hv0, hv1, hv2, hv3, hv4, hv5⟩ := hY.facts
  refine (isSmall_any _ _).mono ?_; rintro e w' ⟨rfl, rfl⟩
  rw [H1.out]
  go_wp2_with fail
  refine (isCapital_any _ _).mono ?_; rintro e w' ⟨rfl, rfl⟩
  rw [H2.out]
  go_wp2_with fail
  have hS2 := hY.2.1
  have hy2 := hY.drew
  go_region_with (first
    | (go_at_call 83; refine (run_inWord s a _ HM.out (by omega)).mono ?_; rintro e w' ⟨rfl, rfl⟩; rw [HZZ.out])
    | (go_at_call 51; refine (take_any s g a en b 2 z _ hs hz2 hz1 ?_).mono ?_; exact (show Scan _ g s a en b from Blk.drew hS2); rintro e w4 ⟨rfl, hS3, hG3⟩; rw [sub_str]; have hX3 := hy2.step hG3 hS3; obtain ⟨kgl, kgl1, kc0, kc1, kt0, kt1, kt2, ku0, ku1, kv0, kv1, kv2, kv3, kv4, kv5⟩ := hX3.facts))
  all_goals
    go_wp2_with fail
    exact bodyPost_ret (v := .tuple #[Tk.tokV 2 (Tk.sub s.data.toList a z) a, Tk.fauV 0 0]) (by simp [results, Tryz.results52, go_sem, Tk.tokV, Tk.fauV, kt0, kt1, kt2, ku0, ku1]) rfl ⟨rfl, hX3.fin _ _ _ _ _⟩

set_option maxRecDepth 100000 in
set_option maxHeartbeats 4000000 in
theorem read_char_tok (s : ByteArray) (g a en : Nat) (b : Bool) (w : World) (hs : s.size ≤ 65536) (ha : a < s.size) (hen : en ≤ s.size) (hS : Scan w g s a en b) (h1 : Tk.small (s[a].toNat : Int) = false) (h2 : Tk.capital (s[a].toNat : Int) = false) (h3 : Lib.hasPrefix (s.data.toList.drop a) [48, 39] = true) (k : Int) (tx : List UInt8) (z : Nat) (hR : Tk.readChar s.data.toList a = .tok k tx z) :
    Calls Tryz.prog 52 #[.pointer (some ⟨g, 0, none⟩)] w (Tk.RPost (.tok k tx z) g s a en b w) := by
  have HZ := Lib.hid (size_data s)
  have H1 := Lib.hid h1; clear h1
  have H2 := Lib.hid h2; clear h2
  have H3 := Lib.hid h3; clear h3
  have HR := Lib.hid hR; clear hR
  have hlen : a + 2 ≤ s.size := by have := prefix_len H3.out; simp at this; omega
  have hX := Fr.start hS
  have hc0 : w.cell? ⟨g, 0, none⟩ = some (.string s) := by simpa using Blk.cell hS 0
  go_enter Tryz.func52, Tryz.ntmps52
  go_wp2_with fail
  generalize hw1 : (w.alloc (.cells #[.int .i64 0, .string ⟨#[]⟩, .int .i64 0] 48)).alloc (.cells #[.int .i64 0, .int .i64 0] 26) = w1 at *
  clear hw1 hc0
  obtain ⟨hgl, hgl1, hc0, hc1, ht0, ht1, ht2, hu0, hu1, hv0, hv1, hv2, hv3, hv4, hv5⟩ := hX.facts
  go_quiet (fail)
  go_wp2_with fail
  clear hgl hgl1 hc0 hc1 ht0 ht1 ht2 hu0 hu1 hv0 hv1 hv2 hv3 hv4 hv5
  have hY := hX.drewN nq
  generalize hw2 : w1.drewN nq = w2 at *
  clear hX hw2
  obtain ⟨hgl, hgl1, hc0, hc1, ht0, ht1, ht2, hu0, hu1, hv0, hv1, hv2, hv3, hv4, hv5⟩ := hY.facts
  refine (isSmall_any _ _).mono ?_; rintro e w' ⟨rfl, rfl⟩
  rw [H1.out]
  go_wp2_with fail
  refine (isCapital_any _ _).mono ?_; rintro e w' ⟨rfl, rfl⟩
  rw [H2.out]
  go_wp2_with fail
  refine (has_any s ⟨#[48, 39]⟩ g a en b _ hs (by omega) hY.2.1).mono ?_; rintro e w' ⟨rfl, n1, rfl⟩
  rw [show (ByteArray.mk #[48, 39]).data.toList = [48, 39] from rfl, H3.out]
  go_wp2_with fail
  have hY' := hY.drewN n1
  generalize hw3 : w2.drewN n1 = w3 at *
  clear hw3 hY hgl hgl1 hc0 hc1 ht0 ht1 ht2 hu0 hu1 hv0 hv1 hv2 hv3 hv4 hv5
  have hY := hY'
  clear hY'
  obtain ⟨hgl, hgl1, hc0, hc1, ht0, ht1, ht2, hu0, hu1, hv0, hv1, hv2, hv3, hv4, hv5⟩ := hY.facts
  refine (readChar_any s g a en b _ hs hlen hY.2.1).mono ?_
  intro e w4 hp
  rw [HR.out] at hp
  clear hgl hgl1 hc0 hc1 ht0 ht1 ht2 hu0 hu1 hv0 hv1 hv2 hv3 hv4 hv5
  obtain ⟨rfl, hS3, hG3⟩ := hp
  have hX3 := hY.step hG3 hS3
  obtain ⟨kgl, kgl1, kc0, kc1, kt0, kt1, kt2, ku0, ku1, kv0, kv1, kv2, kv3, kv4, kv5⟩ := hX3.facts
  unfold Tk.tokV Tk.fauV
  go_wp2_with fail
  exact bodyPost_ret (v := .tuple #[Tk.tokV k (tx) a, Tk.fauV 0 0]) (by simp [results, Tryz.results52, go_sem, Tk.tokV, Tk.fauV, kt0, kt1, kt2, ku0, ku1]) rfl ⟨rfl, hX3.fin _ _ _ _ _⟩

set_option maxRecDepth 100000 in
set_option maxHeartbeats 4000000 in
theorem read_char_fault (s : ByteArray) (g a en : Nat) (b : Bool) (w : World) (hs : s.size ≤ 65536) (ha : a < s.size) (hen : en ≤ s.size) (hS : Scan w g s a en b) (h1 : Tk.small (s[a].toNat : Int) = false) (h2 : Tk.capital (s[a].toNat : Int) = false) (h3 : Lib.hasPrefix (s.data.toList.drop a) [48, 39] = true) (p : Nat) (c : Int) (hR : Tk.readChar s.data.toList a = .fault p c) :
    Calls Tryz.prog 52 #[.pointer (some ⟨g, 0, none⟩)] w (Tk.RPost (.fault p c) g s a en b w) := by
  have HZ := Lib.hid (size_data s)
  have H1 := Lib.hid h1; clear h1
  have H2 := Lib.hid h2; clear h2
  have H3 := Lib.hid h3; clear h3
  have HR := Lib.hid hR; clear hR
  have hlen : a + 2 ≤ s.size := by have := prefix_len H3.out; simp at this; omega
  have hX := Fr.start hS
  have hc0 : w.cell? ⟨g, 0, none⟩ = some (.string s) := by simpa using Blk.cell hS 0
  go_enter Tryz.func52, Tryz.ntmps52
  go_wp2_with fail
  generalize hw1 : (w.alloc (.cells #[.int .i64 0, .string ⟨#[]⟩, .int .i64 0] 48)).alloc (.cells #[.int .i64 0, .int .i64 0] 26) = w1 at *
  clear hw1 hc0
  obtain ⟨hgl, hgl1, hc0, hc1, ht0, ht1, ht2, hu0, hu1, hv0, hv1, hv2, hv3, hv4, hv5⟩ := hX.facts
  go_quiet (fail)
  go_wp2_with fail
  clear hgl hgl1 hc0 hc1 ht0 ht1 ht2 hu0 hu1 hv0 hv1 hv2 hv3 hv4 hv5
  have hY := hX.drewN nq
  generalize hw2 : w1.drewN nq = w2 at *
  clear hX hw2
  obtain ⟨hgl, hgl1, hc0, hc1, ht0, ht1, ht2, hu0, hu1, hv0, hv1, hv2, hv3, hv4, hv5⟩ := hY.facts
  refine (isSmall_any _ _).mono ?_; rintro e w' ⟨rfl, rfl⟩
  rw [H1.out]
  go_wp2_with fail
  refine (isCapital_any _ _).mono ?_; rintro e w' ⟨rfl, rfl⟩
  rw [H2.out]
  go_wp2_with fail
  refine (has_any s ⟨#[48, 39]⟩ g a en b _ hs (by omega) hY.2.1).mono ?_; rintro e w' ⟨rfl, n1, rfl⟩
  rw [show (ByteArray.mk #[48, 39]).data.toList = [48, 39] from rfl, H3.out]
  go_wp2_with fail
  have hY' := hY.drewN n1
  generalize hw3 : w2.drewN n1 = w3 at *
  clear hw3 hY hgl hgl1 hc0 hc1 ht0 ht1 ht2 hu0 hu1 hv0 hv1 hv2 hv3 hv4 hv5
  have hY := hY'
  clear hY'
  obtain ⟨hgl, hgl1, hc0, hc1, ht0, ht1, ht2, hu0, hu1, hv0, hv1, hv2, hv3, hv4, hv5⟩ := hY.facts
  refine (readChar_any s g a en b _ hs hlen hY.2.1).mono ?_
  intro e w4 hp
  rw [HR.out] at hp
  clear hgl hgl1 hc0 hc1 ht0 ht1 ht2 hu0 hu1 hv0 hv1 hv2 hv3 hv4 hv5
  obtain ⟨rfl, hG3⟩ := hp
  have kgl := hY.1
  have hT := hY.2.2.1.grown hG3 (by simp; omega)
  have hF := hY.2.2.2.1.grown hG3 (by simp; omega)
  have hG := gb_trans hY.2.2.2.2 hG3
  have hx0 := hF.lt
  have kt0 : w4.cell? ⟨w.heap.size, 0, none⟩ = some (.int .i64 0) := by simpa using hT.cell 0
  have kt1 : w4.cell? ⟨w.heap.size, 1, none⟩ = some (.string ⟨#[]⟩) := by simpa using hT.cell 1
  have kt2 : w4.cell? ⟨w.heap.size, 2, none⟩ = some (.int .i64 0) := by simpa using hT.cell 2
  have ku0 : w4.cell? ⟨w.heap.size + 1, 0, none⟩ = some (.int .i64 0) := by simpa using hF.cell 0
  have ku1 : w4.cell? ⟨w.heap.size + 1, 1, none⟩ = some (.int .i64 0) := by simpa using hF.cell 1
  have kv0 := hT.frozen 0
  have kv1 := hT.frozen 1
  have kv2 := hT.frozen 2
  have kv3 := hF.frozen 0
  have kv4 := hF.frozen 1
  unfold Tk.tokV Tk.fauV
  go_wp2_with fail
  exact bodyPost_ret (v := .tuple #[Tk.tokV 0 [] 0, Tk.fauV p c]) (by simp [results, Tryz.results52, go_sem, Tk.tokV, Tk.fauV, kt0, kt1, kt2, ku0, ku1]) rfl ⟨rfl, (by repeat (first | with_reducible exact hG | with_reducible exact gb_refl _ _ | (with_reducible refine gb_set ?_ (by first | (right; dsimp only; omega) | exact .inl rfl) _) | (with_reducible refine gb_drewN ?_ _) | (with_reducible refine gb_drew ?_) | (with_reducible refine gb_alloc ?_ _)))⟩

theorem read_char (s : ByteArray) (g a en : Nat) (b : Bool) (w : World) (hs : s.size ≤ 65536) (ha : a < s.size) (hen : en ≤ s.size) (hS : Scan w g s a en b) (h1 : Tk.small (s[a].toNat : Int) = false) (h2 : Tk.capital (s[a].toNat : Int) = false) (h3 : Lib.hasPrefix (s.data.toList.drop a) [48, 39] = true) :
    Calls Tryz.prog 52 #[.pointer (some ⟨g, 0, none⟩)] w (Tk.RPost (Tk.readChar s.data.toList a) g s a en b w) := by
  cases hR : Tk.readChar s.data.toList a with
  | tok k tx z => exact read_char_tok s g a en b w hs ha hen hS h1 h2 h3 k tx z hR
  | fault p c => exact read_char_fault s g a en b w hs ha hen hS h1 h2 h3 p c hR

set_option maxRecDepth 100000 in
set_option maxHeartbeats 4000000 in
theorem read_digit (s : ByteArray) (g a en : Nat) (b : Bool) (w : World) (hs : s.size ≤ 65536) (ha : a < s.size) (hen : en ≤ s.size) (hS : Scan w g s a en b) (h1 : Tk.small (s[a].toNat : Int) = false) (h2 : Tk.capital (s[a].toNat : Int) = false) (h3 : Lib.hasPrefix (s.data.toList.drop a) [48, 39] = false) (h4 : Tk.digit (s[a].toNat : Int) = true) :
    Calls Tryz.prog 52 #[.pointer (some ⟨g, 0, none⟩)] w (Tk.RPost (.tok 3 (Tk.sub s.data.toList a (Tk.run Tk.digit s.data.toList a)) (Tk.run Tk.digit s.data.toList a)) g s a en b w) := by
  have HZ := Lib.hid (size_data s)
  have H1 := Lib.hid h1; clear h1
  have H2 := Lib.hid h2; clear h2
  have H3 := Lib.hid h3; clear h3
  have H4 := Lib.hid h4; clear h4
  have HM : Hid (s.size ≤ maxLen) := by unfold Hid maxLen; omega
  have hz1 : Tk.run Tk.digit s.data.toList a ≤ s.size := by rw [← HZ.out]; exact Tk.run_le (by rw [HZ.out]; omega)
  have hz2 : a ≤ Tk.run Tk.digit s.data.toList a := Tk.run_ge _ _ _
  obtain ⟨z, hz⟩ : ∃ z, Tk.run Tk.digit s.data.toList a = z := ⟨_, rfl⟩
  rw [hz] at hz1 hz2 ⊢
  have HZZ := Lib.hid hz; clear hz
  have hX := Fr.start hS
  have hc0 : w.cell? ⟨g, 0, none⟩ = some (.string s) := by simpa using Blk.cell hS 0
  go_enter Tryz.func52, Tryz.ntmps52
  go_wp2_with fail
  generalize hw1 : (w.alloc (.cells #[.int .i64 0, .string ⟨#[]⟩, .int .i64 0] 48)).alloc (.cells #[.int .i64 0, .int .i64 0] 26) = w1 at *
  clear hw1 hc0
  obtain ⟨hgl, hgl1, hc0, hc1, ht0, ht1, ht2, hu0, hu1, hv0, hv1, hv2, hv3, hv4, hv5⟩ := hX.facts
  go_quiet (fail)
  go_wp2_with fail
  clear hgl hgl1 hc0 hc1 ht0 ht1 ht2 hu0 hu1 hv0 hv1 hv2 hv3 hv4 hv5
  have hY := hX.drewN nq
  generalize hw2 : w1.drewN nq = w2 at *
  clear hX hw2
  obtain ⟨hgl, hgl1, hc0, hc1, ht0, ht1, ht2, hu0, hu1, hv0, hv1, hv2, hv3, hv4, hv5⟩ := hY.facts
  refine (isSmall_any _ _).mono ?_; rintro e w' ⟨rfl, rfl⟩
  rw [H1.out]
  go_wp2_with fail
  refine (isCapital_any _ _).mono ?_; rintro e w' ⟨rfl, rfl⟩
  rw [H2.out]
  go_wp2_with fail
  refine (has_any s ⟨#[48, 39]⟩ g a en b _ hs (by omega) hY.2.1).mono ?_; rintro e w' ⟨rfl, n1, rfl⟩
  rw [show (ByteArray.mk #[48, 39]).data.toList = [48, 39] from rfl, H3.out]
  go_wp2_with fail
  have hY' := hY.drewN n1
  generalize hw3 : w2.drewN n1 = w3 at *
  clear hw3 hY hgl hgl1 hc0 hc1 ht0 ht1 ht2 hu0 hu1 hv0 hv1 hv2 hv3 hv4 hv5
  have hY := hY'
  clear hY'
  obtain ⟨hgl, hgl1, hc0, hc1, ht0, ht1, ht2, hu0, hu1, hv0, hv1, hv2, hv3, hv4, hv5⟩ := hY.facts
  refine (isDigit_any _ _).mono ?_; rintro e w' ⟨rfl, rfl⟩
  rw [H4.out]
  go_wp2_with fail
  have hS2 := hY.2.1
  have hy2 := hY.drew
  go_region_with (first
    | (go_at_call 83; refine (run_digit s a _ HM.out (by omega)).mono ?_; rintro e w' ⟨rfl, rfl⟩; rw [HZZ.out])
    | (go_at_call 51; refine (take_any s g a en b 3 z _ hs hz2 hz1 ?_).mono ?_; exact (show Scan _ g s a en b from Blk.drew hS2); rintro e w4 ⟨rfl, hS3, hG3⟩; rw [sub_str]; have hX3 := hy2.step hG3 hS3; obtain ⟨kgl, kgl1, kc0, kc1, kt0, kt1, kt2, ku0, ku1, kv0, kv1, kv2, kv3, kv4, kv5⟩ := hX3.facts))
  all_goals
    go_wp2_with fail
    exact bodyPost_ret (v := .tuple #[Tk.tokV 3 (Tk.sub s.data.toList a z) a, Tk.fauV 0 0]) (by simp [results, Tryz.results52, go_sem, Tk.tokV, Tk.fauV, kt0, kt1, kt2, ku0, ku1]) rfl ⟨rfl, hX3.fin _ _ _ _ _⟩

set_option maxRecDepth 100000 in
set_option maxHeartbeats 4000000 in
theorem read_signs_tok (s : ByteArray) (g a en : Nat) (b : Bool) (w : World) (hs : s.size ≤ 65536) (ha : a < s.size) (hen : en ≤ s.size) (hS : Scan w g s a en b) (h1 : Tk.small (s[a].toNat : Int) = false) (h2 : Tk.capital (s[a].toNat : Int) = false) (h3 : Lib.hasPrefix (s.data.toList.drop a) [48, 39] = false) (h4 : Tk.digit (s[a].toNat : Int) = false) (h5 : Tk.sign (s[a].toNat : Int) = true) (k : Int) (tx : List UInt8) (z : Nat) (hR : Tk.readSigns s.data.toList a = .tok k tx z) :
    Calls Tryz.prog 52 #[.pointer (some ⟨g, 0, none⟩)] w (Tk.RPost (.tok k tx z) g s a en b w) := by
  have HZ := Lib.hid (size_data s)
  have H1 := Lib.hid h1; clear h1
  have H2 := Lib.hid h2; clear h2
  have H3 := Lib.hid h3; clear h3
  have H4 := Lib.hid h4; clear h4
  have H5 := Lib.hid h5; clear h5
  have HR := Lib.hid hR; clear hR
  have hX := Fr.start hS
  have hc0 : w.cell? ⟨g, 0, none⟩ = some (.string s) := by simpa using Blk.cell hS 0
  go_enter Tryz.func52, Tryz.ntmps52
  go_wp2_with fail
  generalize hw1 : (w.alloc (.cells #[.int .i64 0, .string ⟨#[]⟩, .int .i64 0] 48)).alloc (.cells #[.int .i64 0, .int .i64 0] 26) = w1 at *
  clear hw1 hc0
  obtain ⟨hgl, hgl1, hc0, hc1, ht0, ht1, ht2, hu0, hu1, hv0, hv1, hv2, hv3, hv4, hv5⟩ := hX.facts
  go_quiet (fail)
  go_wp2_with fail
  clear hgl hgl1 hc0 hc1 ht0 ht1 ht2 hu0 hu1 hv0 hv1 hv2 hv3 hv4 hv5
  have hY := hX.drewN nq
  generalize hw2 : w1.drewN nq = w2 at *
  clear hX hw2
  obtain ⟨hgl, hgl1, hc0, hc1, ht0, ht1, ht2, hu0, hu1, hv0, hv1, hv2, hv3, hv4, hv5⟩ := hY.facts
  refine (isSmall_any _ _).mono ?_; rintro e w' ⟨rfl, rfl⟩
  rw [H1.out]
  go_wp2_with fail
  refine (isCapital_any _ _).mono ?_; rintro e w' ⟨rfl, rfl⟩
  rw [H2.out]
  go_wp2_with fail
  refine (has_any s ⟨#[48, 39]⟩ g a en b _ hs (by omega) hY.2.1).mono ?_; rintro e w' ⟨rfl, n1, rfl⟩
  rw [show (ByteArray.mk #[48, 39]).data.toList = [48, 39] from rfl, H3.out]
  go_wp2_with fail
  have hY' := hY.drewN n1
  generalize hw3 : w2.drewN n1 = w3 at *
  clear hw3 hY hgl hgl1 hc0 hc1 ht0 ht1 ht2 hu0 hu1 hv0 hv1 hv2 hv3 hv4 hv5
  have hY := hY'
  clear hY'
  obtain ⟨hgl, hgl1, hc0, hc1, ht0, ht1, ht2, hu0, hu1, hv0, hv1, hv2, hv3, hv4, hv5⟩ := hY.facts
  refine (isDigit_any _ _).mono ?_; rintro e w' ⟨rfl, rfl⟩
  rw [H4.out]
  go_wp2_with fail
  refine (isSign_any _ _).mono ?_; rintro e w' ⟨rfl, rfl⟩
  rw [H5.out]
  go_wp2_with fail
  refine (readSigns_any s g a en b _ hs (by omega) hY.2.1).mono ?_
  intro e w4 hp
  rw [HR.out] at hp
  clear hgl hgl1 hc0 hc1 ht0 ht1 ht2 hu0 hu1 hv0 hv1 hv2 hv3 hv4 hv5
  obtain ⟨rfl, hS3, hG3⟩ := hp
  have hX3 := hY.step hG3 hS3
  obtain ⟨kgl, kgl1, kc0, kc1, kt0, kt1, kt2, ku0, ku1, kv0, kv1, kv2, kv3, kv4, kv5⟩ := hX3.facts
  unfold Tk.tokV Tk.fauV
  go_wp2_with fail
  exact bodyPost_ret (v := .tuple #[Tk.tokV k (tx) a, Tk.fauV 0 0]) (by simp [results, Tryz.results52, go_sem, Tk.tokV, Tk.fauV, kt0, kt1, kt2, ku0, ku1]) rfl ⟨rfl, hX3.fin _ _ _ _ _⟩

set_option maxRecDepth 100000 in
set_option maxHeartbeats 4000000 in
theorem read_signs_fault (s : ByteArray) (g a en : Nat) (b : Bool) (w : World) (hs : s.size ≤ 65536) (ha : a < s.size) (hen : en ≤ s.size) (hS : Scan w g s a en b) (h1 : Tk.small (s[a].toNat : Int) = false) (h2 : Tk.capital (s[a].toNat : Int) = false) (h3 : Lib.hasPrefix (s.data.toList.drop a) [48, 39] = false) (h4 : Tk.digit (s[a].toNat : Int) = false) (h5 : Tk.sign (s[a].toNat : Int) = true) (p : Nat) (c : Int) (hR : Tk.readSigns s.data.toList a = .fault p c) :
    Calls Tryz.prog 52 #[.pointer (some ⟨g, 0, none⟩)] w (Tk.RPost (.fault p c) g s a en b w) := by
  have HZ := Lib.hid (size_data s)
  have H1 := Lib.hid h1; clear h1
  have H2 := Lib.hid h2; clear h2
  have H3 := Lib.hid h3; clear h3
  have H4 := Lib.hid h4; clear h4
  have H5 := Lib.hid h5; clear h5
  have HR := Lib.hid hR; clear hR
  have hX := Fr.start hS
  have hc0 : w.cell? ⟨g, 0, none⟩ = some (.string s) := by simpa using Blk.cell hS 0
  go_enter Tryz.func52, Tryz.ntmps52
  go_wp2_with fail
  generalize hw1 : (w.alloc (.cells #[.int .i64 0, .string ⟨#[]⟩, .int .i64 0] 48)).alloc (.cells #[.int .i64 0, .int .i64 0] 26) = w1 at *
  clear hw1 hc0
  obtain ⟨hgl, hgl1, hc0, hc1, ht0, ht1, ht2, hu0, hu1, hv0, hv1, hv2, hv3, hv4, hv5⟩ := hX.facts
  go_quiet (fail)
  go_wp2_with fail
  clear hgl hgl1 hc0 hc1 ht0 ht1 ht2 hu0 hu1 hv0 hv1 hv2 hv3 hv4 hv5
  have hY := hX.drewN nq
  generalize hw2 : w1.drewN nq = w2 at *
  clear hX hw2
  obtain ⟨hgl, hgl1, hc0, hc1, ht0, ht1, ht2, hu0, hu1, hv0, hv1, hv2, hv3, hv4, hv5⟩ := hY.facts
  refine (isSmall_any _ _).mono ?_; rintro e w' ⟨rfl, rfl⟩
  rw [H1.out]
  go_wp2_with fail
  refine (isCapital_any _ _).mono ?_; rintro e w' ⟨rfl, rfl⟩
  rw [H2.out]
  go_wp2_with fail
  refine (has_any s ⟨#[48, 39]⟩ g a en b _ hs (by omega) hY.2.1).mono ?_; rintro e w' ⟨rfl, n1, rfl⟩
  rw [show (ByteArray.mk #[48, 39]).data.toList = [48, 39] from rfl, H3.out]
  go_wp2_with fail
  have hY' := hY.drewN n1
  generalize hw3 : w2.drewN n1 = w3 at *
  clear hw3 hY hgl hgl1 hc0 hc1 ht0 ht1 ht2 hu0 hu1 hv0 hv1 hv2 hv3 hv4 hv5
  have hY := hY'
  clear hY'
  obtain ⟨hgl, hgl1, hc0, hc1, ht0, ht1, ht2, hu0, hu1, hv0, hv1, hv2, hv3, hv4, hv5⟩ := hY.facts
  refine (isDigit_any _ _).mono ?_; rintro e w' ⟨rfl, rfl⟩
  rw [H4.out]
  go_wp2_with fail
  refine (isSign_any _ _).mono ?_; rintro e w' ⟨rfl, rfl⟩
  rw [H5.out]
  go_wp2_with fail
  refine (readSigns_any s g a en b _ hs (by omega) hY.2.1).mono ?_
  intro e w4 hp
  rw [HR.out] at hp
  clear hgl hgl1 hc0 hc1 ht0 ht1 ht2 hu0 hu1 hv0 hv1 hv2 hv3 hv4 hv5
  obtain ⟨rfl, hG3⟩ := hp
  have kgl := hY.1
  have hT := hY.2.2.1.grown hG3 (by simp; omega)
  have hF := hY.2.2.2.1.grown hG3 (by simp; omega)
  have hG := gb_trans hY.2.2.2.2 hG3
  have hx0 := hF.lt
  have kt0 : w4.cell? ⟨w.heap.size, 0, none⟩ = some (.int .i64 0) := by simpa using hT.cell 0
  have kt1 : w4.cell? ⟨w.heap.size, 1, none⟩ = some (.string ⟨#[]⟩) := by simpa using hT.cell 1
  have kt2 : w4.cell? ⟨w.heap.size, 2, none⟩ = some (.int .i64 0) := by simpa using hT.cell 2
  have ku0 : w4.cell? ⟨w.heap.size + 1, 0, none⟩ = some (.int .i64 0) := by simpa using hF.cell 0
  have ku1 : w4.cell? ⟨w.heap.size + 1, 1, none⟩ = some (.int .i64 0) := by simpa using hF.cell 1
  have kv0 := hT.frozen 0
  have kv1 := hT.frozen 1
  have kv2 := hT.frozen 2
  have kv3 := hF.frozen 0
  have kv4 := hF.frozen 1
  unfold Tk.tokV Tk.fauV
  go_wp2_with fail
  exact bodyPost_ret (v := .tuple #[Tk.tokV 0 [] 0, Tk.fauV p c]) (by simp [results, Tryz.results52, go_sem, Tk.tokV, Tk.fauV, kt0, kt1, kt2, ku0, ku1]) rfl ⟨rfl, (by repeat (first | with_reducible exact hG | with_reducible exact gb_refl _ _ | (with_reducible refine gb_set ?_ (by first | (right; dsimp only; omega) | exact .inl rfl) _) | (with_reducible refine gb_drewN ?_ _) | (with_reducible refine gb_drew ?_) | (with_reducible refine gb_alloc ?_ _)))⟩

theorem read_signs (s : ByteArray) (g a en : Nat) (b : Bool) (w : World) (hs : s.size ≤ 65536) (ha : a < s.size) (hen : en ≤ s.size) (hS : Scan w g s a en b) (h1 : Tk.small (s[a].toNat : Int) = false) (h2 : Tk.capital (s[a].toNat : Int) = false) (h3 : Lib.hasPrefix (s.data.toList.drop a) [48, 39] = false) (h4 : Tk.digit (s[a].toNat : Int) = false) (h5 : Tk.sign (s[a].toNat : Int) = true) :
    Calls Tryz.prog 52 #[.pointer (some ⟨g, 0, none⟩)] w (Tk.RPost (Tk.readSigns s.data.toList a) g s a en b w) := by
  cases hR : Tk.readSigns s.data.toList a with
  | tok k tx z => exact read_signs_tok s g a en b w hs ha hen hS h1 h2 h3 h4 h5 k tx z hR
  | fault p c => exact read_signs_fault s g a en b w hs ha hen hS h1 h2 h3 h4 h5 p c hR

set_option maxRecDepth 100000 in
set_option maxHeartbeats 4000000 in
theorem read_semi (s : ByteArray) (g a en : Nat) (b : Bool) (w : World) (hs : s.size ≤ 65536) (ha : a < s.size) (hen : en ≤ s.size) (hS : Scan w g s a en b) (h1 : Tk.small (s[a].toNat : Int) = false) (h2 : Tk.capital (s[a].toNat : Int) = false) (h3 : Lib.hasPrefix (s.data.toList.drop a) [48, 39] = false) (h4 : Tk.digit (s[a].toNat : Int) = false) (h5 : Tk.sign (s[a].toNat : Int) = false) (e59 : ((s[a].toNat : Int) == 59) = true) :
    Calls Tryz.prog 52 #[.pointer (some ⟨g, 0, none⟩)] w (Tk.RPost (.tok 1 (Tk.sub s.data.toList a (a + 1)) (a + 1)) g s a en b w) := by
  have HZ := Lib.hid (size_data s)
  have H1 := Lib.hid h1; clear h1
  have H2 := Lib.hid h2; clear h2
  have H3 := Lib.hid h3; clear h3
  have H4 := Lib.hid h4; clear h4
  have H5 := Lib.hid h5; clear h5
  have hX := Fr.start hS
  have hc0 : w.cell? ⟨g, 0, none⟩ = some (.string s) := by simpa using Blk.cell hS 0
  go_enter Tryz.func52, Tryz.ntmps52
  go_wp2_with fail
  generalize hw1 : (w.alloc (.cells #[.int .i64 0, .string ⟨#[]⟩, .int .i64 0] 48)).alloc (.cells #[.int .i64 0, .int .i64 0] 26) = w1 at *
  clear hw1 hc0
  obtain ⟨hgl, hgl1, hc0, hc1, ht0, ht1, ht2, hu0, hu1, hv0, hv1, hv2, hv3, hv4, hv5⟩ := hX.facts
  go_quiet (fail)
  go_wp2_with fail
  clear hgl hgl1 hc0 hc1 ht0 ht1 ht2 hu0 hu1 hv0 hv1 hv2 hv3 hv4 hv5
  have hY := hX.drewN nq
  generalize hw2 : w1.drewN nq = w2 at *
  clear hX hw2
  obtain ⟨hgl, hgl1, hc0, hc1, ht0, ht1, ht2, hu0, hu1, hv0, hv1, hv2, hv3, hv4, hv5⟩ := hY.facts
  refine (isSmall_any _ _).mono ?_; rintro e w' ⟨rfl, rfl⟩
  rw [H1.out]
  go_wp2_with fail
  refine (isCapital_any _ _).mono ?_; rintro e w' ⟨rfl, rfl⟩
  rw [H2.out]
  go_wp2_with fail
  refine (has_any s ⟨#[48, 39]⟩ g a en b _ hs (by omega) hY.2.1).mono ?_; rintro e w' ⟨rfl, n1, rfl⟩
  rw [show (ByteArray.mk #[48, 39]).data.toList = [48, 39] from rfl, H3.out]
  go_wp2_with fail
  have hY' := hY.drewN n1
  generalize hw3 : w2.drewN n1 = w3 at *
  clear hw3 hY hgl hgl1 hc0 hc1 ht0 ht1 ht2 hu0 hu1 hv0 hv1 hv2 hv3 hv4 hv5
  have hY := hY'
  clear hY'
  obtain ⟨hgl, hgl1, hc0, hc1, ht0, ht1, ht2, hu0, hu1, hv0, hv1, hv2, hv3, hv4, hv5⟩ := hY.facts
  refine (isDigit_any _ _).mono ?_; rintro e w' ⟨rfl, rfl⟩
  rw [H4.out]
  go_wp2_with fail
  refine (isSign_any _ _).mono ?_; rintro e w' ⟨rfl, rfl⟩
  rw [H5.out]
  go_wp2_with fail
  rw [show (a : Int) + 1 = ((a + 1 : Nat) : Int) from rfl]
  refine (take_any s g a en b 1 (a + 1) _ hs (by omega) (by omega) hY.2.1).mono ?_; rintro e w4 ⟨rfl, hS3, hG3⟩
  rw [sub_str]
  have hX3 := hY.step hG3 hS3
  clear hgl hgl1 hc0 hc1 ht0 ht1 ht2 hu0 hu1 hv0 hv1 hv2 hv3 hv4 hv5
  obtain ⟨kgl, kgl1, kc0, kc1, kt0, kt1, kt2, ku0, ku1, kv0, kv1, kv2, kv3, kv4, kv5⟩ := hX3.facts
  go_wp2_with fail
  exact bodyPost_ret (v := .tuple #[Tk.tokV 1 (Tk.sub s.data.toList a (a + 1)) a, Tk.fauV 0 0]) (by simp [results, Tryz.results52, go_sem, Tk.tokV, Tk.fauV, kt0, kt1, kt2, ku0, ku1]) rfl ⟨rfl, hX3.fin _ _ _ _ _⟩

set_option maxRecDepth 100000 in
set_option maxHeartbeats 4000000 in
theorem read_bang (s : ByteArray) (g a en : Nat) (b : Bool) (w : World) (hs : s.size ≤ 65536) (ha : a < s.size) (hen : en ≤ s.size) (hS : Scan w g s a en b) (h1 : Tk.small (s[a].toNat : Int) = false) (h2 : Tk.capital (s[a].toNat : Int) = false) (h3 : Lib.hasPrefix (s.data.toList.drop a) [48, 39] = false) (h4 : Tk.digit (s[a].toNat : Int) = false) (h5 : Tk.sign (s[a].toNat : Int) = false) (e59 : ((s[a].toNat : Int) == 59) = false) (e33 : ((s[a].toNat : Int) == 33) = true) :
    Calls Tryz.prog 52 #[.pointer (some ⟨g, 0, none⟩)] w (Tk.RPost (.tok 1 (Tk.sub s.data.toList a (Tk.bangEnd s.data.toList a)) (Tk.bangEnd s.data.toList a)) g s a en b w) := by
  have HZ := Lib.hid (size_data s)
  have H1 := Lib.hid h1; clear h1
  have H2 := Lib.hid h2; clear h2
  have H3 := Lib.hid h3; clear h3
  have H4 := Lib.hid h4; clear h4
  have H5 := Lib.hid h5; clear h5
  have hz1 : Tk.bangEnd s.data.toList a ≤ s.size := by rw [← HZ.out]; exact Tk.bangEnd_le (by rw [HZ.out]; exact ha)
  have hz2 : a ≤ Tk.bangEnd s.data.toList a := (by have := Tk.bangEnd_ge s.data.toList a; omega)
  obtain ⟨z, hz⟩ : ∃ z, Tk.bangEnd s.data.toList a = z := ⟨_, rfl⟩
  rw [hz] at hz1 hz2 ⊢
  have HZZ := Lib.hid hz; clear hz
  have hX := Fr.start hS
  have hc0 : w.cell? ⟨g, 0, none⟩ = some (.string s) := by simpa using Blk.cell hS 0
  go_enter Tryz.func52, Tryz.ntmps52
  go_wp2_with fail
  generalize hw1 : (w.alloc (.cells #[.int .i64 0, .string ⟨#[]⟩, .int .i64 0] 48)).alloc (.cells #[.int .i64 0, .int .i64 0] 26) = w1 at *
  clear hw1 hc0
  obtain ⟨hgl, hgl1, hc0, hc1, ht0, ht1, ht2, hu0, hu1, hv0, hv1, hv2, hv3, hv4, hv5⟩ := hX.facts
  go_quiet (fail)
  go_wp2_with fail
  clear hgl hgl1 hc0 hc1 ht0 ht1 ht2 hu0 hu1 hv0 hv1 hv2 hv3 hv4 hv5
  have hY := hX.drewN nq
  generalize hw2 : w1.drewN nq = w2 at *
  clear hX hw2
  obtain ⟨hgl, hgl1, hc0, hc1, ht0, ht1, ht2, hu0, hu1, hv0, hv1, hv2, hv3, hv4, hv5⟩ := hY.facts
  refine (isSmall_any _ _).mono ?_; rintro e w' ⟨rfl, rfl⟩
  rw [H1.out]
  go_wp2_with fail
  refine (isCapital_any _ _).mono ?_; rintro e w' ⟨rfl, rfl⟩
  rw [H2.out]
  go_wp2_with fail
  refine (has_any s ⟨#[48, 39]⟩ g a en b _ hs (by omega) hY.2.1).mono ?_; rintro e w' ⟨rfl, n1, rfl⟩
  rw [show (ByteArray.mk #[48, 39]).data.toList = [48, 39] from rfl, H3.out]
  go_wp2_with fail
  have hY' := hY.drewN n1
  generalize hw3 : w2.drewN n1 = w3 at *
  clear hw3 hY hgl hgl1 hc0 hc1 ht0 ht1 ht2 hu0 hu1 hv0 hv1 hv2 hv3 hv4 hv5
  have hY := hY'
  clear hY'
  obtain ⟨hgl, hgl1, hc0, hc1, ht0, ht1, ht2, hu0, hu1, hv0, hv1, hv2, hv3, hv4, hv5⟩ := hY.facts
  refine (isDigit_any _ _).mono ?_; rintro e w' ⟨rfl, rfl⟩
  rw [H4.out]
  go_wp2_with fail
  refine (isSign_any _ _).mono ?_; rintro e w' ⟨rfl, rfl⟩
  rw [H5.out]
  go_wp2_with fail
  refine (bangEnd_any s g a en b _ hs (by omega) hY.2.1).mono ?_; rintro e w' ⟨rfl, n2, rfl⟩
  rw [HZZ.out]
  go_wp2_with fail
  have hY' := hY.drewN n2
  clear hY
  have hY := hY'
  refine (take_any s g a en b 1 z _ hs hz2 hz1 hY.2.1).mono ?_; rintro e w4 ⟨rfl, hS3, hG3⟩
  rw [sub_str]
  have hX3 := hY.step hG3 hS3
  clear hgl hgl1 hc0 hc1 ht0 ht1 ht2 hu0 hu1 hv0 hv1 hv2 hv3 hv4 hv5
  obtain ⟨kgl, kgl1, kc0, kc1, kt0, kt1, kt2, ku0, ku1, kv0, kv1, kv2, kv3, kv4, kv5⟩ := hX3.facts
  go_wp2_with fail
  exact bodyPost_ret (v := .tuple #[Tk.tokV 1 (Tk.sub s.data.toList a z) a, Tk.fauV 0 0]) (by simp [results, Tryz.results52, go_sem, Tk.tokV, Tk.fauV, kt0, kt1, kt2, ku0, ku1]) rfl ⟨rfl, hX3.fin _ _ _ _ _⟩

set_option maxRecDepth 100000 in
set_option maxHeartbeats 4000000 in
theorem read_name_tok (s : ByteArray) (g a en : Nat) (b : Bool) (w : World) (hs : s.size ≤ 65536) (ha : a < s.size) (hen : en ≤ s.size) (hS : Scan w g s a en b) (h1 : Tk.small (s[a].toNat : Int) = false) (h2 : Tk.capital (s[a].toNat : Int) = false) (h3 : Lib.hasPrefix (s.data.toList.drop a) [48, 39] = false) (h4 : Tk.digit (s[a].toNat : Int) = false) (h5 : Tk.sign (s[a].toNat : Int) = false) (e59 : ((s[a].toNat : Int) == 59) = false) (e33 : ((s[a].toNat : Int) == 33) = false) (e39 : ((s[a].toNat : Int) == 39) = true) (k : Int) (tx : List UInt8) (z : Nat) (hR : Tk.readName s.data.toList a = .tok k tx z) :
    Calls Tryz.prog 52 #[.pointer (some ⟨g, 0, none⟩)] w (Tk.RPost (.tok k tx z) g s a en b w) := by
  have HZ := Lib.hid (size_data s)
  have H1 := Lib.hid h1; clear h1
  have H2 := Lib.hid h2; clear h2
  have H3 := Lib.hid h3; clear h3
  have H4 := Lib.hid h4; clear h4
  have H5 := Lib.hid h5; clear h5
  have HR := Lib.hid hR; clear hR
  have hX := Fr.start hS
  have hc0 : w.cell? ⟨g, 0, none⟩ = some (.string s) := by simpa using Blk.cell hS 0
  go_enter Tryz.func52, Tryz.ntmps52
  go_wp2_with fail
  generalize hw1 : (w.alloc (.cells #[.int .i64 0, .string ⟨#[]⟩, .int .i64 0] 48)).alloc (.cells #[.int .i64 0, .int .i64 0] 26) = w1 at *
  clear hw1 hc0
  obtain ⟨hgl, hgl1, hc0, hc1, ht0, ht1, ht2, hu0, hu1, hv0, hv1, hv2, hv3, hv4, hv5⟩ := hX.facts
  go_quiet (fail)
  go_wp2_with fail
  clear hgl hgl1 hc0 hc1 ht0 ht1 ht2 hu0 hu1 hv0 hv1 hv2 hv3 hv4 hv5
  have hY := hX.drewN nq
  generalize hw2 : w1.drewN nq = w2 at *
  clear hX hw2
  obtain ⟨hgl, hgl1, hc0, hc1, ht0, ht1, ht2, hu0, hu1, hv0, hv1, hv2, hv3, hv4, hv5⟩ := hY.facts
  refine (isSmall_any _ _).mono ?_; rintro e w' ⟨rfl, rfl⟩
  rw [H1.out]
  go_wp2_with fail
  refine (isCapital_any _ _).mono ?_; rintro e w' ⟨rfl, rfl⟩
  rw [H2.out]
  go_wp2_with fail
  refine (has_any s ⟨#[48, 39]⟩ g a en b _ hs (by omega) hY.2.1).mono ?_; rintro e w' ⟨rfl, n1, rfl⟩
  rw [show (ByteArray.mk #[48, 39]).data.toList = [48, 39] from rfl, H3.out]
  go_wp2_with fail
  have hY' := hY.drewN n1
  generalize hw3 : w2.drewN n1 = w3 at *
  clear hw3 hY hgl hgl1 hc0 hc1 ht0 ht1 ht2 hu0 hu1 hv0 hv1 hv2 hv3 hv4 hv5
  have hY := hY'
  clear hY'
  obtain ⟨hgl, hgl1, hc0, hc1, ht0, ht1, ht2, hu0, hu1, hv0, hv1, hv2, hv3, hv4, hv5⟩ := hY.facts
  refine (isDigit_any _ _).mono ?_; rintro e w' ⟨rfl, rfl⟩
  rw [H4.out]
  go_wp2_with fail
  refine (isSign_any _ _).mono ?_; rintro e w' ⟨rfl, rfl⟩
  rw [H5.out]
  go_wp2_with fail
  refine (readName_any s g a en b _ hs ha hY.2.1).mono ?_
  intro e w4 hp
  rw [HR.out] at hp
  clear hgl hgl1 hc0 hc1 ht0 ht1 ht2 hu0 hu1 hv0 hv1 hv2 hv3 hv4 hv5
  obtain ⟨rfl, hS3, hG3⟩ := hp
  have hX3 := hY.step hG3 hS3
  obtain ⟨kgl, kgl1, kc0, kc1, kt0, kt1, kt2, ku0, ku1, kv0, kv1, kv2, kv3, kv4, kv5⟩ := hX3.facts
  unfold Tk.tokV Tk.fauV
  go_wp2_with fail
  exact bodyPost_ret (v := .tuple #[Tk.tokV k (tx) a, Tk.fauV 0 0]) (by simp [results, Tryz.results52, go_sem, Tk.tokV, Tk.fauV, kt0, kt1, kt2, ku0, ku1]) rfl ⟨rfl, hX3.fin _ _ _ _ _⟩

set_option maxRecDepth 100000 in
set_option maxHeartbeats 4000000 in
theorem read_name_fault (s : ByteArray) (g a en : Nat) (b : Bool) (w : World) (hs : s.size ≤ 65536) (ha : a < s.size) (hen : en ≤ s.size) (hS : Scan w g s a en b) (h1 : Tk.small (s[a].toNat : Int) = false) (h2 : Tk.capital (s[a].toNat : Int) = false) (h3 : Lib.hasPrefix (s.data.toList.drop a) [48, 39] = false) (h4 : Tk.digit (s[a].toNat : Int) = false) (h5 : Tk.sign (s[a].toNat : Int) = false) (e59 : ((s[a].toNat : Int) == 59) = false) (e33 : ((s[a].toNat : Int) == 33) = false) (e39 : ((s[a].toNat : Int) == 39) = true) (p : Nat) (c : Int) (hR : Tk.readName s.data.toList a = .fault p c) :
    Calls Tryz.prog 52 #[.pointer (some ⟨g, 0, none⟩)] w (Tk.RPost (.fault p c) g s a en b w) := by
  have HZ := Lib.hid (size_data s)
  have H1 := Lib.hid h1; clear h1
  have H2 := Lib.hid h2; clear h2
  have H3 := Lib.hid h3; clear h3
  have H4 := Lib.hid h4; clear h4
  have H5 := Lib.hid h5; clear h5
  have HR := Lib.hid hR; clear hR
  have hX := Fr.start hS
  have hc0 : w.cell? ⟨g, 0, none⟩ = some (.string s) := by simpa using Blk.cell hS 0
  go_enter Tryz.func52, Tryz.ntmps52
  go_wp2_with fail
  generalize hw1 : (w.alloc (.cells #[.int .i64 0, .string ⟨#[]⟩, .int .i64 0] 48)).alloc (.cells #[.int .i64 0, .int .i64 0] 26) = w1 at *
  clear hw1 hc0
  obtain ⟨hgl, hgl1, hc0, hc1, ht0, ht1, ht2, hu0, hu1, hv0, hv1, hv2, hv3, hv4, hv5⟩ := hX.facts
  go_quiet (fail)
  go_wp2_with fail
  clear hgl hgl1 hc0 hc1 ht0 ht1 ht2 hu0 hu1 hv0 hv1 hv2 hv3 hv4 hv5
  have hY := hX.drewN nq
  generalize hw2 : w1.drewN nq = w2 at *
  clear hX hw2
  obtain ⟨hgl, hgl1, hc0, hc1, ht0, ht1, ht2, hu0, hu1, hv0, hv1, hv2, hv3, hv4, hv5⟩ := hY.facts
  refine (isSmall_any _ _).mono ?_; rintro e w' ⟨rfl, rfl⟩
  rw [H1.out]
  go_wp2_with fail
  refine (isCapital_any _ _).mono ?_; rintro e w' ⟨rfl, rfl⟩
  rw [H2.out]
  go_wp2_with fail
  refine (has_any s ⟨#[48, 39]⟩ g a en b _ hs (by omega) hY.2.1).mono ?_; rintro e w' ⟨rfl, n1, rfl⟩
  rw [show (ByteArray.mk #[48, 39]).data.toList = [48, 39] from rfl, H3.out]
  go_wp2_with fail
  have hY' := hY.drewN n1
  generalize hw3 : w2.drewN n1 = w3 at *
  clear hw3 hY hgl hgl1 hc0 hc1 ht0 ht1 ht2 hu0 hu1 hv0 hv1 hv2 hv3 hv4 hv5
  have hY := hY'
  clear hY'
  obtain ⟨hgl, hgl1, hc0, hc1, ht0, ht1, ht2, hu0, hu1, hv0, hv1, hv2, hv3, hv4, hv5⟩ := hY.facts
  refine (isDigit_any _ _).mono ?_; rintro e w' ⟨rfl, rfl⟩
  rw [H4.out]
  go_wp2_with fail
  refine (isSign_any _ _).mono ?_; rintro e w' ⟨rfl, rfl⟩
  rw [H5.out]
  go_wp2_with fail
  refine (readName_any s g a en b _ hs ha hY.2.1).mono ?_
  intro e w4 hp
  rw [HR.out] at hp
  clear hgl hgl1 hc0 hc1 ht0 ht1 ht2 hu0 hu1 hv0 hv1 hv2 hv3 hv4 hv5
  obtain ⟨rfl, hG3⟩ := hp
  have kgl := hY.1
  have hT := hY.2.2.1.grown hG3 (by simp; omega)
  have hF := hY.2.2.2.1.grown hG3 (by simp; omega)
  have hG := gb_trans hY.2.2.2.2 hG3
  have hx0 := hF.lt
  have kt0 : w4.cell? ⟨w.heap.size, 0, none⟩ = some (.int .i64 0) := by simpa using hT.cell 0
  have kt1 : w4.cell? ⟨w.heap.size, 1, none⟩ = some (.string ⟨#[]⟩) := by simpa using hT.cell 1
  have kt2 : w4.cell? ⟨w.heap.size, 2, none⟩ = some (.int .i64 0) := by simpa using hT.cell 2
  have ku0 : w4.cell? ⟨w.heap.size + 1, 0, none⟩ = some (.int .i64 0) := by simpa using hF.cell 0
  have ku1 : w4.cell? ⟨w.heap.size + 1, 1, none⟩ = some (.int .i64 0) := by simpa using hF.cell 1
  have kv0 := hT.frozen 0
  have kv1 := hT.frozen 1
  have kv2 := hT.frozen 2
  have kv3 := hF.frozen 0
  have kv4 := hF.frozen 1
  unfold Tk.tokV Tk.fauV
  go_wp2_with fail
  exact bodyPost_ret (v := .tuple #[Tk.tokV 0 [] 0, Tk.fauV p c]) (by simp [results, Tryz.results52, go_sem, Tk.tokV, Tk.fauV, kt0, kt1, kt2, ku0, ku1]) rfl ⟨rfl, (by repeat (first | with_reducible exact hG | with_reducible exact gb_refl _ _ | (with_reducible refine gb_set ?_ (by first | (right; dsimp only; omega) | exact .inl rfl) _) | (with_reducible refine gb_drewN ?_ _) | (with_reducible refine gb_drew ?_) | (with_reducible refine gb_alloc ?_ _)))⟩

theorem read_name (s : ByteArray) (g a en : Nat) (b : Bool) (w : World) (hs : s.size ≤ 65536) (ha : a < s.size) (hen : en ≤ s.size) (hS : Scan w g s a en b) (h1 : Tk.small (s[a].toNat : Int) = false) (h2 : Tk.capital (s[a].toNat : Int) = false) (h3 : Lib.hasPrefix (s.data.toList.drop a) [48, 39] = false) (h4 : Tk.digit (s[a].toNat : Int) = false) (h5 : Tk.sign (s[a].toNat : Int) = false) (e59 : ((s[a].toNat : Int) == 59) = false) (e33 : ((s[a].toNat : Int) == 33) = false) (e39 : ((s[a].toNat : Int) == 39) = true) :
    Calls Tryz.prog 52 #[.pointer (some ⟨g, 0, none⟩)] w (Tk.RPost (Tk.readName s.data.toList a) g s a en b w) := by
  cases hR : Tk.readName s.data.toList a with
  | tok k tx z => exact read_name_tok s g a en b w hs ha hen hS h1 h2 h3 h4 h5 e59 e33 e39 k tx z hR
  | fault p c => exact read_name_fault s g a en b w hs ha hen hS h1 h2 h3 h4 h5 e59 e33 e39 p c hR

set_option maxRecDepth 100000 in
set_option maxHeartbeats 4000000 in
theorem read_text_tok (s : ByteArray) (g a en : Nat) (b : Bool) (w : World) (hs : s.size ≤ 65536) (ha : a < s.size) (hen : en ≤ s.size) (hS : Scan w g s a en b) (h1 : Tk.small (s[a].toNat : Int) = false) (h2 : Tk.capital (s[a].toNat : Int) = false) (h3 : Lib.hasPrefix (s.data.toList.drop a) [48, 39] = false) (h4 : Tk.digit (s[a].toNat : Int) = false) (h5 : Tk.sign (s[a].toNat : Int) = false) (e59 : ((s[a].toNat : Int) == 59) = false) (e33 : ((s[a].toNat : Int) == 33) = false) (e39 : ((s[a].toNat : Int) == 39) = false) (e34 : ((s[a].toNat : Int) == 34) = true) (k : Int) (tx : List UInt8) (z : Nat) (hR : Tk.readEnclosed 5 s.data.toList a = .tok k tx z) :
    Calls Tryz.prog 52 #[.pointer (some ⟨g, 0, none⟩)] w (Tk.RPost (.tok k tx z) g s a en b w) := by
  have HZ := Lib.hid (size_data s)
  have H1 := Lib.hid h1; clear h1
  have H2 := Lib.hid h2; clear h2
  have H3 := Lib.hid h3; clear h3
  have H4 := Lib.hid h4; clear h4
  have H5 := Lib.hid h5; clear h5
  have HR := Lib.hid hR; clear hR
  have hX := Fr.start hS
  have hc0 : w.cell? ⟨g, 0, none⟩ = some (.string s) := by simpa using Blk.cell hS 0
  go_enter Tryz.func52, Tryz.ntmps52
  go_wp2_with fail
  generalize hw1 : (w.alloc (.cells #[.int .i64 0, .string ⟨#[]⟩, .int .i64 0] 48)).alloc (.cells #[.int .i64 0, .int .i64 0] 26) = w1 at *
  clear hw1 hc0
  obtain ⟨hgl, hgl1, hc0, hc1, ht0, ht1, ht2, hu0, hu1, hv0, hv1, hv2, hv3, hv4, hv5⟩ := hX.facts
  go_quiet (fail)
  go_wp2_with fail
  clear hgl hgl1 hc0 hc1 ht0 ht1 ht2 hu0 hu1 hv0 hv1 hv2 hv3 hv4 hv5
  have hY := hX.drewN nq
  generalize hw2 : w1.drewN nq = w2 at *
  clear hX hw2
  obtain ⟨hgl, hgl1, hc0, hc1, ht0, ht1, ht2, hu0, hu1, hv0, hv1, hv2, hv3, hv4, hv5⟩ := hY.facts
  refine (isSmall_any _ _).mono ?_; rintro e w' ⟨rfl, rfl⟩
  rw [H1.out]
  go_wp2_with fail
  refine (isCapital_any _ _).mono ?_; rintro e w' ⟨rfl, rfl⟩
  rw [H2.out]
  go_wp2_with fail
  refine (has_any s ⟨#[48, 39]⟩ g a en b _ hs (by omega) hY.2.1).mono ?_; rintro e w' ⟨rfl, n1, rfl⟩
  rw [show (ByteArray.mk #[48, 39]).data.toList = [48, 39] from rfl, H3.out]
  go_wp2_with fail
  have hY' := hY.drewN n1
  generalize hw3 : w2.drewN n1 = w3 at *
  clear hw3 hY hgl hgl1 hc0 hc1 ht0 ht1 ht2 hu0 hu1 hv0 hv1 hv2 hv3 hv4 hv5
  have hY := hY'
  clear hY'
  obtain ⟨hgl, hgl1, hc0, hc1, ht0, ht1, ht2, hu0, hu1, hv0, hv1, hv2, hv3, hv4, hv5⟩ := hY.facts
  refine (isDigit_any _ _).mono ?_; rintro e w' ⟨rfl, rfl⟩
  rw [H4.out]
  go_wp2_with fail
  refine (isSign_any _ _).mono ?_; rintro e w' ⟨rfl, rfl⟩
  rw [H5.out]
  go_wp2_with fail
  refine (readEnclosed_any s g a en b 5 _ hs ha hY.2.1).mono ?_
  intro e w4 hp
  rw [HR.out] at hp
  clear hgl hgl1 hc0 hc1 ht0 ht1 ht2 hu0 hu1 hv0 hv1 hv2 hv3 hv4 hv5
  obtain ⟨rfl, hS3, hG3⟩ := hp
  have hX3 := hY.step hG3 hS3
  obtain ⟨kgl, kgl1, kc0, kc1, kt0, kt1, kt2, ku0, ku1, kv0, kv1, kv2, kv3, kv4, kv5⟩ := hX3.facts
  unfold Tk.tokV Tk.fauV
  go_wp2_with fail
  exact bodyPost_ret (v := .tuple #[Tk.tokV k (tx) a, Tk.fauV 0 0]) (by simp [results, Tryz.results52, go_sem, Tk.tokV, Tk.fauV, kt0, kt1, kt2, ku0, ku1]) rfl ⟨rfl, hX3.fin _ _ _ _ _⟩

set_option maxRecDepth 100000 in
set_option maxHeartbeats 4000000 in
theorem read_text_fault (s : ByteArray) (g a en : Nat) (b : Bool) (w : World) (hs : s.size ≤ 65536) (ha : a < s.size) (hen : en ≤ s.size) (hS : Scan w g s a en b) (h1 : Tk.small (s[a].toNat : Int) = false) (h2 : Tk.capital (s[a].toNat : Int) = false) (h3 : Lib.hasPrefix (s.data.toList.drop a) [48, 39] = false) (h4 : Tk.digit (s[a].toNat : Int) = false) (h5 : Tk.sign (s[a].toNat : Int) = false) (e59 : ((s[a].toNat : Int) == 59) = false) (e33 : ((s[a].toNat : Int) == 33) = false) (e39 : ((s[a].toNat : Int) == 39) = false) (e34 : ((s[a].toNat : Int) == 34) = true) (p : Nat) (c : Int) (hR : Tk.readEnclosed 5 s.data.toList a = .fault p c) :
    Calls Tryz.prog 52 #[.pointer (some ⟨g, 0, none⟩)] w (Tk.RPost (.fault p c) g s a en b w) := by
  have HZ := Lib.hid (size_data s)
  have H1 := Lib.hid h1; clear h1
  have H2 := Lib.hid h2; clear h2
  have H3 := Lib.hid h3; clear h3
  have H4 := Lib.hid h4; clear h4
  have H5 := Lib.hid h5; clear h5
  have HR := Lib.hid hR; clear hR
  have hX := Fr.start hS
  have hc0 : w.cell? ⟨g, 0, none⟩ = some (.string s) := by simpa using Blk.cell hS 0
  go_enter Tryz.func52, Tryz.ntmps52
  go_wp2_with fail
  generalize hw1 : (w.alloc (.cells #[.int .i64 0, .string ⟨#[]⟩, .int .i64 0] 48)).alloc (.cells #[.int .i64 0, .int .i64 0] 26) = w1 at *
  clear hw1 hc0
  obtain ⟨hgl, hgl1, hc0, hc1, ht0, ht1, ht2, hu0, hu1, hv0, hv1, hv2, hv3, hv4, hv5⟩ := hX.facts
  go_quiet (fail)
  go_wp2_with fail
  clear hgl hgl1 hc0 hc1 ht0 ht1 ht2 hu0 hu1 hv0 hv1 hv2 hv3 hv4 hv5
  have hY := hX.drewN nq
  generalize hw2 : w1.drewN nq = w2 at *
  clear hX hw2
  obtain ⟨hgl, hgl1, hc0, hc1, ht0, ht1, ht2, hu0, hu1, hv0, hv1, hv2, hv3, hv4, hv5⟩ := hY.facts
  refine (isSmall_any _ _).mono ?_; rintro e w' ⟨rfl, rfl⟩
  rw [H1.out]
  go_wp2_with fail
  refine (isCapital_any _ _).mono ?_; rintro e w' ⟨rfl, rfl⟩
  rw [H2.out]
  go_wp2_with fail
  refine (has_any s ⟨#[48, 39]⟩ g a en b _ hs (by omega) hY.2.1).mono ?_; rintro e w' ⟨rfl, n1, rfl⟩
  rw [show (ByteArray.mk #[48, 39]).data.toList = [48, 39] from rfl, H3.out]
  go_wp2_with fail
  have hY' := hY.drewN n1
  generalize hw3 : w2.drewN n1 = w3 at *
  clear hw3 hY hgl hgl1 hc0 hc1 ht0 ht1 ht2 hu0 hu1 hv0 hv1 hv2 hv3 hv4 hv5
  have hY := hY'
  clear hY'
  obtain ⟨hgl, hgl1, hc0, hc1, ht0, ht1, ht2, hu0, hu1, hv0, hv1, hv2, hv3, hv4, hv5⟩ := hY.facts
  refine (isDigit_any _ _).mono ?_; rintro e w' ⟨rfl, rfl⟩
  rw [H4.out]
  go_wp2_with fail
  refine (isSign_any _ _).mono ?_; rintro e w' ⟨rfl, rfl⟩
  rw [H5.out]
  go_wp2_with fail
  refine (readEnclosed_any s g a en b 5 _ hs ha hY.2.1).mono ?_
  intro e w4 hp
  rw [HR.out] at hp
  clear hgl hgl1 hc0 hc1 ht0 ht1 ht2 hu0 hu1 hv0 hv1 hv2 hv3 hv4 hv5
  obtain ⟨rfl, hG3⟩ := hp
  have kgl := hY.1
  have hT := hY.2.2.1.grown hG3 (by simp; omega)
  have hF := hY.2.2.2.1.grown hG3 (by simp; omega)
  have hG := gb_trans hY.2.2.2.2 hG3
  have hx0 := hF.lt
  have kt0 : w4.cell? ⟨w.heap.size, 0, none⟩ = some (.int .i64 0) := by simpa using hT.cell 0
  have kt1 : w4.cell? ⟨w.heap.size, 1, none⟩ = some (.string ⟨#[]⟩) := by simpa using hT.cell 1
  have kt2 : w4.cell? ⟨w.heap.size, 2, none⟩ = some (.int .i64 0) := by simpa using hT.cell 2
  have ku0 : w4.cell? ⟨w.heap.size + 1, 0, none⟩ = some (.int .i64 0) := by simpa using hF.cell 0
  have ku1 : w4.cell? ⟨w.heap.size + 1, 1, none⟩ = some (.int .i64 0) := by simpa using hF.cell 1
  have kv0 := hT.frozen 0
  have kv1 := hT.frozen 1
  have kv2 := hT.frozen 2
  have kv3 := hF.frozen 0
  have kv4 := hF.frozen 1
  unfold Tk.tokV Tk.fauV
  go_wp2_with fail
  exact bodyPost_ret (v := .tuple #[Tk.tokV 0 [] 0, Tk.fauV p c]) (by simp [results, Tryz.results52, go_sem, Tk.tokV, Tk.fauV, kt0, kt1, kt2, ku0, ku1]) rfl ⟨rfl, (by repeat (first | with_reducible exact hG | with_reducible exact gb_refl _ _ | (with_reducible refine gb_set ?_ (by first | (right; dsimp only; omega) | exact .inl rfl) _) | (with_reducible refine gb_drewN ?_ _) | (with_reducible refine gb_drew ?_) | (with_reducible refine gb_alloc ?_ _)))⟩

theorem read_text (s : ByteArray) (g a en : Nat) (b : Bool) (w : World) (hs : s.size ≤ 65536) (ha : a < s.size) (hen : en ≤ s.size) (hS : Scan w g s a en b) (h1 : Tk.small (s[a].toNat : Int) = false) (h2 : Tk.capital (s[a].toNat : Int) = false) (h3 : Lib.hasPrefix (s.data.toList.drop a) [48, 39] = false) (h4 : Tk.digit (s[a].toNat : Int) = false) (h5 : Tk.sign (s[a].toNat : Int) = false) (e59 : ((s[a].toNat : Int) == 59) = false) (e33 : ((s[a].toNat : Int) == 33) = false) (e39 : ((s[a].toNat : Int) == 39) = false) (e34 : ((s[a].toNat : Int) == 34) = true) :
    Calls Tryz.prog 52 #[.pointer (some ⟨g, 0, none⟩)] w (Tk.RPost (Tk.readEnclosed 5 s.data.toList a) g s a en b w) := by
  cases hR : Tk.readEnclosed 5 s.data.toList a with
  | tok k tx z => exact read_text_tok s g a en b w hs ha hen hS h1 h2 h3 h4 h5 e59 e33 e39 e34 k tx z hR
  | fault p c => exact read_text_fault s g a en b w hs ha hen hS h1 h2 h3 h4 h5 e59 e33 e39 e34 p c hR

set_option maxRecDepth 100000 in
set_option maxHeartbeats 4000000 in
theorem read_punct (s : ByteArray) (g a en : Nat) (b : Bool) (w : World) (hs : s.size ≤ 65536) (ha : a < s.size) (hen : en ≤ s.size) (hS : Scan w g s a en b) (h1 : Tk.small (s[a].toNat : Int) = false) (h2 : Tk.capital (s[a].toNat : Int) = false) (h3 : Lib.hasPrefix (s.data.toList.drop a) [48, 39] = false) (h4 : Tk.digit (s[a].toNat : Int) = false) (h5 : Tk.sign (s[a].toNat : Int) = false) (e59 : ((s[a].toNat : Int) == 59) = false) (e33 : ((s[a].toNat : Int) == 33) = false) (e39 : ((s[a].toNat : Int) == 39) = false) (e34 : ((s[a].toNat : Int) == 34) = false) (h6 : Tk.punct (s[a].toNat : Int) = true) :
    Calls Tryz.prog 52 #[.pointer (some ⟨g, 0, none⟩)] w (Tk.RPost (.tok 6 (Tk.punctText s.data.toList a en b) (a + 1)) g s a en b w) := by
  have HZ := Lib.hid (size_data s)
  have H1 := Lib.hid h1; clear h1
  have H2 := Lib.hid h2; clear h2
  have H3 := Lib.hid h3; clear h3
  have H4 := Lib.hid h4; clear h4
  have H5 := Lib.hid h5; clear h5
  have H6 := Lib.hid h6; clear h6
  have hX := Fr.start hS
  have hc0 : w.cell? ⟨g, 0, none⟩ = some (.string s) := by simpa using Blk.cell hS 0
  go_enter Tryz.func52, Tryz.ntmps52
  go_wp2_with fail
  generalize hw1 : (w.alloc (.cells #[.int .i64 0, .string ⟨#[]⟩, .int .i64 0] 48)).alloc (.cells #[.int .i64 0, .int .i64 0] 26) = w1 at *
  clear hw1 hc0
  obtain ⟨hgl, hgl1, hc0, hc1, ht0, ht1, ht2, hu0, hu1, hv0, hv1, hv2, hv3, hv4, hv5⟩ := hX.facts
  go_quiet (fail)
  go_wp2_with fail
  clear hgl hgl1 hc0 hc1 ht0 ht1 ht2 hu0 hu1 hv0 hv1 hv2 hv3 hv4 hv5
  have hY := hX.drewN nq
  generalize hw2 : w1.drewN nq = w2 at *
  clear hX hw2
  obtain ⟨hgl, hgl1, hc0, hc1, ht0, ht1, ht2, hu0, hu1, hv0, hv1, hv2, hv3, hv4, hv5⟩ := hY.facts
  refine (isSmall_any _ _).mono ?_; rintro e w' ⟨rfl, rfl⟩
  rw [H1.out]
  go_wp2_with fail
  refine (isCapital_any _ _).mono ?_; rintro e w' ⟨rfl, rfl⟩
  rw [H2.out]
  go_wp2_with fail
  refine (has_any s ⟨#[48, 39]⟩ g a en b _ hs (by omega) hY.2.1).mono ?_; rintro e w' ⟨rfl, n1, rfl⟩
  rw [show (ByteArray.mk #[48, 39]).data.toList = [48, 39] from rfl, H3.out]
  go_wp2_with fail
  have hY' := hY.drewN n1
  generalize hw3 : w2.drewN n1 = w3 at *
  clear hw3 hY hgl hgl1 hc0 hc1 ht0 ht1 ht2 hu0 hu1 hv0 hv1 hv2 hv3 hv4 hv5
  have hY := hY'
  clear hY'
  obtain ⟨hgl, hgl1, hc0, hc1, ht0, ht1, ht2, hu0, hu1, hv0, hv1, hv2, hv3, hv4, hv5⟩ := hY.facts
  refine (isDigit_any _ _).mono ?_; rintro e w' ⟨rfl, rfl⟩
  rw [H4.out]
  go_wp2_with fail
  refine (isSign_any _ _).mono ?_; rintro e w' ⟨rfl, rfl⟩
  rw [H5.out]
  go_wp2_with fail
  refine (isPunct_any _ _).mono ?_; rintro e w' ⟨rfl, rfl⟩
  rw [H6.out]
  go_wp2_with fail
  refine (readPunct_any s g a en b _ hs ha hen hY.2.1).mono ?_; rintro e w4 ⟨rfl, hS3, hG3⟩
  have hX3 := hY.step hG3 hS3
  clear hgl hgl1 hc0 hc1 ht0 ht1 ht2 hu0 hu1 hv0 hv1 hv2 hv3 hv4 hv5
  obtain ⟨kgl, kgl1, kc0, kc1, kt0, kt1, kt2, ku0, ku1, kv0, kv1, kv2, kv3, kv4, kv5⟩ := hX3.facts
  unfold Tk.tokV
  go_wp2_with fail
  exact bodyPost_ret (v := .tuple #[Tk.tokV 6 (Tk.punctText s.data.toList a en b) a, Tk.fauV 0 0]) (by simp [results, Tryz.results52, go_sem, Tk.tokV, Tk.fauV, kt0, kt1, kt2, ku0, ku1]) rfl ⟨rfl, hX3.fin _ _ _ _ _⟩

set_option maxRecDepth 100000 in
set_option maxHeartbeats 4000000 in
theorem read_none (s : ByteArray) (g a en : Nat) (b : Bool) (w : World) (hs : s.size ≤ 65536) (ha : a < s.size) (hen : en ≤ s.size) (hS : Scan w g s a en b) (h1 : Tk.small (s[a].toNat : Int) = false) (h2 : Tk.capital (s[a].toNat : Int) = false) (h3 : Lib.hasPrefix (s.data.toList.drop a) [48, 39] = false) (h4 : Tk.digit (s[a].toNat : Int) = false) (h5 : Tk.sign (s[a].toNat : Int) = false) (e59 : ((s[a].toNat : Int) == 59) = false) (e33 : ((s[a].toNat : Int) == 33) = false) (e39 : ((s[a].toNat : Int) == 39) = false) (e34 : ((s[a].toNat : Int) == 34) = false) (h6 : Tk.punct (s[a].toNat : Int) = false) :
    Calls Tryz.prog 52 #[.pointer (some ⟨g, 0, none⟩)] w (Tk.RPost (.fault a 2) g s a en b w) := by
  have HZ := Lib.hid (size_data s)
  have H1 := Lib.hid h1; clear h1
  have H2 := Lib.hid h2; clear h2
  have H3 := Lib.hid h3; clear h3
  have H4 := Lib.hid h4; clear h4
  have H5 := Lib.hid h5; clear h5
  have H6 := Lib.hid h6; clear h6
  have hX := Fr.start hS
  have hc0 : w.cell? ⟨g, 0, none⟩ = some (.string s) := by simpa using Blk.cell hS 0
  go_enter Tryz.func52, Tryz.ntmps52
  go_wp2_with fail
  generalize hw1 : (w.alloc (.cells #[.int .i64 0, .string ⟨#[]⟩, .int .i64 0] 48)).alloc (.cells #[.int .i64 0, .int .i64 0] 26) = w1 at *
  clear hw1 hc0
  obtain ⟨hgl, hgl1, hc0, hc1, ht0, ht1, ht2, hu0, hu1, hv0, hv1, hv2, hv3, hv4, hv5⟩ := hX.facts
  go_quiet (fail)
  go_wp2_with fail
  clear hgl hgl1 hc0 hc1 ht0 ht1 ht2 hu0 hu1 hv0 hv1 hv2 hv3 hv4 hv5
  have hY := hX.drewN nq
  generalize hw2 : w1.drewN nq = w2 at *
  clear hX hw2
  obtain ⟨hgl, hgl1, hc0, hc1, ht0, ht1, ht2, hu0, hu1, hv0, hv1, hv2, hv3, hv4, hv5⟩ := hY.facts
  refine (isSmall_any _ _).mono ?_; rintro e w' ⟨rfl, rfl⟩
  rw [H1.out]
  go_wp2_with fail
  refine (isCapital_any _ _).mono ?_; rintro e w' ⟨rfl, rfl⟩
  rw [H2.out]
  go_wp2_with fail
  refine (has_any s ⟨#[48, 39]⟩ g a en b _ hs (by omega) hY.2.1).mono ?_; rintro e w' ⟨rfl, n1, rfl⟩
  rw [show (ByteArray.mk #[48, 39]).data.toList = [48, 39] from rfl, H3.out]
  go_wp2_with fail
  have hY' := hY.drewN n1
  generalize hw3 : w2.drewN n1 = w3 at *
  clear hw3 hY hgl hgl1 hc0 hc1 ht0 ht1 ht2 hu0 hu1 hv0 hv1 hv2 hv3 hv4 hv5
  have hY := hY'
  clear hY'
  obtain ⟨hgl, hgl1, hc0, hc1, ht0, ht1, ht2, hu0, hu1, hv0, hv1, hv2, hv3, hv4, hv5⟩ := hY.facts
  refine (isDigit_any _ _).mono ?_; rintro e w' ⟨rfl, rfl⟩
  rw [H4.out]
  go_wp2_with fail
  refine (isSign_any _ _).mono ?_; rintro e w' ⟨rfl, rfl⟩
  rw [H5.out]
  go_wp2_with fail
  refine (isPunct_any _ _).mono ?_; rintro e w' ⟨rfl, rfl⟩
  rw [H6.out]
  go_wp2_with fail
  refine (faultAt_any a 2 _).mono ?_; rintro e w4 ⟨rfl, hB2⟩
  have hX3 := hY.below hB2
  clear hgl hgl1 hc0 hc1 ht0 ht1 ht2 hu0 hu1 hv0 hv1 hv2 hv3 hv4 hv5
  obtain ⟨kgl, kgl1, kc0, kc1, kt0, kt1, kt2, ku0, ku1, kv0, kv1, kv2, kv3, kv4, kv5⟩ := hX3.facts
  go_wp2_with fail
  exact bodyPost_ret (v := .tuple #[Tk.tokV 0 [] 0, Tk.fauV a 2]) (by simp [results, Tryz.results52, go_sem, Tk.tokV, Tk.fauV, kt0, kt1, kt2, ku0, ku1]) rfl ⟨rfl, (hX3.fin _ _ _ _ _).2⟩

theorem read_any (s : ByteArray) (g a en : Nat) (b : Bool) (w : World) (hs : s.size ≤ 65536) (ha : a < s.size) (hen : en ≤ s.size) (hS : Scan w g s a en b) :
    Calls Tryz.prog 52 #[.pointer (some ⟨g, 0, none⟩)] w (Tk.RPost (Tk.read s.data.toList a en b) g s a en b w) := by
  have hB := Tk.bt_of s a ha
  unfold Tk.read
  rw [← hB]
  cases h1 : Tk.small (s[a].toNat : Int)
  case true => rw [if_pos rfl]; exact read_small s g a en b w hs ha hen hS h1
  rw [if_neg (by decide)]
  cases h2 : Tk.capital (s[a].toNat : Int)
  case true => rw [if_pos rfl]; exact read_capital s g a en b w hs ha hen hS h1 h2
  rw [if_neg (by decide)]
  cases h3 : Lib.hasPrefix (s.data.toList.drop a) [48, 39]
  case true => rw [if_pos rfl]; exact read_char s g a en b w hs ha hen hS h1 h2 h3
  rw [if_neg (by decide)]
  cases h4 : Tk.digit (s[a].toNat : Int)
  case true => rw [if_pos rfl]; exact read_digit s g a en b w hs ha hen hS h1 h2 h3 h4
  rw [if_neg (by decide)]
  cases h5 : Tk.sign (s[a].toNat : Int)
  case true => rw [if_pos rfl]; exact read_signs s g a en b w hs ha hen hS h1 h2 h3 h4 h5
  rw [if_neg (by decide)]
  cases e59 : ((s[a].toNat : Int) == 59)
  case true => rw [if_pos rfl]; exact read_semi s g a en b w hs ha hen hS h1 h2 h3 h4 h5 e59
  rw [if_neg (by decide)]
  cases e33 : ((s[a].toNat : Int) == 33)
  case true => rw [if_pos rfl]; exact read_bang s g a en b w hs ha hen hS h1 h2 h3 h4 h5 e59 e33
  rw [if_neg (by decide)]
  cases e39 : ((s[a].toNat : Int) == 39)
  case true => rw [if_pos rfl]; exact read_name s g a en b w hs ha hen hS h1 h2 h3 h4 h5 e59 e33 e39
  rw [if_neg (by decide)]
  cases e34 : ((s[a].toNat : Int) == 34)
  case true => rw [if_pos rfl]; exact read_text s g a en b w hs ha hen hS h1 h2 h3 h4 h5 e59 e33 e39 e34
  rw [if_neg (by decide)]
  cases h6 : Tk.punct (s[a].toNat : Int)
  case true => rw [if_pos rfl]; exact read_punct s g a en b w hs ha hen hS h1 h2 h3 h4 h5 e59 e33 e39 e34 h6
  rw [if_neg (by decide)]
  exact read_none s g a en b w hs ha hen hS h1 h2 h3 h4 h5 e59 e33 e39 e34 h6
end Go.Proofs.YtaefonagbcnmdaaGreatDoor
