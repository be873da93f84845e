import Derived.Test.YtaefonagbcnmdaaGreatDoorA16
set_option linter.unusedSimpArgs false
set_option linter.unusedVariables false
namespace Go.Proofs.YtaefonagbcnmdaaGreatDoor
open Go.RowKit

theorem Tk.enc_code {kind : Int} {l : List UInt8} {a : Nat} {m : Int} {p : Nat} {c : Int} : ∀ {f i : Nat} {acc : List UInt8}, Tk.enc kind l a m f i acc = .fault p c → c = 12 ∨ c = 11 ∨ c = 2
  | 0, i, acc, h => by simp only [Tk.enc, Tk.R.fault.injEq] at h; omega
  | f + 1, i, acc, h => by
    rw [Tk.enc] at h
    split at h
    · split at h
      · cases h
      · split at h
        · split at h
          · split at h
            · split at h
              · split at h
                · split at h
                  · exact Tk.enc_code h
                  · simp only [Tk.R.fault.injEq] at h; omega
                · simp only [Tk.R.fault.injEq] at h; omega
              · exact Tk.enc_code h
            · exact Tk.enc_code h
          · simp only [Tk.R.fault.injEq] at h; omega
        · simp only [Tk.R.fault.injEq] at h; omega
    · simp only [Tk.R.fault.injEq] at h; omega
def Tk.badName (t : List UInt8) : Bool := t.isEmpty || decide (0 ≤ Lib.indexByte t 46)
def Tk.readName (l : List UInt8) (a : Nat) : Tk.R :=
  match Tk.readEnclosed 1 l a with
  | .tok k t z => if Tk.badName t then .fault a 11 else .tok k t z
  | .fault p c => .fault p c

set_option maxRecDepth 100000 in
set_option maxHeartbeats 1000000 in
theorem readName_empty (s : ByteArray) (g a en : Nat) (b : Bool) (w : World) (hs : s.size ≤ 65536) (ha : a < s.size) (hS : Scan w g s a en b) (k : Int) (z : Nat) (hre : Tk.readEnclosed 1 s.data.toList a = .tok k [] z) :
    Calls Tryz.prog 90 #[.pointer (some ⟨g, 0, none⟩)] w (Tk.RPost (.fault a 11) g s a en b w) := by
  have HRE := Lib.hid hre; clear hre
  have hX := Fr.start hS
  go_enter Tryz.func90, Tryz.ntmps90
  go_wp2_with fail
  generalize hw1 : (w.alloc (.cells #[.int .i64 0, .string ⟨#[]⟩, .int .i64 0] 48)).alloc (.cells #[.int .i64 0, .int .i64 0] 26) = w1 at *
  clear hw1
  refine (readEnclosed_any s g a en b 1 _ hs ha hX.2.1).mono ?_
  intro e w2 hp
  rw [HRE.out] at hp
  obtain ⟨rfl, hS2, hG2⟩ := hp
  have hX2 := hX.step hG2 hS2
  clear hX
  obtain ⟨hgl, hgl1, hc0, hc1, ht0, ht1, ht2, hu0, hu1, hv0, hv1, hv2, hv3, hv4, hv5⟩ := hX2.facts
  have hx1 : w.heap.size < w2.heap.size := by omega
  have hx2 : w.heap.size < w2.heap.size + 1 := by omega
  have hx3 : w.heap.size + 1 < w2.heap.size + 1 := by omega
  unfold Tk.tokV Tk.fauV
  go_wp2_with fail
  refine (faultAt_any a 11 _).mono ?_; rintro e w3 ⟨rfl, hB3⟩
  have hX3 := ((hX2.alloc (.cells #[.int .i64 k, .string ⟨([] : List UInt8).toArray⟩, .int .i64 a] 48)).alloc (.cells #[.int .i64 0, .int .i64 0] 26)).below hB3
  clear hgl hgl1 hc0 hc1 ht0 ht1 ht2 hu0 hu1 hv0 hv1 hv2 hv3 hv4 hv5 hx1 hx2 hx3
  obtain ⟨hgl, hgl1, hc0, hc1, ht0, ht1, ht2, hu0, hu1, hv0, hv1, hv2, hv3, hv4, hv5⟩ := hX3.facts
  go_wp2_with fail
  exact bodyPost_ret (v := .tuple #[Tk.tokV 0 [] 0, Tk.fauV a 11]) (by simp [results, Tryz.results90, go_sem, Tk.tokV, Tk.fauV, ht0, ht1, ht2, hu0, hu1]) rfl ⟨rfl, (hX3.fin _ _ _ _ _).2⟩

set_option maxRecDepth 100000 in
set_option maxHeartbeats 1000000 in
theorem readName_dot (s : ByteArray) (g a en : Nat) (b : Bool) (w : World) (hs : s.size ≤ 65536) (ha : a < s.size) (hS : Scan w g s a en b) (k : Int) (tx : List UInt8) (z : Nat) (hre : Tk.readEnclosed 1 s.data.toList a = .tok k tx z) (he : tx ≠ []) (hdot : decide (0 ≤ Lib.indexByte tx 46) = true) :
    Calls Tryz.prog 90 #[.pointer (some ⟨g, 0, none⟩)] w (Tk.RPost (.fault a 11) g s a en b w) := by
  have HRE := Lib.hid hre; clear hre
  have hX := Fr.start hS
  have he2 : tx.isEmpty = false := by simpa using he
  clear he
  have HD := Lib.hid hdot; clear hdot
  go_enter Tryz.func90, Tryz.ntmps90
  go_wp2_with fail
  generalize hw1 : (w.alloc (.cells #[.int .i64 0, .string ⟨#[]⟩, .int .i64 0] 48)).alloc (.cells #[.int .i64 0, .int .i64 0] 26) = w1 at *
  clear hw1
  refine (readEnclosed_any s g a en b 1 _ hs ha hX.2.1).mono ?_
  intro e w2 hp
  rw [HRE.out] at hp
  obtain ⟨rfl, hS2, hG2⟩ := hp
  have hX2 := hX.step hG2 hS2
  clear hX
  obtain ⟨hgl, hgl1, hc0, hc1, ht0, ht1, ht2, hu0, hu1, hv0, hv1, hv2, hv3, hv4, hv5⟩ := hX2.facts
  have hx1 : w.heap.size < w2.heap.size := by omega
  have hx2 : w.heap.size < w2.heap.size + 1 := by omega
  have hx3 : w.heap.size + 1 < w2.heap.size + 1 := by omega
  unfold Tk.tokV Tk.fauV
  go_wp2_with fail
  refine (Tryz.strings_Contains_one _ 46 _).mono ?_; rintro e w' ⟨rfl, rfl⟩
  rw [show ({ data := tx.toArray } : ByteArray).data.toList = tx from rfl, HD.out]
  go_wp2_with fail
  refine (faultAt_any a 11 _).mono ?_; rintro e w3 ⟨rfl, hB3⟩
  have hX3 := ((hX2.alloc (.cells #[.int .i64 k, .string ⟨tx.toArray⟩, .int .i64 a] 48)).alloc (.cells #[.int .i64 0, .int .i64 0] 26)).below hB3
  clear hgl hgl1 hc0 hc1 ht0 ht1 ht2 hu0 hu1 hv0 hv1 hv2 hv3 hv4 hv5 hx1 hx2 hx3
  obtain ⟨hgl, hgl1, hc0, hc1, ht0, ht1, ht2, hu0, hu1, hv0, hv1, hv2, hv3, hv4, hv5⟩ := hX3.facts
  go_wp2_with fail
  exact bodyPost_ret (v := .tuple #[Tk.tokV 0 [] 0, Tk.fauV a 11]) (by simp [results, Tryz.results90, go_sem, Tk.tokV, Tk.fauV, ht0, ht1, ht2, hu0, hu1]) rfl ⟨rfl, (hX3.fin _ _ _ _ _).2⟩

set_option maxRecDepth 100000 in
set_option maxHeartbeats 1000000 in
theorem readName_ok (s : ByteArray) (g a en : Nat) (b : Bool) (w : World) (hs : s.size ≤ 65536) (ha : a < s.size) (hS : Scan w g s a en b) (k : Int) (tx : List UInt8) (z : Nat) (hre : Tk.readEnclosed 1 s.data.toList a = .tok k tx z) (he : tx ≠ []) (hdot : decide (0 ≤ Lib.indexByte tx 46) = false) :
    Calls Tryz.prog 90 #[.pointer (some ⟨g, 0, none⟩)] w (Tk.RPost (.tok k tx z) g s a en b w) := by
  have HRE := Lib.hid hre; clear hre
  have hX := Fr.start hS
  have he2 : tx.isEmpty = false := by simpa using he
  clear he
  have HD := Lib.hid hdot; clear hdot
  go_enter Tryz.func90, Tryz.ntmps90
  go_wp2_with fail
  generalize hw1 : (w.alloc (.cells #[.int .i64 0, .string ⟨#[]⟩, .int .i64 0] 48)).alloc (.cells #[.int .i64 0, .int .i64 0] 26) = w1 at *
  clear hw1
  refine (readEnclosed_any s g a en b 1 _ hs ha hX.2.1).mono ?_
  intro e w2 hp
  rw [HRE.out] at hp
  obtain ⟨rfl, hS2, hG2⟩ := hp
  have hX2 := hX.step hG2 hS2
  clear hX
  obtain ⟨hgl, hgl1, hc0, hc1, ht0, ht1, ht2, hu0, hu1, hv0, hv1, hv2, hv3, hv4, hv5⟩ := hX2.facts
  have hx1 : w.heap.size < w2.heap.size := by omega
  have hx2 : w.heap.size < w2.heap.size + 1 := by omega
  have hx3 : w.heap.size + 1 < w2.heap.size + 1 := by omega
  unfold Tk.tokV Tk.fauV
  go_wp2_with fail
  refine (Tryz.strings_Contains_one _ 46 _).mono ?_; rintro e w' ⟨rfl, rfl⟩
  rw [show ({ data := tx.toArray } : ByteArray).data.toList = tx from rfl, HD.out]
  go_wp2_with fail
  go_region
  go_wp2_with fail
  have hfin := hX2.fin (.int .i64 k) (.string ⟨tx.toArray⟩) (.int .i64 a) (.int .i64 0) (.int .i64 0)
  exact bodyPost_ret (v := .tuple #[Tk.tokV k tx a, Tk.fauV 0 0]) (by simp [results, Tryz.results90, go_sem, Tk.tokV, Tk.fauV, ht0, ht1, ht2, hu0, hu1, hx1, hx2, hx3, hgl1]) rfl ⟨rfl, Blk.drew (Blk.alloc (Blk.alloc hfin.1 _) _), gb_drew (gb_alloc (gb_alloc hfin.2 _) _)⟩

set_option maxRecDepth 100000 in
set_option maxHeartbeats 1000000 in
theorem readName_fault (s : ByteArray) (g a en : Nat) (b : Bool) (w : World) (hs : s.size ≤ 65536) (ha : a < s.size) (hS : Scan w g s a en b) (p : Nat) (c : Int) (hre : Tk.readEnclosed 1 s.data.toList a = .fault p c) :
    Calls Tryz.prog 90 #[.pointer (some ⟨g, 0, none⟩)] w (Tk.RPost (.fault p c) g s a en b w) := by
  have HRE := Lib.hid hre; clear hre
  have hX := Fr.start hS
  go_enter Tryz.func90, Tryz.ntmps90
  go_wp2_with fail
  generalize hw1 : (w.alloc (.cells #[.int .i64 0, .string ⟨#[]⟩, .int .i64 0] 48)).alloc (.cells #[.int .i64 0, .int .i64 0] 26) = w1 at *
  clear hw1
  refine (readEnclosed_any s g a en b 1 _ hs ha hX.2.1).mono ?_
  intro e w2 hp
  rw [HRE.out] at hp
  obtain ⟨rfl, hG2⟩ := hp
  have hgl := hX.1
  have hc : c ≠ 0 := by have := Tk.enc_code HRE.out; omega
  have hT := hX.2.2.1.grown hG2 (by simp; omega)
  have hF := hX.2.2.2.1.grown hG2 (by simp; omega)
  have hG := gb_trans hX.2.2.2.2 hG2
  have hx0 := hF.lt
  have ht0 : w2.cell? ⟨w.heap.size, 0, none⟩ = some (.int .i64 0) := by simpa using hT.cell 0
  have ht1 : w2.cell? ⟨w.heap.size, 1, none⟩ = some (.string ⟨#[]⟩) := by simpa using hT.cell 1
  have ht2 : w2.cell? ⟨w.heap.size, 2, none⟩ = some (.int .i64 0) := by simpa using hT.cell 2
  have hu0 : w2.cell? ⟨w.heap.size + 1, 0, none⟩ = some (.int .i64 0) := by simpa using hF.cell 0
  have hu1 : w2.cell? ⟨w.heap.size + 1, 1, none⟩ = some (.int .i64 0) := by simpa using hF.cell 1
  have hv0 := hT.frozen 0
  have hv1 := hT.frozen 1
  have hv2 := hT.frozen 2
  have hv3 := hF.frozen 0
  have hv4 := hF.frozen 1
  have hx1 : w.heap.size < w2.heap.size := by omega
  have hx2 : w.heap.size < w2.heap.size + 1 := by omega
  have hx3 : w.heap.size + 1 < w2.heap.size + 1 := by omega
  have ec : (c == 0) = false := by rw [beq_eq_false_iff_ne]; exact hc
  clear hX
  unfold Tk.tokV Tk.fauV
  go_wp2_with fail
  go_region
  go_wp2_with fail
  exact bodyPost_ret (v := .tuple #[Tk.tokV 0 [] 0, Tk.fauV p c]) (by simp [results, Tryz.results90, go_sem, Tk.tokV, Tk.fauV, ht0, ht1, ht2, hu0, hu1, hx1, hx2, hx3, hx0]) rfl ⟨rfl, (by repeat (first | with_reducible exact hG | with_reducible exact gb_refl _ _ | (with_reducible refine gb_set ?_ (by first | (right; dsimp only; omega) | exact .inl rfl) _) | (with_reducible refine gb_drewN ?_ _) | (with_reducible refine gb_drew ?_) | (with_reducible refine gb_alloc ?_ _)))⟩

theorem readName_any (s : ByteArray) (g a en : Nat) (b : Bool) (w : World) (hs : s.size ≤ 65536) (ha : a < s.size) (hS : Scan w g s a en b) :
    Calls Tryz.prog 90 #[.pointer (some ⟨g, 0, none⟩)] w (Tk.RPost (Tk.readName s.data.toList a) g s a en b w) := by
  unfold Tk.readName
  cases hre : Tk.readEnclosed 1 s.data.toList a with
  | tok k tx z =>
    dsimp only
    cases he : tx.isEmpty
    · have he2 : tx ≠ [] := by simpa using he
      cases hd : decide (0 ≤ Lib.indexByte tx 46)
      · rw [if_neg (by rw [Tk.badName, he, hd]; decide)]
        exact readName_ok s g a en b w hs ha hS k tx z hre he2 hd
      · rw [if_pos (by rw [Tk.badName, he, hd]; decide)]
        exact readName_dot s g a en b w hs ha hS k tx z hre he2 hd
    · have he2 : tx = [] := by simpa using he
      subst he2
      rw [if_pos (by rfl)]
      exact readName_empty s g a en b w hs ha hS k z hre
  | fault p c => exact readName_fault s g a en b w hs ha hS p c hre
end Go.Proofs.YtaefonagbcnmdaaGreatDoor
