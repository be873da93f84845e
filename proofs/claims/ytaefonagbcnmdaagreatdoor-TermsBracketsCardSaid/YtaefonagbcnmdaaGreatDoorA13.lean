import Derived.Test.YtaefonagbcnmdaaGreatDoorA12
import Derived.WideShapes
set_option linter.unusedSimpArgs false
set_option linter.unusedVariables false
namespace Go.Proofs.YtaefonagbcnmdaaGreatDoor
open Go.RowKit

/-- What a reading of one token comes to: a token (its kind, its text, its end) or a fault (where, which). -/
inductive Tk.R where
  | tok (kind : Int) (text : List UInt8) (z : Nat)
  | fault (p : Nat) (c : Int)
def Tk.str (t : List UInt8) : Value := .string ⟨t.toArray⟩
def Tk.tokV (k : Int) (t : List UInt8) (a : Nat) : Value := .agg #[.int .i64 k, .string ⟨t.toArray⟩, .int .i64 a]
def Tk.fauV (p : Nat) (c : Int) : Value := .agg #[.int .i64 p, .int .i64 c]
def Tk.RPost (r : Tk.R) (g : Nat) (s : ByteArray) (a en : Nat) (b : Bool) (w : World) (e : Ending) (w' : World) : Prop :=
  match r with
  | .tok k t z => e = .returned (.tuple #[Tk.tokV k t a, Tk.fauV 0 0]) ∧ Scan w' g s z en b ∧ w.grownBy w' (some g)
  | .fault p c => e = .returned (.tuple #[Tk.tokV 0 [] 0, Tk.fauV p c]) ∧ w.grownBy w' (some g)
def Tk.sub (l : List UInt8) (a z : Nat) : List UInt8 := (l.drop a).take (z - a)
theorem sub_str (s : ByteArray) (a z : Nat) : s.extract a z = ⟨(Tk.sub s.data.toList a z).toArray⟩ := by
  apply Go.WideShapes.bytes_inj
  rw [cut_mid]
  rfl
theorem sub_list (s : ByteArray) (a z : Nat) : (s.extract a z).toList = Tk.sub s.data.toList a z := by
  rw [Go.ByteArray.toList_eq, cut_mid]
  rfl

/-- The frame of a reader: the scanner's block and the two variables of its results. -/
def Fr (w w1 : World) (g : Nat) (s : ByteArray) (a en : Nat) (b : Bool) : Prop :=
  g < w.heap.size ∧ Scan w1 g s a en b ∧ Blk w1 w.heap.size 48 #[.int .i64 0, .string ⟨#[]⟩, .int .i64 0] ∧ Blk w1 (w.heap.size + 1) 26 #[.int .i64 0, .int .i64 0] ∧ w.grownBy w1 (some g)
section
variable {w w1 w2 : World} {g : Nat} {s : ByteArray} {a en a' en' : Nat} {b b' : Bool}
theorem Fr.start (h : Scan w g s a en b) : Fr w ((w.alloc (.cells #[.int .i64 0, .string ⟨#[]⟩, .int .i64 0] 48)).alloc (.cells #[.int .i64 0, .int .i64 0] 26)) g s a en b :=
  ⟨h.lt, (h.alloc _).alloc _, (Blk.new _ _ _).alloc _, by have := Blk.new (w.alloc (.cells #[.int .i64 0, .string ⟨#[]⟩, .int .i64 0] 48)) 26 #[.int .i64 0, .int .i64 0]; rwa [World.size_alloc] at this, gb_alloc (gb_alloc (gb_refl _ _) _) _⟩
theorem Fr.drewN (h : Fr w w1 g s a en b) (n : Nat) : Fr w (w1.drewN n) g s a en b := ⟨h.1, h.2.1.drewN n, h.2.2.1.drewN n, h.2.2.2.1.drewN n, gb_drewN h.2.2.2.2 n⟩
theorem Fr.drew (h : Fr w w1 g s a en b) : Fr w w1.drew g s a en b := ⟨h.1, h.2.1.drew, h.2.2.1.drew, h.2.2.2.1.drew, gb_drew h.2.2.2.2⟩
theorem Fr.alloc (h : Fr w w1 g s a en b) (o : Obj) : Fr w (w1.alloc o) g s a en b := ⟨h.1, h.2.1.alloc o, h.2.2.1.alloc o, h.2.2.2.1.alloc o, gb_alloc h.2.2.2.2 o⟩
theorem Fr.far (h : Fr w w1 g s a en b) {p : Addr} (hp : w.heap.size + 1 < p.block) (v : Value) : Fr w (w1.setCell p v) g s a en b :=
  ⟨h.1, h.2.1.far (by have := h.1; omega) v, h.2.2.1.far (by omega) v, h.2.2.2.1.far (by omega) v, gb_set h.2.2.2.2 (.inr (by omega)) v⟩
theorem Fr.below (h : Fr w w1 g s a en b) (hb : Below w1.heap.size w1 w2) : Fr w w2 g s a en b :=
  ⟨h.1, h.2.1.below hb h.2.1.lt, h.2.2.1.below hb h.2.2.1.lt, h.2.2.2.1.below hb h.2.2.2.1.lt, gb_below h.2.2.2.2 hb⟩
theorem Fr.step (h : Fr w w1 g s a en b) (hg : w1.grownBy w2 (some g)) (hs : Scan w2 g s a' en' b') : Fr w w2 g s a' en' b' :=
  ⟨h.1, hs, h.2.2.1.grown hg (by have := h.1; simp; omega), h.2.2.2.1.grown hg (by have := h.1; simp; omega), gb_trans h.2.2.2.2 hg⟩
theorem Fr.fin (h : Fr w w1 g s a en b) (v0 v1 v2 v3 v4 : Value) :
    Scan (((((w1.setCell ⟨w.heap.size, 0, none⟩ v0).setCell ⟨w.heap.size, 1, none⟩ v1).setCell ⟨w.heap.size, 2, none⟩ v2).setCell ⟨w.heap.size + 1, 0, none⟩ v3).setCell ⟨w.heap.size + 1, 1, none⟩ v4) g s a en b ∧
    w.grownBy (((((w1.setCell ⟨w.heap.size, 0, none⟩ v0).setCell ⟨w.heap.size, 1, none⟩ v1).setCell ⟨w.heap.size, 2, none⟩ v2).setCell ⟨w.heap.size + 1, 0, none⟩ v3).setCell ⟨w.heap.size + 1, 1, none⟩ v4) (some g) := by
  have hg := h.1
  refine ⟨?_, ?_⟩
  · exact (((((h.2.1.far (by show g ≠ w.heap.size; omega) _).far (by show g ≠ w.heap.size; omega) _).far (by show g ≠ w.heap.size; omega) _).far (by show g ≠ w.heap.size + 1; omega) _).far (by show g ≠ w.heap.size + 1; omega) _)
  · exact gb_set (gb_set (gb_set (gb_set (gb_set h.2.2.2.2 (.inr (Nat.le_refl _)) _) (.inr (Nat.le_refl _)) _) (.inr (Nat.le_refl _)) _) (.inr (by show w.heap.size ≤ w.heap.size + 1; omega)) _) (.inr (by show w.heap.size ≤ w.heap.size + 1; omega)) _
theorem Fr.facts (h : Fr w w1 g s a en b) : g < w.heap.size ∧ w.heap.size + 1 < w1.heap.size ∧ w1.cell? ⟨g, 0, none⟩ = some (.string s) ∧ w1.cell? ⟨g, 1, none⟩ = some (.int .i64 a) ∧
    w1.cell? ⟨w.heap.size, 0, none⟩ = some (.int .i64 0) ∧ w1.cell? ⟨w.heap.size, 1, none⟩ = some (.string ⟨#[]⟩) ∧ w1.cell? ⟨w.heap.size, 2, none⟩ = some (.int .i64 0) ∧
    w1.cell? ⟨w.heap.size + 1, 0, none⟩ = some (.int .i64 0) ∧ w1.cell? ⟨w.heap.size + 1, 1, none⟩ = some (.int .i64 0) ∧
    w1.frozen? ⟨w.heap.size, 0, none⟩ = false ∧ w1.frozen? ⟨w.heap.size, 1, none⟩ = false ∧ w1.frozen? ⟨w.heap.size, 2, none⟩ = false ∧
    w1.frozen? ⟨w.heap.size + 1, 0, none⟩ = false ∧ w1.frozen? ⟨w.heap.size + 1, 1, none⟩ = false ∧ w1.frozen? ⟨g, 1, none⟩ = false :=
  ⟨h.1, h.2.2.2.1.lt, by simpa using h.2.1.cell 0, by simpa using h.2.1.cell 1, by simpa using h.2.2.1.cell 0, by simpa using h.2.2.1.cell 1, by simpa using h.2.2.1.cell 2,
    by simpa using h.2.2.2.1.cell 0, by simpa using h.2.2.2.1.cell 1, h.2.2.1.frozen 0, h.2.2.1.frozen 1, h.2.2.1.frozen 2, h.2.2.2.1.frozen 0, h.2.2.2.1.frozen 1, h.2.1.frozen 1⟩
end

def Tk.readSigns (l : List UInt8) (a : Nat) : Tk.R :=
  let z := Tk.run Tk.sign l a
  if Tk.sub l a z = [46] then
    if z = l.length then .tok 7 (Tk.sub l a z) z
    else if Tk.blank (Tk.bt l z) then .tok 7 (Tk.sub l a z) z
    else if Tk.bt l z = 37 then .tok 7 (Tk.sub l a z) z
    else .fault a 11
  else .tok 1 (Tk.sub l a z) z

set_option maxRecDepth 100000 in
set_option maxHeartbeats 1000000 in
theorem readSigns_any (s : ByteArray) (g a en : Nat) (b : Bool) (w : World) (hs : s.size ≤ 65536) (ha : a ≤ s.size) (hS : Scan w g s a en b) :
    Calls Tryz.prog 88 #[.pointer (some ⟨g, 0, none⟩)] w (Tk.RPost (Tk.readSigns s.data.toList a) g s a en b w) := by
  have HZ := Lib.hid (size_data s)
  have HM : Hid (s.size ≤ maxLen) := by unfold Hid maxLen; omega
  have hz1 : Tk.run Tk.sign s.data.toList a ≤ s.size := by rw [← HZ.out]; exact Tk.run_le (by rw [HZ.out]; exact ha)
  have hz2 := Tk.run_ge Tk.sign s.data.toList a
  go_enter Tryz.func88, Tryz.ntmps88
  go_wp2_with fail
  have hX := Fr.start hS
  generalize hw1 : (w.alloc (.cells #[.int .i64 0, .string ⟨#[]⟩, .int .i64 0] 48)).alloc (.cells #[.int .i64 0, .int .i64 0] 26) = w1 at *
  clear hw1
  obtain ⟨hgl, hgl1, hc0, hc1, ht0, ht1, ht2, hu0, hu1, hv0, hv1, hv2, hv3, hv4, hv5⟩ := hX.facts
  go_quiet ((go_at_call 83; first | exact q1 (run_sign s a _ HM.out ha) | exact q2 (run_sign s a _ HM.out ha)))
  obtain ⟨z, hz⟩ : ∃ z, Tk.run Tk.sign s.data.toList a = z := ⟨_, rfl⟩
  have HZZ := Lib.hid hz
  rw [hz] at hz1 hz2 ⊢
  clear hz
  cases hdot : ((s.extract a z).toList == [46])
  · have hne : ¬ Tk.sub s.data.toList a z = [46] := by rw [← sub_list]; simpa using hdot
    have hR : Tk.readSigns s.data.toList a = .tok 1 (Tk.sub s.data.toList a z) z := by simp only [Tk.readSigns, HZZ.out]; rw [if_neg hne]
    have HR := Lib.hid hR; clear hR hne
    go_wp2_with fail
    go_quiet (fail)
    go_wp2_with fail
    refine (take_any s g a en b 1 z _ hs hz2 hz1 (hX.drewN _).2.1).mono ?_; rintro e w2 ⟨rfl, hS2, hG2⟩
    have hX2 := (hX.drewN _).step hG2 hS2
    clear hgl hgl1 hc0 hc1 ht0 ht1 ht2 hu0 hu1 hv0 hv1 hv2 hv3 hv4 hv5
    obtain ⟨hgl, hgl1, hc0, hc1, ht0, ht1, ht2, hu0, hu1, hv0, hv1, hv2, hv3, hv4, hv5⟩ := hX2.facts
    rw [sub_str]
    go_wp2_with fail
    rw [HR.out]
    exact bodyPost_ret (v := .tuple #[Tk.tokV 1 (Tk.sub s.data.toList a z) a, Tk.fauV 0 0]) (by simp [results, Tryz.results88, go_sem, Tk.tokV, Tk.fauV, ht0, ht1, ht2, hu0, hu1]) rfl ⟨rfl, hX2.fin _ _ _ _ _⟩
  · have hne : Tk.sub s.data.toList a z = [46] := by rw [← sub_list]; simpa using hdot
    have HNE := Lib.hid hne; clear hne
    by_cases hend : z = s.size
    · have e1 : ((z : Int) == (s.size : Int)) = true := by rw [beq_iff_eq]; omega
      have hR : Tk.readSigns s.data.toList a = .tok 7 (Tk.sub s.data.toList a z) z := by simp only [Tk.readSigns, HZZ.out]; rw [if_pos HNE.out, if_pos (by rw [HZ.out]; exact hend)]
      have HR := Lib.hid hR; clear hR hend
      go_wp2_with fail
      go_quiet (fail)
      go_wp2_with fail
      refine (take_any s g a en b 7 z _ hs hz2 hz1 (hX.drewN _).2.1).mono ?_; rintro e w2 ⟨rfl, hS2, hG2⟩
      have hX2 := (hX.drewN _).step hG2 hS2
      clear hgl hgl1 hc0 hc1 ht0 ht1 ht2 hu0 hu1 hv0 hv1 hv2 hv3 hv4 hv5
      obtain ⟨hgl, hgl1, hc0, hc1, ht0, ht1, ht2, hu0, hu1, hv0, hv1, hv2, hv3, hv4, hv5⟩ := hX2.facts
      rw [sub_str]
      go_wp2_with fail
      rw [HR.out]
      exact bodyPost_ret (v := .tuple #[Tk.tokV 7 (Tk.sub s.data.toList a z) a, Tk.fauV 0 0]) (by simp [results, Tryz.results88, go_sem, Tk.tokV, Tk.fauV, ht0, ht1, ht2, hu0, hu1]) rfl ⟨rfl, hX2.fin _ _ _ _ _⟩
    · have hlt : z < s.size := by omega
      have e1 : ((z : Int) == (s.size : Int)) = false := by rw [beq_eq_false_iff_ne]; omega
      have HB := Lib.hid (Tk.bt_of s z hlt)
      have hne2 : ¬ z = s.data.toList.length := by rw [HZ.out]; exact hend
      have HNE2 := Lib.hid hne2; clear hne2 hend
      cases hbl : Tk.blank (s[z].toNat : Int)
      · have HBL := Lib.hid hbl; clear hbl
        by_cases h37 : (s[z].toNat : Int) = 37
        · have e37 : ((s[z].toNat : Int) == 37) = true := by rw [beq_iff_eq]; exact h37
          have hR : Tk.readSigns s.data.toList a = .tok 7 (Tk.sub s.data.toList a z) z := by simp only [Tk.readSigns, HZZ.out]; rw [if_pos HNE.out, if_neg HNE2.out, ← HB.out, HBL.out, if_neg (by decide), if_pos h37]
          have HR := Lib.hid hR; clear hR h37
          go_wp2_with fail
          go_quiet (fail)
          go_wp2_with (go_at_call 76; refine (isBlank_any _ _).mono ?_; rintro e w' ⟨rfl, rfl⟩; rw [HBL.out])
          refine (take_any s g a en b 7 z _ hs hz2 hz1 (hX.drewN _).2.1).mono ?_; rintro e w2 ⟨rfl, hS2, hG2⟩
          have hX2 := (hX.drewN _).step hG2 hS2
          clear hgl hgl1 hc0 hc1 ht0 ht1 ht2 hu0 hu1 hv0 hv1 hv2 hv3 hv4 hv5
          obtain ⟨hgl, hgl1, hc0, hc1, ht0, ht1, ht2, hu0, hu1, hv0, hv1, hv2, hv3, hv4, hv5⟩ := hX2.facts
          rw [sub_str]
          go_wp2_with fail
          rw [HR.out]
          exact bodyPost_ret (v := .tuple #[Tk.tokV 7 (Tk.sub s.data.toList a z) a, Tk.fauV 0 0]) (by simp [results, Tryz.results88, go_sem, Tk.tokV, Tk.fauV, ht0, ht1, ht2, hu0, hu1]) rfl ⟨rfl, hX2.fin _ _ _ _ _⟩
        · have e37 : ((s[z].toNat : Int) == 37) = false := by rw [beq_eq_false_iff_ne]; exact h37
          have hR : Tk.readSigns s.data.toList a = .fault a 11 := by simp only [Tk.readSigns, HZZ.out]; rw [if_pos HNE.out, if_neg HNE2.out, ← HB.out, HBL.out, if_neg (by decide), if_neg h37]
          have HR := Lib.hid hR; clear hR h37
          go_wp2_with fail
          go_quiet (fail)
          go_wp2_with (go_at_call 76; refine (isBlank_any _ _).mono ?_; rintro e w' ⟨rfl, rfl⟩; rw [HBL.out])
          refine (faultAt_any a 11 _).mono ?_; rintro e w2 ⟨rfl, hB2⟩
          have hX2 := (hX.drewN _).below hB2
          clear hgl hgl1 hc0 hc1 ht0 ht1 ht2 hu0 hu1 hv0 hv1 hv2 hv3 hv4 hv5
          obtain ⟨hgl, hgl1, hc0, hc1, ht0, ht1, ht2, hu0, hu1, hv0, hv1, hv2, hv3, hv4, hv5⟩ := hX2.facts
          go_wp2_with fail
          rw [HR.out]
          exact bodyPost_ret (v := .tuple #[Tk.tokV 0 [] 0, Tk.fauV a 11]) (by simp [results, Tryz.results88, go_sem, Tk.tokV, Tk.fauV, ht0, ht1, ht2, hu0, hu1]) rfl ⟨rfl, (hX2.fin _ _ _ _ _).2⟩
      · have HBL := Lib.hid hbl; clear hbl
        have hR : Tk.readSigns s.data.toList a = .tok 7 (Tk.sub s.data.toList a z) z := by simp only [Tk.readSigns, HZZ.out]; rw [if_pos HNE.out, if_neg HNE2.out, ← HB.out, HBL.out, if_pos rfl]
        have HR := Lib.hid hR; clear hR
        go_wp2_with fail
        go_quiet (fail)
        go_wp2_with (go_at_call 76; refine (isBlank_any _ _).mono ?_; rintro e w' ⟨rfl, rfl⟩; rw [HBL.out])
        refine (take_any s g a en b 7 z _ hs hz2 hz1 (hX.drewN _).2.1).mono ?_; rintro e w2 ⟨rfl, hS2, hG2⟩
        have hX2 := (hX.drewN _).step hG2 hS2
        clear hgl hgl1 hc0 hc1 ht0 ht1 ht2 hu0 hu1 hv0 hv1 hv2 hv3 hv4 hv5
        obtain ⟨hgl, hgl1, hc0, hc1, ht0, ht1, ht2, hu0, hu1, hv0, hv1, hv2, hv3, hv4, hv5⟩ := hX2.facts
        rw [sub_str]
        go_wp2_with fail
        rw [HR.out]
        exact bodyPost_ret (v := .tuple #[Tk.tokV 7 (Tk.sub s.data.toList a z) a, Tk.fauV 0 0]) (by simp [results, Tryz.results88, go_sem, Tk.tokV, Tk.fauV, ht0, ht1, ht2, hu0, hu1]) rfl ⟨rfl, hX2.fin _ _ _ _ _⟩
end Go.Proofs.YtaefonagbcnmdaaGreatDoor
