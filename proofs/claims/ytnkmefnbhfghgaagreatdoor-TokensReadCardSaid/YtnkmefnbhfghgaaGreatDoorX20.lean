import Derived.Test.YtnkmefnbhfghgaaGreatDoorX18
import Derived.Test.YtnkmefnbhfghgaaGreatDoorX19
import Derived.Test.YtnkmefnbhfghgaaGreatDoorA30
import Derived.Test.YtnkmefnbhfghgaaGreatDoorF1
set_option linter.unusedSimpArgs false
set_option linter.unusedVariables false
namespace Go.Proofs.YtnkmefnbhfghgaaGreatDoor
open Go.RowKit

/-- What stands between marks is read alike. -/
def QuotedEq : Prop := ∀ (l : List UInt8) (p : Nat), p < l.length → (Tk.bt l p = 39 → Tk.qquoted l p = Tk.convR (Tk.readName l p) p) ∧ (Tk.bt l p = 34 → Tk.qquoted l p = Tk.convR (Tk.readEnclosed 5 l p) p)
theorem tokens_eq (h : QuotedEq) {l : List UInt8} (hl : l.length ≤ 65536) : Tk.qtoks (l.length + 1) l 0 [] 0 = Tk.toks (l.length + 2) l 0 0 false [] :=
  toks_eq hl (fun p hp => (h l p hp).1) (fun p hp => (h l p hp).2) _ _ 0 0 false [] (by omega) (by omega) (by omega) (fun x => rfl)
theorem drewN_below {B : Nat} {a w : World} (h : Below B a w) (n : Nat) : Below B a (w.drewN n) := ⟨h.os, h.tape, h.output, h.size, h.block⟩
theorem TR.nil (w : World) (B : Nat) : TR w B (.slice none 0 0) [] := ⟨none, 0, rfl, Nat.le_refl _, fun i t h => by simp at h⟩

set_option maxRecDepth 100000 in
set_option maxHeartbeats 4000000 in
/-- Two slices that read as one list, with the places. -/
theorem same_at (v u : Value) (ts : List Tk.T) (w : World) (hn : ts.length ≤ 1000000) (hT : TR w w.heap.size v ts) (hU : TR w w.heap.size u ts) :
    Calls Tryz.prog 9 #[v, u, .bool true] w fun e w' => e = .returned (.bool true) ∧ Below w.heap.size w w' := by
  have HT := Lib.hid hT
  have HU := Lib.hid hU
  obtain ⟨A, cap, rfl, hcap, hi⟩ := hT
  obtain ⟨A2, cap2, rfl, hcap2, hi2⟩ := hU
  have HI := Lib.hid hi; clear hi
  have HI2 := Lib.hid hi2; clear hi2
  go_enter Tryz.func9, Tryz.ntmps9
  go_wp2_with fail
  go_loopw [7] (fun i' wr => ∃ k : Nat, k ≤ ts.length ∧ i' = .int .i64 k ∧ Below w.heap.size w wr) (fun i' _ => ts.length - (intOf i').toNat)
  case atStart => exact ⟨0, by omega, by go_num, Below.refl _ _⟩
  case round =>
    obtain ⟨k, hk, rfl, hB⟩ := hrel
    by_cases hlt : k < ts.length
    · obtain ⟨g, o, cap', hv', _, hg, c0, c1, c2⟩ := (HT.out.below hB).readp hlt
      obtain ⟨rfl, _, rfl⟩ := slice_inj hv'
      obtain ⟨g2, o2, cap2', hv2', _, hg2, d0, d1, d2⟩ := (HU.out.below hB).readp hlt
      obtain ⟨rfl, _, rfl⟩ := slice_inj hv2'
      clear hv' hv2'
      go_wp2_with fail
      go_quiet (fail)
      go_wp2_with fail
      go_roundw
      case rel => exact ⟨k + 1, by omega, by go_num, drewN_below hB _⟩
      case measure => simp [intOf]; omega
    · go_wp2_with fail
      go_ret
      exact ⟨rfl, hB⟩

set_option maxRecDepth 100000 in
set_option maxHeartbeats 4000000 in
theorem law_read (hQ : QuotedEq) (s : ByteArray) (w : World) (hm : s.size ≤ maxLen) (hG : Glob w) :
    Calls Tryz.prog 3 #[.string s] w fun e w' => e = .returned (.bool true) ∧ Below w.heap.size w w' := by
  unfold maxLen at hm
  have hgl := hG.lt
  by_cases h4 : 400 < s.size
  · go_enter Tryz.func3, Tryz.ntmps3
    go_wp2_with fail
    refine (awake_any _ hG).mono ?_; rintro e w2 ⟨rfl, hB2⟩
    go_wp2_with fail
    go_ret
    exact ⟨rfl, hB2⟩
  · have hs : s.size ≤ 400 := by omega
    clear hm
    have HZ := Lib.hid (size_data s)
    have heq := tokens_eq hQ (l := s.data.toList) (by rw [HZ.out]; omega)
    rw [HZ.out] at heq
    obtain ⟨R, hR⟩ : ∃ R, Tk.toks (s.size + 2) s.data.toList 0 0 false [] = R := ⟨_, rfl⟩
    have HQ := Lib.hid (heq.trans hR)
    have HR := Lib.hid hR
    clear heq hR
    cases hRR : R with
    | error x =>
      subst hRR
      go_enter Tryz.func3, Tryz.ntmps3
      go_wp2_with fail
      refine (tokens_any s _ (by omega) hG).mono ?_
      intro e w1 hp
      rw [HR.out] at hp
      obtain ⟨rfl, hB⟩ := hp
      unfold Tk.fauV
      have hF1 : Blk (w1.alloc (.cells #[.int .i64 x.1, .int .i64 x.2] 26)) w1.heap.size 26 #[.int .i64 x.1, .int .i64 x.2] := Blk.new _ _ _
      have hB1 := hB.alloc hB.size (.cells #[.int .i64 x.1, .int .i64 x.2] 26)
      have hz1 : w1.heap.size < (w1.alloc (.cells #[.int .i64 x.1, .int .i64 x.2] 26)).heap.size := by simp
      go_wp2_with fail
      refine (rtokens_any s _ (by omega)).mono ?_
      intro e w2 hp
      rw [HQ.out] at hp
      obtain ⟨rfl, hB2⟩ := hp
      unfold Tk.fauV
      have hF2 := hF1.below hB2 hz1
      have hB3 := hB1.trans (hB2.mono hB1.size)
      have hlt2 := hF2.lt
      have b0 : w2.cell? ⟨w1.heap.size, 0, none⟩ = some (.int .i64 x.1) := by simpa using hF2.cell 0
      have b1 : w2.cell? ⟨w1.heap.size, 1, none⟩ = some (.int .i64 x.2) := by simpa using hF2.cell 1
      have hB4 := hB3.alloc hB3.size (.cells #[.int .i64 x.1, .int .i64 x.2] 26)
      go_wp2_with fail
      refine (same_at _ _ [] _ (by simp) (TR.nil _ _) (TR.nil _ _)).mono ?_
      rintro e w5 ⟨rfl, hB5⟩
      have hB6 := hB4.trans (hB5.mono hB4.size)
      go_wp2_with fail
      refine (awake_any _ (hG.below hB6 hgl)).mono ?_; rintro e w7 ⟨rfl, hB7⟩
      go_wp2_with fail
      go_ret
      exact ⟨rfl, hB6.trans (hB7.mono hB6.size)⟩
    | ok ts =>
      subst hRR
      have htok : Tk.tokens s.data.toList = .ok ts := by
        unfold Tk.tokens
        rw [if_neg (by rw [HZ.out]; omega), HZ.out]; exact HR.out
      have htl : ts.length ≤ 1000000 := by
        have := (Tk.tokens_fine htok).size
        rw [HZ.out] at this; omega
      clear htok
      go_enter Tryz.func3, Tryz.ntmps3
      go_wp2_with fail
      refine (tokens_any s _ (by omega) hG).mono ?_
      intro e w1 hp
      rw [HR.out] at hp
      obtain ⟨v1, rfl, hown1, hB⟩ := hp
      have hT1 := TR.of_own hown1
      unfold Tk.fauV
      have hF1 : Blk (w1.alloc (.cells #[.int .i64 0, .int .i64 0] 26)) w1.heap.size 26 #[.int .i64 0, .int .i64 0] := Blk.new _ _ _
      have hB1 := hB.alloc hB.size (.cells #[.int .i64 0, .int .i64 0] 26)
      have hz1 : w1.heap.size < (w1.alloc (.cells #[.int .i64 0, .int .i64 0] 26)).heap.size := by simp
      have hT2 := (hT1.below (Below.alloc (Below.refl _ _) (Nat.le_refl _) (.cells #[.int .i64 0, .int .i64 0] 26))).more (Nat.le_of_lt hz1)
      go_wp2_with fail
      refine (rtokens_any s _ (by omega)).mono ?_
      intro e w2 hp
      rw [HQ.out] at hp
      obtain ⟨v2, rfl, hown2, hB2⟩ := hp
      have hU2 := TR.of_own hown2
      unfold Tk.fauV
      have hF2 := hF1.below hB2 hz1
      have hB3 := hB1.trans (hB2.mono hB1.size)
      have hlt2 := hF2.lt
      have b0 : w2.cell? ⟨w1.heap.size, 0, none⟩ = some (.int .i64 0) := by simpa using hF2.cell 0
      have b1 : w2.cell? ⟨w1.heap.size, 1, none⟩ = some (.int .i64 0) := by simpa using hF2.cell 1
      have hB4 := hB3.alloc hB3.size (.cells #[.int .i64 0, .int .i64 0] 26)
      have hz2 := hB2.size
      have hA := Below.alloc (Below.refl w2.heap.size w2) (Nat.le_refl _) (.cells #[.int .i64 0, .int .i64 0] 26)
      have hT3 := ((hT2.below hB2).more hz2).below hA |>.more hA.size
      have hU3 := (hU2.below hA).more hA.size
      have HT3 := Lib.hid hT3
      have HU3 := Lib.hid hU3
      clear hT1 hT2 hT3 hU2 hU3 hown1 hown2
      go_wp2_with fail
      refine (same_at v1 v2 ts _ htl HT3.out HU3.out).mono ?_
      rintro e w5 ⟨rfl, hB5⟩
      have hB6 := hB4.trans (hB5.mono hB4.size)
      go_wp2_with fail
      refine (awake_any _ (hG.below hB6 hgl)).mono ?_; rintro e w7 ⟨rfl, hB7⟩
      go_wp2_with fail
      go_ret
      exact ⟨rfl, hB6.trans (hB7.mono hB6.size)⟩
end Go.Proofs.YtnkmefnbhfghgaaGreatDoor
