import Derived.Test.YtnkmefnbhfghgaaGreatDoorT3
set_option linter.unusedSimpArgs false
set_option linter.unusedVariables false
namespace Go.Proofs.YtnkmefnbhfghgaaGreatDoor
open Go.RowKit

set_option maxRecDepth 100000 in
set_option maxHeartbeats 8000000 in
theorem law_back_in (v : Value) (ts : List Tk.T) {pl : Nat → Int} (w : World) (hn : ts.length ≤ 9223372036854775807) (hsz : ∀ t ∈ ts, t.2.1.length ≤ 4611686018427387904) (hT : TR w w.heap.size v ts pl) (hnil : ∀ n c, v = .slice none n c → c = 0) (hG : Glob w) (hlg : Tk.lng ts = false) (s : List UInt8) (htx : Tk.text ts = .ok s) (hm : Tk.endIdx ts < ts.length) :
    Calls Tryz.prog 5 #[v] w fun e w' => e = .returned (.bool true) ∧ Below w.heap.size w w' := by
  have hgl := hG.lt
  obtain ⟨hn3, hs2⟩ := Tk.lngGo_small ts 0 0 (by omega) hlg
  have HLG := Lib.hid hlg; clear hlg
  have HS2 := Lib.hid hs2; clear hs2
  obtain ⟨hs6, ts', htk, hst⟩ := text_back htx
  have HTX := Lib.hid htx; clear htx
  have HTK := Lib.hid htk; clear htk
  have HST := Lib.hid hst; clear hst
  have HSZ := Lib.hid hs6; clear hs6
  have HT := Lib.hid hT
  obtain ⟨A, cap, rfl, hcap, hi⟩ := hT
  have HI := Lib.hid hi; clear hi
  have HN : Hid (A = none → cap = 0) := Lib.hid fun h => hnil ts.length cap (by rw [h])
  clear hnil
  have hle := Tk.endIdx_le ts
  go_enter Tryz.func5, Tryz.ntmps5
  go_wp2_with fail
  refine (long_any _ ts w.heap.size _ hn hsz HT.out).mono ?_; rintro e w' ⟨rfl, rfl⟩; rw [HLG.out]
  clear hsz
  go_wp2_with fail
  refine (text_any _ ts _ (by omega) (fun t ht => Nat.le_trans (HS2.out t ht) (by omega)) HT.out hG).mono ?_
  intro e w1 hp
  rw [HTX.out] at hp
  obtain ⟨rfl, hB⟩ := hp
  have hT1 := Lib.hid (HT.out.below hB)
  go_wp2_with fail
  go_loop [5] (fun i' => ∃ k : Nat, k ≤ Tk.endIdx ts ∧ i' = .int .i64 k) (fun i' => Tk.endIdx ts - (intOf i').toNat)
  case atStart => exact ⟨0, by omega, by go_num⟩
  case round =>
    obtain ⟨k, hk, rfl⟩ := hrel
    by_cases hke : k < Tk.endIdx ts
    · have hlt : k < ts.length := by omega
      obtain ⟨g, o, cap', hv', _, hg, c0, c1, c2⟩ := hT1.out.readp hlt
      obtain ⟨rfl, _, rfl⟩ := slice_inj hv'
      clear hv'
      have hne : ((Tk.at_ ts k).1 == 0) = false := beq_eq_false_iff_ne.2 (endIdx_before hke)
      go_wp2_with fail
      go_round
      case rel => exact ⟨k + 1, by omega, by go_num⟩
      case measure => simp [intOf]; omega
    · obtain rfl : k = Tk.endIdx ts := by omega
      have hB1z := hB.size
      obtain ⟨e, he⟩ : ∃ e, Tk.endIdx ts = e := ⟨_, rfl⟩
      rw [he] at hk hle ⊢
      have HE := Lib.hid he; clear he
      have hlt : e < ts.length := by have := HE.out; omega
      obtain ⟨g, o, cap', hv', _, hg, c0, c1, c2⟩ := hT1.out.readp hlt
      obtain ⟨rfl, _, rfl⟩ := slice_inj hv'
      clear hv'
      have hne : ((Tk.at_ ts e).1 == 0) = true := by
        have := endIdx_at (ts := ts) (by rw [HE.out]; exact hlt)
        rw [HE.out] at this
        exact beq_iff_eq.2 this
      go_wp2_with fail
      refine (tokens_all ⟨s.toArray⟩ _ (hG.below hB hgl)).mono ?_
      intro e2 w2 hp
      rw [show ({ data := s.toArray } : ByteArray).data.toList = s from rfl, HTK.out] at hp
      obtain ⟨v2, rfl, hown2, hB2⟩ := hp
      unfold Tk.fauV
      have hF : Blk (w2.alloc (.cells #[.int .i64 0, .int .i64 0] 26)) w2.heap.size 26 #[.int .i64 0, .int .i64 0] := Blk.new _ _ _
      have hB3 := (hB.trans (hB2.mono hB1z)).alloc (hB.trans (hB2.mono hB1z)).size (.cells #[.int .i64 0, .int .i64 0] 26)
      have hB4 := hB3.alloc hB3.size (.cells #[] 32)
      have hT4 := HT.out.below hB4
      have hTc := hT4.take hle
      have hlc : (ts.take e).length = e := by simp; omega
      have hb5 : Blk ((w2.alloc (.cells #[.int .i64 0, .int .i64 0] 26)).alloc (.cells #[] 32)) (w2.heap.size + 1) 32 #[] := by
        have := Blk.new (w2.alloc (.cells #[.int .i64 0, .int .i64 0] 26)) 32 #[]
        rwa [show (w2.alloc (.cells #[.int .i64 0, .int .i64 0] 26)).heap.size = w2.heap.size + 1 by simp] at this
      have hown0 : World.ownsRow ((w2.alloc (.cells #[.int .i64 0, .int .i64 0] 26)).alloc (.cells #[] 32)) (w2.heap.size + 1) 32 3 (.slice (some ⟨w2.heap.size + 1, 0, none⟩) 0 0) 0 [] :=
        ⟨rfl, .inr ⟨w2.heap.size + 1, 0, #[], rfl, Nat.le_refl _, hb5, by simp, by unfold maxLen; omega, by simp, by simp⟩⟩
      have hX4 : Below w2.heap.size w2 ((w2.alloc (.cells #[.int .i64 0, .int .i64 0] 26)).alloc (.cells #[] 32)) := ((Below.refl _ _).alloc (Nat.le_refl _) _).alloc (by simp) _
      have hTm := Lib.hid (TR.of_own hown2)
      have HH := Lib.hid (hB.trans (hB2.mono hB1z))
      have hsz2 : w1.heap.size ≤ w2.heap.size := hB2.size
      go_wp2_with (first
        | (at_builtin; go_loud (refine app_toks (by rfl) (.tmp 43) (.tmp 46) rfl (w2.heap.size + 1) _ rfl hown0 (ts.take e) pl _ _ cap ?hx ?h0 hTc (by omega) (by simp) ?_); (case hx => rw [hlc]; rfl); (case h0 => exact HN.out); intro v3 w5 hown5 hgr5; have hX5 := hX4.grown hgr5 (by simp; omega) (fun q e => Nat.le_of_succ_le (hown0.lt q e).1); have hz5 := hgr5.size)
        | (at_builtin; go_loud (refine app_one (by rfl) (.tmp 47) (.tmp 49) rfl (w2.heap.size + 1) _ rfl _ _ (hown5.alloc _) ⟨w5.heap.size, 0, none⟩ 1 0 0 ⟨#[]⟩ rfl (cells_new _ _ _) (by omega) (by simp at hz5 ⊢; omega) ?_); intro v4 w6 hown6 hgr6; have hX6 := (hX5.alloc hX5.size (.cells #[.int .i64 0, .string ⟨#[]⟩, .int .i64 0] 32)).grown hgr6 (by simp at hz5 ⊢; omega) (fun q e => Nat.le_of_succ_le (hown5.lt q e).1)))
      have hsl : (ts' ++ [((0, [], s.length) : Tk.T)]).map Tk.strip = (ts.take e ++ [((0, [], 0) : Tk.T)]).map Tk.strip := by
        have h1 : ts'.map Tk.strip = (ts.take e).map Tk.strip := by
          have := HST.out
          rw [Tk.cut, HE.out] at this
          exact this
        rw [List.map_append, List.map_append, h1]; rfl
      have hTr : TR w6 w6.heap.size v4 (ts.take e ++ [((0, [], 0) : Tk.T)]) (fun i => if i = e then 0 else pl i) := by
        refine TR.of_flatp (B := w2.heap.size + 1) ?_
        have hfl := Tk.flatp_snoc (ts.take e) (fun i => if i = e then 0 else pl i) (0, [], 0) 0 (by rw [hlc]; exact if_pos rfl)
        rw [hfl, Tk.flatp_congr (ts.take e) (fun i => if i = e then 0 else pl i) pl (fun i hi => if_neg (by omega)), List.length_append]
        exact hown6
      have hlen' : (ts' ++ [((0, [], s.length) : Tk.T)]).length ≤ 1000000 := by
        have := congrArg List.length hsl
        simp only [List.length_map, List.length_append, List.length_singleton] at this ⊢
        omega
      refine (same_yes v2 v4 _ _ _ hlen' ((hTm.out.below hX6).more hX6.size) hTr hsl).mono ?_
      rintro e9 w9 ⟨rfl, hB9⟩
      have hB6 := HH.out.trans (hX6.mono HH.out.size)
      have hB10 := hB6.trans (hB9.mono hB6.size)
      go_wp2_with fail
      refine (awake_any _ (hG.below hB10 hgl)).mono ?_; rintro e11 w11 ⟨rfl, hB11⟩
      go_wp2_with fail
      go_ret
      exact ⟨rfl, hB10.trans (hB11.mono hB10.size)⟩

end Go.Proofs.YtnkmefnbhfghgaaGreatDoor
