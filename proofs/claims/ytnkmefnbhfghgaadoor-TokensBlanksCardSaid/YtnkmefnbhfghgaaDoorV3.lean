import Derived.Test.YtnkmefnbhfghgaaDoorV2
set_option linter.unusedSimpArgs false
set_option linter.unusedVariables false
namespace Go.Proofs.YtnkmefnbhfghgaaDoor
open Go.RowKit

theorem pair_of2 {ts : List Tk.T} {i i' : Nat} (hi : i < ts.length) (hii : i = i' + 1) (h1 : ((Tk.at_ ts i').2.1 == [33, 46]) = false) (h2 : ((Tk.at_ ts i').2.1 == [33, 58]) = false) {τ : Tk.T} (hτ : ts[i - 1]? = some τ) : τ.2.1 ≠ [33, 46] ∧ τ.2.1 ≠ [33, 58] := by
  subst hii
  exact pair_of hi h1 h2 hτ
set_option maxRecDepth 100000 in
set_option maxHeartbeats 4000000 in
theorem blanks_next (s : ByteArray) (wh kd : Int) (w : World) (hG : Glob w) (ts : List Tk.T) (hr : Tk.tokens s.data.toList = .ok ts) (h4 : s.size ≤ 400) (i : Nat) (hi : i < ts.length) (he : wrap64 ((IntKind.u64.wrap wh).tmod (ts.length : Int)) = (i : Int)) (h0 : 0 < i) :
    Calls Tryd.prog 3 #[.string s, .int .i64 wh, .int .i64 kd] w fun e w' => e = .returned (.bool true) ∧ Below w.heap.size w w' := by
  have hgl := hG.lt
  have HE := Lib.hid he; clear he
  have HZ := Lib.hid (size_data s)
  have hfine := Tk.tokens_fine hr
  have hpos := hfine.pos
  have hsz := hfine.size
  rw [size_data] at hsz
  have HF := Lib.hid hfine; clear hfine
  have HR := Lib.hid hr; clear hr
  go_enter Tryd.func3, Tryd.ntmps3
  go_wp2_with fail
  refine (tokens_all s _ hG).mono ?_
  intro e w1 hp
  rw [HR.out] at hp
  obtain ⟨v, rfl, hown, hB⟩ := hp
  have hTs := Lib.hid (TR.of_own hown)
  obtain ⟨g, o, cap, rfl, hcap, hgB, hj0, hj1, hj2⟩ := hTs.out.read (i := 0) hpos
  clear hj0 hj1 hj2
  have hz : ((ts.length : Int) == 0) = false := beq_eq_false_iff_ne.2 (by omega)
  clear hown
  unfold Tk.fauV
  have hB1 := hB.alloc hB.size (.cells #[.int .i64 0, .int .i64 0] 25)
  go_upto_region 5 with (fail)
  rw [HE.out]
  obtain ⟨g', o', cap', hv', _, _, c0, c1, c2⟩ := hTs.out.read hi
  obtain ⟨hA, _, rfl⟩ := slice_inj hv'
  injection hA with hA
  injection hA with hga hoa _
  subst hga hoa
  clear hv'
  cases hk : ((Tk.at_ ts i).1 == 0)
  · cases ht : ((Tk.at_ ts i).2.1 == [40, 40])
    · obtain ⟨i', hii⟩ : ∃ i', i = i' + 1 := ⟨i - 1, by omega⟩
      obtain ⟨g', o', cap', hv', _, _, e0, e1, e2⟩ := hTs.out.read (show i' < ts.length by omega)
      obtain ⟨hA, _, rfl⟩ := slice_inj hv'
      injection hA with hA
      injection hA with hga hoa _
      subst hga hoa
      clear hv' e0 e2
      have hsub : (i : Int) - 1 = (i' : Int) := by omega
      have hi'1 : (0 : Int) ≤ (i' : Int) := by omega
      have hi'2 : (i' : Int) < (ts.length : Int) := by omega
      have HII := Lib.hid hii; clear hii
      cases hp1 : ((Tk.at_ ts i').2.1 == [33, 46])
      · cases hp2 : ((Tk.at_ ts i').2.1 == [33, 58])
        · go_upto_region 7 with (fail)
          clear hsub hi'1 hi'2 e1
          obtain ⟨j, hj, hje⟩ := index_of4 kd
          obtain ⟨G, hG4, hGc⟩ := gap_cell (w1.alloc (.cells #[.int .i64 0, .int .i64 0] 25)) j hj
          rw [show (w1.alloc (.cells #[.int .i64 0, .int .i64 0] 25)).heap.size = w1.heap.size + 1 by simp] at hGc
          have HG4 := Lib.hid hG4; clear hG4
          go_upto_region 8 with (fail)
          obtain ⟨hpl, us, hus, hlean⟩ := tokens_put (by rw [size_data]; exact h4) HR.out HG4.out (at_get hi) (by simpa using hk) (by simpa using ht) (fun τ hτ _ => pair_of2 hi HII.out hp1 hp2 hτ)
          rw [size_data] at hpl
          have hb2 := hB1.alloc hB1.size (.cells #[.string ⟨#[32]⟩, .string ⟨#[10, 9]⟩, .string ⟨#[32, 47, 42, 32, 97, 32, 37, 32, 98, 32, 10, 32, 42, 47, 32]⟩, .string ⟨#[32, 37, 32, 99, 32, 39, 100, 32, 10]⟩] 9)
          have hf2 : Blk ((w1.alloc (.cells #[.int .i64 0, .int .i64 0] 25)).alloc (.cells #[.string ⟨#[32]⟩, .string ⟨#[10, 9]⟩, .string ⟨#[32, 47, 42, 32, 97, 32, 37, 32, 98, 32, 10, 32, 42, 47, 32]⟩, .string ⟨#[32, 37, 32, 99, 32, 39, 100, 32, 10]⟩] 9)) w1.heap.size 25 #[.int .i64 0, .int .i64 0] := (Blk.new w1 25 #[.int .i64 0, .int .i64 0]).alloc _
          have hx2 : Below w1.heap.size w1 ((w1.alloc (.cells #[.int .i64 0, .int .i64 0] 25)).alloc (.cells #[.string ⟨#[32]⟩, .string ⟨#[10, 9]⟩, .string ⟨#[32, 47, 42, 32, 97, 32, 37, 32, 98, 32, 10, 32, 42, 47, 32]⟩, .string ⟨#[32, 37, 32, 99, 32, 39, 100, 32, 10]⟩] 9)) := ((Below.refl _ _).alloc (Nat.le_refl _) _).alloc (by simp) _
          have hw2z : w1.heap.size < ((w1.alloc (.cells #[.int .i64 0, .int .i64 0] 25)).alloc (.cells #[.string ⟨#[32]⟩, .string ⟨#[10, 9]⟩, .string ⟨#[32, 47, 42, 32, 97, 32, 37, 32, 98, 32, 10, 32, 42, 47, 32]⟩, .string ⟨#[32, 37, 32, 99, 32, 39, 100, 32, 10]⟩] 9)).heap.size := by simp; omega
          clear hGc
          generalize (w1.alloc (.cells #[.int .i64 0, .int .i64 0] 25)).alloc (.cells #[.string ⟨#[32]⟩, .string ⟨#[10, 9]⟩, .string ⟨#[32, 47, 42, 32, 97, 32, 37, 32, 98, 32, 10, 32, 42, 47, 32]⟩, .string ⟨#[32, 37, 32, 99, 32, 39, 100, 32, 10]⟩] 9) = w2 at *
          have hat : w2.cell? ⟨g, o + i * 3 + 2, none⟩ = some (.int .i64 ((Tk.at_ ts i).2.2 : Int)) := (hx2.cell (p := ⟨g, o + i * 3 + 2, none⟩) hgB).trans c2
          obtain ⟨p, hp⟩ : ∃ p, (Tk.at_ ts i).2.2 = p := ⟨_, rfl⟩
          rw [hp] at hat hpl hus
          have HUS := Lib.hid hus; clear hus
          have HLEAN := Lib.hid hlean; clear hlean
          clear hp c0 c1 c2
          have hz1 : w.heap.size ≤ w1.heap.size := hB.size
          have hk2 : BK w w1 w2 := ⟨hG.below hb2 hgl, hb2, hx2, hf2, hw2z, hgl⟩
          clear hb2 hx2 hf2 hw2z hB1
          have hG15 : G.length ≤ 15 := by
            obtain ⟨_, _, _, _, h⟩ := gap_facts HG4.out
            exact h
          have b1 : (0 : Int) ≤ (p : Int) := by omega
          have b2 : (p : Int) ≤ (s.size : Int) := by omega
          have b3 : (s.extract 0 p).size ≤ 400 := by rw [ByteArray.size_extract]; omega
          have b4 : (⟨G.toArray⟩ : ByteArray).size ≤ 15 := by rw [show (⟨G.toArray⟩ : ByteArray).size = G.length from by show G.toArray.size = _; simp]; exact hG15
          have b5 : (s.extract 0 p ++ ⟨G.toArray⟩).size ≤ 415 := by rw [ByteArray.size_append]; omega
          have b6 : (s.extract p s.size).size ≤ 400 := by rw [ByteArray.size_extract]; omega
          have q1 : (9223372036854775807 < min p s.size + G.length) = False := eq_false (by omega)
          have q2 : (9223372036854775807 < min p s.size + G.length + (s.size - p)) = False := eq_false (by omega)
          go_region_held3 (fun w' => w'.cell? ⟨g, o + i * 3 + 2, none⟩ = some (.int .i64 (p : Int)) ∧ BK w w1 w')
            (first | exact ⟨hat, hk2.drew⟩ | exact hS5 | exact BK.keep2 hS5 hgB hz1)
            (first
              | (refine step_str_add rfl (.tmp 88) (.tmp 89) 9 rfl (s.extract 0 p) ⟨G.toArray⟩ rfl rfl (by omega) ?_)
              | (refine step_str_add rfl (.tmp 90) (.tmp 97) 9 rfl (s.extract 0 p ++ ⟨G.toArray⟩) (s.extract p s.size) rfl rfl (by omega) ?_)
              | (go_at_call 5; go_loud (refine (tokens_all _ _ (BK.glob2 (by assumption))).mono ?_); intro e w5 hp5; rw [put_bytes, HUS.out] at hp5; obtain ⟨v5, rfl, hown5, hb5⟩ := hp5; have hS0 : World.cell? _ ⟨g, o + i * 3 + 2, none⟩ = some (.int .i64 (p : Int)) ∧ BK w w1 _ := (by assumption); have hS5 := BK.keep hS0 hb5 hgB; have hk5 := hS5.2; have hbase := BK.own2 hS0; unfold Tk.fauV; have d0 : w5.cell? ⟨w1.heap.size, 0, none⟩ = some (.int .i64 0) := (by simpa using hk5.fault.cell 0); have d1 : w5.cell? ⟨w1.heap.size, 1, none⟩ = some (.int .i64 0) := (by simpa using hk5.fault.cell 1); have z0 := hk5.fault.frozen 0; have z1 := hk5.fault.frozen 1))
          all_goals
            have hk6 := hk5.store hz1
            have hsame : ts.map Tk.strip = us.map Tk.strip := HLEAN.out.symm
            have hgr6 := gb_set (gb_set (gb_refl w5 (some w1.heap.size)) (p := ⟨w1.heap.size, 0, none⟩) (.inl rfl) (.int .i64 0)) (p := ⟨w1.heap.size, 1, none⟩) (.inl rfl) (.int .i64 0)
            have hT6 := TR.of_own (own_away hown5 hbase hgr6)
            go_wp2_with fail
            refine (same_yes _ _ ts us _ (by omega) ((hTs.out.below hk6.one).more hk6.one.size) hT6 hsame).mono ?_
            rintro e9 w9 ⟨rfl, hB9⟩
            have hB10 := hk6.low.trans (hB9.mono hk6.low.size)
            go_wp2_with fail
            refine (awake_any _ (hG.below hB10 hgl)).mono ?_; rintro e11 w11 ⟨rfl, hB11⟩
            go_wp2_with fail
            go_ret
            exact ⟨rfl, hB10.trans (hB11.mono hB10.size)⟩
        · go_wp2_with fail
          refine (awake_any _ (hG.below hB1 hgl)).mono ?_; rintro e w2 ⟨rfl, hB2⟩
          go_wp2_with fail
          go_ret
          exact ⟨rfl, hB1.trans (hB2.mono hB1.size)⟩
      · go_wp2_with fail
        refine (awake_any _ (hG.below hB1 hgl)).mono ?_; rintro e w2 ⟨rfl, hB2⟩
        go_wp2_with fail
        go_ret
        exact ⟨rfl, hB1.trans (hB2.mono hB1.size)⟩
    · go_wp2_with fail
      refine (awake_any _ (hG.below hB1 hgl)).mono ?_; rintro e w2 ⟨rfl, hB2⟩
      go_wp2_with fail
      go_ret
      exact ⟨rfl, hB1.trans (hB2.mono hB1.size)⟩
  · go_wp2_with fail
    refine (awake_any _ (hG.below hB1 hgl)).mono ?_; rintro e w2 ⟨rfl, hB2⟩
    go_wp2_with fail
    go_ret
    exact ⟨rfl, hB1.trans (hB2.mono hB1.size)⟩
end Go.Proofs.YtnkmefnbhfghgaaDoor
