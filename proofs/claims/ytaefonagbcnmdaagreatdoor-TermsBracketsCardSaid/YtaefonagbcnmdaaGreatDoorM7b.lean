import Derived.Test.YtaefonagbcnmdaaGreatDoorM7
import Derived.StillTailTactics
import Derived.Deep.RegionHeld3
set_option linter.unusedSimpArgs false
set_option linter.unusedVariables false
namespace Go.Proofs.YtaefonagbcnmdaaGreatDoor
open Go.RowKit

theorem Tm.sames_drop {l l' : List Tm} {k : Nat} {t u : Tm} (h : l[k]? = some t) (h' : l'[k]? = some u) : Tm.sames (l.drop k) (l'.drop k) = (Tm.same t u && Tm.sames (l.drop (k + 1)) (l'.drop (k + 1))) := by
  obtain ⟨hk, rfl⟩ := List.getElem?_eq_some_iff.1 h
  obtain ⟨hk', rfl⟩ := List.getElem?_eq_some_iff.1 h'
  rw [List.drop_eq_getElem_cons hk, List.drop_eq_getElem_cons hk', Tm.sames]
set_option maxRecDepth 100000 in
set_option maxHeartbeats 4000000 in
theorem rSame_any (N : Nat) : ∀ (ta tb : Tm) (va vb : Value) (κ : Nat → Nat) (w : World), Tm.siz ta < N → Targs w κ va ta.args → Targs w κ vb tb.args → Tm.siz ta ≤ 1099511627776 →
    Calls Tryz.prog 27 #[.agg #[.int .i64 ta.kind, .string ⟨ta.name.toArray⟩, .int .i64 ta.num, va, .int .i64 ta.at_], .agg #[.int .i64 tb.kind, .string ⟨tb.name.toArray⟩, .int .i64 tb.num, vb, .int .i64 tb.at_]] w fun e w' => e = .returned (.bool (Tm.same ta tb)) ∧ Below w.heap.size w w' := by
  induction N with
  | zero => intro ta tb va vb κ w h; omega
  | succ N ih =>
    intro ta tb va vb κ w hN ha hb hsz
    obtain ⟨R, hR⟩ : ∃ R, Tm.same ta tb = R := ⟨_, rfl⟩
    rw [hR]
    rw [Tm.same_eq] at hR
    obtain ⟨A1, k1, rfl⟩ := ha.form
    obtain ⟨A2, k2, rfl⟩ := hb.form
    have HK := Lib.hid hR
    have hB0 : Below w.heap.size w ((w.alloc (.cells #[.int .i64 ta.kind, .string ⟨ta.name.toArray⟩, .int .i64 ta.num, .slice A1 ta.args.length k1, .int .i64 ta.at_] 32)).alloc (.cells #[.int .i64 tb.kind, .string ⟨tb.name.toArray⟩, .int .i64 tb.num, .slice A2 tb.args.length k2, .int .i64 tb.at_] 32)) := ((Below.refl _ w).alloc (Nat.le_refl _) _).alloc (by simp) _
    have hs2 := Tm.siz_eq ta
    have hal := Tm.sizs_len ta.args
    have b1 := (Blk.new w 32 #[.int .i64 ta.kind, .string ⟨ta.name.toArray⟩, .int .i64 ta.num, .slice A1 ta.args.length k1, .int .i64 ta.at_]).alloc (.cells #[.int .i64 tb.kind, .string ⟨tb.name.toArray⟩, .int .i64 tb.num, .slice A2 tb.args.length k2, .int .i64 tb.at_] 32)
    have b2 := Blk.new (w.alloc (.cells #[.int .i64 ta.kind, .string ⟨ta.name.toArray⟩, .int .i64 ta.num, .slice A1 ta.args.length k1, .int .i64 ta.at_] 32)) 32 #[.int .i64 tb.kind, .string ⟨tb.name.toArray⟩, .int .i64 tb.num, .slice A2 tb.args.length k2, .int .i64 tb.at_]
    rw [World.size_alloc] at b2
    have HA := Lib.hid (ha.kept (.below hB0))
    have HB := Lib.hid (hb.kept (.below hB0))
    have HB0 := Lib.hid hB0
    have HIH := Lib.hid ih
    have HB1 := Lib.hid b1
    have HB2 := Lib.hid b2
    clear hR ih ha hb hB0 b1 b2
    cases n1 : (ta.kind != tb.kind) with
    | true =>
      have HRF := Lib.hid (show R = false by
        have h1 : (ta.kind == tb.kind) = false := by simpa [bne] using n1
        rw [← HK.out, h1]; rfl)
      clear hs2 hal
      go_enter Tryz.func27, Tryz.ntmps27
      go_wp2_with fail
      go_ret
      exact ⟨by rw [HRF.out]; rfl, HB0.out⟩
    | false =>
      have HM1 := Lib.hid (show (ta.kind == tb.kind) = true by simpa [bne] using n1)
      cases n2 : (ta.name == tb.name) with
      | false =>
        have n2' : (ta.name != tb.name) = true := by rw [bne, n2]; rfl
        have HRF := Lib.hid (show R = false by rw [← HK.out, n2, Bool.and_false]; rfl)
        clear hs2 hal
        go_enter Tryz.func27, Tryz.ntmps27
        go_wp2_with fail
        go_ret
        exact ⟨by rw [HRF.out]; rfl, HB0.out⟩
      | true =>
        have n2' : (ta.name != tb.name) = false := by rw [bne, n2]; rfl
        cases n3 : (ta.num != tb.num) with
        | true =>
          have HRF := Lib.hid (show R = false by
            have h1 : (ta.num == tb.num) = false := by simpa [bne] using n3
            rw [← HK.out, h1, Bool.and_false]; rfl)
          clear hs2 hal
          go_enter Tryz.func27, Tryz.ntmps27
          go_wp2_with fail
          go_ret
          exact ⟨by rw [HRF.out]; rfl, HB0.out⟩
        | false =>
          have HM3 := Lib.hid (show (ta.num == tb.num) = true by simpa [bne] using n3)
          cases n4 : ((ta.args.length : Int) != (tb.args.length : Int)) with
          | true =>
            have HRF := Lib.hid (show R = false by
              have h1 : ta.args.length ≠ tb.args.length := fun e => by rw [e] at n4; simp at n4
              rw [← HK.out, Tm.sames_len _ _ h1, Bool.and_false])
            clear hs2 hal
            go_enter Tryz.func27, Tryz.ntmps27
            go_wp2_with fail
            go_ret
            exact ⟨by rw [HRF.out]; rfl, HB0.out⟩
          | false =>
            have hll : ta.args.length = tb.args.length := by
              have : (ta.args.length : Int) = (tb.args.length : Int) := by simpa [bne] using n4
              omega
            have HLL := Lib.hid hll
            have HSM := Lib.hid (show Tm.sames ta.args tb.args = R by rw [← HK.out, HM1.out, n2, HM3.out]; rfl)
            have HSZ := Lib.hid hs2
            have hub : ta.args.length ≤ 1099511627776 := by omega
            clear hs2 hll
            go_enter Tryz.func27, Tryz.ntmps27
            go_wp2_with fail
            generalize hw2 : ((w.alloc (.cells #[.int .i64 ta.kind, .string ⟨ta.name.toArray⟩, .int .i64 ta.num, .slice A1 ta.args.length k1, .int .i64 ta.at_] 32)).alloc (.cells #[.int .i64 tb.kind, .string ⟨tb.name.toArray⟩, .int .i64 tb.num, .slice A2 tb.args.length k2, .int .i64 tb.at_] 32)) = w2 at *
            clear hw2 n1 n2 n2' n3 n4
            go_loopw [5] (fun i wr => ∃ k : Nat, i = .int .i64 k ∧ k ≤ ta.args.length ∧ Hid (Below w2.heap.size w2 wr) ∧ Hid (Tm.sames (ta.args.drop k) (tb.args.drop k) = R)) (fun i _ => ta.args.length - (intOf i).toNat)
            case atStart => exact ⟨0, by go_num, Nat.zero_le _, Lib.hid (Below.refl _ _), HSM⟩
            case round =>
              obtain ⟨k, rfl, hk, HBW, HD⟩ := hrel
              have hb1 := HB1.out.below HBW.out HB1.out.lt
              have hb2 := HB2.out.below HBW.out HB2.out.lt
              have e3 : wr.cell? ⟨w.heap.size, 3, none⟩ = some (.slice A1 ta.args.length k1) := by simpa using hb1.cell 3
              have f3 : wr.cell? ⟨w.heap.size + 1, 3, none⟩ = some (.slice A2 tb.args.length k2) := by simpa using hb2.cell 3
              have HBX := Lib.hid (HB0.out.trans (HBW.out.mono HB0.out.size))
              by_cases hkl : k < ta.args.length
              · obtain ⟨t, ht⟩ : ∃ t, ta.args[k]? = some t := ⟨_, List.getElem?_eq_getElem hkl⟩
                obtain ⟨u, hu⟩ : ∃ u, tb.args[k]? = some u := ⟨_, List.getElem?_eq_getElem (by rw [← HLL.out]; exact hkl)⟩
                obtain ⟨g, o, a, hA, hcap, hg, hkg, hta, c0, c1, c2, c3, c4⟩ := (HA.out.kept (.below HBW.out)).elem ht
                obtain ⟨g', o', a', hA', hcap', hg', hkg', htb, d0, d1, d2, d3, d4⟩ := (HB.out.kept (.below HBW.out)).elem hu
                subst hA
                subst hA'
                obtain ⟨A3, k3, rfl⟩ := hta.form
                obtain ⟨A4, k4, rfl⟩ := htb.form
                have hst := Tm.sizs_get ht
                have HIC := Lib.hid (HIH.out t u _ _ κ wr.drew (by have := HSZ.out; omega) (hta.kept (.below (Below.refl _ wr).drew)) (htb.kept (.below (Below.refl _ wr).drew)) (by have := HSZ.out; omega))
                have HDR := Lib.hid (Tm.sames_drop ht hu)
                have hk2 : (k : Int) < (ta.args.length : Int) := by omega
                have hk3 : (k : Int) < (tb.args.length : Int) := by have := HLL.out; omega
                have hk0 : (0 : Int) ≤ (k : Int) := by omega
                clear hta htb hkg hkg' hst ht hu hb1 hb2
                go_wp2_with fail
                go_still_tail 10, (by kernel_rfl)
                go_wp2_with fail
                refine HIC.out.mono ?_
                rintro e w5 ⟨rfl, hB5⟩
                have HBY := Lib.hid (HBX.out.trans ((Below.refl wr.heap.size wr).drew.trans hB5 |>.mono HBX.out.size))
                have HBV := Lib.hid (HBW.out.trans ((Below.refl wr.heap.size wr).drew.trans hB5 |>.mono HBW.out.size))
                obtain ⟨sm, hsm⟩ : ∃ sm, Tm.same t u = sm := ⟨_, rfl⟩
                rw [hsm]
                have HQ := Lib.hid hsm
                clear hsm hB5
                cases sm with
                | false =>
                  have HRF := Lib.hid (show R = false by rw [← HD.out, HDR.out, HQ.out]; rfl)
                  go_wp2_with fail
                  go_ret
                  exact ⟨by rw [HRF.out]; rfl, HBY.out⟩
                | true =>
                  have HRT := Lib.hid (show Tm.sames (ta.args.drop (k + 1)) (tb.args.drop (k + 1)) = R by rw [← HD.out, HDR.out, HQ.out]; rfl)
                  go_wp2_with fail
                  go_roundw
                  case rel => exact ⟨k + 1, by go_num, by have := HLL.out; omega, HBV, HRT⟩
                  case measure => have := HLL.out; simp [intOf]; omega
              · have hres : true = R := by
                  rw [← HD.out, List.drop_of_length_le (by omega), List.drop_of_length_le (by have := HLL.out; omega), Tm.sames]
                have HM := Lib.hid hres
                have hk3 : ¬ (k : Int) < (ta.args.length : Int) := by omega
                clear hres hb1 hb2
                go_wp2_with fail
                go_ret
                exact ⟨by rw [← HM.out]; rfl, HBX.out⟩
end Go.Proofs.YtaefonagbcnmdaaGreatDoor

namespace Go.Proofs.YtaefonagbcnmdaaGreatDoor
open Go.RowKit

theorem Tm.same_refl (N : Nat) : ∀ (l : List Tm), Tm.sizs l < N → Tm.sames l l = true := by
  induction N with
  | zero => intro l h; omega
  | succ N ih =>
    intro l
    induction l with
    | nil => intro _; rw [Tm.sames]
    | cons t ts iht =>
      intro h
      rw [Tm.sizs, Tm.siz_eq] at h
      rw [Tm.sames, Tm.same_eq, ih t.args (by omega), iht (by omega)]
      simp
theorem Tm.same_moved (t : Tm) (p : Int) : Tm.same t (.mk t.kind t.name t.num t.args p) = true := by
  rw [Tm.same_eq]
  simp only [Tm.kind, Tm.name, Tm.num, Tm.args]
  rw [Tm.same_refl _ _ (Nat.lt_succ_self _)]
  simp
/-- Two terms in a row of their own. -/
theorem Targs.pair {w W : World} {x y : Tm} {a b : Value} (hB : Below w.heap.size w W) (hs : w.heap.size ≤ W.heap.size) (hx : Targs w firm0 a x.args) (hy : Targs w firm0 b y.args) :
    Targs (W.alloc (.cells #[.int .i64 x.kind, .string ⟨x.name.toArray⟩, .int .i64 x.num, a, .int .i64 x.at_, .int .i64 y.kind, .string ⟨y.name.toArray⟩, .int .i64 y.num, b, .int .i64 y.at_] 32)) firm0 (.slice (some ⟨W.heap.size, 0, none⟩) 2 2) [x, y] := by
  have hB2 := hB.alloc hs (.cells #[.int .i64 x.kind, .string ⟨x.name.toArray⟩, .int .i64 x.num, a, .int .i64 x.at_, .int .i64 y.kind, .string ⟨y.name.toArray⟩, .int .i64 y.num, b, .int .i64 y.at_] 32)
  refine .mk W.heap.size 0 2 [x, y] [a, b] rfl (Nat.le_refl _) (by simp) rfl (fun j u hu => ?_) (fun i c t hc ht => ?_)
  · have := new_cells W (Tm.flat [x, y] [a, b]) 32 j u hu
    rw [addr_add0] at this
    rw [Nat.zero_add]
    exact this
  · match i, hc, ht with
    | 0, hc, ht => cases hc; cases ht; exact hx.kept (.below hB2)
    | 1, hc, ht => cases hc; cases ht; exact hy.kept (.below hB2)
set_option maxRecDepth 100000 in
set_option maxHeartbeats 4000000 in
/-- The law TermsSame. -/
theorem same_any (ta tb : Tm) (va vb : Value) (p : Int) (w : World) (ha : Targs w firm0 va ta.args) (hb : Targs w firm0 vb tb.args) (fa : Tm.Fit ta) (fb : Tm.Fit tb) (hG : Glob w) :
    Calls Tryz.prog 6 #[.agg #[.int .i64 ta.kind, .string ⟨ta.name.toArray⟩, .int .i64 ta.num, va, .int .i64 ta.at_], .agg #[.int .i64 tb.kind, .string ⟨tb.name.toArray⟩, .int .i64 tb.num, vb, .int .i64 tb.at_], .int .i64 p] w fun e w' => e = .returned (.bool true) ∧ Below w.heap.size w w' := by
  have hgl := hG.lt
  obtain ⟨A1, k1, rfl⟩ := ha.form
  obtain ⟨A2, k2, rfl⟩ := hb.form
  have hBa := ((Below.refl w.heap.size w).alloc (Nat.le_refl _) (.cells #[.int .i64 ta.kind, .string ⟨ta.name.toArray⟩, .int .i64 ta.num, .slice A1 ta.args.length k1, .int .i64 ta.at_] 32)).alloc (by simp) (.cells #[.int .i64 tb.kind, .string ⟨tb.name.toArray⟩, .int .i64 tb.num, .slice A2 tb.args.length k2, .int .i64 tb.at_] 32)
  have hT := Targs.pair hBa (by simp; omega) ha hb
  rw [World.size_alloc, World.size_alloc] at hT
  have HT := Lib.hid hT
  clear hT
  have HBa := Lib.hid (hBa.alloc hBa.size (.cells #[.int .i64 ta.kind, .string ⟨ta.name.toArray⟩, .int .i64 ta.num, .slice A1 ta.args.length k1, .int .i64 ta.at_, .int .i64 tb.kind, .string ⟨tb.name.toArray⟩, .int .i64 tb.num, .slice A2 tb.args.length k2, .int .i64 tb.at_] 32))
  have HA := Lib.hid ha
  have HB := Lib.hid hb
  have HFIT := Lib.hid (show ∀ t ∈ [ta, tb], Tm.Fit t from fun t ht => by
    rcases List.mem_cons.1 ht with rfl | ht
    · exact fa
    · rw [List.mem_singleton.1 ht]; exact fb)
  have HG := Lib.hid hG
  clear hBa ha hb fa fb hG
  go_enter Tryz.func6, Tryz.ntmps6
  go_wp2_with fail
  refine (Large_any [ta, tb] _ _ HT.out HFIT.out (by show 2 ≤ maxLen; unfold maxLen; omega)).mono ?_
  rintro e w1 ⟨rfl, rfl⟩
  cases hbig : decide (1000 < Tm.wloop 1000 0 [ta, tb]) with
  | true =>
    clear hbig
    go_wp2_with fail
    refine (awake_any _ (HG.out.below HBa.out hgl)).mono ?_
    rintro e w5 ⟨rfl, hB5⟩
    go_wp2_with fail
    go_ret
    exact ⟨rfl, HBa.out.trans (hB5.mono HBa.out.size)⟩
  | false =>
    have hfew := Tm.few hbig
    simp only [Tm.sizs] at hfew
    have hR := Tm.same_moved ta p
    clear hbig HT HFIT
    go_wp2_with fail
    have b0 := ((((Blk.new w 32 #[.int .i64 ta.kind, .string ⟨ta.name.toArray⟩, .int .i64 ta.num, .slice A1 ta.args.length k1, .int .i64 ta.at_]).alloc (.cells #[.int .i64 tb.kind, .string ⟨tb.name.toArray⟩, .int .i64 tb.num, .slice A2 tb.args.length k2, .int .i64 tb.at_] 32)).alloc (.cells #[.int .i64 ta.kind, .string ⟨ta.name.toArray⟩, .int .i64 ta.num, .slice A1 ta.args.length k1, .int .i64 ta.at_, .int .i64 tb.kind, .string ⟨tb.name.toArray⟩, .int .i64 tb.num, .slice A2 tb.args.length k2, .int .i64 tb.at_] 32)).alloc (.cells #[.int .i64 ta.kind, .string ⟨ta.name.toArray⟩, .int .i64 ta.num, .slice A1 ta.args.length k1, .int .i64 p] 32))
    have b1 := (((Blk.new (w.alloc (.cells #[.int .i64 ta.kind, .string ⟨ta.name.toArray⟩, .int .i64 ta.num, .slice A1 ta.args.length k1, .int .i64 ta.at_] 32)) 32 #[.int .i64 tb.kind, .string ⟨tb.name.toArray⟩, .int .i64 tb.num, .slice A2 tb.args.length k2, .int .i64 tb.at_]).alloc (.cells #[.int .i64 ta.kind, .string ⟨ta.name.toArray⟩, .int .i64 ta.num, .slice A1 ta.args.length k1, .int .i64 ta.at_, .int .i64 tb.kind, .string ⟨tb.name.toArray⟩, .int .i64 tb.num, .slice A2 tb.args.length k2, .int .i64 tb.at_] 32)).alloc (.cells #[.int .i64 ta.kind, .string ⟨ta.name.toArray⟩, .int .i64 ta.num, .slice A1 ta.args.length k1, .int .i64 p] 32))
    have b3 := Blk.new (((w.alloc (.cells #[.int .i64 ta.kind, .string ⟨ta.name.toArray⟩, .int .i64 ta.num, .slice A1 ta.args.length k1, .int .i64 ta.at_] 32)).alloc (.cells #[.int .i64 tb.kind, .string ⟨tb.name.toArray⟩, .int .i64 tb.num, .slice A2 tb.args.length k2, .int .i64 tb.at_] 32)).alloc (.cells #[.int .i64 ta.kind, .string ⟨ta.name.toArray⟩, .int .i64 ta.num, .slice A1 ta.args.length k1, .int .i64 ta.at_, .int .i64 tb.kind, .string ⟨tb.name.toArray⟩, .int .i64 tb.num, .slice A2 tb.args.length k2, .int .i64 tb.at_] 32)) 32 #[.int .i64 ta.kind, .string ⟨ta.name.toArray⟩, .int .i64 ta.num, .slice A1 ta.args.length k1, .int .i64 p]
    rw [World.size_alloc] at b1
    rw [World.size_alloc, World.size_alloc, World.size_alloc] at b3
    have HBW := Lib.hid (HBa.out.alloc HBa.out.size (.cells #[.int .i64 ta.kind, .string ⟨ta.name.toArray⟩, .int .i64 ta.num, .slice A1 ta.args.length k1, .int .i64 p] 32))
    clear HBa
    generalize ((((w.alloc (.cells #[.int .i64 ta.kind, .string ⟨ta.name.toArray⟩, .int .i64 ta.num, .slice A1 ta.args.length k1, .int .i64 ta.at_] 32)).alloc (.cells #[.int .i64 tb.kind, .string ⟨tb.name.toArray⟩, .int .i64 tb.num, .slice A2 tb.args.length k2, .int .i64 tb.at_] 32)).alloc (.cells #[.int .i64 ta.kind, .string ⟨ta.name.toArray⟩, .int .i64 ta.num, .slice A1 ta.args.length k1, .int .i64 ta.at_, .int .i64 tb.kind, .string ⟨tb.name.toArray⟩, .int .i64 tb.num, .slice A2 tb.args.length k2, .int .i64 tb.at_] 32)).alloc (.cells #[.int .i64 ta.kind, .string ⟨ta.name.toArray⟩, .int .i64 ta.num, .slice A1 ta.args.length k1, .int .i64 p] 32)) = W at *
    have HA2 := Lib.hid (HA.out.kept (.below HBW.out))
    have HB2 := Lib.hid (HB.out.kept (.below HBW.out))
    have HGW := Lib.hid (HG.out.below HBW.out hgl)
    have hglW := HGW.out.lt
    have HLW := Lib.hid ((Below.refl W.heap.size W).drew)
    clear HA HB HG
    obtain ⟨R, hRR⟩ : ∃ R, Tm.same ta tb = R := ⟨_, rfl⟩
    have HRR := Lib.hid hRR
    have HMV := Lib.hid hR
    clear hR hRR
    have HC := Lib.hid (show ∀ w5, Below W.heap.size W w5 → w5.cell? ⟨w.heap.size, 0, none⟩ = some (.int .i64 ta.kind) ∧ w5.cell? ⟨w.heap.size, 1, none⟩ = some (.string ⟨ta.name.toArray⟩) ∧ w5.cell? ⟨w.heap.size, 2, none⟩ = some (.int .i64 ta.num) ∧ w5.cell? ⟨w.heap.size, 3, none⟩ = some (.slice A1 ta.args.length k1) ∧ w5.cell? ⟨w.heap.size, 4, none⟩ = some (.int .i64 ta.at_) ∧ w5.cell? ⟨w.heap.size + 1, 0, none⟩ = some (.int .i64 tb.kind) ∧ w5.cell? ⟨w.heap.size + 1, 1, none⟩ = some (.string ⟨tb.name.toArray⟩) ∧ w5.cell? ⟨w.heap.size + 1, 2, none⟩ = some (.int .i64 tb.num) ∧ w5.cell? ⟨w.heap.size + 1, 3, none⟩ = some (.slice A2 tb.args.length k2) ∧ w5.cell? ⟨w.heap.size + 1, 4, none⟩ = some (.int .i64 tb.at_) ∧ w5.cell? ⟨w.heap.size + 1 + 1 + 1, 0, none⟩ = some (.int .i64 ta.kind) ∧ w5.cell? ⟨w.heap.size + 1 + 1 + 1, 1, none⟩ = some (.string ⟨ta.name.toArray⟩) ∧ w5.cell? ⟨w.heap.size + 1 + 1 + 1, 2, none⟩ = some (.int .i64 ta.num) ∧ w5.cell? ⟨w.heap.size + 1 + 1 + 1, 3, none⟩ = some (.slice A1 ta.args.length k1) ∧ w5.cell? ⟨w.heap.size + 1 + 1 + 1, 4, none⟩ = some (.int .i64 p) from fun w5 h => by
      have x0 := b0.below h b0.lt
      have x1 := b1.below h b1.lt
      have x3 := b3.below h b3.lt
      exact ⟨by simpa using x0.cell 0, by simpa using x0.cell 1, by simpa using x0.cell 2, by simpa using x0.cell 3, by simpa using x0.cell 4, by simpa using x1.cell 0, by simpa using x1.cell 1, by simpa using x1.cell 2, by simpa using x1.cell 3, by simpa using x1.cell 4, by simpa using x3.cell 0, by simpa using x3.cell 1, by simpa using x3.cell 2, by simpa using x3.cell 3, by simpa using x3.cell 4⟩)
    refine wp_region_held_drew (S := fun w5 => w5.cell? ⟨w.heap.size, 0, none⟩ = some (.int .i64 ta.kind) ∧ w5.cell? ⟨w.heap.size, 1, none⟩ = some (.string ⟨ta.name.toArray⟩) ∧ w5.cell? ⟨w.heap.size, 2, none⟩ = some (.int .i64 ta.num) ∧ w5.cell? ⟨w.heap.size, 3, none⟩ = some (.slice A1 ta.args.length k1) ∧ w5.cell? ⟨w.heap.size, 4, none⟩ = some (.int .i64 ta.at_) ∧ w5.cell? ⟨w.heap.size + 1, 0, none⟩ = some (.int .i64 tb.kind) ∧ w5.cell? ⟨w.heap.size + 1, 1, none⟩ = some (.string ⟨tb.name.toArray⟩) ∧ w5.cell? ⟨w.heap.size + 1, 2, none⟩ = some (.int .i64 tb.num) ∧ w5.cell? ⟨w.heap.size + 1, 3, none⟩ = some (.slice A2 tb.args.length k2) ∧ w5.cell? ⟨w.heap.size + 1, 4, none⟩ = some (.int .i64 tb.at_) ∧ w5.cell? ⟨w.heap.size + 1 + 1 + 1, 0, none⟩ = some (.int .i64 ta.kind) ∧ w5.cell? ⟨w.heap.size + 1 + 1 + 1, 1, none⟩ = some (.string ⟨ta.name.toArray⟩) ∧ w5.cell? ⟨w.heap.size + 1 + 1 + 1, 2, none⟩ = some (.int .i64 ta.num) ∧ w5.cell? ⟨w.heap.size + 1 + 1 + 1, 3, none⟩ = some (.slice A1 ta.args.length k1) ∧ w5.cell? ⟨w.heap.size + 1 + 1 + 1, 4, none⟩ = some (.int .i64 p)) (by kernel_rfl) (HC.out W (Below.refl _ _)) (fun hHeld => ?_)
    refine wpAnyH_take (i := 0) (oi := ⟨_, _, _, _, _, _⟩) (v := ?va0) rfl (by kernel_rfl) (by kernel_rfl) (by kernel_rfl) (fun _ _ _ h => h) (Or.inl ⟨by rfl, ?hya0⟩) (by assumption) ?resta0
    case hya0 => intro wx hSx; (try dsimp only at hSx); go_simp; all_goals with_reducible rfl
    try simp only [Act.put, List.setIfInBounds_toArray, List.set_cons_zero, List.set_cons_succ]
    refine wpAnyH_take (i := 1) (oi := ⟨_, _, _, _, _, _⟩) (v := ?va1) rfl (by kernel_rfl) (by kernel_rfl) (by kernel_rfl) (fun _ _ _ h => h) (Or.inl ⟨by rfl, ?hya1⟩) (by assumption) ?resta1
    case hya1 => intro wx hSx; (try dsimp only at hSx); go_simp; all_goals with_reducible rfl
    try simp only [Act.put, List.setIfInBounds_toArray, List.set_cons_zero, List.set_cons_succ]
    refine wpAnyH_take (i := 3) (oi := ⟨_, _, _, _, _, _⟩) (v := ?va3) rfl (by kernel_rfl) (by kernel_rfl) (by kernel_rfl) (fun _ _ _ h => h) (Or.inl ⟨by rfl, ?hya3⟩) (by assumption) ?resta3
    case hya3 => intro wx hSx; (try dsimp only at hSx); go_simp; all_goals with_reducible rfl
    try simp only [Act.put, List.setIfInBounds_toArray, List.set_cons_zero, List.set_cons_succ]
    refine wpAnyH_take (i := 4) (oi := ⟨_, _, _, _, _, _⟩) (v := ?va4) rfl (by kernel_rfl) (by kernel_rfl) (by kernel_rfl) (fun _ _ _ h => h) (Or.inl ⟨by rfl, ?hya4⟩) (by assumption) ?resta4
    case hya4 => intro wx hSx; (try dsimp only at hSx); go_simp; all_goals with_reducible rfl
    try simp only [Act.put, List.setIfInBounds_toArray, List.set_cons_zero, List.set_cons_succ]
    refine wpAnyH_ready (rs := [2]) (by kernel_rfl) (by simp) ?_
    refine AllReadyH.cons (o := ⟨_, _, _, _, _, _⟩) rfl (fun K hK => ?_) AllReadyH.nil
    go_simp
    go_at_call 26
    refine (Same_any ta tb _ _ W.drew (HA2.out.kept (.below HLW.out)) (HB2.out.kept (.below HLW.out)) (by omega)).mono ?_
    rintro e w5 ⟨rfl, hw5⟩
    rw [HRR.out]
    go_wp2_with fail
    refine hK.out _ _ ?_ (fun hHeld2 => ?_)
    · exact HC.out _ (HLW.out.trans (hw5.mono HLW.out.size))
    have HLw5 := Lib.hid (HLW.out.trans (hw5.mono HLW.out.size))
    clear hK K hw5
    try simp only [Act.put, List.setIfInBounds_toArray, List.set_cons_zero, List.set_cons_succ]
    refine wpAnyH_ready (rs := [5]) (by kernel_rfl) (by simp) ?_
    refine AllReadyH.cons (o := ⟨_, _, _, _, _, _⟩) rfl (fun K hK => ?_) AllReadyH.nil
    go_simp
    go_at_call 27
    refine (rSame_any _ ta tb _ _ firm0 w5 (Nat.lt_succ_self _) (HA2.out.kept (.below HLw5.out)) (HB2.out.kept (.below HLw5.out)) (by omega)).mono ?_
    rintro e w6 ⟨rfl, hw6⟩
    rw [HRR.out]
    go_wp2_with fail
    refine hK.out _ _ ?_ (fun hHeld5 => ?_)
    · exact HC.out _ (HLw5.out.trans (hw6.mono HLw5.out.size))
    have HLw6 := Lib.hid (HLw5.out.trans (hw6.mono HLw5.out.size))
    clear hK K hw6
    try simp only [Act.put, List.setIfInBounds_toArray, List.set_cons_zero, List.set_cons_succ]
    refine wpAnyH_take (i := 6) (oi := ⟨_, _, _, _, _, _⟩) (v := ?va6) rfl (by kernel_rfl) (by kernel_rfl) (by kernel_rfl) (fun _ _ _ h => h) (Or.inl ⟨by rfl, ?hya6⟩) (by assumption) ?resta6
    case hya6 => intro wx hSx; (try dsimp only at hSx); go_simp; all_goals with_reducible rfl
    try simp only [Act.put, List.setIfInBounds_toArray, List.set_cons_zero, List.set_cons_succ]
    refine wpAnyH_take (i := 7) (oi := ⟨_, _, _, _, _, _⟩) (v := ?va7) rfl (by kernel_rfl) (by kernel_rfl) (by kernel_rfl) (fun _ _ _ h => h) (Or.inl ⟨by rfl, ?hya7⟩) (by assumption) ?resta7
    case hya7 => intro wx hSx; (try dsimp only at hSx); go_simp; all_goals with_reducible rfl
    try simp only [Act.put, List.setIfInBounds_toArray, List.set_cons_zero, List.set_cons_succ]
    refine wpAnyH_take (i := 8) (oi := ⟨_, _, _, _, _, _⟩) (v := ?va8) rfl (by kernel_rfl) (by kernel_rfl) (by kernel_rfl) (fun _ _ _ h => h) (Or.inl ⟨by rfl, ?hya8⟩) (by assumption) ?resta8
    case hya8 => intro wx hSx; (try dsimp only at hSx); go_simp; all_goals with_reducible rfl
    try simp only [Act.put, List.setIfInBounds_toArray, List.set_cons_zero, List.set_cons_succ]
    refine wpAnyH_take (i := 9) (oi := ⟨_, _, _, _, _, _⟩) (v := ?va9) rfl (by kernel_rfl) (by kernel_rfl) (by kernel_rfl) (fun _ _ _ h => h) (Or.inl ⟨by rfl, ?hya9⟩) (by assumption) ?resta9
    case hya9 => intro wx hSx; (try dsimp only at hSx); go_simp; all_goals with_reducible rfl
    try simp only [Act.put, List.setIfInBounds_toArray, List.set_cons_zero, List.set_cons_succ]
    refine wpAnyH_ready (rs := [10]) (by kernel_rfl) (by simp) ?_
    refine AllReadyH.cons (o := ⟨_, _, _, _, _, _⟩) rfl (fun K hK => ?_) AllReadyH.nil
    go_simp
    go_at_call 26
    refine (Same_any ta (.mk ta.kind ta.name ta.num ta.args p) _ _ w6 (HA2.out.kept (.below HLw6.out)) (HA2.out.kept (.below HLw6.out)) (by omega)).mono ?_
    rintro e w7 ⟨rfl, hw7⟩
    rw [HMV.out]
    go_wp2_with fail
    refine hK.out _ _ ?_ (fun hHeld10 => ?_)
    · exact HC.out _ (HLw6.out.trans (hw7.mono HLw6.out.size))
    have HLw7 := Lib.hid (HLw6.out.trans (hw7.mono HLw6.out.size))
    clear hK K hw7
    try simp only [Act.put, List.setIfInBounds_toArray, List.set_cons_zero, List.set_cons_succ]
    refine wpAnyH_take (i := 11) (oi := ⟨_, _, _, _, _, _⟩) (v := ?vb1) rfl (by kernel_rfl) (by kernel_rfl) (by kernel_rfl) (fun _ _ _ h => h) (Or.inl ⟨by rfl, ?hyb1⟩) (by assumption) ?restb1
    case hyb1 => intro wx hSx; (try dsimp only at hSx); go_simp; all_goals with_reducible rfl
    try simp only [Act.put, List.setIfInBounds_toArray, List.set_cons_zero, List.set_cons_succ]
    refine wpAnyH_take (i := 12) (oi := ⟨_, _, _, _, _, _⟩) (v := ?vb2) rfl (by kernel_rfl) (by kernel_rfl) (by kernel_rfl) (fun _ _ _ h => h) (Or.inl ⟨by rfl, ?hyb2⟩) (by assumption) ?restb2
    case hyb2 => intro wx hSx; (try dsimp only at hSx); go_simp; all_goals with_reducible rfl
    try simp only [Act.put, List.setIfInBounds_toArray, List.set_cons_zero, List.set_cons_succ]
    refine wpAnyH_ready (rs := [13]) (by kernel_rfl) (by simp) ?_
    refine AllReadyH.cons (o := ⟨_, _, _, _, _, _⟩) rfl (fun K hK => ?_) AllReadyH.nil
    go_simp
    go_at_call 11
    refine (awake_any w7 (HGW.out.below HLw7.out hglW)).mono ?_
    rintro e w8 ⟨rfl, hw8⟩
    go_wp2_with fail
    refine hK.out _ _ ?_ (fun hHeld13 => ?_)
    · exact HC.out _ (HLw7.out.trans (hw8.mono HLw7.out.size))
    have HLw8 := Lib.hid (HLw7.out.trans (hw8.mono HLw7.out.size))
    clear hK K hw8
    try simp only [Act.put, List.setIfInBounds_toArray, List.set_cons_zero, List.set_cons_succ]
    refine wpAnyH_take (i := 14) (oi := ⟨_, _, _, _, _, _⟩) (v := ?vb4) rfl (by kernel_rfl) (by kernel_rfl) (by kernel_rfl) (fun _ _ _ h => h) (Or.inl ⟨by rfl, ?hyb4⟩) (by assumption) ?restb4
    case hyb4 => intro wx hSx; (try dsimp only at hSx); go_simp; all_goals with_reducible rfl
    try simp only [Act.put, List.setIfInBounds_toArray, List.set_cons_zero, List.set_cons_succ]
    refine wpAnyH_take (i := 15) (oi := ⟨_, _, _, _, _, _⟩) (v := ?vb5) rfl (by kernel_rfl) (by kernel_rfl) (by kernel_rfl) (fun _ _ _ h => h) (Or.inl ⟨by rfl, ?hyb5⟩) (by assumption) ?restb5
    case hyb5 => intro wx hSx; (try dsimp only at hSx); go_simp; all_goals with_reducible rfl
    try simp only [Act.put, List.setIfInBounds_toArray, List.set_cons_zero, List.set_cons_succ]
    refine wpAnyH_done (by kernel_rfl) ?_ _
    go_wp2_with fail
    go_ret
    exact ⟨rfl, HBW.out.trans (HLw8.out.mono HBW.out.size)⟩
end Go.Proofs.YtaefonagbcnmdaaGreatDoor

