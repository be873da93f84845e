import Derived.Test.YtaefonagbcnmdaaGreatDoorM7b
import Derived.Maps.AppendAt
import Derived.Laws.AppendOwnNone
import Derived.StillTailTactics
import Derived.Deep.DeepCutAuto
import Derived.Deep.Slices
import Derived.Deep.Fields
import Derived.ChangeSame
import Derived.SizedLaws
set_option linter.unusedSimpArgs false
set_option linter.unusedVariables false
namespace Go.Proofs.YtaefonagbcnmdaaGreatDoor
open Go.RowKit
theorem Tm.begin_lt {ts : List Tm.T} {en : Tm.T} {s s' : Tm.S} {b : Bool} (hg : Tm.Good ts en) (h : Tm.begin_ ts en s = .ok (s', b)) : s.i + 1 ≤ s'.i ∧ s.i < ts.length := by
  refine ⟨?_, ?_⟩
  · unfold Tm.begin_ at h
    dsimp only at h
    repeat' split at h
    all_goals first | (cases h; done) | skip
    all_goals (try unfold Tm.beginName at h); (try unfold Tm.beginVariable at h); (try unfold Tm.beginBracket at h)
    all_goals (try dsimp only at h)
    all_goals repeat' split at h
    all_goals first | (cases h; done) | skip
    all_goals
      simp only [Except.ok.injEq, Prod.mk.injEq] at h
      obtain ⟨rfl, rfl⟩ := h
      simp only [Tm.S.have_, Tm.S.push, Tm.S.next]
      omega
  · unfold Tm.begin_ at h
    dsimp only at h
    split at h
    · cases h
    rename_i hst
    exact hg.of_stands (by simpa using hst)
theorem Tm.loop_ends {ts : List Tm.T} {en : Tm.T} (hg : Tm.Good ts en) (f : Nat) {s s' : Tm.S} (hf : ts.length + 1 - s.i ≤ f) (h1 : 1 ≤ f) (h : Tm.loop ts en f s = .ok s') : s'.stack = [] := by
  induction f generalizing s with
  | zero => omega
  | succ f ih =>
    by_cases hn : s.stack = []
    · rw [Tm.loop_nil hn] at h; cases h; exact hn
    · rw [Tm.loop_cons hn] at h
      split at h
      · cases h
      · rename_i s1 hb
        have := Tm.begin_lt hg hb
        exact ih (by omega) (by omega) h
      · rename_i s1 hb
        have := Tm.begin_lt hg hb
        unfold Tm.onward at h
        split at h
        · cases h
        · rename_i s2 hc
          have := Tm.climb_le _ hc
          exact ih (by omega) (by omega) h
theorem Tm.begin_stack {ts : List Tm.T} {en : Tm.T} {s s' : Tm.S} (h : Tm.begin_ ts en s = .ok (s', false)) : s'.stack ≠ [] := by
  unfold Tm.begin_ at h
  dsimp only at h
  repeat' split at h
  all_goals first | (cases h; done) | skip
  all_goals (try unfold Tm.beginName at h); (try unfold Tm.beginVariable at h); (try unfold Tm.beginBracket at h)
  all_goals (try dsimp only at h)
  all_goals repeat' split at h
  all_goals first | (cases h; done) | skip
  all_goals
    simp only [Except.ok.injEq, Prod.mk.injEq] at h
    obtain ⟨rfl, h⟩ := h
  all_goals first | (cases h; done) | (intro e; cases e)
theorem Tm.same_rfl (N : Nat) : ∀ (l : List Tm), Tm.sizs l < N → Tm.sames l l = true := by
  induction N with
  | zero => intro l h; omega
  | succ N ih =>
    intro l
    induction l with
    | nil => intro _; rw [Tm.sames]
    | cons t ts iht =>
      intro h
      rw [Tm.sizs, Tm.siz_eq] at h
      rw [Tm.sames, Tm.same_eq, ih t.args (by omega), iht (by omega)]
      simp
theorem Tm.same_self (t : Tm) : Tm.same t t = true := by rw [Tm.same_eq, Tm.same_rfl _ _ (Nat.lt_succ_self _)]; simp
theorem Tm.firstBad_of : ∀ {l : List Tm.T}, (∀ t ∈ l, Tk.check t.1 t.2.1 = 0) → Tm.firstBad l = none
  | [], _ => rfl
  | a :: l, h => by
    rw [Tm.firstBad, if_pos (h a (List.mem_cons_self ..))]
    exact Tm.firstBad_of fun t ht => h t (List.mem_cons_of_mem _ ht)
theorem Tm.read_ends {ts : List Tm.T} {en : Tm.T} {s s' : Tm.S} (hg : Tm.Good ts en) (h : Tm.read ts en s = .ok s') : s'.stack = [] := by
  unfold Tm.read at h
  exact Tm.loop_ends hg _ (by show ts.length + 1 - s.i ≤ ts.length + 2; omega) (by omega) h
end Go.Proofs.YtaefonagbcnmdaaGreatDoor
namespace Go.Proofs.YtaefonagbcnmdaaGreatDoor
open Go.RowKit

theorem run_append_none_cap {P : Program} {w : World} (base : Nat) (t ty e : TypeId) (i : TypeInfo) (size : Nat) (ht : P.underlying t = some (.slice e)) (hi : P.info? e = some i)
    (v : Value) (n : Nat) (xs : List Value) (hown : w.ownsRow base e size v n xs) (c : Nat) :
    (Builtin.append_ #[t, t] ty #[v, .slice none 0 c]).run P w = .ok v w := by
  rcases hown.2 with ⟨rfl, rfl⟩ | ⟨g, cap, cur, rfl, _, _, hnc, _⟩
  · simp [Builtin.append_, run_underlying ht, sizeOf, typeInfo, hi, Builtin.lenOf, Builtin.firstCells]
  · simp [Builtin.append_, run_underlying ht, sizeOf, typeInfo, hi, Builtin.lenOf, Builtin.firstCells, hnc, storeCells]
end Go.Proofs.YtaefonagbcnmdaaGreatDoor
namespace Go.Proofs.YtaefonagbcnmdaaGreatDoor
open Go.RowKit

/-! The law's own comparison, with places: of a term with itself. -/
def SameAt (N : Nat) : Prop := ∀ (t : Tm) (va vb : Value) (κ : Nat → Nat) (w : World), Tm.siz t < N → Targs w κ va t.args → Targs w κ vb t.args → Tm.siz t ≤ 1099511627776 →
  Calls Tryz.prog 30 #[.agg #[.int .i64 t.kind, .string ⟨t.name.toArray⟩, .int .i64 t.num, va, .int .i64 t.at_], .agg #[.int .i64 t.kind, .string ⟨t.name.toArray⟩, .int .i64 t.num, vb, .int .i64 t.at_]] w fun e w' => e = .returned (.bool true) ∧ Below w.heap.size w w'
set_option maxRecDepth 100000 in
set_option maxHeartbeats 4000000 in
theorem lawAll_any (N : Nat) (hS : SameAt N) (l : List Tm) (va vb : Value) (κ : Nat → Nat) (w : World) (hN : Tm.sizs l < N) (ha : Targs w κ va l) (hb : Targs w κ vb l) (hsz : Tm.sizs l ≤ 1099511627776) :
    Calls Tryz.prog 14 #[va, vb] w fun e w' => e = .returned (.bool true) ∧ Below w.heap.size w w' := by
  have hl := Tm.sizs_len l
  obtain ⟨A1, k1, rfl⟩ := ha.form
  obtain ⟨A2, k2, rfl⟩ := hb.form
  have HA := Lib.hid ha
  have HB := Lib.hid hb
  have HS := Lib.hid hS
  have HN := Lib.hid hN
  clear ha hb hS hN
  go_enter Tryz.func14, Tryz.ntmps14
  go_wp2_with fail
  go_loopw [5] (fun kv wr => ∃ k : Nat, kv = .int .i64 k ∧ k ≤ l.length ∧ Hid (Below w.heap.size w wr)) (fun kv _ => l.length - (intOf kv).toNat)
  case atStart => exact ⟨0, by go_num, Nat.zero_le _, Lib.hid (Below.refl _ _)⟩
  case round =>
    obtain ⟨m, rfl, hm, HBR⟩ := hrel
    by_cases hml : m < l.length
    · obtain ⟨t, ht⟩ : ∃ t, l[m]? = some t := ⟨_, List.getElem?_eq_getElem hml⟩
      have hst := Tm.sizs_get ht
      have HSZ := Lib.hid (show Tm.siz t < N ∧ Tm.siz t ≤ 1099511627776 by have := HN.out; omega)
      have m0 : (0 : Int) ≤ (m : Int) := by omega
      have m1 : (m : Int) < (l.length : Int) := by omega
      obtain ⟨ga, oa, ba, hAa, -, hga, -, htta, x0, x1, x2, x3, x4⟩ := (HA.out.kept (.below HBR.out)).elem ht
      obtain ⟨gb, ob, bb, hAb, -, hgb, -, httb, y0, y1, y2, y3, y4⟩ := (HB.out.kept (.below HBR.out)).elem ht
      subst hAa
      subst hAb
      obtain ⟨Aa, ca, rfl⟩ := htta.form
      obtain ⟨Ab, cb, rfl⟩ := httb.form
      have HAA := Lib.hid htta
      have HBB := Lib.hid httb
      clear htta httb ht hst
      go_upto_region 6 with (fail)
      go_still_tail 8, (by kernel_rfl)
      go_wp2_with fail
      have hBd := (Below.refl wr.heap.size wr).drew
      refine (HS.out t _ _ κ _ HSZ.out.1 (HAA.out.kept (.below hBd)) (HBB.out.kept (.below hBd)) HSZ.out.2).mono ?_
      rintro e w9 ⟨rfl, hB9⟩
      have HB10 := Lib.hid (hBd.trans (hB9.mono (by simp)))
      clear hB9 hBd
      go_wp2_with fail
      go_roundw
      case rel => exact ⟨m + 1, by go_num, by omega, Lib.hid (HBR.out.trans (HB10.out.mono HBR.out.size))⟩
      case measure => simp [intOf]; omega
    · have m3 : ¬ (m : Int) < (l.length : Int) := by omega
      go_wp2_with fail
      go_ret
      exact ⟨rfl, HBR.out⟩
set_option maxRecDepth 100000 in
set_option maxHeartbeats 4000000 in
theorem sameAt_next (N : Nat) (hS : SameAt N) : SameAt (N + 1) := by
  intro t va vb κ w hN ha hb hsz
  have hs2 := Tm.siz_eq t
  obtain ⟨A1, k1, rfl⟩ := ha.form
  obtain ⟨A2, k2, rfl⟩ := hb.form
  have hB0 : Below w.heap.size w ((w.alloc (.cells #[.int .i64 t.kind, .string ⟨t.name.toArray⟩, .int .i64 t.num, .slice A1 t.args.length k1, .int .i64 t.at_] 32)).alloc (.cells #[.int .i64 t.kind, .string ⟨t.name.toArray⟩, .int .i64 t.num, .slice A2 t.args.length k2, .int .i64 t.at_] 32)) := ((Below.refl _ w).alloc (Nat.le_refl _) _).alloc (by simp) _
  have b1 := (Blk.new w 32 #[.int .i64 t.kind, .string ⟨t.name.toArray⟩, .int .i64 t.num, .slice A1 t.args.length k1, .int .i64 t.at_]).alloc (.cells #[.int .i64 t.kind, .string ⟨t.name.toArray⟩, .int .i64 t.num, .slice A2 t.args.length k2, .int .i64 t.at_] 32)
  have b2 := Blk.new (w.alloc (.cells #[.int .i64 t.kind, .string ⟨t.name.toArray⟩, .int .i64 t.num, .slice A1 t.args.length k1, .int .i64 t.at_] 32)) 32 #[.int .i64 t.kind, .string ⟨t.name.toArray⟩, .int .i64 t.num, .slice A2 t.args.length k2, .int .i64 t.at_]
  rw [World.size_alloc] at b2
  have HA := Lib.hid (ha.kept (.below hB0))
  have HB := Lib.hid (hb.kept (.below hB0))
  have HB0 := Lib.hid hB0
  have HB1 := Lib.hid b1
  have HB2 := Lib.hid b2
  have HS := Lib.hid hS
  have HN := Lib.hid (show Tm.sizs t.args < N ∧ Tm.sizs t.args ≤ 1099511627776 by omega)
  clear ha hb hB0 b1 b2 hS hN hs2
  go_enter Tryz.func30, Tryz.ntmps30
  go_upto_region 1 with (fail)
  generalize hW : (w.alloc (.cells #[.int .i64 t.kind, .string ⟨t.name.toArray⟩, .int .i64 t.num, .slice A1 t.args.length k1, .int .i64 t.at_] 32)).alloc (.cells #[.int .i64 t.kind, .string ⟨t.name.toArray⟩, .int .i64 t.num, .slice A2 t.args.length k2, .int .i64 t.at_] 32) = W at *
  clear hW
  obtain ⟨x0, x1, x2, x3, x4⟩ : W.cell? ⟨w.heap.size, 0, none⟩ = some (.int .i64 t.kind) ∧ W.cell? ⟨w.heap.size, 1, none⟩ = some (.string ⟨t.name.toArray⟩) ∧ W.cell? ⟨w.heap.size, 2, none⟩ = some (.int .i64 t.num) ∧ W.cell? ⟨w.heap.size, 3, none⟩ = some (.slice A1 t.args.length k1) ∧ W.cell? ⟨w.heap.size, 4, none⟩ = some (.int .i64 t.at_) :=
    ⟨by simpa using HB1.out.cell 0, by simpa using HB1.out.cell 1, by simpa using HB1.out.cell 2, by simpa using HB1.out.cell 3, by simpa using HB1.out.cell 4⟩
  obtain ⟨y0, y1, y2, y3, y4⟩ : W.cell? ⟨w.heap.size + 1, 0, none⟩ = some (.int .i64 t.kind) ∧ W.cell? ⟨w.heap.size + 1, 1, none⟩ = some (.string ⟨t.name.toArray⟩) ∧ W.cell? ⟨w.heap.size + 1, 2, none⟩ = some (.int .i64 t.num) ∧ W.cell? ⟨w.heap.size + 1, 3, none⟩ = some (.slice A2 t.args.length k2) ∧ W.cell? ⟨w.heap.size + 1, 4, none⟩ = some (.int .i64 t.at_) :=
    ⟨by simpa using HB2.out.cell 0, by simpa using HB2.out.cell 1, by simpa using HB2.out.cell 2, by simpa using HB2.out.cell 3, by simpa using HB2.out.cell 4⟩
  have g1 := HB1.out.lt
  have g2 := HB2.out.lt
  go_wp2_with fail
  refine (rSame_any 2 (.mk t.kind t.name t.num [] 0) (.mk t.kind t.name t.num [] 0) (.slice none 0 0) (.slice none 0 0) (fun _ => 0) W (by rw [Tm.siz_eq]; simp [Tm.args, Tm.sizs]) (.nil none 0) (.nil none 0) (by rw [Tm.siz_eq]; simp [Tm.args, Tm.sizs])).mono ?_
  rw [show Tm.same (.mk t.kind t.name t.num [] 0) (.mk t.kind t.name t.num [] 0) = true from Tm.same_self _]
  rintro e w5 ⟨rfl, hB5⟩
  have z3 := (hB5.cell (p := ⟨w.heap.size, 3, none⟩) g1).trans x3
  have u3 := (hB5.cell (p := ⟨w.heap.size + 1, 3, none⟩) g2).trans y3
  have g3 : w.heap.size < w5.heap.size := Nat.lt_of_lt_of_le g1 hB5.size
  have g4 : w.heap.size + 1 < w5.heap.size := Nat.lt_of_lt_of_le g2 hB5.size
  have HA5 := Lib.hid (HA.out.kept (.below hB5))
  have HC5 := Lib.hid (HB.out.kept (.below hB5))
  have HB6 := Lib.hid (HB0.out.trans (hB5.mono HB0.out.size))
  clear hB5 x0 x1 x2 x3 x4 y0 y1 y2 y3 y4
  go_wp2_with fail
  refine (lawAll_any N HS.out t.args _ _ κ w5 HN.out.1 HA5.out HC5.out HN.out.2).mono ?_
  rintro e w7 ⟨rfl, hB7⟩
  have HB8 := Lib.hid (HB6.out.trans (hB7.mono HB6.out.size))
  clear hB7
  go_wp2_with fail
  go_ret
  exact ⟨rfl, HB8.out⟩
theorem sameAt_all : ∀ N, SameAt N
  | 0 => fun t va vb κ w h => absurd h (Nat.not_lt_zero _)
  | N + 1 => sameAt_next N (sameAt_all N)
end Go.Proofs.YtaefonagbcnmdaaGreatDoor
namespace Go.Proofs.YtaefonagbcnmdaaGreatDoor
open Go.RowKit

/-- What One answers. -/
def Tm.oneT (ts : List Tm.T) : Except Tm.F Tm :=
  match Tm.firstBad (Tm.cut ts) with
  | some f => .error f
  | none =>
    match Tm.read (Tm.cut ts) (Tm.endTok ts) Tm.start with
    | .error x => .error x
    | .ok s =>
      if (Tm.peek (Tm.cut ts) (Tm.endTok ts) s.i).1 = 0 then (if 64 < Tm.depth s.term then .error (s.term.at_, 6) else .ok s.term)
      else .error (Tm.refusal (Tm.peek (Tm.cut ts) (Tm.endTok ts) s.i))
/-- What the function in One leaves. -/
def OPost (w : World) (κ : Nat → Nat) (rB : Nat) (R : Except Tm.F Tm) (e : Ending) (w' : World) : Prop :=
  match R with
  | .ok t => e = .returned (.tuple #[]) ∧ ∃ κ' v', Targs w' κ' v' t.args ∧ Blk w' rB 32 #[.int .i64 t.kind, .string ⟨t.name.toArray⟩, .int .i64 t.num, v', .int .i64 t.at_] ∧ KeptBut κ κ' w w' rB
  | .error f => e = Tm.thrown f.1 f.2 ∧ ∃ κ', Kept κ κ' w w'
set_option maxRecDepth 100000 in
set_option maxHeartbeats 4000000 in
theorem one_found_any (v : Value) (ts : List Tm.T) {κ : Nat → Nat} (lB rB : Nat) (w : World) (hn : ts.length ≤ 1000000) (hT : TokR w κ v ts) (hsz : ∀ t ∈ ts, t.2.1.length ≤ 65536) (hG : Glob w)
    (hl : Blk w lB 43 #[v]) (hr : Blk w rB 32 #[.int .i64 0, .string ⟨#[]⟩, .int .i64 0, .slice none 0 0, .int .i64 0]) (hkr : κ rB = 1) :
    Calls Tryz.prog 44 #[.pointer (some ⟨lB, 0, none⟩), .pointer (some ⟨rB, 0, none⟩)] w (OPost w κ rB (Tm.oneT ts)) := by
  obtain ⟨R, hR⟩ : ∃ R, Tm.oneT ts = R := ⟨_, rfl⟩
  have HR := Lib.hid hR
  rw [hR]
  obtain ⟨P, hP⟩ : ∃ P, OPost w κ rB R = P := ⟨_, rfl⟩
  have HP := Lib.hid hP
  rw [hP]
  have c0 : w.cell? ⟨lB, 0, none⟩ = some v := by simpa using hl.cell 0
  have HRB := Lib.hid hr
  have hrl := hr.lt
  have HT := Lib.hid hT
  have HSZ := Lib.hid hsz
  have HG := Lib.hid hG
  obtain ⟨A, cap, hv, -⟩ := hT
  subst hv
  clear hR hP hr hsz hG hl
  go_enter Tryz.func44, Tryz.ntmps44
  go_wp2_with fail
  refine (newReader_any _ ts w hn HT.out HSZ.out HG.out).mono ?_
  rintro e w2 ⟨hB2, hq⟩
  cases hfb : Tm.firstBad (Tm.cut ts) with
  | some f =>
    rw [hfb] at hq
    dsimp only at hq
    subst hq
    have hres : R = .error f := by rw [← HR.out, Tm.oneT, hfb]
    have HRES := Lib.hid hres
    have HB2 := Lib.hid hB2
    clear hfb hres hB2
    unfold Tm.thrown
    go_wp2_with fail
    rw [← HP.out, HRES.out]
    exact ⟨rfl, rfl, κ, .below HB2.out⟩
  | none =>
    rw [hfb] at hq
    dsimp only at hq
    obtain ⟨g, κ1, tv, rfl, hgl, hR0, hK0⟩ := hq
    have hgood : Tm.Good (Tm.cut ts) (Tm.endTok ts) := ⟨Tm.endTok_kind ts, fun t ht => ⟨Tm.firstBad_none hfb t ht, HSZ.out t (List.mem_of_mem_take ht)⟩⟩
    have hRR : R = (match Tm.read (Tm.cut ts) (Tm.endTok ts) Tm.start with
      | .error x => .error x
      | .ok s =>
        if (Tm.peek (Tm.cut ts) (Tm.endTok ts) s.i).1 = 0 then (if 64 < Tm.depth s.term then .error (s.term.at_, 6) else .ok s.term)
        else .error (Tm.refusal (Tm.peek (Tm.cut ts) (Tm.endTok ts) s.i))) := by rw [← HR.out, Tm.oneT, hfb]
    have HRR := Lib.hid hRR
    have hlen : (Tm.cut ts).length ≤ ts.length := by unfold Tm.cut; rw [List.length_take]; omega
    generalize Tm.cut ts = c at *
    generalize Tm.endTok ts = en at *
    have hcn : c.length ≤ 1000000 := by omega
    have HR0 := Lib.hid hR0
    have HK0 := Lib.hid hK0
    have HGD := Lib.hid hgood
    clear hfb hgood hR0 hK0 HR HSZ hB2 hlen c0 hRR
    go_wp2_with fail
    refine (pread_any HR0.out HGD.out (Nat.zero_le _)).mono ?_
    intro e w4 hq
    cases hrd : Tm.read c en Tm.start with
    | error x =>
      rw [hrd] at hq
      obtain ⟨rfl, κ2, hK2⟩ := hq
      have HRES := Lib.hid (show R = .error x by rw [HRR.out, hrd])
      have HK2 := Lib.hid hK2
      unfold Tm.thrown
      clear hrd hK2
      go_wp2_with fail
      rw [← HP.out, HRES.out]
      exact ⟨rfl, rfl, κ2, HK0.out.trans HK2.out⟩
    | ok s' =>
      rw [hrd] at hq
      obtain ⟨av', rfl, κ2, sv', hI4, hK4, hi4⟩ := hq
      have hta := hI4.term
      obtain ⟨Aa, ca, rfl⟩ := hta.form
      have HRD := Lib.hid (show R = (if (Tm.peek c en s'.i).1 = 0 then (if 64 < Tm.depth s'.term then .error (s'.term.at_, 6) else .ok s'.term) else .error (Tm.refusal (Tm.peek c en s'.i))) by rw [HRR.out, hrd])
      have HRS := Lib.hid (Tm.read_siz hrd rfl (by simp [Tm.start, Tm.zero, Tm.siz_mk0]))
      obtain ⟨κ3, hκ3⟩ : ∃ κ3 : Nat → Nat, κ3 = recol κ2 (.slice (some ⟨w4.heap.size, 0, none⟩) 1 1) 1 := ⟨_, rfl⟩
      obtain ⟨hI5, hK5⟩ := hI4.recolor (.slice (some ⟨w4.heap.size, 0, none⟩) 1 1) 1 (fun k e => by cases e; exact Nat.le_refl _)
      have hk4 : recol κ2 (.slice (some ⟨w4.heap.size, 0, none⟩) 1 1) 1 w4.heap.size = 1 := recol_own _ _ _ _ rfl
      rw [← hκ3] at hI5 hK5 hk4
      clear hκ3
      have hB6 := (Below.refl w4.heap.size w4).alloc (Nat.le_refl _) (.cells #[.int .i64 s'.term.kind, .string ⟨s'.term.name.toArray⟩, .int .i64 s'.term.num, .slice Aa s'.term.args.length ca, .int .i64 s'.term.at_] 32)
      have HK4 := Lib.hid ((HK0.out.trans hK4).trans hK5)
      have HI4 := Lib.hid hI5
      have HTA := Lib.hid (hta.kept hK5)
      have HB6 := Lib.hid hB6
      have HTK := Lib.hid (Blk.new w4 32 #[.int .i64 s'.term.kind, .string ⟨s'.term.name.toArray⟩, .int .i64 s'.term.num, .slice Aa s'.term.args.length ca, .int .i64 s'.term.at_])
      have HK44 := Lib.hid hk4
      clear hrd hI4 hI5 hK4 hK5 hta hB6 hk4
      unfold Tm.val
      go_wp2_with fail
      refine (ptake_any (HI4.out.below HB6.out) hi4).mono ?_
      rintro e w8 ⟨rfl, hI8, hK8⟩
      obtain ⟨T4, hT4⟩ : ∃ T4, Tm.peek c en s'.i = T4 := ⟨_, rfl⟩
      rw [hT4]
      have HT4 := Lib.hid hT4
      have htk8 := Blk.kept HTK.out hK8 HK44.out
      have HK8 := Lib.hid ((HK4.out.trans (.below HB6.out)).trans hK8)
      have HTA8 := Lib.hid ((HTA.out.kept (.below HB6.out)).kept hK8)
      have hB9 := (Below.refl w8.heap.size w8).alloc (Nat.le_refl _) (.cells #[.int .i64 T4.1, .string ⟨T4.2.1.toArray⟩, .int .i64 T4.2.2] 48)
      have HTK8 := Lib.hid (htk8.below hB9 htk8.lt)
      have HB9 := Lib.hid hB9
      clear hT4 hI8 hK8 htk8 hB9
      cases hk : (T4.1 != 0)
      · have hz : T4.1 = 0 := by simpa using hk
        obtain ⟨k4, x4, a4⟩ := T4
        dsimp only at hz
        subst hz
        have HRE := Lib.hid (show R = (if 64 < Tm.depth s'.term then .error (s'.term.at_, 6) else .ok s'.term) by rw [HRD.out, HT4.out, if_pos rfl])
        have HKW := Lib.hid (HK8.out.trans (.below HB9.out))
        have HTW := Lib.hid (HTA8.out.kept (.below HB9.out))
        have hsz := HRS.out
        clear hk HTK
        go_upto_region 5 with (fail)
        generalize hW9 : (w8.alloc (.cells #[.int .i64 0, .string ⟨x4.toArray⟩, .int .i64 a4] 48)) = W9 at *
        clear hW9
        obtain ⟨x0, x1, x2, x3, y4⟩ : W9.cell? ⟨w4.heap.size, 0, none⟩ = some (.int .i64 s'.term.kind) ∧ W9.cell? ⟨w4.heap.size, 1, none⟩ = some (.string ⟨s'.term.name.toArray⟩) ∧ W9.cell? ⟨w4.heap.size, 2, none⟩ = some (.int .i64 s'.term.num) ∧ W9.cell? ⟨w4.heap.size, 3, none⟩ = some (.slice Aa s'.term.args.length ca) ∧ W9.cell? ⟨w4.heap.size, 4, none⟩ = some (.int .i64 s'.term.at_) :=
          ⟨by simpa using HTK8.out.cell 0, by simpa using HTK8.out.cell 1, by simpa using HTK8.out.cell 2, by simpa using HTK8.out.cell 3, by simpa using HTK8.out.cell 4⟩
        have hl8 := HTK8.out.lt
        have hB10 := (Below.refl W9.heap.size W9).alloc (Nat.le_refl _) (.cells #[.int .i64 s'.term.kind, .string ⟨s'.term.name.toArray⟩, .int .i64 s'.term.num, .slice Aa s'.term.args.length ca, .int .i64 s'.term.at_] 32)
        have hone := Targs.one (x := s'.term) (HTW.out.recolor (κ' := fun _ => 0) (fun _ _ => rfl)) rfl (.below hB10) (Blk.new W9 32 #[.int .i64 s'.term.kind, .string ⟨s'.term.name.toArray⟩, .int .i64 s'.term.num, .slice Aa s'.term.args.length ca, .int .i64 s'.term.at_])
        have HON := Lib.hid hone
        have HB10 := Lib.hid hB10
        clear hone hB10
        go_wp2_with fail
        refine (checkNesting_any [s'.term] _ _ HON.out (fun t ht => by simp at ht; subst ht; omega) (by simp)).mono ?_
        rintro e w11 ⟨hB11, hq⟩
        have hBB := HB10.out.trans (hB11.mono HB10.out.size)
        have HKZ := Lib.hid (HKW.out.trans (.below hBB))
        have HTZ := Lib.hid (HTW.out.kept (.below hBB))
        have HTB := Lib.hid (HTK8.out.below hBB HTK8.out.lt)
        clear hB11 hBB x0 x1 x2 x3 y4
        by_cases hd : 64 < Tm.depth s'.term
        · rw [Tm.tooDeep, if_pos hd] at hq
          dsimp only at hq
          subst hq
          have HRES := Lib.hid (show R = .error (s'.term.at_, 6) by rw [HRE.out, if_pos hd])
          unfold Tm.thrown
          clear hd
          go_wp2_with fail
          rw [← HP.out, HRES.out]
          exact ⟨rfl, rfl, κ3, HKZ.out⟩
        · rw [Tm.tooDeep, if_neg hd, Tm.tooDeep] at hq
          dsimp only at hq
          subst hq
          have HRES := Lib.hid (show R = .ok s'.term by rw [HRE.out, if_neg hd])
          have hrb := HRB.out.kept HKZ.out hkr
          obtain ⟨x0, x1, x2, x3, x4'⟩ : w11.cell? ⟨w4.heap.size, 0, none⟩ = some (.int .i64 s'.term.kind) ∧ w11.cell? ⟨w4.heap.size, 1, none⟩ = some (.string ⟨s'.term.name.toArray⟩) ∧ w11.cell? ⟨w4.heap.size, 2, none⟩ = some (.int .i64 s'.term.num) ∧ w11.cell? ⟨w4.heap.size, 3, none⟩ = some (.slice Aa s'.term.args.length ca) ∧ w11.cell? ⟨w4.heap.size, 4, none⟩ = some (.int .i64 s'.term.at_) :=
            ⟨by simpa using HTB.out.cell 0, by simpa using HTB.out.cell 1, by simpa using HTB.out.cell 2, by simpa using HTB.out.cell 3, by simpa using HTB.out.cell 4⟩
          obtain ⟨r0, r1, r2, r3, r4⟩ : w11.cell? ⟨rB, 0, none⟩ = some (.int .i64 0) ∧ w11.cell? ⟨rB, 1, none⟩ = some (.string ⟨#[]⟩) ∧ w11.cell? ⟨rB, 2, none⟩ = some (.int .i64 0) ∧ w11.cell? ⟨rB, 3, none⟩ = some (.slice none 0 0) ∧ w11.cell? ⟨rB, 4, none⟩ = some (.int .i64 0) :=
            ⟨by simpa using hrb.cell 0, by simpa using hrb.cell 1, by simpa using hrb.cell 2, by simpa using hrb.cell 3, by simpa using hrb.cell 4⟩
          have bf := hrb.frozen
          have hr3 : κ3 rB = 1 := (HKZ.out.block rB hrl (by omega)).2.trans hkr
          have HB4 := Lib.hid hrb
          have HR3 := Lib.hid hr3
          clear hd hrb hr3
          go_wp2_with fail
          go_end0
          rw [← HP.out, HRES.out]
          have h5 : ∀ b, b ≠ rB → (((((w11.setCell ⟨rB, 0, none⟩ (.int .i64 s'.term.kind)).setCell ⟨rB, 1, none⟩ (.string ⟨s'.term.name.toArray⟩)).setCell ⟨rB, 2, none⟩ (.int .i64 s'.term.num)).setCell ⟨rB, 3, none⟩ (.slice Aa s'.term.args.length ca)).setCell ⟨rB, 4, none⟩ (.int .i64 s'.term.at_)).heap[b]? = w11.heap[b]? := fun b hne =>
            ((((Below.heap_setCell _ _ _ _ hne).trans (Below.heap_setCell _ _ _ _ hne)).trans (Below.heap_setCell _ _ _ _ hne)).trans (Below.heap_setCell _ _ _ _ hne)).trans (Below.heap_setCell _ _ _ _ hne)
          refine ⟨rfl, κ3, .slice Aa s'.term.args.length ca, HTZ.out.firm ⟨by simp, fun b hb hb0 => h5 b (fun e => by rw [e, HR3.out] at hb0; cases hb0)⟩, ?_, HKZ.out.os, HKZ.out.tape, HKZ.out.output, by simpa using HKZ.out.size, fun b hb hne hb1 => ⟨(h5 b hne).trans (HKZ.out.block b hb hb1).1, (HKZ.out.block b hb hb1).2⟩⟩
          have hp := ((((HB4.out.put 0 (.int .i64 s'.term.kind)).put 1 (.string ⟨s'.term.name.toArray⟩)).put 2 (.int .i64 s'.term.num)).put 3 (.slice Aa s'.term.args.length ca)).put 4 (.int .i64 s'.term.at_)
          simpa using hp
      · go_wp2_with fail
        refine (refusal_any _ _ _ _).mono ?_
        rintro e w9 ⟨rfl, hB10⟩
        have hne : T4.1 ≠ 0 := bne_iff_ne.1 hk
        have HRES := Lib.hid (show R = .error (Tm.refusal T4) by rw [HRD.out, HT4.out, if_neg hne])
        have HKZ := Lib.hid ((HK8.out.trans (.below HB9.out)).trans (.below hB10))
        clear hB10 hne
        go_wp2_with fail
        rw [← HP.out, HRES.out]
        exact ⟨rfl, rfl, κ3, HKZ.out⟩
end Go.Proofs.YtaefonagbcnmdaaGreatDoor
namespace Go.Proofs.YtaefonagbcnmdaaGreatDoor
open Go.RowKit

/-- What One leaves: the term, its arguments' slice, the fault. -/
def Tm.One1 (R : Except Tm.F Tm) (a c : Int) (T : Tm) (v : Value) (w : World) : Prop :=
  match R with
  | .ok t => a = 0 ∧ c = 0 ∧ T = t ∧ ∃ κ, Targs w κ v t.args
  | .error f => T = Tm.zero ∧ v = .slice none 0 0 ∧ a = f.1 ∧ c = f.2
def Tm.Post1 (w : World) (R : Except Tm.F Tm) (e : Ending) (w' : World) : Prop :=
  Below w.heap.size w w' ∧ ∃ T A n cap a c, e = .returned (.tuple #[.agg #[.int .i64 T.kind, .string ⟨T.name.toArray⟩, .int .i64 T.num, .slice A n cap, .int .i64 T.at_], .agg #[.int .i64 a, .int .i64 c]]) ∧ Tm.One1 R a c T (.slice A n cap) w'
theorem heap_drew7 (w : World) (b : Nat) : w.drew.heap[b]? = w.heap[b]? := rfl
theorem heap_set7 (W : World) {p q b : Nat} (h1 : b ≠ p) (h2 : b ≠ q) (x0 x1 x2 x3 x4 y0 y1 : Value) :
    ((((((((W.setCell ⟨p, 0, none⟩ x0).setCell ⟨p, 1, none⟩ x1).setCell ⟨p, 2, none⟩ x2).setCell ⟨p, 3, none⟩ x3).setCell ⟨p, 4, none⟩ x4).setCell ⟨q, 0, none⟩ y0).setCell ⟨q, 1, none⟩ y1).drew).heap[b]? = W.heap[b]? := by
  rw [heap_drew7, Below.heap_setCell _ ⟨q, 1, none⟩ _ b h2, Below.heap_setCell _ ⟨q, 0, none⟩ _ b h2, Below.heap_setCell _ ⟨p, 4, none⟩ _ b h1, Below.heap_setCell _ ⟨p, 3, none⟩ _ b h1, Below.heap_setCell _ ⟨p, 2, none⟩ _ b h1, Below.heap_setCell _ ⟨p, 1, none⟩ _ b h1, Below.heap_setCell _ ⟨p, 0, none⟩ _ b h1]
theorem size_set7 (W : World) (p q : Nat) (x0 x1 x2 x3 x4 y0 y1 : Value) :
    ((((((((W.setCell ⟨p, 0, none⟩ x0).setCell ⟨p, 1, none⟩ x1).setCell ⟨p, 2, none⟩ x2).setCell ⟨p, 3, none⟩ x3).setCell ⟨p, 4, none⟩ x4).setCell ⟨q, 0, none⟩ y0).setCell ⟨q, 1, none⟩ y1).drew).heap.size = W.heap.size := by simp
set_option maxRecDepth 100000 in
set_option maxHeartbeats 4000000 in
theorem One_any (v : Value) (ts : List Tm.T) {κ0 : Nat → Nat} (w : World) (hn : ts.length ≤ 1000000) (hT : TokR w κ0 v ts) (hsz : ∀ t ∈ ts, t.2.1.length ≤ 65536) (hG : Glob w) :
    Calls Tryz.prog 29 #[v] w (Tm.Post1 w (Tm.oneT ts)) := by
  obtain ⟨κ, hκ⟩ : ∃ κ : Nat → Nat, κ = aged w κ0 w.heap.size := ⟨_, rfl⟩
  have hk1 : ∀ b, κ b ≤ 1 := fun b => by rw [hκ]; unfold aged; split <;> omega
  have hkn : ∀ b, w.heap.size < b → κ b = 1 := fun b hb => by rw [hκ]; unfold aged; rw [if_neg (by omega)]
  have hT1 : TokR w κ v ts := hT.recolor_lt (fun b hb hb0 => by rw [hκ]; exact if_pos (.inr ⟨hb, hb0⟩))
  obtain ⟨A, cap, hv, -⟩ := hT
  subst hv
  clear hκ
  obtain ⟨R, hR⟩ : ∃ R, Tm.oneT ts = R := ⟨_, rfl⟩
  rw [hR]
  obtain ⟨w4, hw4⟩ : ∃ w4, ((((w.alloc (.cells #[.slice A ts.length cap] 43)).alloc (.cells #[.int .i64 0, .string ⟨#[]⟩, .int .i64 0, .slice none 0 0, .int .i64 0] 32)).alloc (.cells #[.int .i64 0, .int .i64 0] 26)).alloc (.cells #[.int .i64 0, .string ⟨#[]⟩, .int .i64 0, .slice none 0 0, .int .i64 0] 32)) = w4 := ⟨_, rfl⟩
  have hz4 : w4.heap.size = w.heap.size + 4 := by rw [← hw4]; simp
  have hB4 : Below w.heap.size w w4 := by rw [← hw4]; exact ((((Below.refl _ w).alloc (Nat.le_refl _) _).alloc (by simp) _).alloc (by simp; omega) _).alloc (by simp; omega) _
  have k0 : Blk w4 w.heap.size 43 #[.slice A ts.length cap] := by rw [← hw4]; exact (((Blk.new w _ _).alloc _).alloc _).alloc _
  have k1 : Blk w4 (w.heap.size + 1) 32 #[.int .i64 0, .string ⟨#[]⟩, .int .i64 0, .slice none 0 0, .int .i64 0] := by
    rw [← hw4]
    have := ((Blk.new (w.alloc (.cells #[.slice A ts.length cap] 43)) 32 #[.int .i64 0, .string ⟨#[]⟩, .int .i64 0, .slice none 0 0, .int .i64 0]).alloc (.cells #[.int .i64 0, .int .i64 0] 26)).alloc (.cells #[.int .i64 0, .string ⟨#[]⟩, .int .i64 0, .slice none 0 0, .int .i64 0] 32)
    rwa [World.size_alloc] at this
  have k2 : Blk w4 (w.heap.size + 1 + 1) 26 #[.int .i64 0, .int .i64 0] := by
    rw [← hw4]
    have := (Blk.new ((w.alloc (.cells #[.slice A ts.length cap] 43)).alloc (.cells #[.int .i64 0, .string ⟨#[]⟩, .int .i64 0, .slice none 0 0, .int .i64 0] 32)) 26 #[.int .i64 0, .int .i64 0]).alloc (.cells #[.int .i64 0, .string ⟨#[]⟩, .int .i64 0, .slice none 0 0, .int .i64 0] 32)
    rwa [World.size_alloc, World.size_alloc] at this
  have k3 : Blk w4 (w.heap.size + 1 + 1 + 1) 32 #[.int .i64 0, .string ⟨#[]⟩, .int .i64 0, .slice none 0 0, .int .i64 0] := by
    rw [← hw4]
    have := Blk.new (((w.alloc (.cells #[.slice A ts.length cap] 43)).alloc (.cells #[.int .i64 0, .string ⟨#[]⟩, .int .i64 0, .slice none 0 0, .int .i64 0] 32)).alloc (.cells #[.int .i64 0, .int .i64 0] 26)) 32 #[.int .i64 0, .string ⟨#[]⟩, .int .i64 0, .slice none 0 0, .int .i64 0]
    rwa [World.size_alloc, World.size_alloc, World.size_alloc] at this
  have hmf : ∀ (fn : Fn) (first cap : Array Value) (w : World), (Instr.makeFunc fn first cap).run Tryz.prog w = .ok (.func fn first cap) w := fun _ _ _ _ => rfl
  have hB5 := hB4.alloc (by omega) (.cells #[.int .i64 0, .int .i64 0] 26)
  have hf := one_found_any (.slice A ts.length cap) ts w.heap.size (w.heap.size + 1 + 1 + 1) (w4.alloc (.cells #[.int .i64 0, .int .i64 0] 26)) hn (hT1.kept (.below hB5)) hsz (hG.below hB5 hG.lt) (k0.alloc _) (k3.alloc _) (hkn _ (by omega))
  rw [hR] at hf
  have hcall := caught_any 44 #[.pointer (some ⟨w.heap.size, 0, none⟩), .pointer (some ⟨w.heap.size + 1 + 1 + 1, 0, none⟩)] w4
    (fun W => ∃ t, R = .ok t ∧ ∃ κ' v', Targs W κ' v' t.args ∧ Blk W (w.heap.size + 1 + 1 + 1) 32 #[.int .i64 t.kind, .string ⟨t.name.toArray⟩, .int .i64 t.num, v', .int .i64 t.at_] ∧ KeptBut κ κ' (w4.alloc (.cells #[.int .i64 0, .int .i64 0] 26)) W (w.heap.size + 1 + 1 + 1))
    (fun a c W => R = .error (a, c) ∧ ∃ κ', Kept κ κ' (w4.alloc (.cells #[.int .i64 0, .int .i64 0] 26)) W)
    (fun w => by kernel_rfl)
    (by
      rintro a c W ⟨_, κ', hK⟩
      exact ((hK.block w4.heap.size (by simp) (hk1 _)).1).trans (Blk.new w4 _ _))
    (by
      rintro W ⟨t, _, κ', v', _, _, hK⟩
      exact ((hK.block w4.heap.size (by simp) (by omega) (hk1 _)).1).trans (Blk.new w4 _ _))
    (hf.mono (by
      intro e W hx
      cases R with
      | ok t =>
        obtain ⟨rfl, κ', v', h1, h2, h3⟩ := hx
        exact .inl ⟨rfl, t, rfl, κ', v', h1, h2, h3⟩
      | error f =>
        obtain ⟨rfl, κ', h1⟩ := hx
        exact .inr ⟨f.1, f.2, rfl, rfl, κ', h1⟩))
  have HC := Lib.hid hcall
  clear hf hcall
  have HZ4 := Lib.hid hz4
  have HK0 := Lib.hid k0
  have HK1 := Lib.hid k1
  have HK2 := Lib.hid k2
  have HK3 := Lib.hid k3
  clear hz4 k0 k1 k2 k3 hG hsz hT1
  go_enter Tryz.func29, Tryz.ntmps29
  go_wp2_with fail
  refine HC.out.mono ?_
  rintro e w5 ⟨a, c, w1, rfl, hg, hx⟩
  have hz4 := HZ4.out
  have key : ∃ T Af n cf, Blk w1 (w.heap.size + 1 + 1 + 1) 32 #[.int .i64 (Tm.kind T), .string ⟨(Tm.name T).toArray⟩, .int .i64 (Tm.num T), .slice Af n cf, .int .i64 (Tm.at_ T)] ∧ Blk w1 (w.heap.size + 1) 32 #[.int .i64 0, .string ⟨#[]⟩, .int .i64 0, .slice none 0 0, .int .i64 0] ∧ Blk w1 (w.heap.size + 1 + 1) 26 #[.int .i64 0, .int .i64 0] ∧ Below w.heap.size w w1 ∧ w4.heap.size < w1.heap.size ∧
      ∀ w'', w1.heap.size ≤ w''.heap.size → (∀ b, b < w1.heap.size → b ≠ w4.heap.size → b ≠ w.heap.size + 1 → b ≠ w.heap.size + 1 + 1 → w''.heap[b]? = w1.heap[b]?) → Tm.One1 R a c T (.slice Af n cf) w'' := by
    rcases hx with ⟨rfl, rfl, t, rfl, κ', v', h1, h2, h3⟩ | ⟨rfl, κ', hK⟩
    · obtain ⟨Af, cf, rfl⟩ := h1.form
      have hs1 := h3.size
      rw [World.size_alloc] at hs1
      have e1 := h3.block (w.heap.size + 1) (by simp; omega) (by omega) (hk1 _)
      have e2 := h3.block (w.heap.size + 1 + 1) (by simp; omega) (by omega) (hk1 _)
      have e3 := h3.block w4.heap.size (by simp) (by omega) (hk1 _)
      refine ⟨t, Af, t.args.length, cf, h2, e1.1.trans (HK1.out.alloc _), e2.1.trans (HK2.out.alloc _), ⟨h3.os.trans hB5.os, h3.tape.trans hB5.tape, h3.output.trans hB5.output, by omega, fun b hb => (h3.block b (by simp; omega) (by omega) (hk1 b)).1.trans (hB5.block b hb)⟩, by omega, fun w'' hs hb => ⟨rfl, rfl, rfl, κ', h1.firm ⟨hs, fun b hb1 hb0 => hb b hb1 ?_ ?_ ?_⟩⟩⟩
      · rintro rfl
        rw [e3.2, hkn _ (by omega)] at hb0
        cases hb0
      · rintro rfl
        rw [e1.2, hkn _ (by omega)] at hb0
        cases hb0
      · rintro rfl
        rw [e2.2, hkn _ (by omega)] at hb0
        cases hb0
    · have hs1 := hK.size
      rw [World.size_alloc] at hs1
      have e1 := hK.block (w.heap.size + 1) (by simp; omega) (hk1 _)
      have e2 := hK.block (w.heap.size + 1 + 1) (by simp; omega) (hk1 _)
      have e3 := hK.block (w.heap.size + 1 + 1 + 1) (by simp; omega) (hk1 _)
      exact ⟨Tm.zero, none, 0, 0, e3.1.trans (HK3.out.alloc _), e1.1.trans (HK1.out.alloc _), e2.1.trans (HK2.out.alloc _), ⟨hK.os.trans hB5.os, hK.tape.trans hB5.tape, hK.output.trans hB5.output, by omega, fun b hb => (hK.block b (by simp; omega) (hk1 b)).1.trans (hB5.block b hb)⟩, by omega, fun w'' hs hb => ⟨rfl, rfl, rfl, rfl⟩⟩
  obtain ⟨T, Af, n, cf, b3, b1, b2, hB1, hw1, hout⟩ := key
  have hgs := hg.size
  have hb3 := b3.grown hg (fun e => by rw [Option.some.injEq] at e; omega)
  have hb2 := b2.grown hg (fun e => by rw [Option.some.injEq] at e; omega)
  have hb1 := b1.grown hg (fun e => by rw [Option.some.injEq] at e; omega)
  have hB5 : Below w.heap.size w w5 := hB1.grown hg hB1.size (fun k e => by cases e; omega)
  have hl3 := hb3.lt
  have hl2 := hb2.lt
  have hl1 := hb1.lt
  have hbA := hb3.alloc (.cells #[.int .i64 a, .int .i64 c] 26)
  have hbB := hb1.alloc (.cells #[.int .i64 a, .int .i64 c] 26)
  have hbC := hb2.alloc (.cells #[.int .i64 a, .int .i64 c] 26)
  have hbD := Blk.new w5 26 #[.int .i64 a, .int .i64 c]
  have hBW := hB5.alloc hB5.size (.cells #[.int .i64 a, .int .i64 c] 26)
  have HA := Lib.hid hbA
  have HB := Lib.hid hbB
  have HC2 := Lib.hid hbC
  have HD := Lib.hid hbD
  have HBW := Lib.hid hBW
  have HOUT := Lib.hid hout
  have HGR := Lib.hid hg
  clear hx hz4 b3 b2 b1 hB1 hb3 hb2 hb1 hB5 hout hB4 hg hw4 hbA hbB hbC hbD hBW
  go_wp2_with fail
  have hz5 := (HGR.out.size)
  generalize hW : (w5.alloc (.cells #[.int .i64 a, .int .i64 c] 26)) = W at *
  have HWE := Lib.hid hW
  clear hW
  obtain ⟨x0, x1, x2, x3, x4⟩ : W.cell? ⟨w.heap.size + 1 + 1 + 1, 0, none⟩ = some (.int .i64 T.kind) ∧ W.cell? ⟨w.heap.size + 1 + 1 + 1, 1, none⟩ = some (.string ⟨T.name.toArray⟩) ∧ W.cell? ⟨w.heap.size + 1 + 1 + 1, 2, none⟩ = some (.int .i64 T.num) ∧ W.cell? ⟨w.heap.size + 1 + 1 + 1, 3, none⟩ = some (.slice Af n cf) ∧ W.cell? ⟨w.heap.size + 1 + 1 + 1, 4, none⟩ = some (.int .i64 T.at_) :=
    ⟨by simpa using HA.out.cell 0, by simpa using HA.out.cell 1, by simpa using HA.out.cell 2, by simpa using HA.out.cell 3, by simpa using HA.out.cell 4⟩
  obtain ⟨y0, y1, y2, y3, y4⟩ : W.cell? ⟨w.heap.size + 1, 0, none⟩ = some (.int .i64 0) ∧ W.cell? ⟨w.heap.size + 1, 1, none⟩ = some (.string ⟨#[]⟩) ∧ W.cell? ⟨w.heap.size + 1, 2, none⟩ = some (.int .i64 0) ∧ W.cell? ⟨w.heap.size + 1, 3, none⟩ = some (.slice none 0 0) ∧ W.cell? ⟨w.heap.size + 1, 4, none⟩ = some (.int .i64 0) :=
    ⟨by simpa using HB.out.cell 0, by simpa using HB.out.cell 1, by simpa using HB.out.cell 2, by simpa using HB.out.cell 3, by simpa using HB.out.cell 4⟩
  obtain ⟨z0, z1⟩ : W.cell? ⟨w.heap.size + 1 + 1, 0, none⟩ = some (.int .i64 0) ∧ W.cell? ⟨w.heap.size + 1 + 1, 1, none⟩ = some (.int .i64 0) := ⟨by simpa using HC2.out.cell 0, by simpa using HC2.out.cell 1⟩
  obtain ⟨u0, u1⟩ : W.cell? ⟨w5.heap.size, 0, none⟩ = some (.int .i64 a) ∧ W.cell? ⟨w5.heap.size, 1, none⟩ = some (.int .i64 c) := ⟨by simpa using HD.out.cell 0, by simpa using HD.out.cell 1⟩
  have n1 := HB.out.frozen
  have n2 := HC2.out.frozen
  have m1 := HB.out.lt
  have m2 := HC2.out.lt
  have m3 := HA.out.lt
  have m5 := HD.out.lt
  have d1 : w.heap.size + 1 ≠ w5.heap.size := by omega
  have d2 : w.heap.size + 1 + 1 ≠ w5.heap.size := by omega
  have d3 := d1.symm
  have d4 := d2.symm
  clear HC HK0 HK1 HK2 HK3
  go_region
  have hf1 : ∀ j : Nat, (⟨w.heap.size + 1 + 1, j, none⟩ : Addr).block ≠ w.heap.size + 1 := fun j => by show w.heap.size + 1 + 1 ≠ w.heap.size + 1; omega
  have hbT := ((((((((HB.out.put 0 (.int .i64 T.kind)).put 1 (.string ⟨T.name.toArray⟩)).put 2 (.int .i64 T.num)).put 3 (.slice Af n cf)).put 4 (.int .i64 T.at_)).far (p := ⟨w.heap.size + 1 + 1, 0, none⟩) (by show w.heap.size + 1 ≠ w.heap.size + 1 + 1; omega) (.int .i64 a)).far (p := ⟨w.heap.size + 1 + 1, 1, none⟩) (by show w.heap.size + 1 ≠ w.heap.size + 1 + 1; omega) (.int .i64 c))).drew
  have hbF := (((((((HC2.out.far (p := ⟨w.heap.size + 1, 0, none⟩) (by show w.heap.size + 1 + 1 ≠ w.heap.size + 1; omega) (.int .i64 T.kind)).far (p := ⟨w.heap.size + 1, 1, none⟩) (by show w.heap.size + 1 + 1 ≠ w.heap.size + 1; omega) (.string ⟨T.name.toArray⟩)).far (p := ⟨w.heap.size + 1, 2, none⟩) (by show w.heap.size + 1 + 1 ≠ w.heap.size + 1; omega) (.int .i64 T.num)).far (p := ⟨w.heap.size + 1, 3, none⟩) (by show w.heap.size + 1 + 1 ≠ w.heap.size + 1; omega) (.slice Af n cf)).far (p := ⟨w.heap.size + 1, 4, none⟩) (by show w.heap.size + 1 + 1 ≠ w.heap.size + 1; omega) (.int .i64 T.at_)).put 0 (.int .i64 a)).put 1 (.int .i64 c)).drew
  have hBB := (((((((HBW.out.setCell (p := ⟨w.heap.size + 1, 0, none⟩) (by simp) (.int .i64 T.kind)).setCell (p := ⟨w.heap.size + 1, 1, none⟩) (by simp) (.string ⟨T.name.toArray⟩)).setCell (p := ⟨w.heap.size + 1, 2, none⟩) (by simp) (.int .i64 T.num)).setCell (p := ⟨w.heap.size + 1, 3, none⟩) (by simp) (.slice Af n cf)).setCell (p := ⟨w.heap.size + 1, 4, none⟩) (by simp) (.int .i64 T.at_)).setCell (p := ⟨w.heap.size + 1 + 1, 0, none⟩) (by show w.heap.size ≤ w.heap.size + 1 + 1; omega) (.int .i64 a)).setCell (p := ⟨w.heap.size + 1 + 1, 1, none⟩) (by show w.heap.size ≤ w.heap.size + 1 + 1; omega) (.int .i64 c)).drew
  have hOO := HOUT.out _ (by rw [size_set7]; omega) (fun b hb h1 h2 h3 => (heap_set7 W h2 h3 (.int .i64 T.kind) (.string ⟨T.name.toArray⟩) (.int .i64 T.num) (.slice Af n cf) (.int .i64 T.at_) (.int .i64 a) (.int .i64 c)).trans (by
      rw [← HWE.out]
      exact (Below.heap_alloc _ _ _ (by omega)).trans (HGR.out.block b hb (fun e => by rw [Option.some.injEq] at e; omega))))
  generalize ((((((((W.setCell ⟨w.heap.size + 1, 0, none⟩ (.int .i64 T.kind)).setCell ⟨w.heap.size + 1, 1, none⟩ (.string ⟨T.name.toArray⟩)).setCell ⟨w.heap.size + 1, 2, none⟩ (.int .i64 T.num)).setCell ⟨w.heap.size + 1, 3, none⟩ (.slice Af n cf)).setCell ⟨w.heap.size + 1, 4, none⟩ (.int .i64 T.at_)).setCell ⟨w.heap.size + 1 + 1, 0, none⟩ (.int .i64 a)).setCell ⟨w.heap.size + 1 + 1, 1, none⟩ (.int .i64 c)).drew) = V at *
  obtain ⟨v0, v1, v2, v3, v4⟩ : V.cell? ⟨w.heap.size + 1, 0, none⟩ = some (.int .i64 T.kind) ∧ V.cell? ⟨w.heap.size + 1, 1, none⟩ = some (.string ⟨T.name.toArray⟩) ∧ V.cell? ⟨w.heap.size + 1, 2, none⟩ = some (.int .i64 T.num) ∧ V.cell? ⟨w.heap.size + 1, 3, none⟩ = some (.slice Af n cf) ∧ V.cell? ⟨w.heap.size + 1, 4, none⟩ = some (.int .i64 T.at_) :=
    ⟨by simpa using hbT.cell 0, by simpa using hbT.cell 1, by simpa using hbT.cell 2, by simpa using hbT.cell 3, by simpa using hbT.cell 4⟩
  obtain ⟨f0, f1⟩ : V.cell? ⟨w.heap.size + 1 + 1, 0, none⟩ = some (.int .i64 a) ∧ V.cell? ⟨w.heap.size + 1 + 1, 1, none⟩ = some (.int .i64 c) := ⟨by simpa using hbF.cell 0, by simpa using hbF.cell 1⟩
  clear hbT hbF hf1 x0 x1 x2 x3 x4 y0 y1 y2 y3 y4 z0 z1 u0 u1 n1 n2 m1 m2 m3 m5 d1 d2 d3 d4 hz5
  go_wp2_with fail
  exact bodyPost_ret (v := .tuple #[.agg #[.int .i64 T.kind, .string ⟨T.name.toArray⟩, .int .i64 T.num, .slice Af n cf, .int .i64 T.at_], .agg #[.int .i64 a, .int .i64 c]]) (by simp [results, Tryz.results29, go_sem, v0, v1, v2, v3, v4, f0, f1]) rfl ⟨hBB, T, Af, n, cf, a, c, rfl, hOO⟩
end Go.Proofs.YtaefonagbcnmdaaGreatDoor
namespace Go.Proofs.YtaefonagbcnmdaaGreatDoor
open Go.RowKit

/-! A term in brackets: the reader has one open term more at the bottom, and does the same steps. -/
def Tm.o0 : Tm.O := Tm.opn 0 1200 [] 0 [] []
def Tm.o3 : Tm.O := Tm.opn 3 1200 [] 0 [] []
/-- The tokens us: a bracket, the tokens ts, the other bracket. -/
structure Tm.Br (ts us : List Tm.T) (en : Tm.T) (eu : Tm.T) (q : Int) : Prop where
  end_ : en.1 = 0
  endu : eu.1 = 0
  len : us.length = ts.length + 2
  at_ : ∀ k, k < ts.length → Tm.peek us eu (k + 1) = Tm.peek ts en k
  close : Tm.peek us eu (ts.length + 1) = (6, [41], q)
structure Tm.BrS (s z : Tm.S) (A : List Tm.O) : Prop where
  i : z.i = s.i + 1
  term : z.term = s.term
  prio : z.prio = s.prio
  stack : s.stack = A ++ [Tm.o0]
  stackz : z.stack = A ++ [Tm.o3, Tm.o0]
section
variable {ts us : List Tm.T} {en eu : Tm.T} {q : Int}
theorem Tm.peek_over {i : Nat} (h : ¬ i < ts.length) : Tm.peek ts en i = en := Tm.peek_end (by omega)
theorem Tm.Br.cases (h : Tm.Br ts us en eu q) {i : Nat} (hi : i ≤ ts.length) : (i < ts.length ∧ Tm.peek us eu (i + 1) = Tm.peek ts en i) ∨ (i = ts.length ∧ (Tm.peek ts en i).1 = 0 ∧ Tm.peek us eu (i + 1) = (6, [41], q)) := by
  by_cases hlt : i < ts.length
  · exact .inl ⟨hlt, h.at_ i hlt⟩
  · have e : i = ts.length := by omega
    subst e
    exact .inr ⟨rfl, by rw [Tm.peek_over (by omega)]; exact h.end_, h.close⟩
/-- What is asked of a token: the same, at the end too, but whether it is the other bracket. -/
structure Tm.Nx (n m : Tm.T) : Prop where
  punct : ∀ x : List UInt8, x ≠ [41] → x ≠ [] → (Tm.punct m == x) = (Tm.punct n == x)
  kind : ∀ k : Int, k ≠ 0 → k ≠ 6 → (m.1 == k) = (n.1 == k)
  begins : Tm.beginsOperand m = Tm.beginsOperand n
  text : n.1 ≠ 0 → m = n
  infx : (Tm.infixOf m).1 = (Tm.infixOf n).1 ∧ ((Tm.infixOf n).1 ≠ 0 → m = n)
theorem Tm.Br.nx (h : Tm.Br ts us en eu q) {i : Nat} (hi : i ≤ ts.length) : Tm.Nx (Tm.peek ts en i) (Tm.peek us eu (i + 1)) := by
  rcases h.cases hi with ⟨_, e⟩ | ⟨_, h0, e⟩
  · rw [e]; exact ⟨fun _ _ _ => rfl, fun _ _ _ => rfl, rfl, fun _ => rfl, rfl, fun _ => rfl⟩
  · rw [e]
    generalize Tm.peek ts en i = n at h0 ⊢
    obtain ⟨k, x, p⟩ := n
    dsimp only at h0
    subst h0
    have hi1 : Tm.infixOf ((0 : Int), x, p) = (0, 0, 0) := rfl
    have hi2 : Tm.infixOf ((6 : Int), [41], q) = (0, 0, 0) := rfl
    refine ⟨fun y h1 h2 => ?_, fun k h1 h2 => ?_, ?_, fun h => absurd rfl h, ?_, fun h => ?_⟩
    · show (([41] : List UInt8) == y) = (([] : List UInt8) == y)
      rw [beq_eq_false_iff_ne.2 (Ne.symm h1), beq_eq_false_iff_ne.2 (Ne.symm h2)]
    · show ((6 : Int) == k) = ((0 : Int) == k)
      rw [beq_eq_false_iff_ne.2 (Ne.symm h1), beq_eq_false_iff_ne.2 (Ne.symm h2)]
    · unfold Tm.beginsOperand
      rw [hi1, hi2]
      rfl
    · rw [hi1, hi2]
    · rw [hi1] at h; exact absurd rfl h
theorem Tm.BrS.most {s z : Tm.S} {A : List Tm.O} (h : Tm.BrS s z A) : z.most = s.most := by
  unfold Tm.S.most
  rw [h.stack, h.stackz]
  cases A with
  | nil => rfl
  | cons => rfl
theorem Tm.BrS.full {s z : Tm.S} {A : List Tm.O} (h : Tm.BrS s z A) : Tm.full z = Tm.full s := by
  unfold Tm.full
  rw [h.stack, h.stackz]
  cases A with
  | nil => rfl
  | cons => rfl
theorem Tm.BrS.push {s z : Tm.S} {A : List Tm.O} (h : Tm.BrS s z A) (o : Tm.O) (k : Nat) : Tm.BrS ⟨s.i + k, o :: s.stack, s.term, s.prio⟩ ⟨z.i + k, o :: z.stack, z.term, z.prio⟩ (o :: A) :=
  ⟨by show z.i + k = s.i + k + 1; have := h.i; omega, h.term, h.prio, by show o :: s.stack = _; rw [h.stack]; rfl, by show o :: z.stack = _; rw [h.stackz]; rfl⟩
theorem Tm.BrS.had {s z : Tm.S} {A : List Tm.O} (h : Tm.BrS s z A) (t : Tm) (k : Nat) : Tm.BrS ⟨s.i + k, s.stack, t, 0⟩ ⟨z.i + k, z.stack, t, 0⟩ A :=
  ⟨by show z.i + k = s.i + k + 1; have := h.i; omega, rfl, rfl, h.stack, h.stackz⟩
theorem Tm.begin_br (hb : Tm.Br ts us en eu q) {s z s' : Tm.S} {A : List Tm.O} {b : Bool} (h : Tm.BrS s z A) (hg : Tm.Good ts en) (hr : Tm.begin_ ts en s = .ok (s', b)) (hc : b = true ∨ s'.i < ts.length) :
    ∃ z' A', Tm.begin_ us eu z = .ok (z', b) ∧ Tm.BrS s' z' A' := by
  obtain ⟨-, hlt⟩ := Tm.begin_lt hg hr
  have h0 : Tm.peek us eu z.i = Tm.peek ts en s.i := by rw [h.i]; exact hb.at_ _ hlt
  have hn := hb.nx (i := s.i + 1) (by omega)
  have hzi : z.i + 1 = s.i + 1 + 1 := by rw [h.i]
  unfold Tm.begin_ at hr ⊢
  dsimp only at hr ⊢
  rw [h0, h.full]
  by_cases c1 : (!Tm.standsFirst (Tm.peek ts en s.i)) = true
  · rw [if_pos c1] at hr; cases hr
  rw [if_neg c1] at hr ⊢
  by_cases c2 : Tm.full s = true
  · rw [if_pos c2] at hr; cases hr
  rw [if_neg c2] at hr ⊢
  by_cases k1 : ((Tm.peek ts en s.i).1 == 1) = true
  · rw [if_pos k1] at hr ⊢
    unfold Tm.beginName at hr ⊢
    dsimp only at hr ⊢
    have e1 : Tm.peek us eu z.next.i = Tm.peek us eu (s.i + 1 + 1) := by show Tm.peek us eu (z.i + 1) = _; rw [hzi]
    have e2 : Tm.peek ts en s.next.i = Tm.peek ts en (s.i + 1) := rfl
    have hm : z.next.most = s.next.most := h.most
    rw [e2] at hr
    rw [e1, hn.punct [40, 40] (by decide) (by decide), hn.kind 3 (by decide) (by decide), hn.kind 2 (by decide) (by decide), hn.begins, hm]
    by_cases c3 : (Tm.punct (Tm.peek ts en (s.i + 1)) == [40, 40]) = true
    · rw [if_pos c3] at hr ⊢
      cases hr
      exact ⟨_, _, rfl, h.push _ 2⟩
    rw [if_neg c3] at hr ⊢
    by_cases c4 : ((Tm.peek ts en s.i).2.1 == [45] && (Tm.peek ts en (s.i + 1)).1 == 3) = true
    · rw [if_pos c4] at hr ⊢
      cases hr
      have hk : (Tm.peek ts en (s.i + 1)).1 = 3 := by rw [Bool.and_eq_true] at c4; simpa using c4.2
      rw [hn.text (by rw [hk]; decide)]
      exact ⟨_, _, rfl, h.had _ 2⟩
    rw [if_neg c4] at hr ⊢
    by_cases c5 : (Tm.isBang (Tm.peek ts en s.i).2.1 && (Tm.peek ts en (s.i + 1)).1 == 2) = true
    · rw [if_pos c5] at hr ⊢
      cases hr
      have hk : (Tm.peek ts en (s.i + 1)).1 = 2 := by rw [Bool.and_eq_true] at c5; simpa using c5.2
      rw [hn.text (by rw [hk]; decide)]
      exact ⟨_, _, rfl, h.had _ 2⟩
    rw [if_neg c5] at hr ⊢
    by_cases c6 : ((Tm.prefix_ (Tm.peek ts en s.i).2.1).1 == 0 || decide (s.next.most < (Tm.prefix_ (Tm.peek ts en s.i).2.1).1) || !Tm.beginsOperand (Tm.peek ts en (s.i + 1))) = true
    · rw [if_pos c6] at hr ⊢
      by_cases c7 : Tm.suits (Tm.peek ts en s.i).2.1 [] = true
      · rw [if_pos c7] at hr ⊢
        cases hr
        exact ⟨_, _, rfl, h.had _ 1⟩
      · rw [if_neg c7] at hr; cases hr
    · rw [if_neg c6] at hr ⊢
      cases hr
      exact ⟨_, _, rfl, h.push _ 1⟩
  rw [if_neg k1] at hr ⊢
  by_cases k2 : ((Tm.peek ts en s.i).1 == 2) = true
  · rw [if_pos k2] at hr ⊢
    unfold Tm.beginVariable at hr ⊢
    have e1 : Tm.peek us eu z.next.i = Tm.peek us eu (s.i + 1 + 1) := by show Tm.peek us eu (z.i + 1) = _; rw [hzi]
    have e2 : Tm.peek ts en s.next.i = Tm.peek ts en (s.i + 1) := rfl
    rw [e2] at hr
    rw [e1, hn.punct [40, 40] (by decide) (by decide)]
    by_cases c3 : (Tm.punct (Tm.peek ts en (s.i + 1)) == [40, 40]) = true
    · rw [if_pos c3] at hr ⊢
      cases hr
      exact ⟨_, _, rfl, h.push _ 2⟩
    · rw [if_neg c3] at hr ⊢
      cases hr
      exact ⟨_, _, rfl, h.had _ 1⟩
  rw [if_neg k2] at hr ⊢
  by_cases k3 : ((Tm.peek ts en s.i).1 == 3) = true
  · rw [if_pos k3] at hr ⊢; cases hr; exact ⟨_, _, rfl, h.had _ 1⟩
  rw [if_neg k3] at hr ⊢
  by_cases k4 : ((Tm.peek ts en s.i).1 == 4) = true
  · rw [if_pos k4] at hr ⊢; cases hr; exact ⟨_, _, rfl, h.had _ 1⟩
  rw [if_neg k4] at hr ⊢
  by_cases k5 : ((Tm.peek ts en s.i).1 == 5) = true
  · rw [if_pos k5] at hr ⊢; cases hr; exact ⟨_, _, rfl, h.had _ 1⟩
  rw [if_neg k5] at hr ⊢
  unfold Tm.beginBracket at hr ⊢
  have e1 : Tm.peek us eu z.next.i = Tm.peek us eu (s.i + 1 + 1) := by show Tm.peek us eu (z.i + 1) = _; rw [hzi]
  have e2 : Tm.peek ts en s.next.i = Tm.peek ts en (s.i + 1) := rfl
  rw [e2] at hr
  rw [e1, hn.punct [93] (by decide) (by decide)]
  by_cases c3 : ((Tm.peek ts en s.i).2.1 == [40]) = true
  · rw [if_pos c3] at hr ⊢
    cases hr
    exact ⟨_, _, rfl, h.push _ 1⟩
  rw [if_neg c3] at hr ⊢
  by_cases c4 : ((Tm.peek ts en s.i).2.1 == [123]) = true
  · rw [if_pos c4] at hr ⊢
    cases hr
    exact ⟨_, _, rfl, h.push _ 1⟩
  rw [if_neg c4] at hr ⊢
  by_cases c5 : (Tm.punct (Tm.peek ts en (s.i + 1)) == [93]) = true
  · rw [if_pos c5] at hr ⊢
    cases hr
    exact ⟨_, _, rfl, h.had _ 2⟩
  · rw [if_neg c5] at hr ⊢
    cases hr
    have hlt1 : s.i + 1 < ts.length := by
      rcases hc with hc | hc
      · cases hc
      · exact hc
    rw [hb.at_ _ hlt1]
    exact ⟨_, _, rfl, h.push _ 1⟩
theorem Tm.pushInfix_br (hb : Tm.Br ts us en eu q) {s z : Tm.S} {A : List Tm.O} (h : Tm.BrS s z A) (hi : s.i ≤ ts.length) :
    (Tm.pushInfix us eu z).2 = (Tm.pushInfix ts en s).2 ∧ ((Tm.pushInfix ts en s).2 = false → Tm.pushInfix us eu z = (z, false) ∧ Tm.pushInfix ts en s = (s, false)) ∧ ((Tm.pushInfix ts en s).2 = true → ∃ A', Tm.BrS (Tm.pushInfix ts en s).1 (Tm.pushInfix us eu z).1 A') := by
  have hn := hb.nx hi
  rw [← h.i] at hn
  have hm := h.most
  unfold Tm.pushInfix
  dsimp only
  rw [hn.infx.1, hm, h.prio]
  by_cases c0 : (Tm.infixOf (Tm.peek ts en s.i)).1 = 0
  · rw [c0]
    exact ⟨rfl, fun _ => ⟨rfl, rfl⟩, fun e => Bool.noConfusion (show false = true from e)⟩
  · rw [hn.infx.2 c0]
    by_cases c : ((Tm.infixOf (Tm.peek ts en s.i)).1 == 0 || decide (s.most < (Tm.infixOf (Tm.peek ts en s.i)).1) || decide ((Tm.infixOf (Tm.peek ts en s.i)).2.1 < s.prio)) = true
    · rw [if_pos c, if_pos c]
      exact ⟨rfl, fun _ => ⟨rfl, rfl⟩, fun e => Bool.noConfusion (show false = true from e)⟩
    · rw [if_neg c, if_neg c]
      refine ⟨rfl, fun e => Bool.noConfusion (show true = false from e), fun _ => ?_⟩
      rw [h.term]
      exact ⟨_, h.push _ 1⟩
theorem Tm.goOn_br (hb : Tm.Br ts us en eu q) {i j : Nat} {o o' : Tm.O} {r : Option Tm} (hi : i ≤ ts.length) (hr : Tm.goOn ts en i o = .ok (j, o', r)) (hc : r ≠ none ∨ j < ts.length) : Tm.goOn us eu (i + 1) o = .ok (j + 1, o', r) := by
  have hn := hb.nx hi
  have hx : ∀ x : List UInt8, (Tm.punct (Tm.peek ts en i) == x) = true → x ≠ [] → Tm.peek us eu (i + 1) = Tm.peek ts en i := fun x h1 h2 => by
    refine hn.text fun e => ?_
    unfold Tm.punct at h1
    rw [e, if_neg (by decide), beq_iff_eq] at h1
    exact h2 h1.symm
  unfold Tm.goOn at hr ⊢
  dsimp only at hr ⊢
  by_cases k1 : (o.kind == 1) = true
  · rw [if_pos k1] at hr ⊢; cases hr; rfl
  rw [if_neg k1] at hr ⊢
  by_cases k2 : (o.kind == 2) = true
  · rw [if_pos k2] at hr ⊢
    by_cases c : (Tm.punct (Tm.peek ts en i) == [44]) = true
    · rw [hx _ c (by decide)]
      rw [if_pos c] at hr ⊢; cases hr; rfl
    rw [if_neg c] at hr
    by_cases c2 : (Tm.punct (Tm.peek ts en i) == [41]) = true
    · rw [hx _ c2 (by decide)]
      rw [if_neg c]
      rw [if_pos c2] at hr ⊢
      by_cases c3 : Tm.suits o.name o.parts = true
      · rw [if_pos c3] at hr ⊢; cases hr; rfl
      · rw [if_neg c3] at hr; cases hr
    · rw [if_neg c2] at hr; cases hr
  rw [if_neg k2] at hr ⊢
  by_cases k3 : (o.kind == 3) = true
  · rw [if_pos k3] at hr ⊢
    by_cases c : (Tm.punct (Tm.peek ts en i) == [41]) = true
    · rw [hx _ c (by decide)]
      rw [if_pos c] at hr ⊢; cases hr; rfl
    · rw [if_neg c] at hr; cases hr
  rw [if_neg k3] at hr ⊢
  by_cases k4 : (o.kind == 4) = true
  · rw [if_pos k4] at hr ⊢
    by_cases c : (Tm.punct (Tm.peek ts en i) == [125]) = true
    · rw [hx _ c (by decide)]
      rw [if_pos c] at hr ⊢; cases hr; rfl
    · rw [if_neg c] at hr; cases hr
  rw [if_neg k4] at hr ⊢
  by_cases k5 : (o.kind == 5) = true
  · rw [if_pos k5] at hr ⊢
    by_cases c : (Tm.punct (Tm.peek ts en i) == [44]) = true
    · rw [hx _ c (by decide)]
      rw [if_pos c] at hr ⊢; cases hr
      have hlt : i + 1 < ts.length := by
        rcases hc with hc | hc
        · exact absurd rfl hc
        · exact hc
      rw [hb.at_ _ hlt]
    rw [if_neg c] at hr
    by_cases c2 : (Tm.punct (Tm.peek ts en i) == [124]) = true
    · rw [hx _ c2 (by decide)]
      rw [if_neg c]
      rw [if_pos c2] at hr ⊢; cases hr; rfl
    rw [if_neg c2] at hr
    by_cases c3 : (Tm.punct (Tm.peek ts en i) == [93]) = true
    · rw [hx _ c3 (by decide)]
      rw [if_neg c, if_neg c2]
      rw [if_pos c3] at hr ⊢; cases hr; rfl
    · rw [if_neg c3] at hr; cases hr
  rw [if_neg k5] at hr ⊢
  by_cases k6 : (o.kind == 6) = true
  · rw [if_pos k6] at hr ⊢
    by_cases c : (Tm.punct (Tm.peek ts en i) == [93]) = true
    · rw [hx _ c (by decide)]
      rw [if_pos c] at hr ⊢; cases hr; rfl
    · rw [if_neg c] at hr; cases hr
  rw [if_neg k6] at hr ⊢
  cases hr
  rfl
/-- The reader at the end, with the other bracket and the end still to come. -/
def Tm.Fin (ts : List Tm.T) (s' z' : Tm.S) : Prop := z' = ⟨ts.length + 2, [], s'.term, 0⟩
theorem Tm.climb_br (hb : Tm.Br ts us en eu q) (f : Nat) {s s' z : Tm.S} {A : List Tm.O} (h : Tm.BrS s z A) (hf : s.stack.length ≤ f) (hr : Tm.climb ts en f s = .ok s') (hi : s'.i ≤ ts.length) (h1 : s'.stack = [] → s'.i = ts.length) (h2 : s'.stack ≠ [] → s'.i < ts.length) :
    ∃ z', Tm.climb us eu (f + 1) z = .ok z' ∧ ((s'.stack ≠ [] ∧ ∃ A', Tm.BrS s' z' A') ∨ (s'.stack = [] ∧ Tm.Fin ts s' z')) := by
  induction f generalizing s z A with
  | zero => rw [h.stack] at hf; simp at hf
  | succ f ih =>
    have hn : s.stack ≠ [] := by rw [h.stack]; simp
    have hnz : z.stack ≠ [] := by rw [h.stackz]; simp
    have hle : s.i ≤ ts.length := Nat.le_trans (Tm.climb_le _ hr) hi
    obtain ⟨p1, p2, p3⟩ := Tm.pushInfix_br hb h hle
    rw [Tm.climb_cons hn] at hr
    rw [Tm.climb_cons hnz]
    rcases hp1 : Tm.pushInfix ts en s with ⟨s1, b⟩
    rcases hp2 : Tm.pushInfix us eu z with ⟨z1, c⟩
    rw [hp1, hp2] at p1 p2 p3
    dsimp only at p1 p2 p3
    subst p1
    rw [hp1] at hr
    cases c with
    | true =>
      obtain ⟨A', hA⟩ := p3 rfl
      cases hr
      exact ⟨z1, rfl, .inl ⟨by rw [hA.stack]; simp, A', hA⟩⟩
    | false =>
      obtain ⟨q1, q2⟩ := p2 rfl
      cases q1
      cases q2
      dsimp only at hr ⊢
      match A, h with
      | [], h =>
        have hg : Tm.give ts en s = .ok (⟨s.i, [], s.term, 0⟩, true) := by
          unfold Tm.give
          rw [h.stack]
          rfl
        rw [hg] at hr
        dsimp only at hr
        rw [Tm.climb_nil rfl] at hr
        cases hr
        have hie : s.i = ts.length := h1 rfl
        have hgz : Tm.give us eu z = .ok (⟨z.i + 1, [Tm.o0], s.term, 0⟩, true) := by
          unfold Tm.give
          rw [h.stackz, h.i, hie]
          dsimp only [List.nil_append]
          unfold Tm.goOn
          rw [hb.close, h.term]
          rfl
        rw [hgz]
        dsimp only
        have hpk : Tm.peek us eu (z.i + 1) = eu := Tm.peek_over (by rw [hb.len, h.i, hie]; omega)
        have hinf : Tm.infixOf eu = (0, 0, 0) := by
          obtain ⟨k, x, p⟩ := eu
          have := hb.endu
          dsimp only at this
          subst this
          rfl
        refine ⟨⟨ts.length + 2, [], s.term, 0⟩, ?_, .inr ⟨rfl, rfl⟩⟩
        rw [Tm.climb_cons (by simp)]
        have hpx : Tm.pushInfix us eu ⟨z.i + 1, [Tm.o0], s.term, 0⟩ = (⟨z.i + 1, [Tm.o0], s.term, 0⟩, false) := by
          unfold Tm.pushInfix
          dsimp only
          rw [hpk, hinf]
          rfl
        rw [hpx]
        dsimp only
        have hgx : Tm.give us eu ⟨z.i + 1, [Tm.o0], s.term, 0⟩ = .ok (⟨z.i + 1, [], s.term, 0⟩, true) := rfl
        rw [hgx]
        dsimp only
        rw [Tm.climb_nil rfl, h.i, hie]
      | o :: A, h =>
        unfold Tm.give at hr
        unfold Tm.give
        rw [h.stack] at hr
        rw [h.stackz]
        dsimp only [List.cons_append] at hr ⊢
        rw [h.i, h.term]
        match e1 : Tm.goOn ts en s.i { o with parts := o.parts ++ [s.term] } with
        | .error x => rw [e1] at hr; cases hr
        | .ok (j, o', none) =>
          rw [e1] at hr
          dsimp only at hr
          cases hr
          have hj : j < ts.length := h2 (by simp)
          rw [Tm.goOn_br hb hle e1 (.inr hj)]
          exact ⟨_, rfl, .inl ⟨by simp, o' :: A, ⟨rfl, rfl, h.prio, rfl, rfl⟩⟩⟩
        | .ok (j, o', some t) =>
          rw [e1] at hr
          dsimp only at hr
          rw [Tm.goOn_br hb hle e1 (.inl (by simp))]
          dsimp only
          refine ih (A := A) (s := ⟨j, A ++ [Tm.o0], t, o'.prio⟩) (z := ⟨j + 1, A ++ [Tm.o3, Tm.o0], t, o'.prio⟩) ⟨rfl, rfl, rfl, rfl, rfl⟩ ?_ hr
          rw [h.stack] at hf
          simpa using hf
theorem Tm.loop_at (hg : Tm.Good ts en) {f : Nat} {s s' : Tm.S} (hn : s.stack ≠ []) (hl : Tm.loop ts en f s = .ok s') (he : s'.stack = []) : s.i < ts.length := by
  cases f with
  | zero => cases hl; exact absurd he hn
  | succ f =>
    rw [Tm.loop_cons hn] at hl
    split at hl
    · cases hl
    · rename_i s1 hb; exact (Tm.begin_lt hg hb).2
    · rename_i s1 hb; exact (Tm.begin_lt hg hb).2
theorem Tm.loop_br (hb : Tm.Br ts us en eu q) (hg : Tm.Good ts en) (f : Nat) {f' : Nat} {s s' z : Tm.S} {A : List Tm.O} (h : Tm.BrS s z A) (hf : f ≤ f') (hl : Tm.loop ts en f s = .ok s') (he : s'.stack = []) (hi : s'.i = ts.length) :
    Tm.loop us eu f' z = .ok ⟨ts.length + 2, [], s'.term, 0⟩ := by
  induction f generalizing s z A f' with
  | zero => cases hl; rw [h.stack] at he; simp at he
  | succ f ih =>
    have hn : s.stack ≠ [] := by rw [h.stack]; simp
    have hnz : z.stack ≠ [] := by rw [h.stackz]; simp
    obtain ⟨g, rfl⟩ : ∃ g, f' = g + 1 := ⟨f' - 1, by omega⟩
    rw [Tm.loop_cons hn] at hl
    rw [Tm.loop_cons hnz]
    match e1 : Tm.begin_ ts en s with
    | .error x => rw [e1] at hl; cases hl
    | .ok (s1, false) =>
      rw [e1] at hl
      dsimp only at hl
      have h1 := Tm.loop_at hg (Tm.begin_stack e1) hl he
      obtain ⟨z1, A1, hz1, hR⟩ := Tm.begin_br hb h hg e1 (.inr h1)
      rw [hz1]
      exact ih hR (by omega) hl
    | .ok (s1, true) =>
      rw [e1] at hl
      dsimp only at hl
      obtain ⟨z1, A1, hz1, hR⟩ := Tm.begin_br hb h hg e1 (.inl rfl)
      rw [hz1]
      dsimp only
      unfold Tm.onward at hl ⊢
      match e2 : Tm.climb ts en (s1.stack.length + 1) s1 with
      | .error x => rw [e2] at hl; cases hl
      | .ok s2 =>
        rw [e2] at hl
        dsimp only at hl
        have hlen : z1.stack.length + 1 = s1.stack.length + 1 + 1 := by rw [hR.stack, hR.stackz]; simp
        obtain ⟨z2, hz2, hor⟩ := Tm.climb_br hb _ hR (by omega) e2 (Nat.le_trans (Tm.loop_le _ hl) (by omega)) (fun e => by
          rw [Tm.loop_nil e] at hl
          cases hl
          exact hi) (fun e => Tm.loop_at hg e hl he)
        rw [hlen, hz2]
        dsimp only
        rcases hor with ⟨-, A2, hR2⟩ | ⟨e, hfin⟩
        · exact ih hR2 (by omega) hl
        · rw [Tm.loop_nil e] at hl
          cases hl
          rw [hfin, Tm.loop_nil rfl]
/-- A term in brackets is read as the same term. -/
theorem Tm.read_br {ts us : List Tm.T} {en eu : Tm.T} {q r : Int} (hb : Tm.Br ts us en eu q) (hopen : Tm.peek us eu 0 = (6, [40], r)) (hg : Tm.Good ts en) {s' : Tm.S} (hl : Tm.read ts en Tm.start = .ok s') (hi : s'.i = ts.length) :
    Tm.read us eu Tm.start = .ok ⟨ts.length + 2, [], s'.term, 0⟩ := by
  have he := Tm.read_ends hg hl
  unfold Tm.read at hl ⊢
  rw [Tm.loop_cons (s := Tm.start.push (Tm.opn 0 1200 [] 0 [] [])) (by intro e; cases e)]
  have hbg : Tm.begin_ us eu (Tm.start.push (Tm.opn 0 1200 [] 0 [] [])) = .ok (⟨1, [Tm.o3, Tm.o0], Tm.zero, 0⟩, false) := by
    unfold Tm.begin_
    dsimp only
    rw [show (Tm.start.push (Tm.opn 0 1200 [] 0 [] [])).i = 0 from rfl, hopen]
    rfl
  rw [hbg]
  exact Tm.loop_br hb hg (ts.length + 2) (A := []) (s := Tm.start.push (Tm.opn 0 1200 [] 0 [] [])) ⟨rfl, rfl, rfl, rfl, rfl⟩ (by rw [hb.len]; omega) hl he hi
end
end Go.Proofs.YtaefonagbcnmdaaGreatDoor
namespace Go.Proofs.YtaefonagbcnmdaaGreatDoor
open Go.RowKit

/-! A fault has a code. -/
theorem Tm.refusal_bad (t : Tm.T) : (Tm.refusal t).2 ≠ 0 := by
  unfold Tm.refusal Tm.code
  dsimp only
  split <;> decide
section
variable {ts : List Tm.T} {en : Tm.T}
theorem Tm.begin_bad {s : Tm.S} {f : Tm.F} (h : Tm.begin_ ts en s = .error f) : f.2 ≠ 0 := by
  unfold Tm.begin_ at h
  dsimp only at h
  split at h
  · cases h; exact Tm.refusal_bad _
  split at h
  · cases h; exact (by decide : (6 : Int) ≠ 0)
  split at h
  · unfold Tm.beginName at h
    dsimp only at h
    repeat' split at h
    all_goals first | (cases h; exact (by decide : (11 : Int) ≠ 0)) | (cases h; done)
  repeat' split at h
  all_goals (cases h; done)
theorem Tm.goOn_bad {i : Nat} {o : Tm.O} {f : Tm.F} (h : Tm.goOn ts en i o = .error f) : f.2 ≠ 0 := by
  unfold Tm.goOn at h
  dsimp only at h
  repeat' split at h
  all_goals first | (cases h; exact Tm.refusal_bad _) | (cases h; exact (by decide : (11 : Int) ≠ 0)) | (cases h; done)
theorem Tm.give_bad {s : Tm.S} {f : Tm.F} (h : Tm.give ts en s = .error f) : f.2 ≠ 0 := by
  unfold Tm.give at h
  split at h
  · cases h
  · split at h
    · rename_i hg
      cases h
      exact Tm.goOn_bad hg
    · cases h
    · cases h
theorem Tm.climb_bad (n : Nat) {s : Tm.S} {f : Tm.F} (h : Tm.climb ts en n s = .error f) : f.2 ≠ 0 := by
  induction n generalizing s with
  | zero => cases h
  | succ n ih =>
    by_cases hn : s.stack = []
    · rw [Tm.climb_nil hn] at h; cases h
    · rw [Tm.climb_cons hn] at h
      split at h
      · cases h
      · split at h
        · rename_i hg
          cases h
          exact Tm.give_bad hg
        · exact ih h
        · cases h
theorem Tm.loop_bad (n : Nat) {s : Tm.S} {f : Tm.F} (h : Tm.loop ts en n s = .error f) : f.2 ≠ 0 := by
  induction n generalizing s with
  | zero => cases h
  | succ n ih =>
    by_cases hn : s.stack = []
    · rw [Tm.loop_nil hn] at h; cases h
    · rw [Tm.loop_cons hn] at h
      split at h
      · rename_i hb
        cases h
        exact Tm.begin_bad hb
      · exact ih h
      · unfold Tm.onward at h
        split at h
        · rename_i hc
          cases h
          exact Tm.climb_bad _ hc
        · exact ih h
theorem Tm.all_faults (n : Nat) {s : Tm.S} {acc : List Tm} {f : Tm.F} (h : Tm.all ts en n s acc = .error f) : f.2 ≠ 0 := by
  induction n generalizing s acc with
  | zero => cases h
  | succ n ih =>
    by_cases hk : (Tm.peek ts en s.i).1 = 0
    · rw [Tm.all_stop hk] at h; cases h
    · cases hr : Tm.read ts en s with
      | error x =>
        rw [Tm.all_bad hk hr] at h
        cases h
        unfold Tm.read at hr
        exact Tm.loop_bad _ hr
      | ok s' =>
        by_cases h7 : (Tm.peek ts en s'.i).1 = 7
        · rw [Tm.all_on hk hr h7] at h
          exact ih h
        · rw [Tm.all_off hk hr h7] at h
          cases h
          exact Tm.refusal_bad _
end
theorem Tm.firstBad_code : ∀ {l : List Tm.T} {f : Tm.F}, Tm.firstBad l = some f → f.2 ≠ 0
  | [], f, h => by cases h
  | t :: l, f, h => by
    rw [Tm.firstBad] at h
    split at h
    · exact Tm.firstBad_code h
    · rename_i hc
      cases h
      exact hc
end Go.Proofs.YtaefonagbcnmdaaGreatDoor
namespace Go.Proofs.YtaefonagbcnmdaaGreatDoor
open Go.RowKit

/-! What One answers to a term in brackets. -/
theorem Tm.cut_kinds (ts : List Tm.T) : ∀ t ∈ Tm.cut ts, t.1 ≠ 0 := by
  intro t ht
  unfold Tm.cut Tm.endIdx at ht
  have h2 : ∀ l : List Tm.T, l.take (l.takeWhile fun t => !(t.1 == 0)).length = l.takeWhile fun t => !(t.1 == 0) := by
    intro l
    induction l with
    | nil => rfl
    | cons a l ih =>
      rw [List.takeWhile_cons]
      split
      · rw [List.length_cons, List.take_succ_cons, ih]
      · rfl
  have h3 : ∀ l : List Tm.T, ∀ t ∈ l.takeWhile (fun t => !(t.1 == 0)), t.1 ≠ 0 := by
    intro l
    induction l with
    | nil => intro t ht; simp at ht
    | cons a l ih =>
      intro t ht
      rw [List.takeWhile_cons] at ht
      split at ht
      · rename_i h
        rcases List.mem_cons.1 ht with rfl | ht
        · simpa using h
        · exact ih t ht
      · simp at ht
  rw [h2] at ht
  exact h3 _ t ht
theorem Tm.cut_all {m : List Tm.T} (h : ∀ t ∈ m, t.1 ≠ 0) : Tm.cut m = m ∧ Tm.endTok m = (0, [], 0) := by
  have hi : Tm.endIdx m = m.length := by
    unfold Tm.endIdx
    have : m.takeWhile (fun t => !(t.1 == 0)) = m := by
      induction m with
      | nil => rfl
      | cons a l ih =>
        have h1 := h a (List.mem_cons_self ..)
        rw [List.takeWhile_cons, if_pos (by simpa using h1), ih (fun t ht => h t (List.mem_cons_of_mem _ ht))]
    rw [this]
  unfold Tm.cut Tm.endTok
  rw [hi]
  refine ⟨List.take_length, ?_⟩
  rw [if_neg (by omega)]
section
variable {ts : List Tm.T} {en : Tm.T}
theorem Tm.punct_at (hg : Tm.Good ts en) {i : Nat} {x : List UInt8} (hx : x ≠ []) (h : (Tm.punct (Tm.peek ts en i) == x) = true) : i < ts.length := by
  refine (hg.peek (i := i) fun e => ?_).1
  unfold Tm.punct at h
  rw [e, if_neg (by decide), beq_iff_eq] at h
  exact hx h.symm
theorem Tm.kind_at (hg : Tm.Good ts en) {i : Nat} {k : Int} (hx : k ≠ 0) (h : ((Tm.peek ts en i).1 == k) = true) : i < ts.length := by
  refine (hg.peek (i := i) fun e => ?_).1
  rw [e, beq_iff_eq] at h
  exact hx h.symm
theorem Tm.begin_end (hg : Tm.Good ts en) {s s' : Tm.S} {b : Bool} (h : Tm.begin_ ts en s = .ok (s', b)) : s'.i ≤ ts.length := by
  have hlt := (Tm.begin_lt hg h).2
  unfold Tm.begin_ at h
  dsimp only at h
  split at h
  · cases h
  split at h
  · cases h
  split at h
  · unfold Tm.beginName at h
    dsimp only at h
    split at h
    · rename_i c
      have := Tm.punct_at hg (by decide) c
      cases h
      exact this
    split at h
    · rename_i c
      rw [Bool.and_eq_true] at c
      have := Tm.kind_at hg (by decide) c.2
      cases h
      exact this
    split at h
    · rename_i c
      rw [Bool.and_eq_true] at c
      have := Tm.kind_at hg (by decide) c.2
      cases h
      exact this
    split at h
    · split at h
      · cases h; exact hlt
      · cases h
    · cases h; exact hlt
  split at h
  · unfold Tm.beginVariable at h
    split at h
    · rename_i c
      have := Tm.punct_at hg (by decide) c
      cases h
      exact this
    · cases h; exact hlt
  split at h
  · cases h; exact hlt
  split at h
  · cases h; exact hlt
  split at h
  · cases h; exact hlt
  unfold Tm.beginBracket at h
  split at h
  · cases h; exact hlt
  split at h
  · cases h; exact hlt
  split at h
  · rename_i c
    have := Tm.punct_at hg (by decide) c
    cases h
    exact this
  · cases h; exact hlt
theorem Tm.goOn_end (hg : Tm.Good ts en) {i j : Nat} {o o' : Tm.O} {r : Option Tm} (hi : i ≤ ts.length) (h : Tm.goOn ts en i o = .ok (j, o', r)) : j ≤ ts.length := by
  unfold Tm.goOn at h
  dsimp only at h
  split at h
  · cases h; exact hi
  split at h
  · split at h
    · rename_i c; have := Tm.punct_at hg (by decide) c; cases h; exact this
    split at h
    · rename_i c
      have := Tm.punct_at hg (by decide) c
      split at h
      · cases h; exact this
      · cases h
    · cases h
  split at h
  · split at h
    · rename_i c; have := Tm.punct_at hg (by decide) c; cases h; exact this
    · cases h
  split at h
  · split at h
    · rename_i c; have := Tm.punct_at hg (by decide) c; cases h; exact this
    · cases h
  split at h
  · split at h
    · rename_i c; have := Tm.punct_at hg (by decide) c; cases h; exact this
    split at h
    · rename_i c; have := Tm.punct_at hg (by decide) c; cases h; exact this
    split at h
    · rename_i c; have := Tm.punct_at hg (by decide) c; cases h; exact this
    · cases h
  split at h
  · split at h
    · rename_i c; have := Tm.punct_at hg (by decide) c; cases h; exact this
    · cases h
  cases h; exact hi
theorem Tm.give_end (hg : Tm.Good ts en) {s s' : Tm.S} {b : Bool} (hi : s.i ≤ ts.length) (h : Tm.give ts en s = .ok (s', b)) : s'.i ≤ ts.length := by
  unfold Tm.give at h
  split at h
  · cases h; exact hi
  · split at h
    · cases h
    · rename_i hgo; cases h; exact Tm.goOn_end hg hi hgo
    · rename_i hgo; cases h; exact Tm.goOn_end hg hi hgo
theorem Tm.push_end (hg : Tm.Good ts en) {s : Tm.S} (hi : s.i ≤ ts.length) : (Tm.pushInfix ts en s).1.i ≤ ts.length := by
  unfold Tm.pushInfix
  dsimp only
  split
  · exact hi
  · rename_i c
    simp only [Bool.or_eq_true, not_or] at c
    have hne : (Tm.peek ts en s.i).1 ≠ 0 := fun e => by
      refine c.1.1 ?_
      have : Tm.infixOf (Tm.peek ts en s.i) = (0, 0, 0) := by
        generalize Tm.peek ts en s.i = n at e ⊢
        obtain ⟨k, x, p⟩ := n
        dsimp only at e
        subst e
        rfl
      rw [this]; rfl
    exact (hg.peek hne).1
theorem Tm.climb_end (hg : Tm.Good ts en) (f : Nat) {s s' : Tm.S} (hi : s.i ≤ ts.length) (h : Tm.climb ts en f s = .ok s') : s'.i ≤ ts.length := by
  induction f generalizing s with
  | zero => cases h; exact hi
  | succ f ih =>
    by_cases hn : s.stack = []
    · rw [Tm.climb_nil hn] at h; cases h; exact hi
    · rw [Tm.climb_cons hn] at h
      have hp := Tm.push_end hg hi
      split at h
      · rename_i s1 e; rw [e] at hp; cases h; exact hp
      · rename_i s1 e
        rw [e] at hp
        split at h
        · cases h
        · rename_i s2 e2; exact ih (Tm.give_end hg hp e2) h
        · rename_i s2 e2; cases h; exact Tm.give_end hg hp e2
theorem Tm.loop_end (hg : Tm.Good ts en) (f : Nat) {s s' : Tm.S} (hi : s.i ≤ ts.length) (h : Tm.loop ts en f s = .ok s') : s'.i ≤ ts.length := by
  induction f generalizing s with
  | zero => cases h; exact hi
  | succ f ih =>
    by_cases hn : s.stack = []
    · rw [Tm.loop_nil hn] at h; cases h; exact hi
    · rw [Tm.loop_cons hn] at h
      split at h
      · cases h
      · rename_i s1 e; exact ih (Tm.begin_end hg e) h
      · rename_i s1 e
        unfold Tm.onward at h
        split at h
        · cases h
        · rename_i s2 e2; exact ih (Tm.climb_end hg _ (Tm.begin_end hg e) e2) h
theorem Tm.read_end (hg : Tm.Good ts en) {s' : Tm.S} (h : Tm.read ts en Tm.start = .ok s') : s'.i ≤ ts.length := by
  unfold Tm.read at h
  exact Tm.loop_end hg _ (Nat.zero_le _) h
end
/-- A term in brackets is the same term. -/
theorem Tm.oneT_br {ts : List Tm.T} {t : Tm} (hz : ∀ t ∈ ts, t.2.1.length ≤ 65536) (h : Tm.oneT ts = .ok t) : Tm.oneT ((6, [40], 0) :: (Tm.cut ts ++ [(6, [41], 0)])) = .ok t := by
  have hk := Tm.cut_kinds ts
  have hkm : ∀ τ ∈ ((6, [40], 0) :: (Tm.cut ts ++ [(6, [41], 0)]) : List Tm.T), τ.1 ≠ 0 := by
    intro τ hτ
    rcases List.mem_cons.1 hτ with rfl | hτ
    · show (6 : Int) ≠ 0; decide
    · rcases List.mem_append.1 hτ with hτ | hτ
      · exact hk τ hτ
      · rw [List.mem_singleton] at hτ; subst hτ; show (6 : Int) ≠ 0; decide
  unfold Tm.oneT at h ⊢
  cases hfb : Tm.firstBad (Tm.cut ts) with
  | some f => rw [hfb] at h; cases h
  | none =>
    rw [hfb] at h
    dsimp only at h
    have hall := Tm.firstBad_none hfb
    rw [(Tm.cut_all hkm).1, (Tm.cut_all hkm).2]
    have hfm : Tm.firstBad ((6, [40], 0) :: (Tm.cut ts ++ [(6, [41], 0)])) = none := Tm.firstBad_of (fun τ hτ => by
      rcases List.mem_cons.1 hτ with rfl | hτ
      · decide +kernel
      · rcases List.mem_append.1 hτ with hτ | hτ
        · exact hall τ hτ
        · rw [List.mem_singleton] at hτ; subst hτ; decide +kernel)
    rw [hfm]
    dsimp only
    cases hr : Tm.read (Tm.cut ts) (Tm.endTok ts) Tm.start with
    | error x => rw [hr] at h; cases h
    | ok s =>
      rw [hr] at h
      dsimp only at h
      have hgood : Tm.Good (Tm.cut ts) (Tm.endTok ts) := ⟨Tm.endTok_kind ts, fun t ht => ⟨hall t ht, hz t (List.mem_of_mem_take ht)⟩⟩
      by_cases h0 : (Tm.peek (Tm.cut ts) (Tm.endTok ts) s.i).1 = 0
      · rw [if_pos h0] at h
        have hle : s.i ≤ (Tm.cut ts).length := (Tm.read_end hgood hr)
        have hi : s.i = (Tm.cut ts).length := by
          rcases Nat.lt_or_ge s.i (Tm.cut ts).length with hl | hl
          · rw [Tm.peek_at hl] at h0
            exact absurd h0 (hk _ (List.getElem_mem hl))
          · omega
        have hbr : Tm.Br (Tm.cut ts) ((6, [40], 0) :: (Tm.cut ts ++ [(6, [41], 0)])) (Tm.endTok ts) (0, [], 0) 0 := by
          refine ⟨Tm.endTok_kind ts, rfl, by simp, fun k hk' => ?_, ?_⟩
          · rw [Tm.peek_at hk', Tm.peek_at (by simp; omega)]
            simp [hk']
          · rw [Tm.peek_at (by simp)]
            simp
        have hrb := Tm.read_br hbr (r := 0) rfl hgood hr hi
        rw [hrb]
        dsimp only
        have hp : Tm.peek ((6, [40], 0) :: (Tm.cut ts ++ [(6, [41], 0)])) ((0, [], 0) : Tm.T) ((Tm.cut ts).length + 2) = (0, [], 0) := Tm.peek_end (by simp)
        rw [hp]
        rw [if_pos rfl]
        exact h
      · rw [if_neg h0] at h; cases h
end Go.Proofs.YtaefonagbcnmdaaGreatDoor
namespace Go.Proofs.YtaefonagbcnmdaaGreatDoor
open Go.RowKit

/-! TermsBrackets: tokens in memory, and whether the law looks at them. -/
theorem TokR.read {w : World} {κ : Nat → Nat} {v : Value} {ts : List Tm.T} (h : TokR w κ v ts) {i : Nat} (hi : i < ts.length) :
    ∃ g o cap, v = .slice (some ⟨g, o, none⟩) ts.length cap ∧ ts.length ≤ cap ∧ g < w.heap.size ∧ w.cell? ⟨g, o + i * 3, none⟩ = some (.int .i64 (ts[i]'hi).1) ∧ w.cell? ⟨g, o + i * 3 + 1, none⟩ = some (.string ⟨(ts[i]'hi).2.1.toArray⟩) ∧ w.cell? ⟨g, o + i * 3 + 2, none⟩ = some (.int .i64 (ts[i]'hi).2.2) := by
  obtain ⟨A, cap, hv, hc, hh⟩ := h
  obtain ⟨g, o, hA, hg, -, h0, h1, h2⟩ := hh i ts[i] (List.getElem?_eq_getElem hi)
  exact ⟨g, o, cap, by rw [hv, hA], hc, hg, h0, h1, h2⟩
theorem slice_eq {A A' : Option Addr} {n n' c c' : Nat} (h : Value.slice A n c = .slice A' n' c') : A = A' ∧ n = n' ∧ c = c' := by injection h with h1 h2 h3; exact ⟨h1, h2, h3⟩
def Tm.lens : List Tm.T → Nat
  | [] => 0
  | t :: r => t.2.1.length + Tm.lens r
theorem Tm.lens_append : ∀ a b : List Tm.T, Tm.lens (a ++ b) = Tm.lens a + Tm.lens b
  | [], b => by simp [Tm.lens]
  | t :: r, b => by simp only [List.cons_append, Tm.lens, Tm.lens_append r b]; omega
theorem Tm.lens_mem : ∀ {l : List Tm.T} {t : Tm.T}, t ∈ l → t.2.1.length ≤ Tm.lens l
  | a :: r, t, h => by
    simp only [Tm.lens]
    rcases List.mem_cons.1 h with rfl | h
    · omega
    · have := Tm.lens_mem h; omega
theorem Tm.lens_le {B : Nat} : ∀ {l : List Tm.T}, (∀ t ∈ l, t.2.1.length ≤ B) → Tm.lens l ≤ l.length * B
  | [], _ => by simp [Tm.lens]
  | t :: r, h => by
    have h1 := h t (List.mem_cons_self ..)
    have h2 := Tm.lens_le (l := r) (fun x hx => h x (List.mem_cons_of_mem _ hx))
    simp only [Tm.lens, List.length_cons, Nat.succ_mul]; omega
theorem Tm.lens_next {l : List Tm.T} {k : Nat} (h : k < l.length) : Tm.lens (l.take (k + 1)) = Tm.lens (l.take k) + (l[k]'h).2.1.length := by
  rw [List.take_succ_eq_append_getElem h, Tm.lens_append]
  simp [Tm.lens]
def Tm.lng (ts : List Tm.T) : Bool := decide (300 < ts.length) || decide (2000 < Tm.lens (ts.take 301))
theorem Tm.lng_small {ts : List Tm.T} (h : Tm.lng ts = false) : ts.length ≤ 300 ∧ ∀ t ∈ ts, t.2.1.length ≤ 2000 := by
  unfold Tm.lng at h
  rw [Bool.or_eq_false_iff, decide_eq_false_iff_not, decide_eq_false_iff_not] at h
  obtain ⟨h1, h2⟩ := h
  rw [List.take_of_length_le (by omega)] at h2
  exact ⟨by omega, fun t ht => by have := Tm.lens_mem ht; omega⟩
/-- The cells of tokens. -/
def Tm.tcells : List Tm.T → List Value
  | [] => []
  | t :: r => .int .i64 t.1 :: .string ⟨t.2.1.toArray⟩ :: .int .i64 t.2.2 :: Tm.tcells r
theorem Tm.tcells_len : ∀ ts : List Tm.T, (Tm.tcells ts).length = ts.length * 3
  | [] => rfl
  | t :: r => by simp [Tm.tcells, Tm.tcells_len r]; omega
theorem Tm.tcells_append : ∀ a b : List Tm.T, Tm.tcells (a ++ b) = Tm.tcells a ++ Tm.tcells b
  | [], _ => rfl
  | t :: r, b => by simp only [List.cons_append, Tm.tcells, Tm.tcells_append r b]
theorem Tm.tcells_one : ∀ (ts : List Tm.T), ∀ u ∈ Tm.tcells ts, u.oneCell' = true
  | [], u, h => by cases h
  | t :: r, u, h => by
    rw [Tm.tcells] at h
    simp only [List.mem_cons] at h
    rcases h with rfl | rfl | rfl | h
    · rfl
    · rfl
    · rfl
    · exact Tm.tcells_one r u h
theorem Tm.tcells_get : ∀ {ts : List Tm.T} {i : Nat} {t : Tm.T}, ts[i]? = some t → (Tm.tcells ts)[i * 3]? = some (.int .i64 t.1) ∧ (Tm.tcells ts)[i * 3 + 1]? = some (.string ⟨t.2.1.toArray⟩) ∧ (Tm.tcells ts)[i * 3 + 2]? = some (.int .i64 t.2.2)
  | [], _, _, h => by simp at h
  | a :: r, 0, t, h => by
    obtain rfl : a = t := by simpa using h
    exact ⟨rfl, rfl, rfl⟩
  | a :: r, i + 1, t, h => by
    obtain ⟨h1, h2, h3⟩ := Tm.tcells_get (ts := r) (show r[i]? = some t by simpa using h)
    rw [Nat.succ_mul]
    exact ⟨h1, h2, h3⟩
theorem Tm.tcells_inv : ∀ (ts : List Tm.T) (j : Nat) (u : Value), (Tm.tcells ts)[j]? = some u → ∃ i t, ts[i]? = some t ∧ ((j = i * 3 ∧ u = .int .i64 t.1) ∨ (j = i * 3 + 1 ∧ u = .string ⟨t.2.1.toArray⟩) ∨ (j = i * 3 + 2 ∧ u = .int .i64 t.2.2))
  | [], _, _, h => by simp [Tm.tcells] at h
  | a :: r, 0, u, h => ⟨0, a, rfl, .inl ⟨rfl, by simpa [Tm.tcells] using h.symm⟩⟩
  | a :: r, 1, u, h => ⟨0, a, rfl, .inr (.inl ⟨rfl, by simpa [Tm.tcells] using h.symm⟩)⟩
  | a :: r, 2, u, h => ⟨0, a, rfl, .inr (.inr ⟨rfl, by simpa [Tm.tcells] using h.symm⟩)⟩
  | a :: r, j + 3, u, h => by
    have h' : (Tm.tcells r)[j]? = some u := by simpa [Tm.tcells] using h
    obtain ⟨i, t, ht, hh⟩ := Tm.tcells_inv r j u h'
    refine ⟨i + 1, t, by simpa using ht, ?_⟩
    rw [Nat.succ_mul]
    rcases hh with ⟨rfl, hu⟩ | ⟨rfl, hu⟩ | ⟨rfl, hu⟩
    · exact .inl ⟨rfl, hu⟩
    · exact .inr (.inl ⟨rfl, hu⟩)
    · exact .inr (.inr ⟨rfl, hu⟩)
theorem TokR.of_row {w : World} {B : Nat} {v : Value} {ts : List Tm.T} {n : Nat} (hn : n = ts.length) (h : w.ownsRow B 48 3 v n (Tm.tcells ts)) : TokR w (fun _ => 0) v ts := by
  subst hn
  rcases h.2 with ⟨rfl, h0⟩ | ⟨g, cap, cur, rfl, hb, hh, hc, _⟩
  · have : ts = [] := List.eq_nil_of_length_eq_zero h0
    subst this
    exact ⟨none, 0, rfl, Nat.le_refl _, fun i t ht => by simp at ht⟩
  · refine ⟨some ⟨g, 0, none⟩, cap, rfl, hc, fun i t ht => ⟨g, 0, rfl, Blk.lt (cs := cur) (t := 48) hh, rfl, ?_⟩⟩
    have hcell := h.cells (g := g) rfl
    obtain ⟨f0, f1, f2⟩ := Tm.tcells_get ht
    have c0 := hcell _ _ f0
    have c1 := hcell _ _ f1
    have c2 := hcell _ _ f2
    rw [add_none] at c0 c1 c2
    exact ⟨c0, by rw [Nat.add_assoc]; exact c1, by rw [Nat.add_assoc]; exact c2⟩
theorem TokR.of_new {w : World} {b : Nat} {t : Tm.T} (h : Blk w b 48 #[.int .i64 t.1, .string ⟨t.2.1.toArray⟩, .int .i64 t.2.2]) : TokR w (fun _ => 0) (.slice (some ⟨b, 0, none⟩) 1 1) [t] := by
  refine ⟨some ⟨b, 0, none⟩, 1, rfl, Nat.le_refl _, fun i u hu => ?_⟩
  have hi := (List.getElem?_eq_some_iff.1 hu).1
  obtain rfl : i = 0 := by simpa using hi
  obtain rfl : t = u := by simpa using hu
  exact ⟨b, 0, rfl, h.lt, rfl, by simpa using h.cell 0, by simpa using h.cell 1, by simpa using h.cell 2⟩
/-- append of a slice of tokens onto a row of the call's own. -/
theorem app_toks {w : World} {ops : Array Oper} {rest : List Oper} {o : Oper} {a : Act} {Q : Exit → Act → World → Prop} (hgd : o.guard = none) (s x : Operand)
    (ho : o.op = .call { callee := .builtin .append, args := #[s, x], argTypes := #[43, 43] })
    (base : Nat) (v : Value) (n : Nat) (xs : List Value) (hs : a.eval s = v) (hown : w.ownsRow base 48 3 v n xs)
    {κ : Nat → Nat} {A : Option Addr} {m c : Nat} {l : List Tm.T} (hx : a.eval x = .slice A m c) (hT : TokR w κ (.slice A m c) l)
    (h63 : n + m ≤ 1000000) (hbase : base ≤ w.heap.size)
    (h : ∀ v' w', w'.ownsRow base 48 3 v' (n + m) (xs ++ Tm.tcells l) → w.grownBy w' v.ownBlock → (v'.ownBlock = v.ownBlock ∨ v'.ownBlock = some w.heap.size) → wpList Tryz.prog ops Q rest (a.put o.dst v') w') : wpList Tryz.prog ops Q (o :: rest) a w := by
  obtain ⟨i0, hi0, hz0, hz1, hz2⟩ := info_parts info_token
  obtain ⟨A', c', hv, hc, hh⟩ := hT
  obtain ⟨rfl, rfl, rfl⟩ := slice_eq hv
  by_cases hA : A = none
  · subst hA
    have hl : l = [] := by
      cases l with
      | nil => rfl
      | cons t r =>
        obtain ⟨g, o, h1, _⟩ := hh 0 t rfl
        cases h1
    subst hl
    have hrun := run_append_none_cap (P := Tryz.prog) (w := w) base 43 o.type 48 i0 3 Tryz.underlying43 hi0 v n xs hown c
    refine wpList_plain hgd fun K hK => ?_
    unfold Oper.wp
    simp [execOp, ho, resolve, invoke, builtin, hs, hx, hrun, Result.andThen]
    exact hK _ _ (h v w (by simpa [Tm.tcells] using hown) (World.grownBy.refl w _) (.inl rfl))
  · obtain ⟨ad, hAd⟩ := Option.ne_none_iff_exists'.1 hA
    subst hAd
    refine wpList_append_own_at w hgd s x 43 ho base 48 i0 (.agg #[.int .i64 0, .string ⟨#[]⟩, .int .i64 0]) 3 32 Tryz.underlying43 hi0 hz0 hz1 hz2 rfl (by decide) v n xs hs hown ad l.length c (Tm.tcells l) hx
      (Tm.tcells_len l) (fun j u hu => ?_) (Tm.tcells_one l) (by unfold maxLen; omega) (by omega) hbase (fun v' w' h1 h2 _ h4 => h v' w' h1 h2 h4)
    obtain ⟨i, t, ht, hcase⟩ := Tm.tcells_inv l j u hu
    obtain ⟨g, o, e, -, -, h0, h1, h2⟩ := hh i t ht
    rw [Option.some.injEq] at e
    subst e
    rw [add_none]
    rcases hcase with ⟨rfl, rfl⟩ | ⟨rfl, rfl⟩ | ⟨rfl, rfl⟩
    · exact h0
    · rw [← Nat.add_assoc]; exact h1
    · rw [← Nat.add_assoc]; exact h2
set_option maxRecDepth 100000 in
set_option maxHeartbeats 1000000 in
theorem long_any (v : Value) (ts : List Tm.T) {κ : Nat → Nat} (w : World) (hn : ts.length ≤ 9223372036854775807) (hsz : ∀ t ∈ ts, t.2.1.length ≤ 140737488355328) (hT : TokR w κ v ts) :
    Calls Tryz.prog 28 #[v] w fun e w' => e = .returned (.bool (Tm.lng ts)) ∧ Below w.heap.size w w' := by
  have HSZ := Lib.hid hsz; clear hsz
  have HT := Lib.hid hT
  obtain ⟨A, cap, rfl, hcap, hi⟩ := hT
  clear hi
  go_enter Tryz.func28, Tryz.ntmps28
  go_wp2_with fail
  go_loopw [3, 4] (fun n' i' wr => ∃ k : Nat, k ≤ ts.length ∧ k ≤ 301 ∧ n' = .int .i64 (Tm.lens (ts.take k)) ∧ i' = .int .i64 k ∧ Tm.lens (ts.take k) ≤ 42361984495353728 ∧ Hid (Below w.heap.size w wr)) (fun _ i' _ => ts.length - (intOf i').toNat)
  case atStart => exact ⟨0, by omega, by omega, by simp [Tm.lens], by go_num, by simp [Tm.lens], Lib.hid (Below.refl _ _)⟩
  case round =>
    obtain ⟨k, hk, hk3, rfl, rfl, hle, HB⟩ := hrel
    by_cases hlt : k < ts.length
    · by_cases h3 : k ≤ 300
      · obtain ⟨g, o, cap', hv', hcap', hg, c0, c1, c2⟩ := (HT.out.kept (.below HB.out)).read hlt
        obtain ⟨rfl, _, rfl⟩ := slice_eq hv'
        clear hv' c0 c2
        have hl := HSZ.out _ (List.getElem_mem hlt)
        have hnx := Tm.lens_next hlt
        have hbd : Tm.lens (ts.take (k + 1)) ≤ (k + 1) * 140737488355328 := by
          have := Tm.lens_le (l := ts.take (k + 1)) (B := 140737488355328) (fun t ht => HSZ.out t (List.mem_of_mem_take ht))
          rw [List.length_take, Nat.min_eq_left (by omega)] at this
          exact this
        have hbd2 : Tm.lens (ts.take (k + 1)) ≤ 42361984495353728 := by omega
        have HX := Lib.hid hnx
        have HBD := Lib.hid hbd2
        obtain ⟨n, hn⟩ : ∃ n, Tm.lens (ts.take k) = n := ⟨_, rfl⟩
        obtain ⟨x, hx⟩ : ∃ x, (ts[k]'hlt).2.1 = x := ⟨_, rfl⟩
        rw [hn, hx] at hnx
        rw [hx] at c1 hl
        rw [hn] at hle ⊢
        have hsum : n + x.length ≤ 42361984495353728 := by omega
        have HN := Lib.hid hn
        have HX2 := Lib.hid hx
        have HXS : Hid ((⟨x.toArray⟩ : ByteArray).size = x.length) := Lib.hid (by simp [ByteArray.size])
        clear hn hx hnx hbd hbd2
        have q1 : decide ((k : Int) < (ts.length : Int)) = true := by simp only [decide_eq_true_eq]; omega
        have q2 : decide ((k : Int) ≤ 300) = true := by simp only [decide_eq_true_eq]; omega
        have m1 : (k : Int) < (ts.length : Int) := by omega
        have m2 : (k : Int) ≤ 300 := by omega
        go_wp2_with fail
        all_goals
          go_roundw
          case rel => exact ⟨k + 1, by omega, by omega, by first | go_num | (rw [HX.out, HN.out, HX2.out]; go_num), by go_num, HBD.out, HB⟩
          case measure => simp [intOf]; omega
      · have q1 : decide ((k : Int) < (ts.length : Int)) = true := by simp only [decide_eq_true_eq]; omega
        have q2 : decide ((k : Int) ≤ 300) = false := by simp only [decide_eq_false_iff_not]; omega
        have q3 : decide ((300 : Int) < (ts.length : Int)) = true := by simp only [decide_eq_true_eq]; omega
        have m1 : (k : Int) < (ts.length : Int) := by omega
        have m2 : ¬ (k : Int) ≤ 300 := by omega
        have m3 : (300 : Int) < (ts.length : Int) := by omega
        have hres : Tm.lng ts = true := by
          unfold Tm.lng
          rw [decide_eq_true (show 300 < ts.length by omega)]; rfl
        have HRES := Lib.hid hres; clear hres
        go_wp2_with fail
        all_goals
          go_ret
          exact ⟨ret_bool (by rw [HRES.out]), HB.out⟩
    · obtain rfl : k = ts.length := by omega
      rw [List.take_of_length_le (Nat.le_refl _)] at hle ⊢
      have HRES : Hid (Tm.lng ts = (decide (300 < ts.length) || decide (2000 < Tm.lens ts))) := Lib.hid (by
        unfold Tm.lng
        rw [List.take_of_length_le (show ts.length ≤ 301 by omega)])
      have m1 : ¬ (ts.length : Int) < (ts.length : Int) := by omega
      obtain ⟨n, hn⟩ : ∃ n, Tm.lens ts = n := ⟨_, rfl⟩
      have HN := Lib.hid hn
      rw [hn] at hle ⊢
      clear hn
      by_cases h1 : 300 < ts.length
      · have m2 : (300 : Int) < (ts.length : Int) := by omega
        go_wp2_with fail
        all_goals
          go_ret
          exact ⟨ret_bool (by rw [HRES.out, decide_eq_true h1]; rfl), HB.out⟩
      · have m2 : ¬ (300 : Int) < (ts.length : Int) := by omega
        by_cases h2 : 2000 < n
        · have m3 : (2000 : Int) < (n : Int) := by omega
          go_wp2_with fail
          all_goals
            go_ret
            exact ⟨ret_bool (by rw [HRES.out, HN.out, decide_eq_false h1, decide_eq_true h2]; rfl), HB.out⟩
        · have m3 : ¬ (2000 : Int) < (n : Int) := by omega
          go_wp2_with fail
          all_goals
            go_ret
            exact ⟨ret_bool (by rw [HRES.out, HN.out, decide_eq_false h1, decide_eq_false h2]; rfl), HB.out⟩
end Go.Proofs.YtaefonagbcnmdaaGreatDoor
namespace Go.Proofs.YtaefonagbcnmdaaGreatDoor
open Go.RowKit

theorem Tm.endIdx_le (ts : List Tm.T) : Tm.endIdx ts ≤ ts.length := by
  unfold Tm.endIdx; exact (List.takeWhile_prefix _).length_le
theorem Tm.endIdx_before {ts : List Tm.T} {k : Nat} (h : k < Tm.endIdx ts) (hl : k < ts.length) : (ts[k]'hl).1 ≠ 0 := by
  have hk : k < (ts.take (Tm.endIdx ts)).length := by rw [List.length_take]; omega
  have hm := List.getElem_mem hk
  have hm2 := Tm.cut_kinds ts _ hm
  rwa [List.getElem_take] at hm2
theorem Tm.endIdx_at {ts : List Tm.T} (h : Tm.endIdx ts < ts.length) : (ts[Tm.endIdx ts]'h).1 = 0 := by
  have : ∀ (l : List Tm.T) (p : Tm.T → Bool) (hh : (l.takeWhile p).length < l.length), p l[(l.takeWhile p).length] = false := by
    intro l p
    induction l with
    | nil => intro hh; simp at hh
    | cons a r ih =>
      intro hh
      cases hp : p a
      · simp [List.takeWhile_cons, hp]
      · simp only [List.takeWhile_cons, hp, if_true, List.length_cons] at hh ⊢
        exact ih (by omega)
  have h2 := this ts (fun t => !(t.1 == 0)) h
  have h3 : (!((ts[Tm.endIdx ts]'h).1 == 0)) = false := h2
  simpa using h3
theorem Tm.oneT_siz {ts : List Tm.T} {t : Tm} (hz : ∀ t ∈ ts, t.2.1.length ≤ 65536) (h : Tm.oneT ts = .ok t) : Tm.siz t ≤ 4 * ts.length + 4 := by
  unfold Tm.oneT at h
  cases hfb : Tm.firstBad (Tm.cut ts) with
  | some f => rw [hfb] at h; cases h
  | none =>
    rw [hfb] at h
    dsimp only at h
    cases hr : Tm.read (Tm.cut ts) (Tm.endTok ts) Tm.start with
    | error x => rw [hr] at h; cases h
    | ok s =>
      rw [hr] at h
      dsimp only at h
      have hgood : Tm.Good (Tm.cut ts) (Tm.endTok ts) := ⟨Tm.endTok_kind ts, fun t ht => ⟨Tm.firstBad_none hfb t ht, hz t (List.mem_of_mem_take ht)⟩⟩
      have h1 := Tm.read_siz hr rfl (by simp [Tm.start, Tm.zero, Tm.siz_mk0])
      have h2 := Tm.read_end hgood hr
      have h3 : (Tm.cut ts).length ≤ ts.length := by unfold Tm.cut; rw [List.length_take]; omega
      split at h
      · split at h
        · cases h
        · cases h; omega
      · cases h
theorem own_tok1 {w : World} {b : Nat} {t : Tm.T} (h : Blk w b 48 #[.int .i64 t.1, .string ⟨t.2.1.toArray⟩, .int .i64 t.2.2]) : w.ownsRow b 48 3 (.slice (some ⟨b, 0, none⟩) 1 1) 1 (Tm.tcells [t]) :=
  ⟨rfl, .inr ⟨b, 1, _, rfl, Nat.le_refl _, h, Nat.le_refl _, by unfold maxLen; omega, by simp, by simp [Tm.tcells]⟩⟩
theorem Targs.nil0 {w : World} {κ : Nat → Nat} {v : Value} {l : List Tm} (h : Targs w κ v l) : Targs w (fun _ => 0) v l := h.recolor (fun _ _ => rfl)
theorem TokR.zero {w : World} {κ : Nat → Nat} {v : Value} {l : List Tm.T} (h : TokR w κ v l) : TokR w (fun _ => 0) v l := h.recolor_lt (fun _ _ _ => rfl)
set_option maxRecDepth 100000 in
set_option maxHeartbeats 16000000 in
theorem brackets_ok (v : Value) (ts : List Tm.T) {κ0 : Nat → Nat} (w : World) (hn : ts.length ≤ 300) (hsz : ∀ t ∈ ts, t.2.1.length ≤ 2000) (hT : TokR w κ0 v ts) (hG : Glob w) (hlg : Tm.lng ts = false) (t : Tm) (ht : Tm.oneT ts = .ok t) (hts : Tm.siz t ≤ 1099511627776) :
    Calls Tryz.prog 7 #[v] w fun e w' => e = .returned (.bool true) ∧ Below w.heap.size w w' := by
  have hgl := hG.lt
  have HLG := Lib.hid hlg
  have HT := Lib.hid hT.zero
  have HSZ := Lib.hid hsz
  have HG := Lib.hid hG
  have HOK := Lib.hid ht
  have HTS := Lib.hid hts
  obtain ⟨A, cap, rfl, hcap, hi⟩ := hT
  clear hi hlg hsz hG ht hts
  go_enter Tryz.func7, Tryz.ntmps7
  go_wp2_with fail
  refine (long_any _ ts w (by omega) (fun t ht => Nat.le_trans (HSZ.out t ht) (by omega)) HT.out).mono ?_
  rintro e w1 ⟨rfl, hB1⟩
  rw [HLG.out]
  have HB1 := Lib.hid hB1
  clear hB1
  go_wp2_with fail
  refine (One_any _ ts w1 (by omega) (HT.out.kept (.below HB1.out)) (fun t ht => Nat.le_trans (HSZ.out t ht) (by omega)) (HG.out.below HB1.out hgl)).mono ?_
  rintro e w2 ⟨hB2, T, A2, n2, c2, a, c, rfl, hO⟩
  rw [HOK.out] at hO
  obtain ⟨rfl, rfl, rfl, κ1, hT1⟩ := hO
  have HB2 := Lib.hid (HB1.out.trans (hB2.mono HB1.out.size))
  have HT1 := Lib.hid hT1.nil0
  have hww : w.heap.size ≤ w2.heap.size := HB2.out.size
  clear hT1 hB2
  go_upto_region 4 with (fail)
  have hbx := (Blk.new w2 32 #[.int .i64 T.kind, .string ⟨T.name.toArray⟩, .int .i64 T.num, .slice A2 n2 c2, .int .i64 T.at_]).alloc (.cells #[.int .i64 0, .int .i64 0] 26)
  have hbf := Blk.new (w2.alloc (.cells #[.int .i64 T.kind, .string ⟨T.name.toArray⟩, .int .i64 T.num, .slice A2 n2 c2, .int .i64 T.at_] 32)) 26 #[.int .i64 0, .int .i64 0]
  rw [World.size_alloc] at hbf
  have hBn := ((Below.refl w2.heap.size w2).alloc (Nat.le_refl _) (.cells #[.int .i64 T.kind, .string ⟨T.name.toArray⟩, .int .i64 T.num, .slice A2 n2 c2, .int .i64 T.at_] 32)).alloc (by simp) (.cells #[.int .i64 0, .int .i64 0] 26)
  have HBX := Lib.hid hbx
  have HBF := Lib.hid hbf
  have HT3 := Lib.hid (HT1.out.kept (.below hBn))
  have HB3 := Lib.hid (HB2.out.trans (hBn.mono hww))
  have hWs : ((w2.alloc (.cells #[.int .i64 T.kind, .string ⟨T.name.toArray⟩, .int .i64 T.num, .slice A2 n2 c2, .int .i64 T.at_] 32)).alloc (.cells #[.int .i64 0, .int .i64 0] 26)).heap.size = w2.heap.size + 2 := by simp
  generalize hW : ((w2.alloc (.cells #[.int .i64 T.kind, .string ⟨T.name.toArray⟩, .int .i64 T.num, .slice A2 n2 c2, .int .i64 T.at_] 32)).alloc (.cells #[.int .i64 0, .int .i64 0] 26)) = W at *
  have HTW := Lib.hid (HT.out.kept (.below HB3.out))
  have f1 : W.cell? ⟨w2.heap.size + 1, 1, none⟩ = some (.int .i64 0) := by simpa using HBF.out.cell 1
  have HWS := Lib.hid hWs
  clear hW hbx hbf hBn HT1 HB1 HB2 HLG hWs
  go_upto_region 7 with (fail)
  have hle := Tm.endIdx_le ts
  have HLE := Lib.hid hle
  go_loopw [5] (fun i' wr => ∃ k : Nat, k ≤ Tm.endIdx ts ∧ i' = .int .i64 k ∧ wr = W) (fun i' _ => Tm.endIdx ts - (intOf i').toNat)
  case atStart => exact ⟨0, Nat.zero_le _, by go_num, rfl⟩
  case round =>
    obtain ⟨k, hk, rfl, rfl⟩ := hrel
    by_cases hke : k < Tm.endIdx ts
    · have hlt : k < ts.length := by omega
      obtain ⟨g, o, cap', hv', _, hg, c0, c1, c2⟩ := HTW.out.read hlt
      obtain ⟨rfl, _, rfl⟩ := slice_eq hv'
      clear hv' c1 c2
      have hne := Tm.endIdx_before hke hlt
      have m1 : (k : Int) < (ts.length : Int) := by omega
      have m0 : (0 : Int) ≤ (k : Int) := by omega
      obtain ⟨K, hK⟩ : ∃ K, (ts[k]'hlt).1 = K := ⟨_, rfl⟩
      rw [hK] at hne c0
      clear hK
      have hne2 : (K == 0) = false := beq_eq_false_iff_ne.2 hne
      go_wp2_with fail
      go_roundw
      case rel => exact ⟨k + 1, by omega, by go_num, by first | rfl | trivial⟩
      case measure => simp [intOf]; omega
    · obtain rfl : k = Tm.endIdx ts := by omega
      obtain ⟨e, he⟩ : ∃ e, Tm.endIdx ts = e := ⟨_, rfl⟩
      have HE := Lib.hid he
      rw [he] at hk hle ⊢
      clear he hke
      have hlc : (Tm.cut ts).length = e := by unfold Tm.cut; rw [HE.out, List.length_take]; omega
      have HTC := Lib.hid (show TokR wr (fun _ => 0) (.slice A e cap) (Tm.cut ts) by
        have := HTW.out.cut (k := e) hle
        unfold Tm.cut
        rw [HE.out]
        exact this)
      by_cases hm : e < ts.length
      · obtain ⟨g, o, cap', hv', _, hg, c0, c1, c2⟩ := HTW.out.read hm
        obtain ⟨rfl, _, rfl⟩ := slice_eq hv'
        clear hv' c1 c2
        have hz : (ts[e]'hm).1 = 0 := by
          have h0 := Tm.endIdx_at (ts := ts) (by rw [HE.out]; exact hm)
          simpa only [HE.out] using h0
        rw [hz] at c0
        have m1 : (e : Int) < (ts.length : Int) := by omega
        have m0 : (0 : Int) ≤ (e : Int) := by omega
        have m2 : (e : Int) ≤ (ts.length : Int) := by omega
        have m3 : (e : Int) ≤ (cap : Int) := by omega
        clear hz
        go_upto_region 9 with (fail)
        clear c0
        have hwr : w2.heap.size + 2 = wr.heap.size := HWS.out.symm
        have hx4 := HBX.out.alloc (.cells #[.int .i64 6, .string ⟨#[40]⟩, .int .i64 0] 48)
        have hf4 := HBF.out.alloc (.cells #[.int .i64 6, .string ⟨#[40]⟩, .int .i64 0] 48)
        have hBn4 := (Below.refl wr.heap.size wr).alloc (Nat.le_refl _) (.cells #[.int .i64 6, .string ⟨#[40]⟩, .int .i64 0] 48)
        have hr4 := Blk.new wr 48 #[.int .i64 6, .string ⟨#[40]⟩, .int .i64 0]
        have hown4 := own_tok1 (t := ((6 : Int), [40], (0 : Int))) hr4
        have hTc4 := HTC.out.kept (.below hBn4)
        have hz4 : (wr.alloc (.cells #[.int .i64 6, .string ⟨#[40]⟩, .int .i64 0] 48)).heap.size = wr.heap.size + 1 := by simp
        go_wp2_with (first
          | (at_builtin; refine app_toks rfl (.tmp 35) (.tmp 38) rfl wr.heap.size _ 1 _ rfl hown4 rfl hTc4 (by omega) (by rw [hz4]; omega) ?_; intro v5 w5 hown5 hgr5 _; have hB5 := hBn4.grown hgr5 (by rw [hz4]; omega) (fun q e => (hown4.lt q e).1); have hB6 := hB5.alloc hB5.size (.cells #[.int .i64 6, .string ⟨#[41]⟩, .int .i64 0] 48); have hs5 := hB5.size; have hT6 := TokR.of_new (t := ((6 : Int), [41], (0 : Int))) (Blk.new w5 48 #[.int .i64 6, .string ⟨#[41]⟩, .int .i64 0]))
          | (at_builtin; refine app_toks rfl (.tmp 40) (.tmp 42) rfl wr.heap.size _ (1 + e) _ rfl (hown5.alloc _) rfl hT6 (by omega) (by simp; omega) ?_; intro v6 w6 hown6 hgr6 _; have hB7 := hB6.grown hgr6 hB6.size (fun q e => (hown5.lt q e).1)))
        have hTm : TokR w6 (fun _ => 0) v6 ((6, [40], 0) :: (Tm.cut ts ++ [(6, [41], 0)])) := TokR.of_row (n := 1 + e + 1) (by simp only [List.length_cons, List.length_append, List.length_nil, hlc]; omega) (by
          rw [show ((6, [40], 0) :: (Tm.cut ts ++ [(6, [41], 0)]) : List Tm.T) = ([((6 : Int), [40], (0 : Int))] ++ Tm.cut ts) ++ [((6 : Int), [41], (0 : Int))] by simp, Tm.tcells_append, Tm.tcells_append]
          exact hown6)
        have hszm : ∀ t ∈ ((6, [40], 0) :: (Tm.cut ts ++ [(6, [41], 0)]) : List Tm.T), t.2.1.length ≤ 65536 := by
          intro t ht
          rcases List.mem_cons.1 ht with rfl | ht
          · show 1 ≤ 65536; omega
          · rcases List.mem_append.1 ht with ht | ht
            · exact Nat.le_trans (HSZ.out t (by unfold Tm.cut at ht; exact List.mem_of_mem_take ht)) (by omega)
            · rw [List.mem_singleton] at ht; subst ht; show 1 ≤ 65536; omega
        have hB8 := HB3.out.trans (hB7.mono HB3.out.size)
        refine (One_any v6 _ w6 (by simp only [List.length_cons, List.length_append, List.length_nil, hlc]; omega) hTm hszm (HG.out.below hB8 hgl)).mono ?_
        rintro e2 w7 ⟨hB9, T', A7, n7, c7, a7, q7, rfl, hO7⟩
        rw [Tm.oneT_br (fun t ht => Nat.le_trans (HSZ.out t ht) (by omega)) HOK.out] at hO7
        obtain ⟨rfl, rfl, hTT, κ7, hT7⟩ := hO7
        subst hTT
        have hB10 := hB7.trans (hB9.mono hB7.size)
        have hlx : w2.heap.size < wr.heap.size := by omega
        have hlf : w2.heap.size + 1 < wr.heap.size := by omega
        have hx7 := HBX.out.below hB10 hlx
        have hf7 := HBF.out.below hB10 hlf
        have HX7 := Lib.hid hx7
        have HF7 := Lib.hid hf7
        have HTA := Lib.hid (HT3.out.kept (.below hB10))
        have HTB := Lib.hid hT7.nil0
        have HB11 := Lib.hid (HB3.out.trans (hB10.mono HB3.out.size))
        have HWZ := Lib.hid hwr
        have q0 : w7.cell? ⟨w2.heap.size + 1, 0, none⟩ = some (.int .i64 0) := by simpa using hf7.cell 0
        have q1 : w7.cell? ⟨w2.heap.size + 1, 1, none⟩ = some (.int .i64 0) := by simpa using hf7.cell 1
        have nf := hf7.frozen
        have hl7 := hf7.lt
        clear hx4 hf4 hBn4 hr4 hown4 hTc4 hz4 hown5 hgr5 hB5 hB6 hs5 hT6 hown6 hgr6 hB7 hTm hszm hB8 hB9 hT7 hB10 hx7 hf7 f1 hle hk hlc
        go_upto_region 12 with (fail)
        have hp : ∀ W : World, ((w7.setCell ⟨w2.heap.size + 1, 0, none⟩ (.int .i64 0)).setCell ⟨w2.heap.size + 1, 1, none⟩ (.int .i64 0)) = W → (∀ b, b ≠ w2.heap.size + 1 → W.heap[b]? = w7.heap[b]?) ∧ W.heap.size = w7.heap.size ∧ Below w.heap.size w W ∧ Blk W (w2.heap.size + 1) 26 #[.int .i64 0, .int .i64 0] := by
          rintro W rfl
          refine ⟨fun b hb => (Below.heap_setCell _ _ _ _ hb).trans (Below.heap_setCell _ _ _ _ hb), by simp, (HB11.out.setCell (p := ⟨w2.heap.size + 1, 0, none⟩) (by show w.heap.size ≤ w2.heap.size + 1; omega) _).setCell (p := ⟨w2.heap.size + 1, 1, none⟩) (by show w.heap.size ≤ w2.heap.size + 1; omega) _, ?_⟩
          have := (HF7.out.put 0 (.int .i64 0)).put 1 (.int .i64 0)
          simpa using this
        generalize hW8 : ((w7.setCell ⟨w2.heap.size + 1, 0, none⟩ (.int .i64 0)).setCell ⟨w2.heap.size + 1, 1, none⟩ (.int .i64 0)) = W8 at *
        obtain ⟨p1, p2, p3, p4⟩ := hp W8 rfl
        have hF8 : Targs W8 (fun _ => 0) (.slice A2 n2 c2) T'.args := Targs.nil0 ((HTA.out.apart HF7.out).firm ⟨by omega, fun b hb hb0 => p1 b (fun e => by subst e; simp at hb0)⟩)
        have hG8 : Targs W8 (fun _ => 0) (.slice A7 n7 c7) T'.args := Targs.nil0 ((HTB.out.apart HF7.out).firm ⟨by omega, fun b hb hb0 => p1 b (fun e => by subst e; simp at hb0)⟩)
        have hx8 : Blk W8 w2.heap.size 32 #[.int .i64 T'.kind, .string ⟨T'.name.toArray⟩, .int .i64 T'.num, .slice A2 n2 c2, .int .i64 T'.at_] := (p1 _ (by omega)).trans HX7.out
        have hB12 := (Below.refl W8.heap.size W8).alloc (Nat.le_refl _) (.cells #[.int .i64 T'.kind, .string ⟨T'.name.toArray⟩, .int .i64 T'.num, .slice A7 n7 c7, .int .i64 T'.at_] 32)
        have HTA9 := Lib.hid (hF8.kept (.below hB12))
        have HTB9 := Lib.hid (hG8.kept (.below hB12))
        have HX9 := Lib.hid (hx8.alloc (.cells #[.int .i64 T'.kind, .string ⟨T'.name.toArray⟩, .int .i64 T'.num, .slice A7 n7 c7, .int .i64 T'.at_] 32))
        have HF9 := Lib.hid (p4.alloc (.cells #[.int .i64 T'.kind, .string ⟨T'.name.toArray⟩, .int .i64 T'.num, .slice A7 n7 c7, .int .i64 T'.at_] 32))
        have hy9 := Blk.new W8 32 #[.int .i64 T'.kind, .string ⟨T'.name.toArray⟩, .int .i64 T'.num, .slice A7 n7 c7, .int .i64 T'.at_]
        rw [p2] at hy9
        have HY9 := Lib.hid hy9
        have HB13 := Lib.hid (p3.trans (hB12.mono p3.size))
        have HLX := Lib.hid hlx
        clear p1 p2 p3 p4 hF8 hG8 hx8 hB12 hy9 hW8 hp q0 q1 nf hl7 hlx hlf HTA HTB HX7 HF7 HB11 HBX HBF
        generalize hW9 : (W8.alloc (.cells #[.int .i64 T'.kind, .string ⟨T'.name.toArray⟩, .int .i64 T'.num, .slice A7 n7 c7, .int .i64 T'.at_] 32)) = W9 at *
        clear hW9
        obtain ⟨x0, x1, x2, x3, x4⟩ : W9.cell? ⟨w2.heap.size, 0, none⟩ = some (.int .i64 T'.kind) ∧ W9.cell? ⟨w2.heap.size, 1, none⟩ = some (.string ⟨T'.name.toArray⟩) ∧ W9.cell? ⟨w2.heap.size, 2, none⟩ = some (.int .i64 T'.num) ∧ W9.cell? ⟨w2.heap.size, 3, none⟩ = some (.slice A2 n2 c2) ∧ W9.cell? ⟨w2.heap.size, 4, none⟩ = some (.int .i64 T'.at_) :=
          ⟨by simpa using HX9.out.cell 0, by simpa using HX9.out.cell 1, by simpa using HX9.out.cell 2, by simpa using HX9.out.cell 3, by simpa using HX9.out.cell 4⟩
        obtain ⟨y0, y1, y2, y3, y4⟩ : W9.cell? ⟨w7.heap.size, 0, none⟩ = some (.int .i64 T'.kind) ∧ W9.cell? ⟨w7.heap.size, 1, none⟩ = some (.string ⟨T'.name.toArray⟩) ∧ W9.cell? ⟨w7.heap.size, 2, none⟩ = some (.int .i64 T'.num) ∧ W9.cell? ⟨w7.heap.size, 3, none⟩ = some (.slice A7 n7 c7) ∧ W9.cell? ⟨w7.heap.size, 4, none⟩ = some (.int .i64 T'.at_) :=
          ⟨by simpa using HY9.out.cell 0, by simpa using HY9.out.cell 1, by simpa using HY9.out.cell 2, by simpa using HY9.out.cell 3, by simpa using HY9.out.cell 4⟩
        have f1 : W9.cell? ⟨w2.heap.size + 1, 1, none⟩ = some (.int .i64 0) := by simpa using HF9.out.cell 1
        go_wp2_with fail
        refine (sameAt_all (Tm.siz T' + 1) T' _ _ (fun _ => 0) W9 (Nat.lt_succ_self _) HTA9.out HTB9.out HTS.out).mono ?_
        rintro e9 w9 ⟨rfl, hB14⟩
        have HB15 := Lib.hid (HB13.out.trans (hB14.mono HB13.out.size))
        clear hB14 x0 x1 x2 x3 x4 y0 y1 y2 y3 y4 f1
        go_wp2_with fail
        refine (awake_any _ (HG.out.below HB15.out hgl)).mono ?_
        rintro e10 w10 ⟨rfl, hB16⟩
        have HB17 := Lib.hid (HB15.out.trans (hB16.mono HB15.out.size))
        clear hB16
        go_wp2_with fail
        go_ret
        exact ⟨rfl, HB17.out⟩
      · have m1 : ¬ (e : Int) < (ts.length : Int) := by omega
        have m0 : (0 : Int) ≤ (e : Int) := by omega
        have m2 : (e : Int) ≤ (ts.length : Int) := by omega
        have m3 : (e : Int) ≤ (cap : Int) := by omega
        go_upto_region 9 with (fail)
        have hwr : w2.heap.size + 2 = wr.heap.size := HWS.out.symm
        have hx4 := HBX.out.alloc (.cells #[.int .i64 6, .string ⟨#[40]⟩, .int .i64 0] 48)
        have hf4 := HBF.out.alloc (.cells #[.int .i64 6, .string ⟨#[40]⟩, .int .i64 0] 48)
        have hBn4 := (Below.refl wr.heap.size wr).alloc (Nat.le_refl _) (.cells #[.int .i64 6, .string ⟨#[40]⟩, .int .i64 0] 48)
        have hr4 := Blk.new wr 48 #[.int .i64 6, .string ⟨#[40]⟩, .int .i64 0]
        have hown4 := own_tok1 (t := ((6 : Int), [40], (0 : Int))) hr4
        have hTc4 := HTC.out.kept (.below hBn4)
        have hz4 : (wr.alloc (.cells #[.int .i64 6, .string ⟨#[40]⟩, .int .i64 0] 48)).heap.size = wr.heap.size + 1 := by simp
        go_wp2_with (first
          | (at_builtin; refine app_toks rfl (.tmp 35) (.tmp 38) rfl wr.heap.size _ 1 _ rfl hown4 rfl hTc4 (by omega) (by rw [hz4]; omega) ?_; intro v5 w5 hown5 hgr5 _; have hB5 := hBn4.grown hgr5 (by rw [hz4]; omega) (fun q e => (hown4.lt q e).1); have hB6 := hB5.alloc hB5.size (.cells #[.int .i64 6, .string ⟨#[41]⟩, .int .i64 0] 48); have hs5 := hB5.size; have hT6 := TokR.of_new (t := ((6 : Int), [41], (0 : Int))) (Blk.new w5 48 #[.int .i64 6, .string ⟨#[41]⟩, .int .i64 0]))
          | (at_builtin; refine app_toks rfl (.tmp 40) (.tmp 42) rfl wr.heap.size _ (1 + e) _ rfl (hown5.alloc _) rfl hT6 (by omega) (by simp; omega) ?_; intro v6 w6 hown6 hgr6 _; have hB7 := hB6.grown hgr6 hB6.size (fun q e => (hown5.lt q e).1)))
        have hTm : TokR w6 (fun _ => 0) v6 ((6, [40], 0) :: (Tm.cut ts ++ [(6, [41], 0)])) := TokR.of_row (n := 1 + e + 1) (by simp only [List.length_cons, List.length_append, List.length_nil, hlc]; omega) (by
          rw [show ((6, [40], 0) :: (Tm.cut ts ++ [(6, [41], 0)]) : List Tm.T) = ([((6 : Int), [40], (0 : Int))] ++ Tm.cut ts) ++ [((6 : Int), [41], (0 : Int))] by simp, Tm.tcells_append, Tm.tcells_append]
          exact hown6)
        have hszm : ∀ t ∈ ((6, [40], 0) :: (Tm.cut ts ++ [(6, [41], 0)]) : List Tm.T), t.2.1.length ≤ 65536 := by
          intro t ht
          rcases List.mem_cons.1 ht with rfl | ht
          · show 1 ≤ 65536; omega
          · rcases List.mem_append.1 ht with ht | ht
            · exact Nat.le_trans (HSZ.out t (by unfold Tm.cut at ht; exact List.mem_of_mem_take ht)) (by omega)
            · rw [List.mem_singleton] at ht; subst ht; show 1 ≤ 65536; omega
        have hB8 := HB3.out.trans (hB7.mono HB3.out.size)
        refine (One_any v6 _ w6 (by simp only [List.length_cons, List.length_append, List.length_nil, hlc]; omega) hTm hszm (HG.out.below hB8 hgl)).mono ?_
        rintro e2 w7 ⟨hB9, T', A7, n7, c7, a7, q7, rfl, hO7⟩
        rw [Tm.oneT_br (fun t ht => Nat.le_trans (HSZ.out t ht) (by omega)) HOK.out] at hO7
        obtain ⟨rfl, rfl, hTT, κ7, hT7⟩ := hO7
        subst hTT
        have hB10 := hB7.trans (hB9.mono hB7.size)
        have hlx : w2.heap.size < wr.heap.size := by omega
        have hlf : w2.heap.size + 1 < wr.heap.size := by omega
        have hx7 := HBX.out.below hB10 hlx
        have hf7 := HBF.out.below hB10 hlf
        have HX7 := Lib.hid hx7
        have HF7 := Lib.hid hf7
        have HTA := Lib.hid (HT3.out.kept (.below hB10))
        have HTB := Lib.hid hT7.nil0
        have HB11 := Lib.hid (HB3.out.trans (hB10.mono HB3.out.size))
        have HWZ := Lib.hid hwr
        have q0 : w7.cell? ⟨w2.heap.size + 1, 0, none⟩ = some (.int .i64 0) := by simpa using hf7.cell 0
        have q1 : w7.cell? ⟨w2.heap.size + 1, 1, none⟩ = some (.int .i64 0) := by simpa using hf7.cell 1
        have nf := hf7.frozen
        have hl7 := hf7.lt
        clear hx4 hf4 hBn4 hr4 hown4 hTc4 hz4 hown5 hgr5 hB5 hB6 hs5 hT6 hown6 hgr6 hB7 hTm hszm hB8 hB9 hT7 hB10 hx7 hf7 f1 hle hk hlc
        go_upto_region 12 with (fail)
        have hp : ∀ W : World, ((w7.setCell ⟨w2.heap.size + 1, 0, none⟩ (.int .i64 0)).setCell ⟨w2.heap.size + 1, 1, none⟩ (.int .i64 0)) = W → (∀ b, b ≠ w2.heap.size + 1 → W.heap[b]? = w7.heap[b]?) ∧ W.heap.size = w7.heap.size ∧ Below w.heap.size w W ∧ Blk W (w2.heap.size + 1) 26 #[.int .i64 0, .int .i64 0] := by
          rintro W rfl
          refine ⟨fun b hb => (Below.heap_setCell _ _ _ _ hb).trans (Below.heap_setCell _ _ _ _ hb), by simp, (HB11.out.setCell (p := ⟨w2.heap.size + 1, 0, none⟩) (by show w.heap.size ≤ w2.heap.size + 1; omega) _).setCell (p := ⟨w2.heap.size + 1, 1, none⟩) (by show w.heap.size ≤ w2.heap.size + 1; omega) _, ?_⟩
          have := (HF7.out.put 0 (.int .i64 0)).put 1 (.int .i64 0)
          simpa using this
        generalize hW8 : ((w7.setCell ⟨w2.heap.size + 1, 0, none⟩ (.int .i64 0)).setCell ⟨w2.heap.size + 1, 1, none⟩ (.int .i64 0)) = W8 at *
        obtain ⟨p1, p2, p3, p4⟩ := hp W8 rfl
        have hF8 : Targs W8 (fun _ => 0) (.slice A2 n2 c2) T'.args := Targs.nil0 ((HTA.out.apart HF7.out).firm ⟨by omega, fun b hb hb0 => p1 b (fun e => by subst e; simp at hb0)⟩)
        have hG8 : Targs W8 (fun _ => 0) (.slice A7 n7 c7) T'.args := Targs.nil0 ((HTB.out.apart HF7.out).firm ⟨by omega, fun b hb hb0 => p1 b (fun e => by subst e; simp at hb0)⟩)
        have hx8 : Blk W8 w2.heap.size 32 #[.int .i64 T'.kind, .string ⟨T'.name.toArray⟩, .int .i64 T'.num, .slice A2 n2 c2, .int .i64 T'.at_] := (p1 _ (by omega)).trans HX7.out
        have hB12 := (Below.refl W8.heap.size W8).alloc (Nat.le_refl _) (.cells #[.int .i64 T'.kind, .string ⟨T'.name.toArray⟩, .int .i64 T'.num, .slice A7 n7 c7, .int .i64 T'.at_] 32)
        have HTA9 := Lib.hid (hF8.kept (.below hB12))
        have HTB9 := Lib.hid (hG8.kept (.below hB12))
        have HX9 := Lib.hid (hx8.alloc (.cells #[.int .i64 T'.kind, .string ⟨T'.name.toArray⟩, .int .i64 T'.num, .slice A7 n7 c7, .int .i64 T'.at_] 32))
        have HF9 := Lib.hid (p4.alloc (.cells #[.int .i64 T'.kind, .string ⟨T'.name.toArray⟩, .int .i64 T'.num, .slice A7 n7 c7, .int .i64 T'.at_] 32))
        have hy9 := Blk.new W8 32 #[.int .i64 T'.kind, .string ⟨T'.name.toArray⟩, .int .i64 T'.num, .slice A7 n7 c7, .int .i64 T'.at_]
        rw [p2] at hy9
        have HY9 := Lib.hid hy9
        have HB13 := Lib.hid (p3.trans (hB12.mono p3.size))
        have HLX := Lib.hid hlx
        clear p1 p2 p3 p4 hF8 hG8 hx8 hB12 hy9 hW8 hp q0 q1 nf hl7 hlx hlf HTA HTB HX7 HF7 HB11 HBX HBF
        generalize hW9 : (W8.alloc (.cells #[.int .i64 T'.kind, .string ⟨T'.name.toArray⟩, .int .i64 T'.num, .slice A7 n7 c7, .int .i64 T'.at_] 32)) = W9 at *
        clear hW9
        obtain ⟨x0, x1, x2, x3, x4⟩ : W9.cell? ⟨w2.heap.size, 0, none⟩ = some (.int .i64 T'.kind) ∧ W9.cell? ⟨w2.heap.size, 1, none⟩ = some (.string ⟨T'.name.toArray⟩) ∧ W9.cell? ⟨w2.heap.size, 2, none⟩ = some (.int .i64 T'.num) ∧ W9.cell? ⟨w2.heap.size, 3, none⟩ = some (.slice A2 n2 c2) ∧ W9.cell? ⟨w2.heap.size, 4, none⟩ = some (.int .i64 T'.at_) :=
          ⟨by simpa using HX9.out.cell 0, by simpa using HX9.out.cell 1, by simpa using HX9.out.cell 2, by simpa using HX9.out.cell 3, by simpa using HX9.out.cell 4⟩
        obtain ⟨y0, y1, y2, y3, y4⟩ : W9.cell? ⟨w7.heap.size, 0, none⟩ = some (.int .i64 T'.kind) ∧ W9.cell? ⟨w7.heap.size, 1, none⟩ = some (.string ⟨T'.name.toArray⟩) ∧ W9.cell? ⟨w7.heap.size, 2, none⟩ = some (.int .i64 T'.num) ∧ W9.cell? ⟨w7.heap.size, 3, none⟩ = some (.slice A7 n7 c7) ∧ W9.cell? ⟨w7.heap.size, 4, none⟩ = some (.int .i64 T'.at_) :=
          ⟨by simpa using HY9.out.cell 0, by simpa using HY9.out.cell 1, by simpa using HY9.out.cell 2, by simpa using HY9.out.cell 3, by simpa using HY9.out.cell 4⟩
        have f1 : W9.cell? ⟨w2.heap.size + 1, 1, none⟩ = some (.int .i64 0) := by simpa using HF9.out.cell 1
        go_wp2_with fail
        refine (sameAt_all (Tm.siz T' + 1) T' _ _ (fun _ => 0) W9 (Nat.lt_succ_self _) HTA9.out HTB9.out HTS.out).mono ?_
        rintro e9 w9 ⟨rfl, hB14⟩
        have HB15 := Lib.hid (HB13.out.trans (hB14.mono HB13.out.size))
        clear hB14 x0 x1 x2 x3 x4 y0 y1 y2 y3 y4 f1
        go_wp2_with fail
        refine (awake_any _ (HG.out.below HB15.out hgl)).mono ?_
        rintro e10 w10 ⟨rfl, hB16⟩
        have HB17 := Lib.hid (HB15.out.trans (hB16.mono HB15.out.size))
        clear hB16
        go_wp2_with fail
        go_ret
        exact ⟨rfl, HB17.out⟩
theorem Tm.oneT_bad {ts : List Tm.T} {f : Tm.F} (h : Tm.oneT ts = .error f) : f.2 ≠ 0 := by
  unfold Tm.oneT at h
  cases hfb : Tm.firstBad (Tm.cut ts) with
  | some g =>
    rw [hfb] at h
    cases h
    exact Tm.firstBad_code hfb
  | none =>
    rw [hfb] at h
    dsimp only at h
    cases hr : Tm.read (Tm.cut ts) (Tm.endTok ts) Tm.start with
    | error x => rw [hr] at h; cases h; exact Tm.loop_bad _ (by unfold Tm.read at hr; exact hr)
    | ok s =>
      rw [hr] at h
      dsimp only at h
      split at h
      · split at h
        · cases h; exact (by decide : (6 : Int) ≠ 0)
        · cases h
      · cases h; exact Tm.refusal_bad _
set_option maxRecDepth 100000 in
set_option maxHeartbeats 4000000 in
theorem brackets_any (v : Value) (ts : List Tm.T) {κ0 : Nat → Nat} (w : World) (hn : ts.length ≤ 9223372036854775807) (hsz : ∀ t ∈ ts, t.2.1.length ≤ 140737488355328) (hT : TokR w κ0 v ts) (hG : Glob w) :
    Calls Tryz.prog 7 #[v] w fun e w' => e = .returned (.bool true) ∧ Below w.heap.size w w' := by
  have hgl := hG.lt
  cases hlg : Tm.lng ts
  · obtain ⟨hn3, hs2⟩ := Tm.lng_small hlg
    have hs6 : ∀ t ∈ ts, t.2.1.length ≤ 65536 := fun t ht => Nat.le_trans (hs2 t ht) (by omega)
    cases hone : Tm.oneT ts with
    | ok t => exact brackets_ok v ts w hn3 hs2 hT hG hlg t hone (by have := Tm.oneT_siz hs6 hone; omega)
    | error f =>
      have hc := Tm.oneT_bad hone
      have HLG := Lib.hid hlg
      have HT := Lib.hid hT
      have HS6 := Lib.hid hs6
      have HSZ := Lib.hid hsz
      have HG := Lib.hid hG
      have HONE := Lib.hid hone
      obtain ⟨fa, fc⟩ := f
      have hc2 : (fc == 0) = false := beq_eq_false_iff_ne.2 hc
      have hc3 : (fc != 0) = true := by simpa using hc
      obtain ⟨A, cap, rfl, hcap, hi⟩ := hT
      clear hi hlg hs6 hsz hG hone
      go_enter Tryz.func7, Tryz.ntmps7
      go_wp2_with fail
      refine (long_any _ ts w (by omega) HSZ.out HT.out).mono ?_
      rintro e w1 ⟨rfl, hB1⟩
      rw [HLG.out]
      have HB1 := Lib.hid hB1
      clear hB1
      go_wp2_with fail
      refine (One_any _ ts w1 (by omega) (HT.out.kept (.below HB1.out)) HS6.out (HG.out.below HB1.out hgl)).mono ?_
      rintro e w2 ⟨hB2, T, A2, n2, c2, a, c, rfl, hO⟩
      rw [HONE.out] at hO
      obtain ⟨rfl, -, rfl, rfl⟩ := hO
      have HB2 := Lib.hid (HB1.out.trans (hB2.mono HB1.out.size))
      have hww : w.heap.size ≤ w2.heap.size := HB2.out.size
      clear hB2 hc
      go_upto_region 4 with (fail)
      have hBn := ((Below.refl w2.heap.size w2).alloc (Nat.le_refl _) (.cells #[.int .i64 Tm.zero.kind, .string ⟨Tm.zero.name.toArray⟩, .int .i64 Tm.zero.num, .slice A2 n2 c2, .int .i64 Tm.zero.at_] 32)).alloc (by simp) (.cells #[.int .i64 a, .int .i64 c] 26)
      have HBN := Lib.hid (HB2.out.trans (hBn.mono hww))
      have hbf := Blk.new (w2.alloc (.cells #[.int .i64 Tm.zero.kind, .string ⟨Tm.zero.name.toArray⟩, .int .i64 Tm.zero.num, .slice A2 n2 c2, .int .i64 Tm.zero.at_] 32)) 26 #[.int .i64 a, .int .i64 c]
      rw [World.size_alloc] at hbf
      have HBF := Lib.hid hbf
      generalize hW : ((w2.alloc (.cells #[.int .i64 Tm.zero.kind, .string ⟨Tm.zero.name.toArray⟩, .int .i64 Tm.zero.num, .slice A2 n2 c2, .int .i64 Tm.zero.at_] 32)).alloc (.cells #[.int .i64 a, .int .i64 c] 26)) = W at *
      have f1 : W.cell? ⟨w2.heap.size + 1, 1, none⟩ = some (.int .i64 c) := by simpa using HBF.out.cell 1
      clear hW hBn hbf
      go_wp2_with fail
      refine (awake_any _ (HG.out.below HBN.out hgl)).mono ?_
      rintro e9 w9 ⟨rfl, hB9⟩
      have HB9 := Lib.hid (HBN.out.trans (hB9.mono HBN.out.size))
      clear hB9
      go_wp2_with fail
      go_ret
      exact ⟨rfl, HB9.out⟩
  · have HLG := Lib.hid hlg
    go_enter Tryz.func7, Tryz.ntmps7
    go_wp2_with fail
    refine (long_any _ ts w hn hsz hT).mono ?_
    rintro e w1 ⟨rfl, hB1⟩
    rw [HLG.out]
    have HB1 := Lib.hid hB1
    clear hB1
    go_wp2_with fail
    refine (awake_any _ (hG.below HB1.out hgl)).mono ?_
    rintro e w2 ⟨rfl, hB2⟩
    have HB2 := Lib.hid (HB1.out.trans (hB2.mono HB1.out.size))
    clear hB2
    go_wp2_with fail
    go_ret
    exact ⟨rfl, HB2.out⟩
end Go.Proofs.YtaefonagbcnmdaaGreatDoor
namespace Go.Proofs.YtaefonagbcnmdaaGreatDoor
open Go.ChangeShapes Go.WideShapes Go.Deep Go.RowKit

theorem weightsAll_in {H : Type} {P : Program} {e : TypeId} {x : DataW H} {n : Nat} : ∀ {l : List (DataW H)}, x ∈ l → n ∈ x.weights P e → n ∈ DataW.weightsAll P e l
  | [], h, _ => by cases h
  | a :: r, h, hn => by
    simp only [DataW.weightsAll, List.mem_append]
    rcases List.mem_cons.1 h with rfl | h
    · exact .inl hn
    · exact .inr (weightsAll_in h hn)
set_option maxRecDepth 100000 in
/-- An argument that is a slice of tokens. -/
theorem open_toks {H : Type} {enc : TypeId × Value → H} {w : World} {v : Value} {d : DataW H} {p : List MemPlace} (hv : Value.okWide Tryz.prog w .any 0 43 v) (h : DataW.Trod enc Tryz.prog w 0 (fun _ => true) true 43 v d p) :
    ∃ (ts : List Tm.T), TokR w (fun _ => 0) v ts ∧ ts.length ≤ maxLen ∧ (∀ t ∈ ts, t.2.1.length ∈ d.weights Tryz.prog 43) := by
  obtain ⟨fuel, hf⟩ := h
  obtain ⟨A, len, cap, rfl⟩ := okWide_slice Tryz.underlying43 hv
  rcases open_slice_fields Tryz.underlying43 Tryz.underlying48 (by kernel_rfl) (by kernel_rfl) hf with ⟨hcs, hx⟩ | ⟨a, len', cap', m, D, Pl, hcs, _, hl, hm, hmm, hx, hi⟩
  · simp [Value.cells] at hcs
    obtain ⟨rfl, rfl, rfl⟩ := hcs
    refine ⟨[], ⟨none, 0, rfl, Nat.le_refl _, ?_⟩, Nat.zero_le _, ?_⟩
    · intro i t ht; simp at ht
    · intro t ht; cases ht
  · simp [Value.cells] at hcs
    obtain ⟨rfl, rfl, rfl⟩ := hcs
    have hml : len ≤ m := by rw [hmm]; simp; exact hl
    have hf2 : ∀ i, i < len → ∃ x : Int × ByteArray × Int, x.2.1.data.toList.length ∈ (D i).weights Tryz.prog 48 ∧ w.cell? (a.add (i * 3 + 0)) = some (.int .i64 x.1) ∧ w.cell? (a.add (i * 3 + 1)) = some (.string x.2.1) ∧ w.cell? (a.add (i * 3 + 2)) = some (.int .i64 x.2.2) := by
      intro i hlt
      obtain ⟨ys, n, hD, _, hyl, hfs⟩ := hi i (by omega)
      obtain ⟨v0, y0, hc0, _, ht0⟩ := hfs 0 _ rfl
      obtain ⟨v1, y1, hc1, hy1, ht1⟩ := hfs 1 _ rfl
      obtain ⟨v2, y2, hc2, _, ht2⟩ := hfs 2 _ rfl
      obtain ⟨k, e0, _, _⟩ := DataW.trod_int Tryz.underlying3 ht0
      obtain ⟨s, e1, hs1, ws⟩ := DataW.trod_string Tryz.underlying9 ht1
      obtain ⟨q, e2, _, _⟩ := DataW.trod_int Tryz.underlying3 ht2
      simp at e0 e1 e2
      subst e0 e1 e2
      refine ⟨(k, s, q), ?_, hc0, hc1, hc2⟩
      subst hs1
      have hj : (ys.map (·.1))[1]? = some (DataW.lit (.string s.data.toList)) := by rw [List.getElem?_map, hy1]; rfl
      rw [hD]
      simp only [DataW.weights, Tryz.underlying48]
      exact DataW.weights_mem_each (j := 1) rfl hj _ (by simp [DataW.weights])
    obtain ⟨f, hff⟩ := pick_all hf2
    have hlen : ((List.range len).map fun i => (((f i).1, (f i).2.1.data.toList, (f i).2.2) : Tm.T)).length = len := by simp
    refine ⟨(List.range len).map fun i => ((f i).1, (f i).2.1.data.toList, (f i).2.2), ⟨some a, cap, by rw [hlen], by rw [hlen]; exact hl, fun i t ht => ?_⟩, by rw [hlen]; omega, fun t ht => ?_⟩
    · have hlt : i < len := by have := (List.getElem?_eq_some_iff.1 ht).1; rwa [hlen] at this
      rw [List.getElem?_map, List.getElem?_range hlt] at ht
      obtain rfl : ((f i).1, (f i).2.1.data.toList, (f i).2.2) = t := by simpa using ht
      obtain ⟨_, h0, h1, h2⟩ := hff i hlt
      have hsp : a.spot = none := by
        have h00 := (hff 0 (by omega)).2.1
        exact World.cell?_spot (show w.cell? a = _ from h00)
      obtain ⟨g, o, sp⟩ := a
      obtain rfl : sp = none := hsp
      rw [add_none] at h0 h1 h2
      exact ⟨g, o, rfl, cell_lt h0, rfl, h0, by rw [bytes_back, Nat.add_assoc]; exact h1, by rw [Nat.add_assoc]; exact h2⟩
    · obtain ⟨i, hi2, rfl⟩ := List.mem_map.1 ht
      have hin : i < len := by simpa using hi2
      have h1 := (hff i hin).1
      have hd : d = DataW.slice ((List.range len).map D) ((List.range (m - len)).map fun j => D (len + j)) := by
        simp only [Prod.mk.injEq] at hx; exact hx.1
      rw [hd]
      simp only [DataW.weights, Tryz.underlying43, List.mem_cons, List.mem_append]
      exact .inr (.inl (weightsAll_in (List.mem_map.2 ⟨i, by simpa using hin, rfl⟩) h1))
end Go.Proofs.YtaefonagbcnmdaaGreatDoor
