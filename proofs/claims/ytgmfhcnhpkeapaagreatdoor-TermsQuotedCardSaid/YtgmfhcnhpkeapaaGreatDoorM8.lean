import Derived.Test.YtgmfhcnhpkeapaaGreatDoorM5
import Derived.Laws.Small
import Derived.Test.YtgmfhcnhpkeapaaGreatDoorM6
import Derived.Test.YtgmfhcnhpkeapaaGreatDoorM7
set_option linter.unusedSimpArgs false
set_option linter.unusedVariables false
namespace Go.Proofs.YtgmfhcnhpkeapaaGreatDoor
open Go.RowKit Go.Shelf
attribute [local go_sem] Oper.semAt_some

mutual
theorem Tm.walk_len : ∀ (t : Tm) (l : Int), (Tm.walk t l).length = Tm.siz t
  | .mk k n m ts p, l => by rw [Tm.walk, List.length_cons, Tm.walks_len, Tm.siz]; omega
theorem Tm.walks_len : ∀ (c : Bool) (l : Int) (i : Nat) (ts : List Tm), (Tm.walks c l i ts).length = Tm.sizs ts
  | c, l, i, [] => by rw [Tm.walks, Tm.sizs]; rfl
  | c, l, i, a :: ts => by rw [Tm.walks, List.length_append, Tm.walk_len, Tm.walks_len, Tm.sizs]
end
set_option maxRecDepth 100000 in
set_option maxHeartbeats 2000000 in
theorem Size_any (t : Tm) (v : Value) {κ : Nat → Nat} (w : World) (hv : Targs w κ v t.args) (hsz : Tm.siz t ≤ 1099511627776) :
    Calls Tryz.prog 20 #[.agg #[.int .i64 t.kind, .string ⟨t.name.toArray⟩, .int .i64 t.num, v, .int .i64 t.at_]] w fun e w' => e = .returned (.int .i64 (Tm.siz t)) ∧ Below w.heap.size w w' := by
  refine (callsIn_wide (n := 3)).1 ?_
  refine callsIn_of_wp_marks Tryz.func20 rfl trivial ?_ rfl
  simp only [Tryz.ntmps20, List.size_toArray, List.length_cons, List.length_nil, Nat.reduceAdd, Nat.reduceSub, Array.replicate_succ, Array.replicate_zero, List.push_toArray, List.append_toArray, List.nil_append, List.cons_append]
  gi_wp2_with (refine ⟨trivial, ?_⟩; gi_at_call 36; refine (callsIn_wide.2 (all_any _ _ _ _ _ _)).mono ?_; rintro e w' ⟨rfl, rfl⟩)
  obtain ⟨w2, hw2⟩ : ∃ w2, ((w.alloc (.cells #[.int .i64 t.kind, .string ⟨t.name.toArray⟩, .int .i64 t.num, v, .int .i64 t.at_] 32)).alloc (.cells #[.int .i64 0] 3)) = w2 := ⟨_, rfl⟩
  have hz2 : w2.heap.size = w.heap.size + 1 + 1 := by rw [← hw2]; simp
  have hB2 : Below w.heap.size w w2 := by rw [← hw2]; exact ((Below.refl _ w).alloc (Nat.le_refl _) _).alloc (by simp) _
  have k2 : Blk w2 (w.heap.size + 1) 3 #[.int .i64 0] := by
    have := Blk.new (w.alloc (.cells #[.int .i64 t.kind, .string ⟨t.name.toArray⟩, .int .i64 t.num, v, .int .i64 t.at_] 32)) 3 #[.int .i64 0]
    rw [hw2, World.size_alloc] at this
    exact this
  have hta := aged_term hv hB2 (by omega)
  rw [hw2, ← hz2]
  have HZ2 := Lib.hid hz2
  have hz3 : w.heap.size + 2 ≤ w2.heap.size := by omega
  clear hw2 hz2
  refine range_all t w2.heap.size (w.heap.size + 1) 3 (aged w κ w2.heap.size) w (w2.alloc _) (fun r c => ∃ d : Int, c = .int .i64 d ∧ d + r.length = Tm.siz t ∧ 0 ≤ d) (fun _ => False) (.int .i64 0) rfl ?k1 hta (if_pos (.inl rfl)) hsz (k2.alloc _) (by omega) ⟨0, rfl, by rw [Tm.walk_len]; simp, Int.le_refl _⟩ (hB2.alloc (by omega) _) rfl
    (fun lv x v' => { tmps := #[.agg #[.int .i64 t.kind, .string ⟨t.name.toArray⟩, .int .i64 t.num, v, .int .i64 t.at_], .pointer (some ⟨w.heap.size, 0, none⟩), .int .i64 0, .pointer (some ⟨w.heap.size + 1, 0, none⟩), .agg #[.int .i64 t.kind, .string ⟨t.name.toArray⟩, .int .i64 t.num, v, .int .i64 t.at_],
      .func (.func 63) #[] #[.pointer (some ⟨w2.heap.size, 0, none⟩)], .int .i64 lv, .agg #[.int .i64 x.kind, .string ⟨x.name.toArray⟩, .int .i64 x.num, v', .int .i64 x.at_], undef, undef, undef], defers := [] }) ?assign ?body ?done ?stop
  case k1 =>
    intro b hb
    rw [World.size_alloc]
    rcases aged_zero hb with rfl | ⟨h, _⟩ <;> omega
  case assign =>
    clear hta k2 hB2 hv
    intro l lv x v' W Kc hK
    gi_wp2
    simpa using hK
  case body =>
    clear hta k2 hB2 hv
    rintro l lv x v' c r W ⟨d, rfl, hd, hd0⟩ hb _ hs hB
    have hd1 : d < 1099511627776 := by rw [List.length_cons] at hd; omega
    have hc := hb.cell 0
    have hf := hb.frozen 0
    simp at hc
    rw [World.size_alloc] at hs
    have HB := Lib.hid hb
    have HD := Lib.hid hd
    clear hb hd
    gi_wp2
    exact ⟨.int .i64 (d + 1), by simpa using HB.out.put 0 (.int .i64 (d + 1)), ⟨by simp, fun b hb hne => Below.heap_setCell _ _ _ _ hne⟩, (Below.refl _ W).setCell (by simp) _, d + 1, rfl, by have := HD.out; rw [List.length_cons] at this; omega, by omega⟩
  case done =>
    clear hta k2 hB2 hv
    rintro c W ⟨d, rfl, hd, hd0⟩ hb hB hD
    have hd' : d = Tm.siz t := by simpa using hd
    subst hd'
    have hc := hb.cell 0
    have hf := hb.frozen 0
    simp at hc
    rw [World.size_alloc] at hD ⊢
    have hb' := hb.putObj (.deferred none) (show w.heap.size + 1 ≠ w2.heap.size + 1 by omega)
    have hB' := below_putObj hB (w2.heap.size + 1) (.deferred none) (by omega)
    gi_wp2
    refine ⟨by simp, .inl ⟨_, _, rfl, run_takeDeferred hD, ?_⟩⟩
    exact ⟨.int .i64 (Tm.siz t), by simp [results, Tryz.results20, go_sem], rfl, hB'⟩
  case stop =>
    intro c W h
    exact h.elim
end Go.Proofs.YtgmfhcnhpkeapaaGreatDoor

namespace Go.Proofs.YtgmfhcnhpkeapaaGreatDoor
open Go.RowKit

theorem Tm.sizs_drop {l : List Tm} {k : Nat} {t : Tm} (h : l[k]? = some t) : Tm.sizs (l.drop k) = Tm.siz t + Tm.sizs (l.drop (k + 1)) := by
  obtain ⟨hk, rfl⟩ := List.getElem?_eq_some_iff.1 h
  rw [List.drop_eq_getElem_cons hk, Tm.sizs]
set_option maxRecDepth 100000 in
set_option maxHeartbeats 4000000 in
theorem rSize_any (N : Nat) : ∀ (ta : Tm) (va : Value) (κ : Nat → Nat) (w : World), Tm.siz ta < N → Targs w κ va ta.args → Tm.siz ta ≤ 1099511627776 →
    Calls Tryz.prog 21 #[.agg #[.int .i64 ta.kind, .string ⟨ta.name.toArray⟩, .int .i64 ta.num, va, .int .i64 ta.at_]] w fun e w' => e = .returned (.int .i64 (Tm.siz ta)) ∧ Below w.heap.size w w' := by
  induction N with
  | zero => intro ta va κ w h; omega
  | succ N ih =>
    intro ta va κ w hN ha hsz
    obtain ⟨A1, k1, rfl⟩ := ha.form
    have hB0 : Below w.heap.size w (w.alloc (.cells #[.int .i64 ta.kind, .string ⟨ta.name.toArray⟩, .int .i64 ta.num, .slice A1 ta.args.length k1, .int .i64 ta.at_] 32)) := (Below.refl _ w).alloc (Nat.le_refl _) _
    have hs2 := Tm.siz_eq ta
    have hal := Tm.sizs_len ta.args
    have b1 := Blk.new w 32 #[.int .i64 ta.kind, .string ⟨ta.name.toArray⟩, .int .i64 ta.num, .slice A1 ta.args.length k1, .int .i64 ta.at_]
    have HA := Lib.hid (ha.kept (.below hB0))
    have HB0 := Lib.hid hB0
    have HIH := Lib.hid ih
    have HB1 := Lib.hid b1
    obtain ⟨S, hS⟩ : ∃ S, Tm.siz ta = S := ⟨_, rfl⟩
    rw [hS] at hs2 hN hsz ⊢
    have HS2 := Lib.hid hs2
    have hub : ta.args.length ≤ 1099511627776 := by omega
    clear ih ha hB0 b1 hS
    go_enter Tryz.func21, Tryz.ntmps21
    go_wp2_with fail
    generalize hw2 : (w.alloc (.cells #[.int .i64 ta.kind, .string ⟨ta.name.toArray⟩, .int .i64 ta.num, .slice A1 ta.args.length k1, .int .i64 ta.at_] 32)) = w2 at *
    clear hw2 hs2
    go_loopw [3, 4] (fun nv i wr => ∃ k n : Nat, nv = .int .i64 n ∧ i = .int .i64 k ∧ k ≤ ta.args.length ∧ Hid (Below w2.heap.size w2 wr) ∧ Hid (n + Tm.sizs (ta.args.drop k) = S)) (fun _ i _ => ta.args.length - (intOf i).toNat)
    case atStart => exact ⟨0, 1, by go_num, by go_num, Nat.zero_le _, Lib.hid (Below.refl _ _), Lib.hid (by rw [List.drop_zero]; exact HS2.out.symm)⟩
    case round =>
      obtain ⟨k, n, rfl, rfl, hk, HBW, HD⟩ := hrel
      have hb1 := HB1.out.below HBW.out HB1.out.lt
      have e3 : wr.cell? ⟨w.heap.size, 3, none⟩ = some (.slice A1 ta.args.length k1) := by simpa using hb1.cell 3
      have HBX := Lib.hid (HB0.out.trans (HBW.out.mono HB0.out.size))
      have hnS : n ≤ S := by have := HD.out; omega
      by_cases hkl : k < ta.args.length
      · obtain ⟨t, ht⟩ : ∃ t, ta.args[k]? = some t := ⟨_, List.getElem?_eq_getElem hkl⟩
        obtain ⟨g, o, a, hA, hcap, hg, hkg, hta, c0, c1, c2, c3, c4⟩ := (HA.out.kept (.below HBW.out)).elem ht
        subst hA
        obtain ⟨A3, k3, rfl⟩ := hta.form
        have hst := Tm.sizs_get ht
        have HIC := Lib.hid (HIH.out t _ κ wr (by have := HS2.out; omega) hta (by have := HS2.out; omega))
        have HDR := Lib.hid (Tm.sizs_drop ht)
        have hk2 : (k : Int) < (ta.args.length : Int) := by omega
        have hk0 : (0 : Int) ≤ (k : Int) := by omega
        have hnt : n + Tm.siz t ≤ S := by have h1 := HD.out; have h2 := HDR.out; omega
        clear hta hkg hst ht hb1
        go_wp2_with fail
        refine HIC.out.mono ?_
        rintro e w5 ⟨rfl, hB5⟩
        have HB5 := Lib.hid hB5
        clear hB5
        go_wp2_with fail
        go_roundw
        case rel => exact ⟨k + 1, n + Tm.siz t, by go_num, by go_num, by omega, Lib.hid (HBW.out.trans (HB5.out.mono HBW.out.size)), Lib.hid (by have h1 := HD.out; have h2 := HDR.out; omega)⟩
        case measure => simp [intOf]; omega
      · have hres : n = S := by
          have := HD.out
          rw [List.drop_of_length_le (by omega), Tm.sizs] at this
          omega
        have HM := Lib.hid hres
        have hk3 : ¬ (k : Int) < (ta.args.length : Int) := by omega
        clear hres hb1
        go_wp2_with fail
        go_ret
        exact ⟨by rw [← HM.out]; rfl, HBX.out⟩
end Go.Proofs.YtgmfhcnhpkeapaaGreatDoor

namespace Go.Proofs.YtgmfhcnhpkeapaaGreatDoor
open Go.RowKit

/-! The nesting, as the reference reckons it. -/
mutual
def Tm.dep : Tm → Int
  | .mk k n m ts a => Tm.deps (Tm.isChain (.mk k n m ts a)) 0 ts
def Tm.deps (c : Bool) : Nat → List Tm → Int
  | _, [] => 1
  | i, a :: ts => max (Tm.dep a + (if i == 1 && c then 0 else 1)) (Tm.deps c (i + 1) ts)
end
theorem Tm.dep_eq (t : Tm) : Tm.dep t = Tm.deps (Tm.isChain t) 0 t.args := by cases t; rw [Tm.dep]; rfl
theorem Tm.deps_pos (c : Bool) : ∀ (i : Nat) (l : List Tm), 1 ≤ Tm.deps c i l
  | _, [] => by rw [Tm.deps]; exact Int.le_refl _
  | i, a :: l => by rw [Tm.deps]; have := Tm.deps_pos c (i + 1) l; omega
theorem Tm.dep_pos (t : Tm) : 1 ≤ Tm.dep t := by rw [Tm.dep_eq]; exact Tm.deps_pos _ _ _
theorem Tm.deepest_append (a b : List (Int × Tm)) (d : Int) : Tm.deepest (a ++ b) d = Tm.deepest b (Tm.deepest a d) := by
  induction a generalizing d with
  | nil => rfl
  | cons e es ih => rw [List.cons_append, Tm.deepest, ih, Tm.deepest]
mutual
theorem Tm.deepest_walk : ∀ (t : Tm) (l d : Int), Tm.deepest (Tm.walk t l) d = max d (l - 1 + Tm.dep t)
  | .mk k n m ts a, l, d => by
    rw [Tm.walk, Tm.deepest, Tm.deepest_walks _ _ _ _ _ (by show l ≤ max d l; omega), Tm.dep]
    have := Tm.deps_pos (Tm.isChain (.mk k n m ts a)) 0 ts
    show max (max d l) _ = _
    omega
theorem Tm.deepest_walks : ∀ (c : Bool) (l : Int) (i : Nat) (ts : List Tm) (e : Int), l ≤ e → Tm.deepest (Tm.walks c l i ts) e = max e (l - 1 + Tm.deps c i ts)
  | c, l, i, [], e, h => by rw [Tm.walks, Tm.deepest, Tm.deps]; omega
  | c, l, i, a :: ts, e, h => by
    rw [Tm.walks, Tm.deepest_append, Tm.deepest_walk, Tm.deepest_walks c l (i + 1) ts _ (by omega), Tm.deps, Tm.lvl]
    split <;> omega
end
theorem Tm.depth_dep (t : Tm) : Tm.depth t = Tm.dep t := by
  unfold Tm.depth
  rw [Tm.deepest_walk]
  have := Tm.dep_pos t
  omega
/-- The greatest nesting among terms, each one deeper. -/
def Tm.dargs : List Tm → Int
  | [] => 1
  | a :: l => max (Tm.dep a + 1) (Tm.dargs l)
theorem Tm.deps_plain : ∀ (i : Nat) (l : List Tm), Tm.deps false i l = Tm.dargs l
  | _, [] => by rw [Tm.deps, Tm.dargs]
  | i, a :: l => by rw [Tm.deps, Tm.dargs, Tm.deps_plain (i + 1) l, Bool.and_false]; rfl
theorem Tm.dargs_drop {l : List Tm} {k : Nat} {t : Tm} (h : l[k]? = some t) : Tm.dargs (l.drop k) = max (Tm.dep t + 1) (Tm.dargs (l.drop (k + 1))) := by
  obtain ⟨hk, rfl⟩ := List.getElem?_eq_some_iff.1 h
  rw [List.drop_eq_getElem_cons hk, Tm.dargs]
theorem Tm.dep_chain {t x y : Tm} (h : Tm.isChain t = true) (ha : t.args = [x, y]) : Tm.dep t = max (Tm.dep x + 1) (Tm.dep y) := by
  rw [Tm.dep_eq, h, ha, Tm.deps, Tm.deps, Tm.deps]
  have := Tm.dep_pos y
  simp
  omega
theorem Tm.dep_plain {t : Tm} (h : Tm.isChain t = false) : Tm.dep t = Tm.dargs t.args := by rw [Tm.dep_eq, h, Tm.deps_plain]
theorem Tm.chain_two {t : Tm} (h : Tm.isChain t = true) : ∃ x y, t.args = [x, y] := by
  unfold Tm.isChain at h
  simp only [Bool.and_eq_true, beq_iff_eq] at h
  match ht : t.args, h.1.2 with
  | [x, y], _ => exact ⟨x, y, rfl⟩
mutual
theorem Tm.dep_siz : ∀ (t : Tm), Tm.dep t ≤ Tm.siz t
  | .mk k n m ts a => by rw [Tm.dep, Tm.siz]; have := Tm.deps_siz (Tm.isChain (.mk k n m ts a)) 0 ts; omega
theorem Tm.deps_siz : ∀ (c : Bool) (i : Nat) (ts : List Tm), Tm.deps c i ts ≤ 1 + Tm.sizs ts
  | c, i, [] => by rw [Tm.deps, Tm.sizs]; omega
  | c, i, a :: ts => by
    rw [Tm.deps, Tm.sizs]
    have h1 := Tm.dep_siz a
    have h2 := Tm.deps_siz c (i + 1) ts
    have h3 := Tm.siz_pos a
    split <;> omega
end
end Go.Proofs.YtgmfhcnhpkeapaaGreatDoor

namespace Go.Proofs.YtgmfhcnhpkeapaaGreatDoor
open Go.RowKit

def Tm.links : List (List UInt8) := [[44], [59], [38], [91, 124, 93]]
theorem Tm.chain_name (t : Tm) : Tm.isChain t = (t.kind == 4 && t.args.length == 2 && decide (t.name ∈ Tm.links)) := by
  unfold Tm.isChain Tm.links
  congr 1
  rw [Bool.eq_iff_iff]
  simp [or_assoc]
set_option maxRecDepth 100000 in
set_option maxHeartbeats 2000000 in
theorem rchain_any (t : Tm) (A : Option Addr) (c : Nat) (w : World) :
    Calls Tryz.prog 39 #[.agg #[.int .i64 t.kind, .string ⟨t.name.toArray⟩, .int .i64 t.num, .slice A t.args.length c, .int .i64 t.at_]] w fun e w' => e = .returned (.bool (Tm.isChain t)) ∧ Below w.heap.size w w' := by
  rw [Tm.chain_name]
  have hB : Below w.heap.size w ((w.alloc (.cells #[.int .i64 t.kind, .string ⟨t.name.toArray⟩, .int .i64 t.num, .slice A t.args.length c, .int .i64 t.at_] 32)).alloc (.cells #[.string ⟨#[44]⟩, .string ⟨#[59]⟩, .string ⟨#[38]⟩, .string ⟨#[91, 124, 93]⟩] 9)) := ((Below.refl _ w).alloc (Nat.le_refl _) _).alloc (by simp) _
  have HB := Lib.hid hB
  have hS := StrsR.of_blk (l := Tm.links) (Blk.new (w.alloc (.cells #[.int .i64 t.kind, .string ⟨t.name.toArray⟩, .int .i64 t.num, .slice A t.args.length c, .int .i64 t.at_] 32)) 9 (Tm.links.map fun s => Value.string ⟨s.toArray⟩).toArray)
  rw [World.size_alloc] at hS
  have HAM := Lib.hid (among_any _ Tm.links ⟨t.name.toArray⟩ _ hS (by decide))
  clear hB hS
  have hl : (t.args.length == 2) = ((t.args.length : Int) == 2) := by
    rw [Bool.eq_iff_iff, beq_iff_eq, beq_iff_eq]
    omega
  rw [hl]
  rw [str_list] at HAM
  clear hl
  obtain ⟨D, hD⟩ : ∃ D, decide (t.name ∈ Tm.links) = D := ⟨_, rfl⟩
  rw [hD] at HAM ⊢
  clear hD
  cases hk : (t.kind == 4)
  · go_enter Tryz.func39, Tryz.ntmps39
    go_wp2_with fail
    go_ret
    exact ⟨rfl, (Below.refl _ w).alloc (Nat.le_refl _) _⟩
  · cases h2 : ((t.args.length : Int) == 2)
    · go_enter Tryz.func39, Tryz.ntmps39
      go_wp2_with fail
      go_ret
      exact ⟨rfl, (Below.refl _ w).alloc (Nat.le_refl _) _⟩
    · go_enter Tryz.func39, Tryz.ntmps39
      go_wp2_with fail
      refine HAM.out.mono ?_
      rintro e w5 ⟨rfl, rfl⟩
      go_wp2_with fail
      go_ret
      exact ⟨by simp, HB.out⟩
end Go.Proofs.YtgmfhcnhpkeapaaGreatDoor

namespace Go.Proofs.YtgmfhcnhpkeapaaGreatDoor
open Go.RowKit

/-- The reference's nesting between two rounds: the term at which it is lies in block B. -/
def DepI (κ : Nat → Nat) (w0 : World) (B : Nat) (R : Int) (m : Nat) (dv : Value) (w : World) : Prop :=
  ∃ (d : Int) (t : Tm) (v : Value), dv = .int .i64 d ∧ 1 ≤ d ∧ d ≤ 1099511627777 ∧ max d (Tm.dep t) = R ∧ Tm.siz t = m ∧ Targs w κ v t.args ∧ Below w0.heap.size w0 w ∧ Blk w B 32 #[.int .i64 t.kind, .string ⟨t.name.toArray⟩, .int .i64 t.num, v, .int .i64 t.at_]
set_option maxRecDepth 100000 in
set_option maxHeartbeats 4000000 in
theorem rDepth_any (N : Nat) : ∀ (ta : Tm) (va : Value) (κ : Nat → Nat) (w : World), Tm.siz ta < N → Targs w κ va ta.args → Tm.siz ta ≤ 1099511627776 →
    Calls Tryz.prog 19 #[.agg #[.int .i64 ta.kind, .string ⟨ta.name.toArray⟩, .int .i64 ta.num, va, .int .i64 ta.at_]] w fun e w' => e = .returned (.int .i64 (Tm.dep ta)) ∧ Below w.heap.size w w' := by
  induction N with
  | zero => intro ta va κ w h; omega
  | succ N ih =>
    intro ta va κ0 w hN ha0 hsz
    obtain ⟨R, hR⟩ : ∃ R, Tm.dep ta = R := ⟨_, rfl⟩
    rw [hR]
    -- what lies in front of the call's own blocks keeps its colour
    obtain ⟨κ, hκ⟩ : ∃ κ : Nat → Nat, κ = fun b => if b < w.heap.size ∧ κ0 b = 0 then 0 else 1 := ⟨_, rfl⟩
    have hkB : κ w.heap.size = 1 := by rw [hκ]; exact if_neg (by omega)
    have hkl : ∀ b, κ b = 0 → b < w.heap.size := by
      intro b hb
      rw [hκ] at hb
      simp only at hb
      split at hb
      · omega
      · cases hb
    have ha : Targs w κ va ta.args := ha0.recolor_lt (fun b hb hk => by rw [hκ]; exact if_pos ⟨hb, hk⟩)
    obtain ⟨A1, k1, rfl⟩ := ha.form
    have hB0 : Below w.heap.size w (w.alloc (.cells #[.int .i64 ta.kind, .string ⟨ta.name.toArray⟩, .int .i64 ta.num, .slice A1 ta.args.length k1, .int .i64 ta.at_] 32)) := (Below.refl _ w).alloc (Nat.le_refl _) _
    have hstart : DepI κ w w.heap.size R (Tm.siz ta) (.int .i64 1) (w.alloc (.cells #[.int .i64 ta.kind, .string ⟨ta.name.toArray⟩, .int .i64 ta.num, .slice A1 ta.args.length k1, .int .i64 ta.at_] 32)) :=
      ⟨1, ta, _, rfl, by omega, by omega, by have := Tm.dep_pos ta; omega, rfl, ha.kept (.below hB0), hB0, Blk.new _ _ _⟩
    have HS := Lib.hid hstart
    have HIH := Lib.hid ih
    have HKL := Lib.hid hkl
    have HKB := Lib.hid hkB
    clear ih ha ha0 hB0 hstart hkl hkB hκ hR
    go_enter Tryz.func19, Tryz.ntmps19
    go_wp2_with fail
    go_loopw [3] (fun dv wr => ∃ m, m ≤ Tm.siz ta ∧ DepI κ w w.heap.size R m dv wr) (fun dv wr => least (fun m => m ≤ Tm.siz ta ∧ DepI κ w w.heap.size R m dv wr))
    case atStart => exact ⟨_, Nat.le_refl _, HS.out⟩
    case round =>
      clear HS
      have hleast := least_spec hrel
      generalize hμ : least _ = μ at hleast
      have HMU := Lib.hid hμ
      clear hμ hrel
      obtain ⟨hms, d, t, v, rfl, hd1, hd2, hdr, hm, hv, hBw, hb⟩ := hleast
      obtain ⟨A, c, rfl⟩ := hv.form
      have HB := Lib.hid hb
      have HV := Lib.hid hv
      have HBW := Lib.hid hBw
      have HDR := Lib.hid hdr
      have HM := Lib.hid hm
      have hbl := hb.lt
      obtain ⟨c0, c1, c2, c3, c4⟩ : wr.cell? ⟨w.heap.size, 0, none⟩ = some (.int .i64 t.kind) ∧ wr.cell? ⟨w.heap.size, 1, none⟩ = some (.string ⟨t.name.toArray⟩) ∧ wr.cell? ⟨w.heap.size, 2, none⟩ = some (.int .i64 t.num) ∧ wr.cell? ⟨w.heap.size, 3, none⟩ = some (.slice A t.args.length c) ∧ wr.cell? ⟨w.heap.size, 4, none⟩ = some (.int .i64 t.at_) :=
        ⟨by simpa using hb.cell 0, by simpa using hb.cell 1, by simpa using hb.cell 2, by simpa using hb.cell 3, by simpa using hb.cell 4⟩
      clear hb hv hBw hdr hm
      cases hch : Tm.isChain t with
      | true =>
        obtain ⟨x, y, hxy⟩ := Tm.chain_two hch
        have hdc := Tm.dep_chain hch hxy
        have hsx : Tm.siz t = 1 + (Tm.siz x + Tm.siz y) := by rw [Tm.siz_eq, hxy, Tm.sizs, Tm.sizs, Tm.sizs]; omega
        have hlen : t.args.length = 2 := by rw [hxy]; rfl
        obtain ⟨g, o, a0, hA, hcap, hg, hkg, hta, x0, x1, x2, x3, x4⟩ := HV.out.elem (k := 0) (t := x) (by rw [hxy]; rfl)
        obtain ⟨g', o', a1, hA', -, -, hkg', htb, y0, y1, y2, y3, y4⟩ := HV.out.elem (k := 1) (t := y) (by rw [hxy]; rfl)
        subst hA
        rw [Option.some.injEq, Addr.mk.injEq] at hA'
        obtain ⟨rfl, rfl, -⟩ := hA'
        obtain ⟨A3, k3, rfl⟩ := hta.form
        obtain ⟨A4, k4, rfl⟩ := htb.form
        simp only [Nat.zero_mul, Nat.add_zero, Nat.one_mul] at x0 x1 x2 x3 x4 y0 y1 y2 y3 y4
        have hgw := HKL.out g hkg
        have HXY := Lib.hid hxy
        have HDC := Lib.hid hdc
        have HSX := Lib.hid hsx
        have hl2 : (1 : Int) < (t.args.length : Int) := by omega
        have HTA := Lib.hid hta
        have HTB := Lib.hid htb
        clear hxy hdc hsx hlen hta htb
        have HCH := Lib.hid (rchain_any t (some ⟨g, o, none⟩) c wr)
        go_wp2_with fail
        refine HCH.out.mono ?_
        rintro e w5 ⟨rfl, hB5⟩
        rw [hch]
        have HQ := Lib.hid hch
        clear hch
        have hb5 := HB.out.below hB5 hbl
        have e3 : w5.cell? ⟨w.heap.size, 3, none⟩ = some (.slice (some ⟨g, o, none⟩) t.args.length c) := by simpa using hb5.cell 3
        have X5 : ∀ j, w5.cell? ⟨g, j, none⟩ = wr.cell? ⟨g, j, none⟩ := fun j => hB5.cell (p := ⟨g, j, none⟩) hg
        rw [← X5] at x0 x1 x2 x3 x4 y0 y1 y2 y3 y4
        have hg5 : g < w5.heap.size := Nat.lt_of_lt_of_le hg hB5.size
        have HB5 := Lib.hid hb5
        have HBW5 := Lib.hid (HBW.out.trans (hB5.mono HBW.out.size))
        have HV5 := Lib.hid (HTB.out.kept (.below hB5))
        have hsxb : Tm.siz x < N ∧ Tm.siz x ≤ 1099511627776 := by have h1 := HSX.out; have h2 := HM.out; have h3 := Tm.siz_pos y; omega
        have HCX := Lib.hid (HIH.out x _ κ w5 hsxb.1 (HTA.out.kept (.below hB5)) hsxb.2)
        have hdx := Tm.dep_siz x
        have hdp := Tm.dep_pos x
        obtain ⟨dx, hdx0⟩ : ∃ dx, Tm.dep x = dx := ⟨_, rfl⟩
        rw [hdx0] at HCX HDC hdx hdp
        have hdx2 : dx ≤ 1099511627776 := by omega
        clear hB5 X5 hb5 hdx0 hdx hsxb
        go_wp2_with fail
        refine HCX.out.mono ?_
        rintro e w6 ⟨rfl, hB6⟩
        have hb6 := HB5.out.below hB6 HB5.out.lt
        obtain ⟨q0, q1, q2, q3, q4⟩ : w6.cell? ⟨w.heap.size, 0, none⟩ = some (.int .i64 t.kind) ∧ w6.cell? ⟨w.heap.size, 1, none⟩ = some (.string ⟨t.name.toArray⟩) ∧ w6.cell? ⟨w.heap.size, 2, none⟩ = some (.int .i64 t.num) ∧ w6.cell? ⟨w.heap.size, 3, none⟩ = some (.slice (some ⟨g, o, none⟩) t.args.length c) ∧ w6.cell? ⟨w.heap.size, 4, none⟩ = some (.int .i64 t.at_) :=
          ⟨by simpa using hb6.cell 0, by simpa using hb6.cell 1, by simpa using hb6.cell 2, by simpa using hb6.cell 3, by simpa using hb6.cell 4⟩
        have X6 : ∀ j, w6.cell? ⟨g, j, none⟩ = w5.cell? ⟨g, j, none⟩ := fun j => hB6.cell (p := ⟨g, j, none⟩) hg5
        rw [← X6] at y0 y1 y2 y3 y4
        have hg6 : g < w6.heap.size := Nat.lt_of_lt_of_le hg5 hB6.size
        have nf := hb6.frozen
        have hbl6 := hb6.lt
        have hgne : g ≠ w.heap.size := by omega
        have hgne' := hgne.symm
        have HB6 := Lib.hid hb6
        have HBW6 := Lib.hid (HBW5.out.trans (hB6.mono HBW5.out.size))
        have HV6 := Lib.hid (HV5.out.kept (.below hB6))
        clear hB6 X6 hb6 x0 x1 x2 x3 x4 e3
        have HFIN := Lib.hid (show ∀ d', 1 ≤ d' → d' = max d (dx + 1) → ∀ W, (Blk W w.heap.size 32 #[.int .i64 y.kind, .string ⟨y.name.toArray⟩, .int .i64 y.num, .slice A4 y.args.length k4, .int .i64 y.at_] ∧ Below w.heap.size w W ∧ w6.grownBy W (some w.heap.size)) → Tm.siz y ≤ Tm.siz ta ∧ DepI κ w w.heap.size R (Tm.siz y) (.int .i64 d') W from by
          rintro d' h1 h2 W ⟨h3, h4, h5⟩
          have h6 := HSX.out
          have h7 := HM.out
          have h8 := HDR.out
          have h9 := HDC.out
          refine ⟨by omega, d', y, _, rfl, h1, by omega, by omega, rfl, HV6.out.firm ⟨h5.size, fun b hb hb0 => h5.block b hb (fun e => ?_)⟩, h4, h3⟩
          rw [Option.some.injEq] at e
          rw [e, HKB.out] at hb0
          cases hb0)
        have HLT := Lib.hid (show Tm.siz y < μ by have h6 := HSX.out; have h7 := HM.out; have h8 := Tm.siz_pos x; omega)
        by_cases hlt : dx + 1 > d
        · go_wp2_with fail
          obtain ⟨W, hW, z1, z2, z3, -⟩ := Blk.term5 HB6.out y.kind ⟨y.name.toArray⟩ y.num (.slice A4 y.args.length k4) y.at_
          rw [hW]
          have hfin := HFIN.out (dx + 1) (by omega) (by omega) W ⟨z1, z3 _ _ HBW6.out (Nat.le_refl _), z2⟩
          exact ⟨⟨_, hfin⟩, Nat.lt_of_le_of_lt (least_le hfin) (Nat.lt_of_lt_of_eq HLT.out HMU.out.symm)⟩
        · go_wp2_with fail
          obtain ⟨W, hW, z1, z2, z3, -⟩ := Blk.term5 HB6.out y.kind ⟨y.name.toArray⟩ y.num (.slice A4 y.args.length k4) y.at_
          rw [hW]
          have hfin := HFIN.out d (by omega) (by omega) W ⟨z1, z3 _ _ HBW6.out (Nat.le_refl _), z2⟩
          exact ⟨⟨_, hfin⟩, Nat.lt_of_le_of_lt (least_le hfin) (Nat.lt_of_lt_of_eq HLT.out HMU.out.symm)⟩
      | false =>
        have hdp := Tm.dep_plain hch
        have hse := Tm.siz_eq t
        have hal := Tm.sizs_len t.args
        have hub : t.args.length ≤ 1099511627776 := by have := HM.out; omega
        have HDP := Lib.hid (show max d (Tm.dargs t.args) = R by rw [← hdp]; exact HDR.out)
        have HSE := Lib.hid (show Tm.sizs t.args + 1 ≤ Tm.siz ta by have := HM.out; omega)
        have HCH := Lib.hid (rchain_any t A c wr)
        clear hdp hse hal
        go_wp2_with fail
        refine HCH.out.mono ?_
        rintro e w5 ⟨rfl, hB5⟩
        rw [hch]
        have HQ := Lib.hid hch
        have HB5 := Lib.hid (HB.out.below hB5 hbl)
        have HBW5 := Lib.hid (HBW.out.trans (hB5.mono HBW.out.size))
        have HV5 := Lib.hid (HV.out.kept (.below hB5))
        clear hch hB5 c0 c1 c2 c3 c4
        go_wp2_with fail
        obtain ⟨wo, hwo⟩ : ∃ wo : World, wo = wr := ⟨_, rfl⟩
        go_loopw [3, 5] (fun dv i w6 => ∃ (k : Nat) (d' : Int), dv = .int .i64 d' ∧ i = .int .i64 k ∧ k ≤ t.args.length ∧ 1 ≤ d' ∧ d' ≤ 1099511627777 ∧ Hid (max d' (Tm.dargs (t.args.drop k)) = R) ∧ Hid (Below w5.heap.size w5 w6)) (fun _ i _ => t.args.length - (intOf i).toNat)
        case atStart => exact ⟨0, d, rfl, by go_num, Nat.zero_le _, hd1, hd2, HDP, Lib.hid (Below.refl _ _)⟩
        case round =>
          clear hwo
          obtain ⟨k, d', rfl, rfl, hk, hd1', hd2', HDD, HB6⟩ := hrel
          have hb6 := HB5.out.below HB6.out HB5.out.lt
          have e3 : wr.cell? ⟨w.heap.size, 3, none⟩ = some (.slice A t.args.length c) := by simpa using hb6.cell 3
          have HBX := Lib.hid (HBW5.out.trans (HB6.out.mono HBW5.out.size))
          by_cases hkl : k < t.args.length
          · obtain ⟨x, hx⟩ : ∃ x, t.args[k]? = some x := ⟨_, List.getElem?_eq_getElem hkl⟩
            obtain ⟨g, o, a, hA, hcap, hg, hkg, hta, x0, x1, x2, x3, x4⟩ := (HV5.out.kept (.below HB6.out)).elem hx
            subst hA
            obtain ⟨A3, k3, rfl⟩ := hta.form
            have hst := Tm.sizs_get hx
            have HIC := Lib.hid (HIH.out x _ κ wr (by have := HSE.out; omega) hta (by have := HSE.out; omega))
            have hdrop := Tm.dargs_drop hx
            have hdx := Tm.dep_siz x
            have hdp := Tm.dep_pos x
            have hsx : Tm.siz x ≤ 1099511627776 := by have := HSE.out; omega
            obtain ⟨dx, hdx0⟩ : ∃ dx, Tm.dep x = dx := ⟨_, rfl⟩
            rw [hdx0] at HIC hdrop hdx hdp
            have HDRP := Lib.hid hdrop
            have hdx2 : dx ≤ 1099511627776 := by omega
            have hk2 : (k : Int) < (t.args.length : Int) := by omega
            have hk0 : (0 : Int) ≤ (k : Int) := by omega
            clear hta hkg hst hx hb6 hdrop hdx0 hdx hsx
            go_wp2_with fail
            refine HIC.out.mono ?_
            rintro e w7 ⟨rfl, hB7⟩
            have HB7 := Lib.hid (HB6.out.trans (hB7.mono HB6.out.size))
            clear hB7
            by_cases hlt : dx + 1 > d'
            · go_wp2_with fail
              go_roundw
              case rel => exact ⟨k + 1, dx + 1, rfl, by go_num, by omega, by omega, by omega, Lib.hid (by have h1 := HDD.out; rw [HDRP.out] at h1; omega), HB7⟩
              case measure => simp [intOf]; omega
            · go_wp2_with fail
              go_roundw
              case rel => exact ⟨k + 1, d', rfl, by go_num, by omega, by omega, by omega, Lib.hid (by have h1 := HDD.out; rw [HDRP.out] at h1; omega), HB7⟩
              case measure => simp [intOf]; omega
          · have hres : d' = R := by
              have := HDD.out
              rw [List.drop_of_length_le (by omega), Tm.dargs] at this
              omega
            have HRES := Lib.hid hres
            have hk3 : ¬ (k : Int) < (t.args.length : Int) := by omega
            clear hres hb6
            go_wp2_with fail
            go_ret
            exact ⟨ret_int HRES.out, HBX.out⟩
end Go.Proofs.YtgmfhcnhpkeapaaGreatDoor

namespace Go.Proofs.YtgmfhcnhpkeapaaGreatDoor
open Go.RowKit

def Tm.isCh (n : Int) : Bool := n == 9 || (n == 10 || (decide (32 ≤ n) && decide (n ≤ 126)))
theorem isCharacter_any (n : Int) (w : World) :
    Calls Tryz.prog 66 #[.int .i64 n] w fun e w' => e = .returned (.bool (Tm.isCh n)) ∧ w' = w := by
  obtain ⟨R, hR⟩ : ∃ R, Tm.isCh n = R := ⟨_, rfl⟩
  rw [hR]
  have HR := Lib.hid hR
  clear hR
  go_enter Tryz.func66, Tryz.ntmps66
  go_wp2
  all_goals
    go_ret
    refine ⟨ret_bool ?_, rfl⟩
    rw [← HR.out, Bool.eq_iff_iff]
    simp [Tm.isCh]
    omega
theorem rcharacter_any (n : Int) (w : World) :
    Calls Tryz.prog 123 #[.int .i64 n] w fun e w' => e = .returned (.bool (Tm.isCh n)) ∧ w' = w := by
  obtain ⟨R, hR⟩ : ∃ R, Tm.isCh n = R := ⟨_, rfl⟩
  rw [hR]
  have HR := Lib.hid hR
  clear hR
  go_enter Tryz.func123, Tryz.ntmps123
  go_wp2
  all_goals
    go_ret
    refine ⟨ret_bool ?_, rfl⟩
    rw [← HR.out, Bool.eq_iff_iff]
    simp [Tm.isCh]
    omega
/-- Whether the fields that a kind does not use are zero. -/
def Tm.fields (t : Tm) : Bool :=
  let named := t.kind != 1 && t.kind != 2
  (named || t.name == []) && (!named || t.num == 0) && (t.kind == 4 || t.args.length == 0)
set_option maxRecDepth 100000 in
set_option maxHeartbeats 2000000 in
theorem hasFields_any (t : Tm) (A : Option Addr) (c : Nat) (w : World) :
    Calls Tryz.prog 65 #[.agg #[.int .i64 t.kind, .string ⟨t.name.toArray⟩, .int .i64 t.num, .slice A t.args.length c, .int .i64 t.at_]] w fun e w' => e = .returned (.bool (Tm.fields t)) ∧ Below w.heap.size w w' := by
  obtain ⟨R, hR⟩ : ∃ R, Tm.fields t = R := ⟨_, rfl⟩
  rw [hR]
  have HR := Lib.hid hR
  clear hR
  have hB : ∀ o : Obj, Below w.heap.size w (w.alloc o) := fun o => (Below.refl _ w).alloc (Nat.le_refl _) _
  obtain ⟨k, hk⟩ : ∃ k, t.kind = k := ⟨_, rfl⟩
  obtain ⟨n, hn⟩ : ∃ n, t.name = n := ⟨_, rfl⟩
  obtain ⟨m, hm⟩ : ∃ m, t.num = m := ⟨_, rfl⟩
  obtain ⟨l, hl⟩ : ∃ l, t.args.length = l := ⟨_, rfl⟩
  unfold Tm.fields at HR
  rw [hk, hn, hm, hl] at HR
  rw [hk, hn, hm, hl]
  clear hk hn hm hl
  go_enter Tryz.func65, Tryz.ntmps65
  go_wp2
  all_goals
    go_ret
    refine ⟨ret_bool ?_, hB _⟩
    rw [← HR.out, Bool.eq_iff_iff]
    clear HR hB
    first | (simp_all; done) | (simp_all; omega)
end Go.Proofs.YtgmfhcnhpkeapaaGreatDoor

namespace Go.Proofs.YtgmfhcnhpkeapaaGreatDoor
open Go.RowKit

/-- What is wrong with an application, without its arguments. -/
def Tm.appCode (t : Tm) : Int := if Tk.check 1 t.name = 2 then 2 else if Tm.suits t.name t.args = false then 2 else if Tm.maxArgs t.name t.args < t.args.length then 6 else Tk.check 1 t.name
set_option maxRecDepth 100000 in
set_option maxHeartbeats 4000000 in
theorem checkApplication_any (t : Tm) (v : Value) {κ : Nat → Nat} (w : World) (hv : Targs w κ v t.args) (hn : t.name.length ≤ 65536) (hl : t.args.length ≤ 1099511627776) (hG : Glob w) :
    Calls Tryz.prog 67 #[.agg #[.int .i64 t.kind, .string ⟨t.name.toArray⟩, .int .i64 t.num, v, .int .i64 t.at_]] w fun e w' => e = .returned (.int .i64 (Tm.appCode t)) ∧ Below w.heap.size w w' := by
  obtain ⟨A, c, rfl⟩ := hv.form
  have hgl := hG.lt
  have hB0 : Below w.heap.size w (w.alloc (.cells #[.int .i64 t.kind, .string ⟨t.name.toArray⟩, .int .i64 t.num, .slice A t.args.length c, .int .i64 t.at_] 32)) := (Below.refl _ w).alloc (Nat.le_refl _) _
  have HB0 := Lib.hid hB0
  have HCK := Lib.hid (check_any 1 ⟨t.name.toArray⟩ 0 _ (by simpa [ByteArray.size] using hn) (hG.below hB0 hgl))
  have HBK := Lib.hid (Blk.new w 32 #[.int .i64 t.kind, .string ⟨t.name.toArray⟩, .int .i64 t.num, .slice A t.args.length c, .int .i64 t.at_])
  have HV := Lib.hid (hv.kept (.below hB0))
  obtain ⟨e, he⟩ : ∃ e, Tk.check 1 t.name = e := ⟨_, rfl⟩
  rw [show ({ data := t.name.toArray } : ByteArray).data.toList = t.name from rfl, he] at HCK
  obtain ⟨R, hR⟩ : ∃ R, Tm.appCode t = R := ⟨_, rfl⟩
  rw [hR]
  unfold Tm.appCode at hR
  rw [he] at hR
  have HR := Lib.hid hR
  clear hv hG hB0 he hR
  go_enter Tryz.func67, Tryz.ntmps67
  go_wp2_with fail
  refine HCK.out.mono ?_
  rintro e' w1 ⟨rfl, hB1⟩
  have hb1 := HBK.out.below hB1 HBK.out.lt
  obtain ⟨c1, c3⟩ : w1.cell? ⟨w.heap.size, 1, none⟩ = some (.string ⟨t.name.toArray⟩) ∧ w1.cell? ⟨w.heap.size, 3, none⟩ = some (.slice A t.args.length c) := ⟨by simpa using hb1.cell 1, by simpa using hb1.cell 3⟩
  have HBW := Lib.hid (HB0.out.trans (hB1.mono HB0.out.size))
  have HV1 := HV.out.kept (.below hB1)
  have hsu := suits_any ⟨t.name.toArray⟩ _ t.args w1 HV1.head
  have hmx := fun n => maxArgs_any ⟨t.name.toArray⟩ _ t.args (w1.drewN n) (Targs.head (HV1.kept (.below (drewN_below (Below.refl _ w1) n))))
  rw [str_list] at hsu
  simp only [str_list] at hmx
  obtain ⟨S, hS⟩ : ∃ S, Tm.suits t.name t.args = S := ⟨_, rfl⟩
  obtain ⟨M, hM⟩ : ∃ M, Tm.maxArgs t.name t.args = M := ⟨_, rfl⟩
  rw [hS] at hsu HR
  rw [hM] at HR
  simp only [hM] at hmx
  have HMX := Lib.hid hmx
  clear hB1 hb1 HV1 hS hM hmx
  by_cases h2 : e = 2
  · have hb : (e == 2) = true := by rw [beq_iff_eq]; exact h2
    have HRR := Lib.hid (show R = 2 by rw [← HR.out, if_pos h2])
    clear h2 hsu
    go_wp2_with fail
    go_ret
    exact ⟨ret_int HRR.out.symm, HBW.out⟩
  · have hb : (e == 2) = false := by rw [beq_eq_false_iff_ne]; exact h2
    cases S with
    | false =>
      have HRR := Lib.hid (show R = 2 by rw [← HR.out, if_neg h2, if_pos rfl])
      clear h2
      go_wp2_with fail
      refine hsu.mono ?_
      rintro e' w2 ⟨rfl, rfl⟩
      go_wp2_with fail
      go_ret
      exact ⟨ret_int HRR.out.symm, HBW.out⟩
    | true =>
      have HR2 := Lib.hid (show R = if M < t.args.length then 6 else e by rw [← HR.out, if_neg h2, if_neg (by decide)])
      clear h2
      go_wp2_with fail
      refine hsu.mono ?_
      rintro e' w2 ⟨rfl, rfl⟩
      go_wp2_with fail
      by_cases hlt : M < t.args.length
      · have hlt2 : (M : Int) < (t.args.length : Int) := by omega
        have HRR := Lib.hid (show R = 6 by rw [HR2.out, if_pos hlt])
        go_quiet ((go_at_call 122; exact Calls.quiet_of_same ((HMX.out _).mono (fun _ _ hq => ⟨hq.1, hq.2.symm⟩))))
        go_wp2_with fail
        go_ret
        exact ⟨ret_int HRR.out.symm, drewN_below HBW.out _⟩
      · have hlt2 : ¬ (M : Int) < (t.args.length : Int) := by omega
        have HRR := Lib.hid (show R = e by rw [HR2.out, if_neg hlt])
        go_quiet ((go_at_call 122; exact Calls.quiet_of_same ((HMX.out _).mono (fun _ _ hq => ⟨hq.1, hq.2.symm⟩))))
        go_wp2_with fail
        go_ret
        exact ⟨ret_int HRR.out.symm, drewN_below HBW.out _⟩
end Go.Proofs.YtgmfhcnhpkeapaaGreatDoor

namespace Go.Proofs.YtgmfhcnhpkeapaaGreatDoor
open Go.RowKit

def Tm.textOk (l : List UInt8) : Bool := l.all fun c => Tm.isCh c.toNat
def Tm.far (n : Int) : Bool := decide (n < -4611686018427387903) || decide (4611686018427387903 < n)
/-- What is wrong with a term without those in it. -/
def Tm.one (t : Tm) : Int :=
  if t.kind < 0 then 3 else if 4 < t.kind then 3 else if Tm.fields t = false then 2
  else if t.kind = 0 then Tk.check 2 t.name else if t.kind = 1 then (if Tm.far t.num = true then 5 else 0)
  else if t.kind = 2 then (if Tm.isCh t.num = true then 0 else 5) else if t.kind = 3 then (if Tm.textOk t.name = true then 0 else 5) else Tm.appCode t
theorem Tm.textOk_drop {l : List UInt8} {k : Nat} {c : UInt8} (h : l[k]? = some c) : Tm.textOk (l.drop k) = (Tm.isCh c.toNat && Tm.textOk (l.drop (k + 1))) := by
  obtain ⟨hk, rfl⟩ := List.getElem?_eq_some_iff.1 h
  rw [List.drop_eq_getElem_cons hk]
  rfl
set_option maxRecDepth 100000 in
set_option maxHeartbeats 4000000 in
theorem checkOne_any (t : Tm) (v : Value) {κ : Nat → Nat} (w : World) (hv : Targs w κ v t.args) (hn : t.name.length ≤ 65536) (hl : t.args.length ≤ 1099511627776) (hG : Glob w) :
    Calls Tryz.prog 37 #[.agg #[.int .i64 t.kind, .string ⟨t.name.toArray⟩, .int .i64 t.num, v, .int .i64 t.at_]] w fun e w' => e = .returned (.int .i64 (Tm.one t)) ∧ Below w.heap.size w w' := by
  obtain ⟨A, c, rfl⟩ := hv.form
  have hgl := hG.lt
  have hB0 : Below w.heap.size w (w.alloc (.cells #[.int .i64 t.kind, .string ⟨t.name.toArray⟩, .int .i64 t.num, .slice A t.args.length c, .int .i64 t.at_] 32)) := (Below.refl _ w).alloc (Nat.le_refl _) _
  have HB0 := Lib.hid hB0
  have HG0 := Lib.hid (hG.below hB0 hgl)
  have HV := Lib.hid (hv.kept (.below hB0))
  have HBK := Lib.hid (Blk.new w 32 #[.int .i64 t.kind, .string ⟨t.name.toArray⟩, .int .i64 t.num, .slice A t.args.length c, .int .i64 t.at_])
  have HF := Lib.hid (hasFields_any t A c (w.alloc (.cells #[.int .i64 t.kind, .string ⟨t.name.toArray⟩, .int .i64 t.num, .slice A t.args.length c, .int .i64 t.at_] 32)))
  have hca := fun w' (h : Targs w' κ (.slice A t.args.length c) t.args) hg => checkApplication_any t _ w' h hn hl hg
  obtain ⟨R, hR⟩ : ∃ R, Tm.one t = R := ⟨_, rfl⟩
  rw [hR]
  unfold Tm.one at hR
  obtain ⟨F, hFF⟩ : ∃ F, Tm.fields t = F := ⟨_, rfl⟩
  obtain ⟨AC, hAC⟩ : ∃ AC, Tm.appCode t = AC := ⟨_, rfl⟩
  rw [hFF] at HF hR
  rw [hAC] at hR hca
  obtain ⟨k, hk⟩ : ∃ k, t.kind = k := ⟨_, rfl⟩
  rw [hk] at HF hR hca HBK HB0 HG0 HV ⊢
  obtain ⟨m, hm⟩ : ∃ m, t.num = m := ⟨_, rfl⟩
  rw [hm] at HF hR hca HBK HB0 HG0 HV ⊢
  have HR := Lib.hid hR
  have HCA := Lib.hid hca
  clear hv hG hB0 hR hFF hAC hk hm hca
  by_cases h0 : k < 0
  · have HRR := Lib.hid (show R = 3 by rw [← HR.out, if_pos h0])
    go_enter Tryz.func37, Tryz.ntmps37
    go_wp2_with fail
    go_ret
    exact ⟨ret_int HRR.out.symm, HB0.out⟩
  by_cases h4 : 4 < k
  · have HRR := Lib.hid (show R = 3 by rw [← HR.out, if_neg h0, if_pos h4])
    go_enter Tryz.func37, Tryz.ntmps37
    go_wp2_with fail
    go_ret
    exact ⟨ret_int HRR.out.symm, HB0.out⟩
  cases F with
  | false =>
    have HRR := Lib.hid (show R = 2 by rw [← HR.out, if_neg h0, if_neg h4, if_pos rfl])
    go_enter Tryz.func37, Tryz.ntmps37
    go_wp2_with fail
    refine HF.out.mono ?_
    rintro e w1 ⟨rfl, hB1⟩
    go_wp2_with fail
    go_ret
    exact ⟨ret_int HRR.out.symm, HB0.out.trans (hB1.mono HB0.out.size)⟩
  | true =>
    have HR1 := Lib.hid (show R = if k = 0 then Tk.check 2 t.name else if k = 1 then (if Tm.far m = true then 5 else 0) else if k = 2 then (if Tm.isCh m = true then 0 else 5) else if k = 3 then (if Tm.textOk t.name = true then 0 else 5) else AC by rw [← HR.out, if_neg h0, if_neg h4, if_neg (by decide)])
    clear HR
    go_enter Tryz.func37, Tryz.ntmps37
    go_wp2_with fail
    refine HF.out.mono ?_
    rintro e w1 ⟨rfl, hB1⟩
    have hb1 := HBK.out.below hB1 HBK.out.lt
    obtain ⟨c0, c1, c2, c3, c4⟩ : w1.cell? ⟨w.heap.size, 0, none⟩ = some (.int .i64 k) ∧ w1.cell? ⟨w.heap.size, 1, none⟩ = some (.string ⟨t.name.toArray⟩) ∧ w1.cell? ⟨w.heap.size, 2, none⟩ = some (.int .i64 m) ∧ w1.cell? ⟨w.heap.size, 3, none⟩ = some (.slice A t.args.length c) ∧ w1.cell? ⟨w.heap.size, 4, none⟩ = some (.int .i64 t.at_) :=
      ⟨by simpa using hb1.cell 0, by simpa using hb1.cell 1, by simpa using hb1.cell 2, by simpa using hb1.cell 3, by simpa using hb1.cell 4⟩
    have HBW := Lib.hid (HB0.out.trans (hB1.mono HB0.out.size))
    have HG1 := Lib.hid (HG0.out.below hB1 (by have := HG0.out.lt; omega))
    have HV1 := Lib.hid (HV.out.kept (.below hB1))
    clear hB1 hb1
    have hk : k = 0 ∨ k = 1 ∨ k = 2 ∨ k = 3 ∨ k = 4 := by omega
    rcases hk with rfl | rfl | rfl | rfl | rfl
    · have HRR := Lib.hid (show R = Tk.check 2 t.name from HR1.out)
      clear h0 h4
      go_wp2_with fail
      refine (check_any 2 ⟨t.name.toArray⟩ 0 _ (by simpa [ByteArray.size] using hn) HG1.out).mono ?_
      rintro e w2 ⟨rfl, hB2⟩
      go_wp2_with fail
      go_ret
      exact ⟨ret_int HRR.out.symm, HBW.out.trans (hB2.mono HBW.out.size)⟩
    · have HRR := Lib.hid (show R = if Tm.far m = true then 5 else 0 from HR1.out)
      clear h0 h4
      by_cases m1 : m < -4611686018427387903
      · have HRS := Lib.hid (show R = 5 by rw [HRR.out, if_pos (by unfold Tm.far; rw [decide_eq_true m1]; rfl)])
        go_wp2_with fail
        go_ret
        exact ⟨ret_int HRS.out.symm, HBW.out⟩
      · by_cases m2 : 4611686018427387903 < m
        · have HRS := Lib.hid (show R = 5 by rw [HRR.out, if_pos (by unfold Tm.far; rw [decide_eq_true m2, Bool.or_true])])
          go_wp2_with fail
          go_ret
          exact ⟨ret_int HRS.out.symm, HBW.out⟩
        · have HRS := Lib.hid (show R = 0 by rw [HRR.out, if_neg (by unfold Tm.far; rw [decide_eq_false m1, decide_eq_false m2]; decide)])
          go_wp2_with fail
          go_ret
          exact ⟨ret_int HRS.out.symm, HBW.out⟩
    · have HRR := Lib.hid (show R = if Tm.isCh m = true then 0 else 5 from HR1.out)
      clear h0 h4
      obtain ⟨b, hb⟩ : ∃ b, Tm.isCh m = b := ⟨_, rfl⟩
      have hic := isCharacter_any m w1
      rw [hb] at hic HRR
      clear hb
      cases b
      all_goals
        go_wp2_with fail
        refine hic.mono ?_
        rintro e w2 ⟨rfl, rfl⟩
        go_wp2_with fail
        go_ret
        exact ⟨ret_int HRR.out.symm, HBW.out⟩
    · have HRR := Lib.hid (show R = if Tm.textOk t.name = true then 0 else 5 from HR1.out)
      clear h0 h4
      go_wp2_with fail
      go_loopw [44] (fun i wr => ∃ k : Nat, i = .int .i64 k ∧ k ≤ t.name.length ∧ Hid (wr = w1) ∧ Hid (Tm.textOk t.name = Tm.textOk (t.name.drop k))) (fun i _ => t.name.length - (intOf i).toNat)
      case atStart => exact ⟨0, by go_num, Nat.zero_le _, Lib.hid rfl, Lib.hid rfl⟩
      case round =>
        obtain ⟨k, rfl, hk, HW, HD⟩ := hrel
        obtain rfl := HW.out
        by_cases hkl : k < t.name.length
        · obtain ⟨ch, hch⟩ : ∃ ch, t.name[k]? = some ch := ⟨_, List.getElem?_eq_getElem hkl⟩
          have HDR := Lib.hid (Tm.textOk_drop hch)
          have hk2 : (k : Int) < (t.name.length : Int) := by omega
          have hk0 : (0 : Int) ≤ (k : Int) := by omega
          have hx : ∀ h, wrap64 (((⟨t.name.toArray⟩ : ByteArray)[k]'h).toNat : Int) = (ch.toNat : Int) := by
            intro h
            have h1 : (⟨t.name.toArray⟩ : ByteArray)[k]'h = ch := by
              obtain ⟨_, h3⟩ := List.getElem?_eq_some_iff.1 hch
              rw [← h3]
              rfl
            rw [h1]
            have h2 := ch.toNat_lt
            exact IntWalk.wrap64_in _ (by constructor <;> omega)
          have HX := Lib.hid hx
          clear hx hch
          obtain ⟨b, hb⟩ : ∃ b, Tm.isCh (ch.toNat : Int) = b := ⟨_, rfl⟩
          have hic := isCharacter_any (ch.toNat : Int) wr
          rw [hb] at hic HDR
          have HIC := Lib.hid hic
          clear hb hic
          go_wp2_with fail
          rw [HX.out]
          refine HIC.out.mono ?_
          rintro e w2 ⟨rfl, rfl⟩
          cases b with
          | false =>
            have HRS := Lib.hid (show R = 5 by rw [HRR.out, HD.out, HDR.out]; rfl)
            go_wp2_with fail
            go_ret
            exact ⟨ret_int HRS.out.symm, HBW.out⟩
          | true =>
            have HDN := Lib.hid (show Tm.textOk t.name = Tm.textOk (t.name.drop (k + 1)) by rw [HD.out, HDR.out, Bool.true_and])
            go_wp2_with fail
            go_roundw
            case rel => exact ⟨k + 1, by go_num, by omega, Lib.hid (by first | rfl | trivial), HDN⟩
            case measure => simp [intOf]; omega
        · have HRS := Lib.hid (show R = 0 by rw [HRR.out, HD.out, List.drop_of_length_le (by omega)]; rfl)
          have hk3 : ¬ (k : Int) < (t.name.length : Int) := by omega
          go_wp2_with fail
          go_ret
          exact ⟨ret_int HRS.out.symm, HBW.out⟩
    · have HRR := Lib.hid (show R = AC from HR1.out)
      clear h0 h4
      go_wp2_with fail
      refine (HCA.out _ HV1.out HG1.out).mono ?_
      rintro e w2 ⟨rfl, hB2⟩
      go_wp2_with fail
      go_ret
      exact ⟨ret_int HRR.out.symm, HBW.out.trans (hB2.mono HBW.out.size)⟩
end Go.Proofs.YtgmfhcnhpkeapaaGreatDoor

namespace Go.Proofs.YtgmfhcnhpkeapaaGreatDoor
open Go.RowKit Go.Shelf
attribute [local go_sem] Oper.semAt_some

/-- As range_all, where each round lays its term in a block of its own: whatever code assigns them and stands in the body. -/
theorem range_all_boxed {g : Operand} {ps : Array Tmp} {assign body : Code} {Q : Exit → Act → World → Prop} {a : Act} (t : Tm) (rb cB : Nat) (tid : TypeId) (κ : Nat → Nat) (w w3 : World)
    (J : List (Int × Tm) → Value → Prop) (Jx : Value → Prop) (c0 : Value)
    (hg : a.eval g = .func (.func 63) #[] #[.pointer (some ⟨rb, 0, none⟩)])
    (hκ : ∀ b, κ b = 0 → b < w3.heap.size ∧ b ≠ cB) (ht : TmAt w3 κ ⟨rb, 0, none⟩ t) (hrb : κ rb = 0) (hsz : Tm.siz t ≤ 1099511627776)
    (k0 : Blk w3 cB tid #[c0]) (hcB : w.heap.size ≤ cB) (hJ : J (Tm.walk t 1) c0) (kB : Below w.heap.size w w3) (hps : ps.size = 2) (a₁ : Int → Tm → Value → Nat → Act)
    (hassign : ∀ (l : Nat) (lv : Int) (x : Tm) (v : Value) (W : World) (Kc : Act → World → Prop), Targs W κ v x.args → Kc (a₁ lv x v W.heap.size) (W.alloc (.cells #[.int .i64 x.kind, .string ⟨x.name.toArray⟩, .int .i64 x.num, v, .int .i64 x.at_] 32)) →
      assign.wpIn (Fence.wide.inRound l) 1 Tryz.prog (Exit.then Kc (fun _ _ _ => False)) { tmps := (ps.zip #[.int .i64 lv, .agg #[.int .i64 x.kind, .string ⟨x.name.toArray⟩, .int .i64 x.num, v, .int .i64 x.at_]]).foldl (fun t (p, v) => t.setIfInBounds p v) a.tmps, defers := [] } W)
    (hbody : ∀ (l : Nat) (lv : Int) (x : Tm) (v c : Value) (r : List (Int × Tm)) (W : World) (xb : Nat), J ((lv, x) :: r) c → Blk W cB tid #[c] → Blk W xb 32 #[.int .i64 x.kind, .string ⟨x.name.toArray⟩, .int .i64 x.num, v, .int .i64 x.at_] → w3.heap.size < xb → Targs W κ v x.args → w3.heap.size ≤ W.heap.size → Below w.heap.size w W →
      body.wpIn (Fence.wide.inRound l) 1 Tryz.prog (fun e _ W' => ∃ c', Blk W' cB tid #[c'] ∧ Spares (fun b => b = cB) W W' ∧ Below w.heap.size W W' ∧ ((e = .normal ∧ J r c') ∨ (e = .ret ∧ Jx c'))) (a₁ lv x v xb) W)
    (hdone : ∀ (c : Value) (W : World), J [] c → Blk W cB tid #[c] → Below w.heap.size w W → W.heap[w3.heap.size]? = some (.deferred (some [])) →
      Q .normal { a with defers := { target := .collected w3.heap.size, args := #[] } :: a.defers } W)
    (hstop : ∀ (c : Value) (W : World), Jx c → Blk W cB tid #[c] → Below w.heap.size w W → W.heap[w3.heap.size]? = some (.deferred (some [])) →
      Code.ret.wpIn Fence.wide 3 Tryz.prog Q { a with defers := { target := .collected w3.heap.size, args := #[] } :: a.defers } W) :
    (Code.rangeFunc g ps assign body).wpIn Fence.wide 3 Tryz.prog Q a w3 := by
  refine wpIn_rangeFunc ?_
  intro fn hfn
  obtain ⟨rec, hrec⟩ : ∃ rec : LoopState → Option Code → Loop, rec = fun st pe => { state := st, pending := pe, fn, tmps := a.tmps, params := ps, assign, body, defers := w3.heap.size } := ⟨_, rfl⟩
  obtain ⟨D, hD⟩ : ∃ D, w3.heap.size = D := ⟨_, rfl⟩
  have hcl : cB < D := by have := k0.lt; omega
  have hwD : w.heap.size ≤ D := by omega
  have hsw := World.alloc_heap_new (w3.alloc (.deferred (some []))) (.loop (rec .ready none))
  rw [World.size_alloc, hD] at hsw
  have hB0 : Below w.heap.size w ((w3.alloc (.deferred (some []))).alloc (.loop (rec .ready none))) := (kB.alloc (by omega) _).alloc (by simp; omega) _
  have h0 : AIn w J cB D tid (.loop (rec .ready none)) (Tm.walk t 1) ((w3.alloc (.deferred (some []))).alloc (.loop (rec .ready none))) :=
    ⟨c0, (k0.alloc _).alloc _, hJ, hsw, by rw [← hD]; exact (Below.heap_alloc _ _ _ (by simp)).trans (World.alloc_heap_new w3 _), hB0, by simp; omega⟩
  rw [hD] at hκ hdone hstop hbody
  refine ⟨w3.heap.size + 1, [{ target := .collected w3.heap.size, args := #[] }], (w3.alloc (.deferred (some []))).alloc (.loop (rec .ready none)), { target := .fn (.func 63) #[.pointer (some ⟨rb, 0, none⟩)], args := #[.func (.yield (w3.heap.size + 1)) #[] #[]] },
    (w3.alloc (.deferred (some []))).alloc (.loop (rec .ready none)), 63, #[.func (.yield (w3.heap.size + 1)) #[] #[], .pointer (some ⟨rb, 0, none⟩)], (w3.alloc (.deferred (some []))).alloc (.loop (rec .ready none)), ?_, ?_, ?_, ?_, fun _ => by omega, ?_⟩
  · rw [hrec]; exact run_enterLoop_outer _ _ _ _ _
  · simp only [resolve, hg]
    simp [go_sem]
  · intro f' _; trivial
  · simp [invoke, go_sem, enters_of Tryz.func63 (by kernel_rfl) rfl]
  · rw [hD]
    have hF : Firm κ w3 ((w3.alloc (.deferred (some []))).alloc (.loop (rec .ready none))) := ⟨by simp; omega, fun b hb hk => (Below.heap_alloc _ _ _ (by simp; omega)).trans (Below.heap_alloc _ _ _ hb)⟩
    refine (all_in 2 (D + 1) (D + 2) 1099511627776 (by omega) (by omega) (fun b => b = cB ∨ b = D + 1) κ (fun b hb => ⟨by have := (hκ b hb).1; omega, by have := hκ b hb; omega⟩) (fun b hb => by omega)
      (AIn w J cB D tid (.loop (rec .ready none))) (fun W => ∃ c, Blk W cB tid #[c] ∧ Jx c ∧ W.heap[D + 1]? = some (.loop (rec .done (some .ret))) ∧ W.heap[D]? = some (.deferred (some [])) ∧ Below w.heap.size w W) ?_ ?_
      t rb _ (by simp; omega) (ht.firm hF hrb) hrb hsz h0).mono ?_
    · rintro r W W' ⟨c, hb, hj, hl, hd, hB, hs⟩ hBB
      exact ⟨c, hb.below hBB (by omega), hj, (hBB.block _ (by omega)).trans hl, (hBB.block _ (by omega)).trans hd, hB.trans (hBB.mono (by omega)), by have := hBB.size; omega⟩
    · rintro lv x r W v ⟨c, hb, hj, hl, hd, hB, hs⟩ hN hv
      have hy := run_yield (P := Tryz.prog) (args := #[.int .i64 lv, .agg #[.int .i64 x.kind, .string ⟨x.name.toArray⟩, .int .i64 x.num, v, .int .i64 x.at_]]) hl (by rw [hrec]; simp [hps])
      rw [hrec] at hy
      obtain ⟨W1, hW1⟩ : ∃ W1, W.alloc (.cells #[.int .i64 x.kind, .string ⟨x.name.toArray⟩, .int .i64 x.num, v, .int .i64 x.at_] 32) = W1 := ⟨_, rfl⟩
      have hz1 : W1.heap.size = W.heap.size + 1 := by rw [← hW1]; simp
      have hl1 : W1.heap[D + 1]? = some (.loop (rec .ready none)) := by rw [← hW1]; exact (Below.heap_alloc _ _ _ (by omega)).trans hl
      have hx1 : Blk W1 W.heap.size 32 #[.int .i64 x.kind, .string ⟨x.name.toArray⟩, .int .i64 x.num, v, .int .i64 x.at_] := by rw [← hW1]; exact Blk.new _ _ _
      have ho1 : ∀ b, b < W.heap.size → W1.heap[b]? = W.heap[b]? := fun b hlt => by rw [← hW1]; exact Below.heap_alloc _ _ _ hlt
      have hB1 : Below w.heap.size w W1 := by rw [← hW1]; exact hB.alloc (by omega) _
      have hasg := fun Kc h => hassign (D + 1) lv x v W Kc hv (by rw [hW1]; exact h)
      refine ⟨fn, _, assign, body, hy, roundIn_of_wpIn hfn (hasg _ ⟨_, run_beginRound hl1 (by rw [hrec]), ?_⟩)⟩
      obtain ⟨W2, hW2⟩ : ∃ W2, W1.putObj (D + 1) (.loop { rec .ready none with state := .busy }) = W2 := ⟨_, rfl⟩
      rw [hW2]
      have hz2 : W2.heap.size = W1.heap.size := by rw [← hW2]; simp
      have hl2 : W2.heap[D + 1]? = some (.loop { rec .ready none with state := .busy }) := by rw [← hW2]; exact World.putObj_heap_same (Array.getElem?_eq_some_iff.1 hl1).1
      have ho2 : ∀ b, b ≠ D + 1 → W2.heap[b]? = W1.heap[b]? := fun b hne => by rw [← hW2]; exact World.putObj_heap_other hne
      have hb2 : Blk W2 cB tid #[c] := ((ho2 cB (by omega)).trans (ho1 cB (by omega))).trans hb
      have hx2 : Blk W2 W.heap.size 32 #[.int .i64 x.kind, .string ⟨x.name.toArray⟩, .int .i64 x.num, v, .int .i64 x.at_] := (ho2 _ (by omega)).trans hx1
      have hd2 : W2.heap[D]? = some (.deferred (some [])) := ((ho2 D (by omega)).trans (ho1 D (by omega))).trans hd
      have hB2 : Below w.heap.size w W2 := by rw [← hW2]; exact below_putObj hB1 _ _ (by omega)
      have hs2 : Spares (fun b => b = cB ∨ b = D + 1) W W2 := ⟨by omega, fun b hlt hnx => (ho2 b (fun e => hnx (.inr e))).trans (ho1 b hlt)⟩
      have hv2 : Targs W2 κ v x.args := hv.firm ⟨by omega, fun b hlt hk => (ho2 b (by have := (hκ b hk).1; omega)).trans (ho1 b hlt)⟩
      refine wpIn_mono (hbody _ lv x v c r W2 W.heap.size hj hb2 hx2 (by omega) hv2 (by omega) hB2) ?_
      rintro e a3 W3 ⟨c', hb3, hs3, hB3, hcase⟩
      have hl3 : W3.heap[D + 1]? = some (.loop { rec .ready none with state := .busy }) := (hs3.2 (D + 1) (by omega) (by omega)).trans hl2
      have hd3 : W3.heap[D]? = some (.deferred (some [])) := (hs3.2 D (by omega) (by omega)).trans hd2
      have hz3 := hs3.1
      rcases hcase with ⟨rfl, hj3⟩ | ⟨rfl, hj3⟩
      · have he := run_endRound (P := Tryz.prog) none hl3
        refine ⟨_, _, he, true, rfl, (hs2.trans (hs3.mono fun i hi => .inl hi)).trans (Spares.putObj _ _ _ _ (.inr rfl)), fun _ => ⟨c', hb3.putObj _ (by omega), hj3, ?_, (World.putObj_heap_other (by omega)).trans hd3, below_putObj (hB2.trans hB3) _ _ (by omega), by simp; omega⟩, fun h => (by cases h)⟩
        rw [World.putObj_heap_same (Array.getElem?_eq_some_iff.1 hl3).1, hrec]
        rfl
      · have he := run_endRound (P := Tryz.prog) (some .ret) hl3
        refine ⟨_, _, he, false, rfl, (hs2.trans (hs3.mono fun i hi => .inl hi)).trans (Spares.putObj _ _ _ _ (.inr rfl)), fun h => (by cases h), fun _ => ⟨c', hb3.putObj _ (by omega), hj3, ?_, (World.putObj_heap_other (by omega)).trans hd3, below_putObj (hB2.trans hB3) _ _ (by omega)⟩⟩
        rw [World.putObj_heap_same (Array.getElem?_eq_some_iff.1 hl3).1, hrec]
        rfl
    · rintro e W2 ⟨⟨v, rfl⟩, (⟨c, hb, hj, hl, hd, hB⟩ | ⟨c, hb, hj, hl, hd, hB, hs⟩)⟩
      · have hend := run_endLoop (P := Tryz.prog) hl (by rw [hrec]; simp)
        refine ⟨some .ret, _, by rw [hrec] at hend; exact hend, ?_⟩
        have := hstop c _ hj (hb.putObj (.loop { rec .done (some .ret) with state := .exhausted }) (show cB ≠ D + 1 by omega)) (below_putObj hB _ _ (by omega)) ((World.putObj_heap_other (by omega)).trans hd)
        rw [hrec] at this
        exact this
      · have hend := run_endLoop (P := Tryz.prog) hl (by rw [hrec]; simp)
        refine ⟨none, _, by rw [hrec] at hend; exact hend, ?_⟩
        have := hdone c _ hj (hb.putObj (.loop { rec .ready none with state := .exhausted }) (show cB ≠ D + 1 by omega)) (below_putObj hB _ _ (by omega)) ((World.putObj_heap_other (by omega)).trans hd)
        rw [hrec] at this
        exact this
/-- The first thing that is wrong with terms. -/
def Tm.scan : List (Int × Tm) → Int
  | [] => 0
  | e :: r => if Tm.one e.2 = 0 then Tm.scan r else Tm.one e.2
/-- What Check answers. -/
def Tm.checkT (t : Tm) : Int := if 64 < Tm.depth t then 6 else Tm.scan (Tm.walk t 1)
/-- Names and numbers of arguments are within what the walks ask. -/
def Tm.Slim (t : Tm) : Prop := t.name.length ≤ 65536 ∧ t.args.length ≤ 1099511627776
set_option maxRecDepth 100000 in
set_option maxHeartbeats 4000000 in
theorem Check_any (t : Tm) (v : Value) {κ : Nat → Nat} (w : World) (hv : Targs w κ v t.args) (hsz : Tm.siz t ≤ 1099511627776) (hsl : ∀ e ∈ Tm.walk t 1, Tm.Slim e.2) (hG : Glob w) :
    Calls Tryz.prog 16 #[.agg #[.int .i64 t.kind, .string ⟨t.name.toArray⟩, .int .i64 t.num, v, .int .i64 t.at_]] w fun e w' => e = .returned (.int .i64 (Tm.checkT t)) ∧ Below w.heap.size w w' := by
  have hgl := hG.lt
  obtain ⟨w1, hw1⟩ : ∃ w1, ((w.alloc (.cells #[.int .i64 t.kind, .string ⟨t.name.toArray⟩, .int .i64 t.num, v, .int .i64 t.at_] 32)).alloc (.cells #[.int .i64 0] 24)) = w1 := ⟨_, rfl⟩
  have hz1 : w1.heap.size = w.heap.size + 2 := by rw [← hw1]; simp
  have hB1 : Below w.heap.size w w1 := by rw [← hw1]; exact ((Below.refl _ w).alloc (Nat.le_refl _) _).alloc (by simp) _
  have k1 : Blk w1 (w.heap.size + 1) 24 #[.int .i64 0] := by
    have := Blk.new (w.alloc (.cells #[.int .i64 t.kind, .string ⟨t.name.toArray⟩, .int .i64 t.num, v, .int .i64 t.at_] 32)) 24 #[.int .i64 0]
    rw [hw1, World.size_alloc] at this
    exact this
  have k0 : Blk w1 w.heap.size 32 #[.int .i64 t.kind, .string ⟨t.name.toArray⟩, .int .i64 t.num, v, .int .i64 t.at_] := by rw [← hw1]; exact (Blk.new w _ _).alloc _
  have HDE := Lib.hid (Depth_any t v w1 (hv.kept (.below hB1)) hsz)
  obtain ⟨dd, hdd⟩ : ∃ dd, Tm.depth t = dd := ⟨_, rfl⟩
  obtain ⟨R, hR⟩ : ∃ R, Tm.checkT t = R := ⟨_, rfl⟩
  rw [hR]
  unfold Tm.checkT at hR
  rw [hdd] at HDE hR
  have HR := Lib.hid hR
  have HZ1 := Lib.hid hz1
  have HB1 := Lib.hid hB1
  have HK1 := Lib.hid k1
  have HK0 := Lib.hid k0
  have HG := Lib.hid hG
  have HV := Lib.hid hv
  have HSL := Lib.hid hsl
  clear hR hdd hz1 hB1 k1 k0 hG hsl
  obtain ⟨A, c, rfl⟩ := hv.form
  clear hv
  obtain ⟨p0, p1, p2, p3, p4⟩ : w1.cell? ⟨w.heap.size, 0, none⟩ = some (.int .i64 t.kind) ∧ w1.cell? ⟨w.heap.size, 1, none⟩ = some (.string ⟨t.name.toArray⟩) ∧ w1.cell? ⟨w.heap.size, 2, none⟩ = some (.int .i64 t.num) ∧ w1.cell? ⟨w.heap.size, 3, none⟩ = some (.slice A t.args.length c) ∧ w1.cell? ⟨w.heap.size, 4, none⟩ = some (.int .i64 t.at_) :=
    ⟨by simpa using HK0.out.cell 0, by simpa using HK0.out.cell 1, by simpa using HK0.out.cell 2, by simpa using HK0.out.cell 3, by simpa using HK0.out.cell 4⟩
  by_cases h64 : 64 < dd
  · have HRR := Lib.hid (show R = 6 by rw [← HR.out, if_pos h64])
    go_enter Tryz.func16, Tryz.ntmps16
    go_wp2_with fail
    refine HDE.out.mono ?_
    rintro e w2 ⟨rfl, hB2⟩
    have hb2 := HK1.out.below hB2 HK1.out.lt
    have q0 : w2.cell? ⟨w.heap.size + 1, 0, none⟩ = some (.int .i64 0) := by simpa using hb2.cell 0
    have nf := hb2.frozen 0
    have HB2 := Lib.hid (HB1.out.trans (hB2.mono HB1.out.size))
    have HK2 := Lib.hid hb2
    clear hB2 hb2
    go_wp2_with fail
    have hb3 := HK2.out.put 0 (.int .i64 6)
    have c3 : (w2.setCell ⟨w.heap.size + 1, 0, none⟩ (.int .i64 6)).cell? ⟨w.heap.size + 1, 0, none⟩ = some (.int .i64 6) := by simpa using hb3.cell 0
    exact bodyPost_ret (v := .int .i64 6) (by simp [results, Tryz.results16, go_sem, c3]) rfl ⟨ret_int HRR.out.symm, HB2.out.setCell (by simp) _⟩
  · have HRR := Lib.hid (show Tm.scan (Tm.walk t 1) = R by rw [← HR.out, if_neg h64])
    refine (callsIn_wide (n := 3)).1 ?_
    refine callsIn_of_wp_marks Tryz.func16 rfl trivial ?_ rfl
    simp only [Tryz.ntmps16, List.size_toArray, List.length_cons, List.length_nil, Nat.reduceAdd, Nat.reduceSub, Array.replicate_succ, Array.replicate_zero, List.push_toArray, List.append_toArray, List.nil_append, List.cons_append]
    gi_wp2_with (first | (refine ⟨trivial, ?_⟩; gi_at_call 18; refine (callsIn_wide.2 HDE.out).mono ?_; rintro e w2 ⟨rfl, hB2⟩; have hb2 := HK1.out.below hB2 HK1.out.lt; have hb0 := HK0.out.below hB2 HK0.out.lt; (obtain ⟨x0, x1, x2, x3, x4⟩ : w2.cell? ⟨w.heap.size, 0, none⟩ = some (.int .i64 t.kind) ∧ w2.cell? ⟨w.heap.size, 1, none⟩ = some (.string ⟨t.name.toArray⟩) ∧ w2.cell? ⟨w.heap.size, 2, none⟩ = some (.int .i64 t.num) ∧ w2.cell? ⟨w.heap.size, 3, none⟩ = some (.slice A t.args.length c) ∧ w2.cell? ⟨w.heap.size, 4, none⟩ = some (.int .i64 t.at_) := ⟨by simpa using hb0.cell 0, by simpa using hb0.cell 1, by simpa using hb0.cell 2, by simpa using hb0.cell 3, by simpa using hb0.cell 4⟩); have HB2 := Lib.hid (HB1.out.trans (hB2.mono HB1.out.size)); have HK2 := Lib.hid hb2; clear hB2 hb2 hb0) | (refine ⟨trivial, ?_⟩; gi_at_call 36; refine (callsIn_wide.2 (all_any _ _ _ _ _ _)).mono ?_; rintro e w3 ⟨rfl, hw3⟩; rw [hw3]))
    have hta := aged_term HV.out HB2.out HB2.out.size
    have hbx := HB2.out.alloc HB2.out.size (.cells #[.int .i64 t.kind, .string ⟨t.name.toArray⟩, .int .i64 t.num, .slice A t.args.length c, .int .i64 t.at_] 32)
    have hw2 : w.heap.size + 1 < w2.heap.size := HK2.out.lt
    clear x0 x1 x2 x3 x4 p0 p1 p2 p3 p4 hw1
    refine range_all_boxed t w2.heap.size (w.heap.size + 1) 24 (aged w κ w2.heap.size) w (w2.alloc _) (fun r c => c = .int .i64 0 ∧ Tm.scan r = R ∧ ∀ e ∈ r, Tm.Slim e.2) (fun c => c = .int .i64 R) (.int .i64 0) rfl ?k1 hta (if_pos (.inl rfl)) hsz (HK2.out.alloc _) (by omega) ⟨rfl, HRR.out, HSL.out⟩ hbx rfl
      (fun lv x v' xb => { tmps := #[.agg #[.int .i64 t.kind, .string ⟨t.name.toArray⟩, .int .i64 t.num, .slice A t.args.length c, .int .i64 t.at_], .pointer (some ⟨w.heap.size, 0, none⟩), .pointer (some ⟨w.heap.size + 1, 0, none⟩), undef, .pointer (some ⟨xb, 0, none⟩), undef, .agg #[.int .i64 t.kind, .string ⟨t.name.toArray⟩, .int .i64 t.num, .slice A t.args.length c, .int .i64 t.at_], .int .i64 dd, .bool (decide (64 < dd)), .agg #[.int .i64 t.kind, .string ⟨t.name.toArray⟩, .int .i64 t.num, .slice A t.args.length c, .int .i64 t.at_],
        .func (.func 63) #[] #[.pointer (some ⟨w2.heap.size, 0, none⟩)], .int .i64 lv, .agg #[.int .i64 x.kind, .string ⟨x.name.toArray⟩, .int .i64 x.num, v', .int .i64 x.at_], undef, undef, undef, undef, undef], defers := [] }) ?assign ?body ?done ?stop
    case k1 =>
      intro b hb
      rw [World.size_alloc]
      rcases aged_zero hb with rfl | ⟨h, _⟩ <;> omega
    case assign =>
      clear hta hbx
      intro l lv x v' W Kc hT hK
      obtain ⟨A4, k4, rfl⟩ := hT.form
      clear hT
      gi_wp2
      exact hK
    case body =>
      clear hta hbx
      rintro l lv x v' c' r W xb ⟨rfl, hsc, hsl⟩ hb hxb hlt hT hs hB
      obtain ⟨A4, k4, rfl⟩ := hT.form
      have hslx := hsl (lv, x) (List.mem_cons_self ..)
      have HCO := Lib.hid (checkOne_any x _ W hT hslx.1 hslx.2 (HG.out.below hB hgl))
      have HSC := Lib.hid hsc
      have HSLR := Lib.hid (show ∀ e ∈ r, Tm.Slim e.2 from fun e he => hsl e (List.mem_cons_of_mem _ he))
      obtain ⟨y0, y1, y2, y3, y4⟩ : W.cell? ⟨xb, 0, none⟩ = some (.int .i64 x.kind) ∧ W.cell? ⟨xb, 1, none⟩ = some (.string ⟨x.name.toArray⟩) ∧ W.cell? ⟨xb, 2, none⟩ = some (.int .i64 x.num) ∧ W.cell? ⟨xb, 3, none⟩ = some (.slice A4 x.args.length k4) ∧ W.cell? ⟨xb, 4, none⟩ = some (.int .i64 x.at_) :=
        ⟨by simpa using hxb.cell 0, by simpa using hxb.cell 1, by simpa using hxb.cell 2, by simpa using hxb.cell 3, by simpa using hxb.cell 4⟩
      obtain ⟨o1, ho1⟩ : ∃ o1, Tm.one x = o1 := ⟨_, rfl⟩
      rw [ho1] at HCO
      have HO1 := Lib.hid ho1
      have HBL := Lib.hid hb
      have hbl := hb.lt
      clear hsc hsl hslx hT hb hxb ho1
      by_cases hz : o1 = 0
      · subst hz
        gi_wp2_with (refine ⟨trivial, ?_⟩; gi_at_call 37; refine (CallsIn.inRound l (callsIn_wide.2 HCO.out)).mono ?_; rintro e w5 ⟨rfl, hB5⟩; have HB5 := Lib.hid hB5; clear hB5)
        have hsc0 : Tm.scan r = R := by have := HSC.out; simp only [Tm.scan] at this; rw [if_pos HO1.out] at this; exact this
        exact ⟨.int .i64 0, HBL.out.below HB5.out hbl, ⟨HB5.out.size, fun b hlt' _ => HB5.out.block b hlt'⟩, HB5.out.mono (by omega), rfl, hsc0, fun a b hab => HSLR.out (a, b) hab⟩
      · have hz2 : (o1 != 0) = true := by rw [bne_iff_ne]; exact hz
        gi_wp2_with (refine ⟨trivial, ?_⟩; gi_at_call 37; refine (CallsIn.inRound l (callsIn_wide.2 HCO.out)).mono ?_; rintro e w5 ⟨rfl, hB5⟩; have hb5 := HBL.out.below hB5 HBL.out.lt; have q0 : w5.cell? ⟨w.heap.size + 1, 0, none⟩ = some (.int .i64 0) := (by simpa using hb5.cell 0); have nf := hb5.frozen 0; have HB5 := Lib.hid hB5; have HX5 := Lib.hid hb5; clear hB5 hb5)
        have hsc1 : o1 = R := by have := HSC.out; simp only [Tm.scan] at this; rw [if_neg (by rw [HO1.out]; exact hz), HO1.out] at this; exact this
        exact ⟨.int .i64 o1, HX5.out.put 0 _, ⟨by have := HB5.out.size; simpa using this, fun b hlt' hne => (Below.heap_setCell w5 ⟨w.heap.size + 1, 0, none⟩ (.int .i64 o1) b hne).trans (HB5.out.block b hlt')⟩, (HB5.out.mono (by omega)).setCell (by simp) _, by rw [hsc1]⟩
    case done =>
      clear hta hbx
      rintro c' W ⟨rfl, hsc, _⟩ hb hB hD
      have hR0 : R = 0 := hsc.symm
      have hc := hb.cell 0
      have hf := hb.frozen 0
      simp at hc
      rw [World.size_alloc] at hD ⊢
      have HR0 := Lib.hid hR0
      clear hsc hR0
      gi_wp2
      have hD' := (Below.heap_setCell W ⟨w.heap.size + 1, 0, none⟩ (.int .i64 0) (w2.heap.size + 1) (by simp; omega)).trans hD
      have hb' := (hb.put 0 (.int .i64 0)).putObj (.deferred none) (show w.heap.size + 1 ≠ w2.heap.size + 1 by omega)
      have hc5 : (World.putObj (W.setCell ⟨w.heap.size + 1, 0, none⟩ (.int .i64 0)) (w2.heap.size + 1) (.deferred none)).cell? ⟨w.heap.size + 1, 0, none⟩ = some (.int .i64 0) := by simpa using hb'.cell 0
      refine ⟨by simp, .inl ⟨_, _, rfl, run_takeDeferred hD', ?_⟩⟩
      refine ⟨.int .i64 0, ?_, ret_int HR0.out.symm, below_putObj (hB.setCell (by simp) _) _ _ (by omega)⟩
      simp [results, Tryz.results16, go_sem, hc5]
    case stop =>
      clear hta hbx
      rintro c' W rfl hb hB hD
      rw [World.size_alloc] at hD ⊢
      gi_wp2
      have hb' := hb.putObj (.deferred none) (show w.heap.size + 1 ≠ w2.heap.size + 1 by omega)
      have hc5 : (World.putObj W (w2.heap.size + 1) (.deferred none)).cell? ⟨w.heap.size + 1, 0, none⟩ = some (.int .i64 R) := by simpa using hb'.cell 0
      refine ⟨by simp, .inl ⟨_, _, rfl, run_takeDeferred hD, ?_⟩⟩
      refine ⟨.int .i64 R, ?_, rfl, below_putObj hB _ _ (by omega)⟩
      simp [results, Tryz.results16, go_sem, hc5]
end Go.Proofs.YtgmfhcnhpkeapaaGreatDoor

namespace Go.Proofs.YtgmfhcnhpkeapaaGreatDoor
open Go.RowKit

/-! How much there is of a term: terms and the bytes of their names. -/
mutual
def Tm.bulk : Tm → Nat
  | .mk _ n _ ts _ => 1 + n.length + Tm.bulks ts
def Tm.bulks : List Tm → Nat
  | [] => 0
  | a :: ts => Tm.bulk a + Tm.bulks ts
end
theorem Tm.bulk_eq (t : Tm) : Tm.bulk t = 1 + t.name.length + Tm.bulks t.args := by cases t; rw [Tm.bulk]; rfl
theorem Tm.bulk_pos (t : Tm) : 1 ≤ Tm.bulk t := by rw [Tm.bulk_eq]; omega
theorem Tm.bulks_len : ∀ l : List Tm, l.length ≤ Tm.bulks l
  | [] => by simp
  | a :: l => by have := Tm.bulks_len l; have := Tm.bulk_pos a; rw [Tm.bulks, List.length_cons]; omega
theorem Tm.bulks_get : ∀ {l : List Tm} {k : Nat} {t : Tm}, l[k]? = some t → Tm.bulk t ≤ Tm.bulks l
  | [], k, t, h => by simp at h
  | a :: l, 0, t, h => by obtain rfl : a = t := Option.some.inj h; rw [Tm.bulks]; omega
  | a :: l, k + 1, t, h => by have := Tm.bulks_get (l := l) (k := k) (t := t) h; rw [Tm.bulks]; omega
mutual
theorem Tm.bulk_walk : ∀ (t : Tm) (l : Int), ∀ e ∈ Tm.walk t l, Tm.bulk e.2 ≤ Tm.bulk t
  | .mk k n m ts a, l, e, he => by
    rw [Tm.walk] at he
    rcases List.mem_cons.1 he with rfl | he
    · exact Nat.le_refl _
    · have := Tm.bulk_walks _ _ _ _ e he
      rw [Tm.bulk]
      omega
theorem Tm.bulk_walks : ∀ (c : Bool) (l : Int) (i : Nat) (ts : List Tm), ∀ e ∈ Tm.walks c l i ts, Tm.bulk e.2 ≤ Tm.bulks ts
  | c, l, i, [], e, he => by rw [Tm.walks] at he; cases he
  | c, l, i, a :: ts, e, he => by
    rw [Tm.walks] at he
    rw [Tm.bulks]
    rcases List.mem_append.1 he with he | he
    · have := Tm.bulk_walk _ _ e he; omega
    · have := Tm.bulk_walks _ _ _ _ e he; omega
end
theorem Tm.slim_walk {t : Tm} (h : Tm.bulk t ≤ 65536) : ∀ e ∈ Tm.walk t 1, Tm.Slim e.2 := fun e he => by
  have h1 := Tm.bulk_walk t 1 e he
  have h2 := Tm.bulk_eq e.2
  have h3 := Tm.bulks_len e.2.args
  exact ⟨by omega, by omega⟩
theorem Tm.heft_bulk (t : Tm) : 1 + (t.name.length : Int) ≤ 8 * Tm.heft t := by unfold Tm.heft; omega
/-- A small weight says that there is little. -/
theorem Tm.wloop_bulk (N : Nat) : ∀ (l : List Tm), Tm.sizs l < N → ∀ (most n : Int), 0 ≤ n → Tm.wloop most n l ≤ most → 8 * n + Tm.bulks l ≤ 8 * Tm.wloop most n l := by
  induction N with
  | zero => intro l h; omega
  | succ N ih =>
    intro l
    induction l with
    | nil => intro _ most n hn _; rw [Tm.wloop, Tm.bulks]; omega
    | cons t ts iht =>
      intro hN most n hn
      rw [Tm.sizs, Tm.siz_eq] at hN
      rw [Tm.wloop, Tm.bulks, Tm.bulk_eq]
      have hh := Tm.heft_pos t
      have hb := Tm.heft_bulk t
      by_cases h1 : n ≤ most
      · rw [if_pos h1, Tm.wone_eq]
        by_cases h2 : n + Tm.heft t ≤ most
        · rw [if_pos h2]
          have a1 := (Tm.wloop_all _ t.args (Nat.lt_succ_self _) (most - (n + Tm.heft t)) 0 (Int.le_refl _)).1
          have b1 := (Tm.wloop_all _ ts (Nat.lt_succ_self _) most (n + Tm.heft t + Tm.wloop (most - (n + Tm.heft t)) 0 t.args) (by omega)).1
          intro h
          have a2 := ih t.args (by omega) (most - (n + Tm.heft t)) 0 (Int.le_refl _) (by omega)
          have b2 := iht (by omega) most (n + Tm.heft t + Tm.wloop (most - (n + Tm.heft t)) 0 t.args) (by omega) h
          omega
        · rw [if_neg h2]
          have b1 := (Tm.wloop_all _ ts (Nat.lt_succ_self _) most (n + Tm.heft t) (by omega)).1
          intro h
          omega
      · rw [if_neg h1]
        intro h
        omega
theorem Tm.light {l : List Tm} (h : decide (1000 < Tm.wloop 1000 0 l) = false) : Tm.bulks l ≤ 8000 := by
  have h1 : ¬ 1000 < Tm.wloop 1000 0 l := of_decide_eq_false h
  have := Tm.wloop_bulk (Tm.sizs l + 1) l (by omega) 1000 0 (Int.le_refl _) (by omega)
  omega

/-! The reference's check. -/
mutual
def Tm.rck : Tm → Int
  | .mk k n m ts a => if Tm.one (.mk k n m ts a) = 0 then Tm.rcks ts else Tm.one (.mk k n m ts a)
def Tm.rcks : List Tm → Int
  | [] => 0
  | a :: ts => if Tm.rck a = 0 then Tm.rcks ts else Tm.rck a
end
theorem Tm.rck_eq (t : Tm) : Tm.rck t = if Tm.one t = 0 then Tm.rcks t.args else Tm.one t := by cases t; rw [Tm.rck]; rfl
theorem Tm.rcks_drop {l : List Tm} {k : Nat} {t : Tm} (h : l[k]? = some t) : Tm.rcks (l.drop k) = if Tm.rck t = 0 then Tm.rcks (l.drop (k + 1)) else Tm.rck t := by
  obtain ⟨hk, rfl⟩ := List.getElem?_eq_some_iff.1 h
  rw [List.drop_eq_getElem_cons hk, Tm.rcks]
theorem Tm.scan_append (a b : List (Int × Tm)) : Tm.scan (a ++ b) = if Tm.scan a = 0 then Tm.scan b else Tm.scan a := by
  induction a with
  | nil => rfl
  | cons e r ih =>
    rw [List.cons_append, Tm.scan, Tm.scan, ih]
    by_cases h : Tm.one e.2 = 0
    · rw [if_pos h, if_pos h]
    · rw [if_neg h, if_neg h, if_neg h]
mutual
theorem Tm.scan_walk : ∀ (t : Tm) (l : Int), Tm.scan (Tm.walk t l) = Tm.rck t
  | .mk k n m ts a, l => by rw [Tm.walk, Tm.scan, Tm.scan_walks, Tm.rck]
theorem Tm.scan_walks : ∀ (c : Bool) (l : Int) (i : Nat) (ts : List Tm), Tm.scan (Tm.walks c l i ts) = Tm.rcks ts
  | c, l, i, [] => by rw [Tm.walks, Tm.rcks]; rfl
  | c, l, i, a :: ts => by rw [Tm.walks, Tm.scan_append, Tm.scan_walk, Tm.scan_walks, Tm.rcks]
end
theorem Tm.checkT_eq (t : Tm) : Tm.checkT t = if 64 < Tm.dep t then 6 else Tm.rck t := by unfold Tm.checkT; rw [Tm.depth_dep, Tm.scan_walk]
end Go.Proofs.YtgmfhcnhpkeapaaGreatDoor

