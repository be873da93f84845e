import Derived.Test.YtgmfhcnhpkeapaaGreatDoorM10q
import Derived.Test.YtgmfhcnhpkeapaaGreatDoorM10
import Derived.Deep.DeepCutAuto
import Derived.IntWalk
import Derived.StillTailTactics
import Derived.Deep.RegionHeld3
set_option linter.unusedSimpArgs false
set_option linter.unusedVariables false
namespace Go.Proofs.YtgmfhcnhpkeapaaGreatDoor
open Go.RowKit

theorem u64_nonneg (n : Int) : 0 ≤ IntKind.u64.wrap n := by
  simp [IntKind.wrap, IntKind.bits, IntKind.signed]; omega
theorem index_of (wh : Int) (n : Nat) (h0 : 0 < n) (hn : n ≤ 1000000) : ∃ i : Nat, i < n ∧ wrap64 ((IntKind.u64.wrap wh).tmod (n : Int)) = (i : Int) := by
  have h1 := Int.tmod_nonneg (n : Int) (u64_nonneg wh)
  have h2 := Int.tmod_lt_of_pos (IntKind.u64.wrap wh) (show (0 : Int) < n by omega)
  refine ⟨((IntKind.u64.wrap wh).tmod (n : Int)).toNat, by omega, ?_⟩
  unfold wrap64
  omega
set_option maxRecDepth 100000 in
set_option maxHeartbeats 4000000 in
theorem quoted_bad (s : ByteArray) (wh : Int) (w : World) (hm : s.size ≤ maxLen) (hG : Glob w) (x : Nat × Int) (hr : Tk.tokens s.data.toList = .error x) :
    Calls Tryz.prog 10 #[.string s, .int .i64 wh] w fun e w' => e = .returned (.bool true) ∧ Below w.heap.size w w' := by
  unfold maxLen at hm
  have hgl := hG.lt
  have hb := Tk.tokens_bad hr
  have hb2 : (x.2 == 0) = false := beq_eq_false_iff_ne.2 hb
  have hb3 : (x.2 != 0) = true := bne_iff_ne.2 hb
  clear hb
  have HR := Lib.hid hr; clear hr
  by_cases h4 : 600 < s.size
  all_goals
    go_enter Tryz.func10, Tryz.ntmps10
    go_wp2_with fail
    refine (tokens_all s _ hG).mono ?_
    intro e w1 hp
    rw [HR.out] at hp
    obtain ⟨rfl, hB⟩ := hp
    unfold Tk.fauV
    have hB1 := hB.alloc hB.size (.cells #[.int .i64 x.1, .int .i64 x.2] 26)
    go_wp2_with fail
    refine (awake_any _ (hG.below hB1 hgl)).mono ?_; rintro e w2 ⟨rfl, hB2⟩
    go_wp2_with fail
    go_ret
    exact ⟨rfl, hB1.trans (hB2.mono hB1.size)⟩
set_option maxRecDepth 100000 in
set_option maxHeartbeats 4000000 in
theorem quoted_long (s : ByteArray) (wh : Int) (w : World) (hm : s.size ≤ maxLen) (hG : Glob w) (ts : List Tk.T) (hr : Tk.tokens s.data.toList = .ok ts) (h4 : 600 < s.size) :
    Calls Tryz.prog 10 #[.string s, .int .i64 wh] w fun e w' => e = .returned (.bool true) ∧ Below w.heap.size w w' := by
  unfold maxLen at hm
  have hgl := hG.lt
  have HR := Lib.hid hr; clear hr
  go_enter Tryz.func10, Tryz.ntmps10
  go_wp2_with fail
  refine (tokens_all s _ hG).mono ?_
  intro e w1 hp
  rw [HR.out] at hp
  obtain ⟨v, rfl, hown, hB⟩ := hp
  unfold Tk.fauV
  have hB1 := hB.alloc hB.size (.cells #[.int .i64 0, .int .i64 0] 26)
  clear hown
  go_wp2_with fail
  refine (awake_any _ (hG.below hB1 hgl)).mono ?_; rintro e w2 ⟨rfl, hB2⟩
  go_wp2_with fail
  go_ret
  exact ⟨rfl, hB1.trans (hB2.mono hB1.size)⟩
end Go.Proofs.YtgmfhcnhpkeapaaGreatDoor

namespace Go.Proofs.YtgmfhcnhpkeapaaGreatDoor
open Go.RowKit

def Tk.odd (l : List UInt8) : Bool := l.any fun c => c == 46 || c == 39 || c == 92
theorem Targs.zero {w : World} {κ : Nat → Nat} {v : Value} {l : List Tm} (h : Targs w κ v l) : Targs w (fun _ => 0) v l := h.recolor (fun _ _ => rfl)
theorem quo_str_add {w : World} {ops : Array Oper} {o : Oper} {a : Act} {K : Act → World → Prop} {Q : Exit → Act → World → Prop} {E : Prop} (hgd : o.guard = none) (x y : Operand) (t : TypeId)
    (ho : o.op = .binOp .add t x y t) (A B : ByteArray) (hx : a.eval x = .string A) (hy : a.eval y = .string B) (hsz : A.size + B.size ≤ 9223372036854775807)
    (h : K (a.put o.dst (.string (A ++ B))) w) : if Region.wanted o (yielded ops a.tmps) = true then Oper.wp Tryz.prog o a w K Q else E := by
  rw [if_pos (by simp [Region.wanted, hgd])]
  have hr : (binOp .add t (.string A) (.string B)).run Tryz.prog w = .ok (.string (A ++ B)) w := by rw [binOp_string_add]; exact run_string_add_sum w A B hsz
  have hg : (eqGuard .add t x y (.string A) (.string B)).run Tryz.prog w = .ok () w := by simp [eqGuard]
  unfold Oper.wp execOp
  simp only [ho, Sem.run_bind, Sem.run_pure, Result.andThen_ok, hx, hy, hr, hg]
  exact h
theorem quo_keep {W a b : World} {g : Nat} {u v : Value} (hg : g < W.heap.size) (h : a.cell? ⟨g, 1, none⟩ = some u ∧ a.cell? ⟨g, 2, none⟩ = some v ∧ Below W.heap.size W a) (hb : Below W.heap.size a b) : b.cell? ⟨g, 1, none⟩ = some u ∧ b.cell? ⟨g, 2, none⟩ = some v ∧ Below W.heap.size W b :=
  ⟨(hb.cell (p := ⟨g, 1, none⟩) hg).trans h.1, (hb.cell (p := ⟨g, 2, none⟩) hg).trans h.2.1, h.2.2.trans hb⟩
theorem quo_glob {W a : World} {A B : Prop} (h : Glob W) (hg : 2 < W.heap.size) (hS : A ∧ B ∧ Below W.heap.size W a) : Glob a := h.below hS.2.2 hg
theorem quo_alloc {W a : World} {g : Nat} {u v : Value} {o : Obj} (hg : g < W.heap.size) (h : a.cell? ⟨g, 1, none⟩ = some u ∧ a.cell? ⟨g, 2, none⟩ = some v ∧ Below W.heap.size W a) : (a.alloc o).cell? ⟨g, 1, none⟩ = some u ∧ (a.alloc o).cell? ⟨g, 2, none⟩ = some v ∧ Below W.heap.size W (a.alloc o) :=
  quo_keep hg h ((Below.refl _ a).alloc h.2.2.size o)
/-- What Text leaves of the second text. -/
def Tm.QOut (R : Except Tm.F (List Tm)) (c : Int) (v : Value) (w : World) : Prop :=
  match R with
  | .ok l => c = 0 ∧ Targs w (fun _ => 0) v l
  | .error f => c = f.2
theorem Tm.sames_at2 : ∀ {l m : List Tm} {k : Nat} {t u : Tm}, Tm.sames l m = true → l[k]? = some t → m[k]? = some u → Tm.same t u = true
  | [], _, k, t, u, _, h, _ => by simp at h
  | _ :: _, [], k, t, u, _, _, h => by simp at h
  | x :: l, y :: m, 0, t, u, hs, h, h' => by
    rw [Tm.sames, Bool.and_eq_true] at hs
    simp at h h'
    subst h; subst h'
    exact hs.1
  | x :: l, y :: m, k + 1, t, u, hs, h, h' => by
    rw [Tm.sames, Bool.and_eq_true] at hs
    exact Tm.sames_at2 hs.2 (by simpa using h) (by simpa using h')
theorem quo_set {W a : World} {g b : Nat} {u v x y : Value} (hg : g < W.heap.size) (hb : W.heap.size ≤ b) (h : a.cell? ⟨g, 1, none⟩ = some u ∧ a.cell? ⟨g, 2, none⟩ = some v ∧ Below W.heap.size W a) :
    ((a.setCell ⟨b, 0, none⟩ x).setCell ⟨b, 1, none⟩ y).cell? ⟨g, 1, none⟩ = some u ∧ ((a.setCell ⟨b, 0, none⟩ x).setCell ⟨b, 1, none⟩ y).cell? ⟨g, 2, none⟩ = some v ∧ Below W.heap.size W ((a.setCell ⟨b, 0, none⟩ x).setCell ⟨b, 1, none⟩ y) :=
  quo_keep hg h (((Below.refl W.heap.size a).setCell (p := ⟨b, 0, none⟩) hb x).setCell (p := ⟨b, 1, none⟩) hb y)
theorem quo_draw {W a : World} {g : Nat} {u v : Value} (h : a.cell? ⟨g, 1, none⟩ = some u ∧ a.cell? ⟨g, 2, none⟩ = some v ∧ Below W.heap.size W a) : a.drew.cell? ⟨g, 1, none⟩ = some u ∧ a.drew.cell? ⟨g, 2, none⟩ = some v ∧ Below W.heap.size W a.drew :=
  ⟨h.1, h.2.1, h.2.2.drew⟩
theorem quo_bytes {s X : ByteArray} {x : List UInt8} {p : Nat} (hX : X.data.toList = x) (hs : x.length = X.size) : (s.extract 0 p ++ ⟨#[39]⟩ ++ X ++ ⟨#[39]⟩ ++ s.extract (p + X.size) s.size).data.toList = Tk.quo s.data.toList x p := by
  have h1 := cut_mid s 0 p
  have h2 := cut_end s (p + X.size)
  rw [List.drop_zero, Nat.sub_zero] at h1
  unfold Tk.quo
  rw [hs, ← h1, ← h2, ← hX]
  simp [ByteArray.data_append]
theorem Tm.Out.newq {R : Except Tm.F (List Tm)} {a c : Int} {v : Value} {w : World} {o : Obj} (h : Tm.Out R a c v w) : Tm.QOut R c v (w.alloc o) := by
  cases R with
  | error f => exact h.2.2
  | ok l =>
    obtain ⟨-, h2, κ, h3⟩ := h
    exact ⟨h2, h3.zero.kept (.below ((Below.refl w.heap.size w).alloc (Nat.le_refl _) o))⟩
theorem Tm.Out.setq {R : Except Tm.F (List Tm)} {a c : Int} {v : Value} {w : World} {b : Nat} {x y : Value} (hb : Blk w b 26 #[.int .i64 0, .int .i64 0]) (h : Tm.Out R a c v w) : Tm.QOut R c v ((w.setCell ⟨b, 0, none⟩ x).setCell ⟨b, 1, none⟩ y) := by
  cases R with
  | error f => exact h.2.2
  | ok l =>
    obtain ⟨-, h2, κ, h3⟩ := h
    refine ⟨h2, Targs.zero ((h3.apart hb).firm ⟨by simp, fun g hg hg0 => ?_⟩)⟩
    have hne : g ≠ b := fun e => by
      subst e
      simp at hg0
    exact (Below.heap_setCell _ _ _ _ hne).trans (Below.heap_setCell _ _ _ _ hne)
theorem odd_take {X : ByteArray} {x : List UInt8} (hX : X.data.toList = x) {k : Nat} (hk : k < X.size) :
    Tk.odd (x.take (k + 1)) = (Tk.odd (x.take k) || (((X[k]'hk).toNat : Int) == 46 || ((X[k]'hk).toNat : Int) == 39 || ((X[k]'hk).toNat : Int) == 92)) := by
  have hl : k < x.length := by rw [← hX, size_data]; exact hk
  have hb : X[k]'hk = x[k]'hl := by subst hX; rfl
  have hz : ∀ (c d : UInt8) (n : Int), (d.toNat : Int) = n → ((c.toNat : Int) == n) = (c == d) := fun c d n hn => by
    rw [Bool.eq_iff_iff, beq_iff_eq, beq_iff_eq, ← hn, ← UInt8.toNat_inj]; omega
  unfold Tk.odd
  rw [List.take_succ_eq_append_getElem hl, List.any_append, hb, hz _ 46 46 rfl, hz _ 39 39 rfl, hz _ 92 92 rfl]
  simp
theorem byte_at {s : ByteArray} {p : Nat} (h : p < s.size) : Tk.bt s.data.toList p = ((s[p]'h).toNat : Int) := by
  have hl : p < s.data.toList.length := by rw [size_data]; exact h
  unfold Tk.bt
  rw [List.getD_eq_getElem?_getD, List.getElem?_eq_getElem hl]
  rfl
theorem quoted_facts {l : List UInt8} {ts : List Tk.T} {i p : Nat} {x : List UInt8} (h : Tk.tokens l = .ok ts) (hi : ts[i]? = some (1, x, p)) (ho : Tk.odd x = false) : p < l.length ∧ ∀ c ∈ x, c ≠ 39 ∧ c ≠ 92 ∧ c ≠ 46 := by
  obtain ⟨acc, hts, hgood⟩ := Tk.tokens_good h
  have hmem : ((1 : Int), x, p) ∈ acc := by
    rw [hts] at hi
    have hlt := (List.getElem?_eq_some_iff.1 hi).1
    rcases Nat.lt_or_ge i acc.length with h1 | h1
    · rw [List.getElem?_append_left h1] at hi
      exact List.mem_of_getElem? hi
    · rw [List.getElem?_append_right h1] at hi
      simp only [List.length_append, List.length_singleton] at hlt
      rw [show i - acc.length = 0 by omega] at hi
      simp only [List.getElem?_cons_zero, Option.some.injEq, Prod.mk.injEq] at hi
      exact absurd hi.1 (by decide)
  refine ⟨(hgood.1 _ hmem).2.2.2, fun c hc => ?_⟩
  unfold Tk.odd at ho
  rw [List.any_eq_false] at ho
  have := ho c hc
  simp only [Bool.or_eq_true, beq_iff_eq, not_or] at this
  exact ⟨this.1.2, this.2, this.1.1⟩
set_option maxRecDepth 100000 in
set_option maxHeartbeats 16000000 in
theorem quoted_main (s : ByteArray) (wh : Int) (w : World) (hG : Glob w) (ts : List Tk.T) (hr : Tk.tokens s.data.toList = .ok ts) (h4 : s.size ≤ 600) (i : Nat) (K : Int) (x : List UInt8) (p : Nat) (hi : ts[i]? = some (K, x, p)) (he : wrap64 ((IntKind.u64.wrap wh).tmod (ts.length : Int)) = (i : Int)) :
    Calls Tryz.prog 10 #[.string s, .int .i64 wh] w fun e w' => e = .returned (.bool true) ∧ Below w.heap.size w w' := by
  have hgl := hG.lt
  have HG := Lib.hid hG
  have HE := Lib.hid he; clear he
  have HZ := Lib.hid (size_data s)
  have hfine := Tk.tokens_fine hr
  have hil := (List.getElem?_eq_some_iff.1 hi).1
  have hsz := hfine.size
  rw [size_data] at hsz
  have HF := Lib.hid hfine; clear hfine
  have HR := Lib.hid hr; clear hr
  have HI := Lib.hid hi
  go_enter Tryz.func10, Tryz.ntmps10
  go_wp2_with fail
  refine (tokens_all s _ hG).mono ?_
  intro e w1 hp
  rw [HR.out] at hp
  obtain ⟨v, rfl, hown, hB⟩ := hp
  have hTs := TokR.of_own hown
  obtain ⟨A, cap, rfl⟩ := own_slice hown
  have hww1 : w.heap.size ≤ w1.heap.size := hB.size
  have hz : ((ts.length : Int) == 0) = false := beq_eq_false_iff_ne.2 (by omega)
  clear hown
  unfold Tk.fauV
  have hB1 := hB.alloc hB.size (.cells #[.int .i64 0, .int .i64 0] 26)
  have hBn := (Below.refl w1.heap.size w1).alloc (Nat.le_refl _) (.cells #[.int .i64 0, .int .i64 0] 26)
  have HK1 := Lib.hid (Blk.new w1 26 #[.int .i64 0, .int .i64 0])
  have HT1 := Lib.hid (hTs.kept (.below hBn))
  have HB1 := Lib.hid hB1
  clear hTs hBn hB hB1 hG hi
  go_upto_region 7 with (fail)
  rw [HE.out]
  obtain ⟨A', cap', hv, hcap, hcells⟩ := HT1.out
  rw [Value.slice.injEq] at hv
  obtain ⟨rfl, -, rfl⟩ := hv
  rw [List.length_map] at hcap
  obtain ⟨g, o, hA, hgw, -, c0, c1, c2⟩ := hcells i (Tm.tok (K, x, p)) (by rw [List.getElem?_map, HI.out]; rfl)
  subst hA
  have b0 : (0 : Int) ≤ (i : Int) := by omega
  have b1 : (i : Int) < (ts.length : Int) := by omega
  simp only [Tm.tok] at c0 c1 c2
  go_wp2_with fail
  have hxb : x.length ≤ 65536 := by
    have h1 := HF.out.len i hil
    rw [Tk.at_eq hil] at h1
    have h2 := HI.out
    rw [List.getElem?_eq_getElem hil] at h2
    rw [Option.some.inj h2] at h1
    exact h1
  obtain ⟨X, hX⟩ : ∃ X : ByteArray, (⟨x.toArray⟩ : ByteArray) = X := ⟨_, rfl⟩
  have hXl : X.data.toList = x := by rw [← hX]
  have hXs : x.length = X.size := by rw [← hXl, size_data]
  have hBn := (Below.refl (w1.alloc (.cells #[.int .i64 0, .int .i64 0] 26)).heap.size (w1.alloc (.cells #[.int .i64 0, .int .i64 0] 26))).alloc (Nat.le_refl _) (.cells #[.int .i64 K, .string ⟨x.toArray⟩, .int .i64 p] 48)
  have HTs := Lib.hid (HT1.out.kept (.below hBn))
  have HKf := Lib.hid (HK1.out.below hBn HK1.out.lt)
  have hbt := Blk.new (w1.alloc (.cells #[.int .i64 0, .int .i64 0] 26)) 48 #[.int .i64 K, .string ⟨x.toArray⟩, .int .i64 p]
  rw [show (w1.alloc (.cells #[.int .i64 0, .int .i64 0] 26)).heap.size = w1.heap.size + 1 by simp] at hbt
  have HKt := Lib.hid hbt
  have HBW := Lib.hid (HB1.out.trans (hBn.mono HB1.out.size))
  have HGW := Lib.hid (HG.out.below HBW.out hgl)
  clear hBn hbt HK1 HT1 HB1 c0 c1 c2 hcells
  generalize hWW : ((w1.alloc (.cells #[.int .i64 0, .int .i64 0] 26)).alloc (.cells #[.int .i64 K, .string ⟨x.toArray⟩, .int .i64 p] 48)) = W at *
  rw [hX] at *
  clear hWW
  have hXb : X.size ≤ 65536 := by omega
  clear hxb
  have HXL := Lib.hid hXl
  have HXS := Lib.hid hXs
  clear hX hXl hXs
  have t0 : W.cell? ⟨w1.heap.size + 1, 0, none⟩ = some (.int .i64 K) := by simpa using HKt.out.cell 0
  have t1 : W.cell? ⟨w1.heap.size + 1, 1, none⟩ = some (.string X) := by simpa using HKt.out.cell 1
  have t2 : W.cell? ⟨w1.heap.size + 1, 2, none⟩ = some (.int .i64 p) := by simpa using HKt.out.cell 2
  go_loopw [9, 10] (fun b kv wr => ∃ k : Nat, kv = .int .i64 k ∧ k ≤ X.size ∧ b = .bool (Tk.odd (x.take k)) ∧ wr = W) (fun _ kv _ => X.size - (intOf kv).toNat)
  case atStart => exact ⟨0, by go_num, Nat.zero_le _, rfl, rfl⟩
  case round =>
    as_aux_lemma =>
    obtain ⟨k, rfl, hk, rfl, rfl⟩ := hrel
    by_cases hkl : k < X.size
    · as_aux_lemma =>
      have hk2 : (k : Int) < (X.size : Int) := by omega
      have hk0 : (0 : Int) ≤ (k : Int) := by omega
      have hodd : Tk.odd (x.take (k + 1)) = (Tk.odd (x.take k) || (((X[k]'hkl).toNat : Int) == 46 || ((X[k]'hkl).toNat : Int) == 39 || ((X[k]'hkl).toNat : Int) == 92)) := odd_take HXL.out hkl
      have HOD := Lib.hid hodd
      clear hodd
      cases ho : Tk.odd (x.take k)
      · cases h46 : (((X[k]'hkl).toNat : Int) == 46)
        · cases h39 : (((X[k]'hkl).toNat : Int) == 39)
          · cases h92 : (((X[k]'hkl).toNat : Int) == 92)
            all_goals
              go_wp2_with fail
              go_roundw
              case rel => exact ⟨k + 1, by go_num, by omega, by rw [HOD.out, ho, h46, h39, h92]; rfl, by first | rfl | trivial⟩
              case measure => simp [intOf]; omega
          · go_wp2_with fail
            go_roundw
            case rel => exact ⟨k + 1, by go_num, by omega, by rw [HOD.out, ho, h46, h39]; rfl, by first | rfl | trivial⟩
            case measure => simp [intOf]; omega
        · go_wp2_with fail
          go_roundw
          case rel => exact ⟨k + 1, by go_num, by omega, by rw [HOD.out, ho, h46]; rfl, by first | rfl | trivial⟩
          case measure => simp [intOf]; omega
      · go_wp2_with fail
        go_roundw
        case rel => exact ⟨k + 1, by go_num, by omega, by rw [HOD.out, ho]; rfl, by first | rfl | trivial⟩
        case measure => simp [intOf]; omega
    · have hk3 : ¬ (k : Int) < (X.size : Int) := by omega
      have htk : x.take k = x := List.take_of_length_le (by have := HXS.out; omega)
      rw [htk]
      clear htk
      go_upto_region 13 with (fail)
      go_cut [11] (fun nv wx => ∃ nx : Bool, nv = .bool nx ∧ wx = wr)
      case first =>
        as_aux_lemma =>
        by_cases hn1 : i + 1 < ts.length
        · obtain ⟨τ, hτ⟩ : ∃ τ, ts[i + 1]? = some τ := ⟨_, List.getElem?_eq_getElem hn1⟩
          obtain ⟨A2, cap2, hv2, -, hcells2⟩ := HTs.out
          rw [Value.slice.injEq] at hv2
          obtain ⟨rfl, -, rfl⟩ := hv2
          obtain ⟨g2, o2, hA2, -, -, d0, -, -⟩ := hcells2 (i + 1) (Tm.tok τ) (by rw [List.getElem?_map, hτ]; rfl)
          injection hA2 with hA2
          injection hA2 with hA3 hA4
          subst hA3
          subst hA4
          have hn2 : (i : Int) + 1 < (ts.length : Int) := by omega
          have hn3 : (0 : Int) ≤ (i : Int) + 1 := by omega
          have hn4 : ((i : Int) + 1).toNat = i + 1 := by omega
          simp only [Tm.tok] at d0
          clear hτ hcells2
          go_wp2_with fail
          all_goals (go_meet; exact ⟨_, rfl, rfl⟩)
        · have hn2 : ¬ (i : Int) + 1 < (ts.length : Int) := by omega
          go_wp2_with fail
          all_goals (go_meet; exact ⟨_, rfl, rfl⟩)
      case rest =>
        as_aux_lemma =>
        obtain ⟨nx, rfl, rfl⟩ := hcut
        clear hk3 hk
        cases hK : (K != 1)
        · cases hO : Tk.odd x
          · cases nx
            · have hKe : K = 1 := by simpa using hK
              subst hKe
              obtain ⟨hpl, hxw⟩ := quoted_facts HR.out HI.out hO
              rw [size_data] at hpl
              have HXW := Lib.hid hxw
              have p0 : (0 : Int) ≤ (p : Int) := by omega
              have p1 : (p : Int) < (s.size : Int) := by omega
              have p2 : ¬ (p : Int) < 0 := by omega
              have p3 : ¬ (s.size : Int) ≤ (p : Int) := by omega
              clear hxw hK hO
              go_upto_region 18 with (fail)
              go_cut [134] (fun bv wx => ∃ b : Bool, bv = .bool b ∧ wx = wc ∧ (b = false → Tk.bt s.data.toList p ≠ 39 ∧ (0 < p → Tk.bt s.data.toList (p - 1) ≠ 48)))
              case first =>
                as_aux_lemma =>
                have hbt := byte_at hpl
                cases h39 : (((s[p]'hpl).toNat : Int) == 39)
                · have h39n : Tk.bt s.data.toList p ≠ 39 := by rw [hbt]; simpa using h39
                  have H39 := Lib.hid h39n
                  clear hbt h39n
                  cases p with
                  | zero =>
                    go_wp2_with fail
                    go_meet
                    exact ⟨_, rfl, rfl, fun _ => ⟨H39.out, fun e => by omega⟩⟩
                  | succ q =>
                    have hql : q < s.size := by omega
                    have q0 : (0 : Int) ≤ (q : Int) := by omega
                    have q1 : (q : Int) < (s.size : Int) := by omega
                    have hbq := byte_at hql
                    cases h48 : (((s[q]'hql).toNat : Int) == 48)
                    · have h48n : Tk.bt s.data.toList q ≠ 48 := by rw [hbq]; simpa using h48
                      have H48 := Lib.hid h48n
                      clear hbq h48n
                      go_wp2_with fail
                      go_meet
                      exact ⟨_, rfl, rfl, fun _ => ⟨H39.out, fun _ => H48.out⟩⟩
                    · clear hbq
                      go_wp2_with fail
                      go_meet
                      exact ⟨true, rfl, rfl, fun e => by cases e⟩
                · clear hbt
                  go_wp2_with fail
                  go_meet
                  exact ⟨true, rfl, rfl, fun e => by cases e⟩
              case rest =>
                as_aux_lemma =>
                obtain ⟨b, rfl, rfl, hbb⟩ := hcut
                cases b
                · obtain ⟨h39, h48⟩ := hbb rfl
                  obtain ⟨hpw, hal⟩ := Tm.text_quote (by rw [size_data]; omega) HR.out HI.out HXW.out h39 h48
                  rw [size_data, HXS.out] at hpw
                  have HAL := Lib.hid hal
                  have w20 : IntKind.i64.wrap ((s.size : Int) - (p : Int)) = (s.size : Int) - (p : Int) := IntWalk.i64_in _ (by omega)
                  have c20 : ¬ (s.size : Int) - (p : Int) < (X.size : Int) := by omega
                  clear hal h39 h48 hbb
                  go_upto_region 22 with (fail)
                  go_wp2_with fail
                  refine (text_terms s _ HGW.out).mono ?_
                  intro e w3 hp
                  obtain ⟨hB3, A3, n3, cap3, a3, c3, rfl, hO3⟩ := hp
                  have hglW := HGW.out.lt
                  have hb3 := HKf.out.below hB3 HKf.out.lt
                  have ht3 := HKt.out.below hB3 HKt.out.lt
                  have q0 : w3.cell? ⟨w1.heap.size, 0, none⟩ = some (.int .i64 0) := by simpa using hb3.cell 0
                  have q1 : w3.cell? ⟨w1.heap.size, 1, none⟩ = some (.int .i64 0) := by simpa using hb3.cell 1
                  have nf := hb3.frozen
                  have hl3 := hb3.lt
                  have hlt3 := ht3.lt
                  have HB3 := Lib.hid (HBW.out.trans (hB3.mono HBW.out.size))
                  have HB3f := Lib.hid hb3
                  have HB3t := Lib.hid ht3
                  have HO3 := Lib.hid hO3
                  clear hB3 hb3 ht3 hO3 w20 c20 t0 t1 t2
                  go_upto_region 23 with (fail)
                  have hbf := (HB3f.out.put 0 (.int .i64 a3)).put 1 (.int .i64 c3)
                  have hbt : Blk ((w3.setCell ⟨w1.heap.size, 0, none⟩ (.int .i64 a3)).setCell ⟨w1.heap.size, 1, none⟩ (.int .i64 c3)) (w1.heap.size + 1) 48 #[.int .i64 1, .string X, .int .i64 p] := (HB3t.out.far (by show w1.heap.size + 1 ≠ w1.heap.size; omega) _).far (by show w1.heap.size + 1 ≠ w1.heap.size; omega) _
                  have hB4 := (HB3.out.setCell (p := ⟨w1.heap.size, 0, none⟩) hww1 (.int .i64 a3)).setCell (p := ⟨w1.heap.size, 1, none⟩) hww1 (.int .i64 c3)
                  have hO4 : ∀ la, Tm.text s.data.toList = .ok la → c3 = 0 ∧ Targs ((w3.setCell ⟨w1.heap.size, 0, none⟩ (.int .i64 a3)).setCell ⟨w1.heap.size, 1, none⟩ (.int .i64 c3)) (fun _ => 0) (.slice A3 n3 cap3) la := fun la e => by
                    have ho := HO3.out
                    rw [e] at ho
                    obtain ⟨-, h2, κ, h3⟩ := ho
                    refine ⟨h2, Targs.zero ((h3.apart HB3f.out).firm ⟨by simp, fun b hb hb0 => ?_⟩)⟩
                    have hne : b ≠ w1.heap.size := fun e => by
                      subst e
                      simp at hb0
                    exact (Below.heap_setCell _ _ _ _ hne).trans (Below.heap_setCell _ _ _ _ hne)
                  have HBF := Lib.hid hbf
                  have HBT := Lib.hid hbt
                  have HB4 := Lib.hid hB4
                  have HO4 := Lib.hid hO4
                  clear hbf hbt hB4 hO4 q0 q1 nf HB3f HB3t HB3
                  generalize hW4 : ((w3.setCell ⟨w1.heap.size, 0, none⟩ (.int .i64 a3)).setCell ⟨w1.heap.size, 1, none⟩ (.int .i64 c3)) = W4 at *
                  clear hW4
                  have HG4 := Lib.hid (HG.out.below HB4.out hgl)
                  have t1 : W4.cell? ⟨w1.heap.size + 1, 1, none⟩ = some (.string X) := by simpa using HBT.out.cell 1
                  have t2 : W4.cell? ⟨w1.heap.size + 1, 2, none⟩ = some (.int .i64 p) := by simpa using HBT.out.cell 2
                  have hltT := HBT.out.lt
                  have hltF := HBF.out.lt
                  have hglW4 := HG4.out.lt
                  have hww4 : w1.heap.size + 1 < W4.heap.size := hltT
                  go_cut [13, 14] (fun v13 v14 wx => ∃ A5 n5 cap5 c5 g14, v13 = .slice A5 n5 cap5 ∧ v14 = .pointer (some ⟨g14, 0, none⟩) ∧ Hid (Below W4.heap.size W4 wx) ∧ W4.heap.size ≤ g14 ∧ Hid (wx.cell? ⟨g14, 1, none⟩ = some (.int .i64 c5)) ∧ g14 < wx.heap.size ∧ Hid (Tm.QOut (Tm.text (Tk.quo s.data.toList x p)) c5 (.slice A5 n5 cap5) wx))
                  case first =>
                    as_aux_lemma =>
                    have w23 : IntKind.i64.wrap ((p : Int) + (X.size : Int)) = (p : Int) + (X.size : Int) := IntWalk.i64_in _ (by omega)
                    have w24 : (0 : Int) ≤ (p : Int) + (X.size : Int) := by omega
                    have w25 : (p : Int) + (X.size : Int) ≤ (s.size : Int) := by omega
                    have w26 : ((p : Int) + (X.size : Int)).toNat = p + X.size := by omega
                    have p4 : (p : Int) ≤ (s.size : Int) := by omega
                    have b1 : (s.extract 0 p).size ≤ 600 := by rw [ByteArray.size_extract]; omega
                    have b2 : (s.extract (p + X.size) s.size).size ≤ 600 := by rw [ByteArray.size_extract]; omega
                    have b3 : (⟨#[39]⟩ : ByteArray).size = 1 := rfl
                    have b4 : (s.extract 0 p ++ ⟨#[39]⟩).size ≤ 601 := by rw [ByteArray.size_append, b3]; omega
                    have b5 : (s.extract 0 p ++ ⟨#[39]⟩ ++ X).size ≤ 1201 := by rw [ByteArray.size_append]; omega
                    have b6 : (s.extract 0 p ++ ⟨#[39]⟩ ++ X ++ ⟨#[39]⟩).size ≤ 1202 := by rw [ByteArray.size_append, b3]; omega
                    have q1 : (9223372036854775807 < min p s.size + 1) = False := eq_false (by omega)
                    have q2 : (9223372036854775807 < min p s.size + 1 + X.size) = False := eq_false (by omega)
                    have q3 : (9223372036854775807 < min p s.size + 1 + X.size + 1) = False := eq_false (by omega)
                    have q4 : (9223372036854775807 < min p s.size + 1 + X.size + 1 + (s.size - (p + X.size))) = False := eq_false (by omega)
                    have B3 := Lib.hid b3
                    clear b3
                    clear hltF HBT HBF HO3 HO4 HAL HB4 HXW HR HE HZ HF HI HTs HBW HGW HKf HKt HG hpw
                    go_region_held3 (fun w' => w'.cell? ⟨w1.heap.size + 1, 1, none⟩ = some (.string X) ∧ w'.cell? ⟨w1.heap.size + 1, 2, none⟩ = some (.int .i64 p) ∧ Below W4.heap.size W4 w')
                      (first | exact ⟨t1, t2, (Below.refl W4.heap.size W4).drew⟩ | exact hS5 | exact quo_set hww4 (Nat.le_refl _) hS5 | exact quo_set hww4 hS5.2.2.size (quo_alloc hww4 hS5) | exact quo_alloc hww4 hS5 | exact quo_alloc hww4 ⟨t1, t2, (Below.refl W4.heap.size W4).drew⟩ | exact quo_alloc hww4 ⟨t1, t2, Below.refl W4.heap.size W4⟩ | exact quo_draw (quo_alloc hww4 ⟨t1, t2, Below.refl W4.heap.size W4⟩))
                      (first
                        | (refine quo_str_add rfl (.tmp 154) (.const (.string ⟨#[39]⟩)) 9 rfl (s.extract 0 p) ⟨#[39]⟩ rfl rfl (by rw [B3.out]; omega) ?_)
                        | (refine quo_str_add rfl (.tmp 155) (.tmp 157) 9 rfl (s.extract 0 p ++ ⟨#[39]⟩) X rfl rfl (by omega) ?_)
                        | (refine quo_str_add rfl (.tmp 158) (.const (.string ⟨#[39]⟩)) 9 rfl (s.extract 0 p ++ ⟨#[39]⟩ ++ X) ⟨#[39]⟩ rfl rfl (by rw [B3.out]; omega) ?_)
                        | (refine quo_str_add rfl (.tmp 159) (.tmp 167) 9 rfl (s.extract 0 p ++ ⟨#[39]⟩ ++ X ++ ⟨#[39]⟩) (s.extract (p + X.size) s.size) rfl rfl (by omega) ?_)
                        | (go_at_call 12; refine (text_terms _ _ (quo_glob HG4.out hglW4 (by with_reducible assumption))).mono ?_; (rintro e w5 ⟨hB5, A5, n5, cap5, a5, c5, rfl, hO5⟩); have hS0 : World.cell? _ ⟨w1.heap.size + 1, 1, none⟩ = some (.string X) ∧ World.cell? _ ⟨w1.heap.size + 1, 2, none⟩ = some (.int .i64 p) ∧ Below W4.heap.size W4 _ := (by with_reducible assumption); have HO5 := Lib.hid hO5; have hS5 := quo_keep hww4 hS0 (hB5.mono hS0.2.2.size); (try (have hn0 : Blk ((W4.alloc (.cells #[.int .i64 0, .int .i64 0] 26)).drew) W4.heap.size 26 #[.int .i64 0, .int .i64 0] := (Blk.new W4 26 #[.int .i64 0, .int .i64 0]).drew; have hn5 := hn0.below hB5 hn0.lt; have d0 : w5.cell? ⟨W4.heap.size, 0, none⟩ = some (.int .i64 0) := (by simpa using hn5.cell 0); have d1 : w5.cell? ⟨W4.heap.size, 1, none⟩ = some (.int .i64 0) := (by simpa using hn5.cell 1); have d2 := hn5.frozen; have d3 := hn5.lt; have HN5 := Lib.hid hn5; clear hn0 hn5)); have HB5 := Lib.hid hB5; clear hB5 hO5))
                    · go_wp2_with fail
                      go_meet
                      exact ⟨A5, n5, cap5, c5, w5.heap.size, rfl, rfl, Lib.hid (hS5.2.2.trans ((Below.refl W4.heap.size w5).alloc hS5.2.2.size _)), hS5.2.2.size, Lib.hid (by simp), by simp, Lib.hid (by rw [← quo_bytes HXL.out HXS.out]; exact Tm.Out.newq HO5.out)⟩
                    · go_wp2_with fail
                      go_meet
                      exact ⟨A5, n5, cap5, c5, W4.heap.size, rfl, rfl, Lib.hid (quo_set hww4 (Nat.le_refl _) hS5).2.2, Nat.le_refl _, Lib.hid (by simpa using ((HN5.out.put 0 (.int .i64 a5)).put 1 (.int .i64 c5)).cell 1), by simpa using d3, Lib.hid (by rw [← quo_bytes HXL.out HXS.out]; exact Tm.Out.setq HN5.out HO5.out)⟩
                  case rest =>
                    as_aux_lemma =>
                    obtain ⟨A5, n5, cap5, c5, g14, rfl, rfl, HB5, hg14, HC5, hg14', HQ5⟩ := hcut
                    have f3 := (HB5.out.cell (p := ⟨w1.heap.size, 1, none⟩) hltF).trans (by simpa using HBF.out.cell 1 : W4.cell? ⟨w1.heap.size, 1, none⟩ = some (.int .i64 c3))
                    have f5 := HC5.out
                    have hltF2 : w1.heap.size < wc.heap.size := Nat.lt_of_lt_of_le hltF HB5.out.size
                    have HB6 := Lib.hid (HB4.out.trans (HB5.out.mono HB4.out.size))
                    have HG6 := Lib.hid (HG4.out.below HB5.out hglW4)
                    have hal := HAL.out
                    clear t1 t2
                    cases hR : Tm.text s.data.toList with
                    | error f =>
                      cases hQ : Tm.text (Tk.quo s.data.toList x p) with
                      | ok lb => rw [hR, hQ] at hal; exact (show False from hal).elim
                      | error f' =>
                        rw [hR, hQ] at hal
                        have e1 : c3 = f.2 := by
                          have := HO3.out
                          rw [hR] at this
                          exact this.2.2
                        have e2 : c5 = f'.2 := by
                          have := HQ5.out
                          rw [hQ] at this
                          exact this
                        have e3 : c5 = c3 := by rw [e1, e2]; exact hal.symm
                        have hc3 : (c3 != 0) = true := by rw [bne_iff_ne, e1]; exact Tm.text_bad hR
                        have hcc : (c5 == c3) = true := by rw [beq_iff_eq]; exact e3
                        clear e1 e2 e3 hal hR hQ
                        go_wp2_with fail
                        refine (awake_any _ HG6.out).mono ?_
                        rintro e w9 ⟨rfl, hB9⟩
                        have HB9 := Lib.hid (HB6.out.trans (hB9.mono HB6.out.size))
                        clear hB9
                        go_wp2_with fail
                        go_ret
                        exact ⟨rfl, HB9.out⟩
                    | ok la =>
                      cases hQ : Tm.text (Tk.quo s.data.toList x p) with
                      | error f' => rw [hR, hQ] at hal; exact (show False from hal).elim
                      | ok lb =>
                        rw [hR, hQ] at hal
                        have hq := HQ5.out
                        rw [hQ] at hq
                        obtain ⟨rfl, hTb⟩ := hq
                        obtain ⟨rfl, hTa⟩ := HO4.out la hR
                        have hTa := hTa.kept (.below HB5.out)
                        obtain ⟨A3', cap3', hv3⟩ := hTa.form
                        rw [Value.slice.injEq] at hv3
                        obtain ⟨rfl, rfl, rfl⟩ := hv3
                        obtain ⟨A5', cap5', hv5⟩ := hTb.form
                        rw [Value.slice.injEq] at hv5
                        obtain ⟨rfl, rfl, rfl⟩ := hv5
                        have hlen : la.length = lb.length := Tm.sames_length hal
                        have hlz := Tm.text_len hR
                        rw [size_data] at hlz
                        have hlb : la.length ≤ 603 := by omega
                        have HRT : Hid (∀ u ∈ la, Tm.rt u ∧ Tm.siz u ≤ 1099511627776 ∧ Tm.checkT u = 0) := Lib.hid (Tm.text_right (by rw [size_data]; omega) hR)
                        have HSM := Lib.hid (show Tm.sames la lb = true from hal)
                        have HTA := Lib.hid hTa
                        have HTB := Lib.hid hTb
                        have HLN := Lib.hid hlen
                        have hl1 : ((la.length : Int) != (lb.length : Int)) = false := by rw [bne_eq_false_iff_eq]; omega
                        clear hal hTa hTb hlz hlen hR hQ
                        go_wp2_with fail
                        have hglc := HG6.out.lt
                        go_loopw [15] (fun kv wr => ∃ k : Nat, kv = .int .i64 k ∧ k ≤ la.length ∧ Hid (Below wc.heap.size wc wr)) (fun kv _ => la.length - (intOf kv).toNat)
                        case atStart => exact ⟨0, by go_num, Nat.zero_le _, Lib.hid (Below.refl _ _)⟩
                        case round =>
                          as_aux_lemma =>
                          obtain ⟨m, rfl, hm, HBR⟩ := hrel
                          have HBX := Lib.hid (HB6.out.trans (HBR.out.mono HB6.out.size))
                          have HGR := Lib.hid (HG6.out.below HBR.out hglc)
                          by_cases hml : m < la.length
                          · obtain ⟨ta, hta⟩ : ∃ ta, la[m]? = some ta := ⟨_, List.getElem?_eq_getElem hml⟩
                            have hml2 : m < lb.length := by rw [← HLN.out]; exact hml
                            obtain ⟨tb, htb⟩ : ∃ tb, lb[m]? = some tb := ⟨_, List.getElem?_eq_getElem hml2⟩
                            have HSS := Lib.hid (Tm.sames_at2 HSM.out hta htb)
                            have HSZ := Lib.hid (HRT.out ta (List.mem_of_getElem? hta)).2.1
                            have m0 : (0 : Int) ≤ (m : Int) := by omega
                            have m1 : (m : Int) < (la.length : Int) := by omega
                            have m2 : (m : Int) < (lb.length : Int) := by omega
                            obtain ⟨ga, oa, ba, hAa, -, hga, -, htta, x0, x1, x2, x3, x4⟩ := (HTA.out.kept (.below HBR.out)).elem hta
                            obtain ⟨gb, ob, bb, hAb, -, hgb, -, httb, y0, y1, y2, y3, y4⟩ := (HTB.out.kept (.below HBR.out)).elem htb
                            subst hAa
                            subst hAb
                            obtain ⟨Aa, ca, rfl⟩ := htta.form
                            obtain ⟨Ab, cb, rfl⟩ := httb.form
                            have HAA := Lib.hid htta
                            have HBB := Lib.hid httb
                            clear htta httb hta htb hl1
                            go_upto_region 31 with (fail)
                            go_still_tail 8, (by kernel_rfl)
                            go_wp2_with fail
                            have hBd := (Below.refl wr.heap.size wr).drew
                            refine (Same_any ta tb _ _ _ (HAA.out.kept (.below hBd)) (HBB.out.kept (.below hBd)) HSZ.out).mono ?_
                            rw [HSS.out]
                            rintro e w9 ⟨rfl, hB9⟩
                            have HB10 := Lib.hid (hBd.trans (hB9.mono (by simp)))
                            clear hB9 hBd
                            go_wp2_with fail
                            go_roundw
                            case rel => exact ⟨m + 1, by go_num, by omega, Lib.hid (HBR.out.trans (HB10.out.mono HBR.out.size))⟩
                            case measure => simp [intOf]; omega
                          · have m3 : ¬ (m : Int) < (la.length : Int) := by omega
                            go_wp2_with fail
                            refine (awake_any _ HGR.out).mono ?_
                            rintro e w5 ⟨rfl, hB5⟩
                            have HB9 := Lib.hid (HBX.out.trans (hB5.mono HBX.out.size))
                            clear hB5
                            go_wp2_with fail
                            go_ret
                            exact ⟨rfl, HB9.out⟩
                · go_wp2_with fail
                  refine (awake_any _ HGW.out).mono ?_
                  rintro e w5 ⟨rfl, hB5⟩
                  have HB5 := Lib.hid (HBW.out.trans (hB5.mono HBW.out.size))
                  clear hB5
                  go_wp2_with fail
                  go_ret
                  exact ⟨rfl, HB5.out⟩
            · go_wp2_with fail
              refine (awake_any _ HGW.out).mono ?_
              rintro e w5 ⟨rfl, hB5⟩
              have HB5 := Lib.hid (HBW.out.trans (hB5.mono HBW.out.size))
              clear hB5
              go_wp2_with fail
              go_ret
              exact ⟨rfl, HB5.out⟩
          · go_wp2_with fail
            refine (awake_any _ HGW.out).mono ?_
            rintro e w5 ⟨rfl, hB5⟩
            have HB5 := Lib.hid (HBW.out.trans (hB5.mono HBW.out.size))
            clear hB5
            go_wp2_with fail
            go_ret
            exact ⟨rfl, HB5.out⟩
        · go_wp2_with fail
          refine (awake_any _ HGW.out).mono ?_
          rintro e w5 ⟨rfl, hB5⟩
          have HB5 := Lib.hid (HBW.out.trans (hB5.mono HBW.out.size))
          clear hB5
          go_wp2_with fail
          go_ret
          exact ⟨rfl, HB5.out⟩
/-- The law TermsQuoted. -/
theorem quoted_any (s : ByteArray) (wh : Int) (w : World) (hm : s.size ≤ maxLen) (hG : Glob w) :
    Calls Tryz.prog 10 #[.string s, .int .i64 wh] w fun e w' => e = .returned (.bool true) ∧ Below w.heap.size w w' := by
  cases hr : Tk.tokens s.data.toList with
  | error x => exact quoted_bad s wh w hm hG x hr
  | ok ts =>
    by_cases h4 : 600 < s.size
    · exact quoted_long s wh w hm hG ts hr h4
    · have hfine := Tk.tokens_fine hr
      have hsz := hfine.size
      rw [size_data] at hsz
      obtain ⟨acc, hts, -⟩ := Tk.tokens_good hr
      have hpos : 0 < ts.length := by rw [hts]; simp
      obtain ⟨i, hi, he⟩ := index_of wh ts.length hpos (by omega)
      exact quoted_main s wh w hG ts hr (by omega) i (ts[i]).1 (ts[i]).2.1 (ts[i]).2.2 (List.getElem?_eq_getElem hi) he
end Go.Proofs.YtgmfhcnhpkeapaaGreatDoor

