import Derived.Test.YtaefonagbcnmdaaGreatDoorM2
import Derived.Deep.DeepCutAuto
set_option linter.unusedSimpArgs false
set_option linter.unusedVariables false
namespace Go.Proofs.YtaefonagbcnmdaaGreatDoor
open Go.RowKit

/-- Nothing of what is there for good has turned. -/
def Firm (κ : Nat → Nat) (w w' : World) : Prop := w.heap.size ≤ w'.heap.size ∧ ∀ b, b < w.heap.size → κ b = 0 → w'.heap[b]? = w.heap[b]?
theorem Targs.firm {κ : Nat → Nat} {w w' : World} (h : Firm κ w w') {v : Value} {ts : List Tm} (ht : Targs w κ v ts) : Targs w' κ v ts := by
  induction ht with
  | nil A cap => exact .nil A cap
  | mk g o cap ts vs hl hc hg hk cells sub ih =>
    exact .mk g o cap ts vs hl hc (Nat.lt_of_lt_of_le hg h.1) hk (fun j u hu => (World.cell?_of_block (a := ⟨g, o + j, none⟩) (h.2 g hg hk)).trans (cells j u hu)) ih
theorem TokR.firm {κ : Nat → Nat} {w w' : World} (h : Firm κ w w') {v : Value} {ts : List Tm.T} (ht : TokR w κ v ts) : TokR w' κ v ts := by
  obtain ⟨A, cap, hv, hc, hi⟩ := ht
  refine ⟨A, cap, hv, hc, fun i t ht => ?_⟩
  obtain ⟨g, o, hA, hg, hk, h0, h1, h2⟩ := hi i t ht
  have e1 := h.2 g hg hk
  exact ⟨g, o, hA, Nat.lt_of_lt_of_le hg h.1, hk, (World.cell?_of_block (a := ⟨g, _, none⟩) e1).trans h0, (World.cell?_of_block (a := ⟨g, _, none⟩) e1).trans h1, (World.cell?_of_block (a := ⟨g, _, none⟩) e1).trans h2⟩
theorem Ents.firm {κ : Nat → Nat} {w w' : World} {P : Nat → Prop} (h : Stays κ κ w w' P) (hF : Firm κ w w') (hP : ∀ n, 4 ≤ n → P n) {B : Nat} : ∀ {es : List Tm.E}, Ents w κ B es → Ents w' κ B es
  | [], _ => trivial
  | e :: r, ⟨h1, h2⟩ => by
    refine ⟨?_, Ents.firm h hF hP h2⟩
    obtain ⟨⟨vs, hl, hown, hs⟩, hkp, hq, hkq⟩ := h1
    obtain ⟨o1, o2⟩ := own_stays h hown hkp (hP _ (by omega))
    obtain ⟨o3, o4⟩ := own_stays h hq hkq (hP _ (by omega))
    exact ⟨⟨vs, hl, o1, fun j a t ha ht => (hs j a t ha ht).firm hF⟩, o2, o3, o4⟩
/-- A block of others has turned. -/
theorem RInv.aside {w w' : World} {κ : Nat → Nat} {g : Nat} {ts : List Tm.T} {en : Tm.T} {s : Tm.S} {es : List Tm.E} {tv sv av : Value} (h : RInv w κ g ts en s es tv sv av) {N : Nat} (hg : w.grownBy w' (some N)) (hN : κ N = 1) : RInv w' κ g ts en s es tv sv av := by
  have hS : Stays κ κ w w' (fun x => x ≠ 1) := .of_grown hg (fun k e => by cases e; exact hN)
  have hF : Firm κ w w' := ⟨hg.size, fun b hb hk => hg.block b hb (fun e => by cases e; omega)⟩
  exact ⟨h.blk.grown hg (fun e => by cases e; have := h.kg; omega), h.kg, h.toks.firm hF, (own_stays hS h.own h.ks (by decide)).1, h.ks, h.ents.firm hS hF (fun n hn => by omega), h.term.firm hF, h.stack, h.hi, h.hn, h.hes, h.hp⟩
theorem Kept.above {w w2 w3 : World} {κ κ' : Nat → Nat} (h : Kept κ κ' w w2) {N : Nat} (hg : w2.grownBy w3 (some N)) (hN : w.heap.size ≤ N) : Kept κ κ' w w3 :=
  ⟨hg.os.trans h.os, hg.tape.trans h.tape, hg.output.trans h.output, Nat.le_trans h.size hg.size, fun b hb hk => by
    obtain ⟨e1, e2⟩ := h.block b hb hk
    exact ⟨(hg.block b (Nat.lt_of_lt_of_le hb h.size) (fun e => by cases e; omega)).trans e1, e2⟩⟩
section
variable {w : World} {κ : Nat → Nat} {g : Nat} {ts : List Tm.T} {en : Tm.T} {s : Tm.S} {e : Tm.E} {es : List Tm.E} {tv av : Value} {q cap : Nat}
set_option maxRecDepth 100000 in
set_option maxHeartbeats 4000000 in
theorem afterArgument_comma (h : RInv w κ g ts en s (e :: es) tv (.slice (some ⟨q, 0, none⟩) (es.length + 1) cap) av) (hi : s.i ≤ ts.length) (hx : Tm.punct (Tm.peek ts en s.i) = [44]) :
    Calls Tryz.prog 169 #[.pointer (some ⟨g, 0, none⟩), .pointer (some ⟨q, es.length * 9, none⟩)] w (GPost w κ g ts en tv (.slice (some ⟨q, 0, none⟩) (es.length + 1) cap) av s es (.ok (s.i + 1, e.1, none))) := by
  have hx' : Tm.punct (Tm.peek ts en s.i) = (⟨#[44]⟩ : ByteArray).toList := by rw [Go.ByteArray.toList_eq]; exact hx
  have HX := Lib.hid hx'; clear hx hx'
  obtain ⟨κ1, hR1, hK1, hc⟩ := h.boxed (.cells #[.int .i64 0, .string ⟨#[]⟩, .int .i64 0, .slice none 0 0, .int .i64 0] 32)
  have HR1 := Lib.hid hR1
  have HK1 := Lib.hid hK1
  have HC := Lib.hid hc
  clear h hR1 hK1 hc
  go_enter Tryz.func169, Tryz.ntmps169
  go_wp2_with fail
  refine (pskip_yes HR1.out hi _ HX.out).mono ?_
  rintro r w2 ⟨rfl, hR2, hK2⟩
  have hb2 := (Blk.new w 32 #[.int .i64 0, .string ⟨#[]⟩, .int .i64 0, .slice none 0 0, .int .i64 0]).kept hK2 HC.out
  obtain ⟨r0, r1, r2, r3, r4⟩ : w2.cell? ⟨w.heap.size, 0, none⟩ = some (.int .i64 0) ∧ w2.cell? ⟨w.heap.size, 1, none⟩ = some (.string ⟨#[]⟩) ∧ w2.cell? ⟨w.heap.size, 2, none⟩ = some (.int .i64 0) ∧ w2.cell? ⟨w.heap.size, 3, none⟩ = some (.slice none 0 0) ∧ w2.cell? ⟨w.heap.size, 4, none⟩ = some (.int .i64 0) :=
    ⟨by simpa using hb2.cell 0, by simpa using hb2.cell 1, by simpa using hb2.cell 2, by simpa using hb2.cell 3, by simpa using hb2.cell 4⟩
  have hf := hb2.frozen
  have hrl := hb2.lt
  have HB2 := Lib.hid hb2
  have HR2 := Lib.hid hR2
  have HK2 := Lib.hid hK2
  clear hb2 hR2 hK2
  go_wp2_with fail
  obtain ⟨w3, hw3, hE3, hG3, hB3, q0, q1, q2, q3, q4⟩ := HB2.out.term5 0 ⟨#[]⟩ 0 (.slice none 0 0) 0
  rw [hw3]
  refine bodyPost_ret (v := .tuple #[Tm.val Tm.zero (.slice none 0 0), .bool false]) (by simp [results, Tryz.results169, go_sem, q0, q1, q2, q3, q4, Tm.val, Tm.zero, Tm.kind, Tm.name, Tm.num, Tm.at_]) rfl ⟨Tm.zero, none, 0, 0, rfl, κ1, e, ?_, rfl, (HK1.out.trans HK2.out).above hG3 (Nat.le_refl _)⟩
  exact (HR2.out.aside hG3 HC.out).spelt
end
end Go.Proofs.YtaefonagbcnmdaaGreatDoor

namespace Go.Proofs.YtaefonagbcnmdaaGreatDoor
open Go.RowKit

theorem low3 {w w' : World} {B q i j k : Nat} {x y z : Value} (h : w.cell? ⟨q, i, none⟩ = some x ∧ w.cell? ⟨q, j, none⟩ = some y ∧ w.cell? ⟨q, k, none⟩ = some z) (hB : Below B w w') (hq : q < B) :
    w'.cell? ⟨q, i, none⟩ = some x ∧ w'.cell? ⟨q, j, none⟩ = some y ∧ w'.cell? ⟨q, k, none⟩ = some z :=
  ⟨(hB.cell (p := ⟨q, i, none⟩) hq).trans h.1, (hB.cell (p := ⟨q, j, none⟩) hq).trans h.2.1, (hB.cell (p := ⟨q, k, none⟩) hq).trans h.2.2⟩
theorem far3 {w : World} {N o q i j k : Nat} {x y z u : Value} (h : w.cell? ⟨q, i, none⟩ = some x ∧ w.cell? ⟨q, j, none⟩ = some y ∧ w.cell? ⟨q, k, none⟩ = some z) (hN : q ≠ N) :
    (w.setCell ⟨N, o, none⟩ u).cell? ⟨q, i, none⟩ = some x ∧ (w.setCell ⟨N, o, none⟩ u).cell? ⟨q, j, none⟩ = some y ∧ (w.setCell ⟨N, o, none⟩ u).cell? ⟨q, k, none⟩ = some z := by
  have e := Below.heap_setCell w ⟨N, o, none⟩ u q hN
  exact ⟨(World.cell?_of_block (a := ⟨q, i, none⟩) e).trans h.1, (World.cell?_of_block (a := ⟨q, j, none⟩) e).trans h.2.1, (World.cell?_of_block (a := ⟨q, k, none⟩) e).trans h.2.2⟩
section
variable {w : World} {κ : Nat → Nat} {g : Nat} {ts : List Tm.T} {en : Tm.T} {s : Tm.S} {e : Tm.E} {es : List Tm.E} {tv av : Value} {q cap : Nat}
set_option maxRecDepth 100000 in
set_option maxHeartbeats 4000000 in
theorem afterArgument_close (h : RInv w κ g ts en s (e :: es) tv (.slice (some ⟨q, 0, none⟩) (es.length + 1) cap) av) (hi : s.i ≤ ts.length) (hx : Tm.punct (Tm.peek ts en s.i) = [41]) (hsu : Tm.suits e.1.name e.1.parts = true) :
    Calls Tryz.prog 169 #[.pointer (some ⟨g, 0, none⟩), .pointer (some ⟨q, es.length * 9, none⟩)] w (GPost w κ g ts en tv (.slice (some ⟨q, 0, none⟩) (es.length + 1) cap) av s es (.ok (s.i + 1, e.1, some (Tm.app e.1.name e.1.at_ e.1.parts)))) := by
  have hx' : Tm.punct (Tm.peek ts en s.i) = (⟨#[41]⟩ : ByteArray).toList := by rw [Go.ByteArray.toList_eq]; exact hx
  have hy' : Tm.punct (Tm.peek ts en s.i) ≠ (⟨#[44]⟩ : ByteArray).toList := by rw [Go.ByteArray.toList_eq, hx]; decide
  have HX := Lib.hid hx'; clear hx hx'
  have HY := Lib.hid hy'; clear hy'
  have HSU := Lib.hid hsu; clear hsu
  obtain ⟨κ1, hR1, hK1, hc⟩ := h.boxed (.cells #[.int .i64 0, .string ⟨#[]⟩, .int .i64 0, .slice none 0 0, .int .i64 0] 32)
  have HR1 := Lib.hid hR1
  have HK1 := Lib.hid hK1
  have HC := Lib.hid hc
  clear h hR1 hK1 hc
  go_enter Tryz.func169, Tryz.ntmps169
  go_wp2_with fail
  refine (pskip_no HR1.out _ HY.out).mono ?_
  rintro r w2 ⟨rfl, hB2⟩
  have HB2 := Lib.hid hB2
  clear hB2
  go_wp2_with fail
  refine (expect_ok (HR1.out.below HB2.out) hi _ HX.out).mono ?_
  rintro r w3 ⟨rfl, hR3, hK3⟩
  have hb3 := ((Blk.new w 32 #[.int .i64 0, .string ⟨#[]⟩, .int .i64 0, .slice none 0 0, .int .i64 0]).below HB2.out (by simp)).kept hK3 HC.out
  obtain ⟨Ap, cp, Aq, cq, he2, hh, hql, hq3, ⟨f0, f1, f2, f3, f4, f5, f6, f7, f8⟩, hqf⟩ := hR3.top9
  have hS3 : (w3.drew).cell? ⟨q, es.length * 9 + 2, none⟩ = some (.string ⟨e.1.name.toArray⟩) ∧ (w3.drew).cell? ⟨q, es.length * 9 + 3, none⟩ = some (.int .i64 e.1.at_) ∧ (w3.drew).cell? ⟨q, es.length * 9 + 4, none⟩ = some (.slice Ap e.1.parts.length cp) := ⟨f2, f3, f4⟩
  have hqN : q ≠ w.heap.size := by
    intro h0
    rw [h0] at hq3
    rw [HC.out] at hq3
    cases hq3
  have hrl := hb3.lt
  have HH3 := Lib.hid hh
  have HB3 := Lib.hid hb3
  have HR3 := Lib.hid hR3
  have HK3 := Lib.hid hK3
  have HE2 := Lib.hid he2
  clear hb3 hR3 hK3 hh f0 f1 f2 f3 f4 f5 f6 f7 f8 hqf he2 hq3
  go_wp2_with fail
  go_region_held3 (fun w' => w'.cell? ⟨q, es.length * 9 + 2, none⟩ = some (.string ⟨e.1.name.toArray⟩) ∧ w'.cell? ⟨q, es.length * 9 + 3, none⟩ = some (.int .i64 e.1.at_) ∧ w'.cell? ⟨q, es.length * 9 + 4, none⟩ = some (.slice Ap e.1.parts.length cp))
    (first | with_reducible exact hS3 | with_reducible exact hS4 | with_reducible exact hS5 | with_reducible exact far3 (far3 (far3 (far3 (far3 hS5 hqN) hqN) hqN) hqN) hqN)
    (first
    | (go_at_call 164; refine (application_any _ _ Ap e.1.parts.length cp _).mono ?_; (rintro r w4 ⟨rfl, hB4⟩); have hS4 := low3 hS3 hB4 hql; have hql4 : q < w4.heap.size := World.block_lt_of_cell? w4 _ hS4.1; have HB4 := Lib.hid (show Below w3.heap.size w3 w4 from ((Below.refl w3.heap.size w3).drew).trans hB4); clear hB4)
    | (go_at_call 167; refine (checked_ok (Tm.app e.1.name e.1.at_ e.1.parts) (.slice Ap e.1.parts.length cp) _ (HH3.out.below HB4.out) HSU.out).mono ?_; (rintro r w5 ⟨rfl, hB5⟩); have hS5 := low3 hS4 hB5 hql4; have hbN : Blk w5 w.heap.size 32 #[.int .i64 0, .string ⟨#[]⟩, .int .i64 0, .slice none 0 0, .int .i64 0] := (HB3.out.below HB4.out hrl).below hB5 (Nat.lt_of_lt_of_le hrl HB4.out.size); (obtain ⟨r0, r1, r2, r3, r4⟩ : w5.cell? ⟨w.heap.size, 0, none⟩ = some (.int .i64 0) ∧ w5.cell? ⟨w.heap.size, 1, none⟩ = some (.string ⟨#[]⟩) ∧ w5.cell? ⟨w.heap.size, 2, none⟩ = some (.int .i64 0) ∧ w5.cell? ⟨w.heap.size, 3, none⟩ = some (.slice none 0 0) ∧ w5.cell? ⟨w.heap.size, 4, none⟩ = some (.int .i64 0) := ⟨by simpa using hbN.cell 0, by simpa using hbN.cell 1, by simpa using hbN.cell 2, by simpa using hbN.cell 3, by simpa using hbN.cell 4⟩); have hf := hbN.frozen; have hrl5 := hbN.lt; have HBN := Lib.hid hbN; have HB5 := Lib.hid (HB4.out.trans (hB5.mono HB4.out.size)); clear hB5 hbN))
  all_goals
    go_wp2_with fail
    obtain ⟨w6, hw6, hE6, hG6, hB6, q0, q1, q2, q3, q4⟩ := HBN.out.term5 (Tm.app e.1.name e.1.at_ e.1.parts).kind ⟨(Tm.app e.1.name e.1.at_ e.1.parts).name.toArray⟩ (Tm.app e.1.name e.1.at_ e.1.parts).num (.slice Ap e.1.parts.length cp) (Tm.app e.1.name e.1.at_ e.1.parts).at_
    rw [hw6]
    refine bodyPost_ret (v := .tuple #[Tm.val (Tm.app e.1.name e.1.at_ e.1.parts) (.slice Ap e.1.parts.length cp), .bool true]) (by simp [results, Tryz.results169, go_sem, q0, q1, q2, q3, q4, Tm.val]) rfl ⟨_, rfl, κ1, e, ?_, rfl, .inr ⟨by rw [HE2.out], rfl⟩, ((HK1.out.trans (.below HB2.out)).trans (HK3.out.trans (.below HB5.out))).above hG6 (Nat.le_refl _)⟩
    exact ((HR3.out.below HB5.out).aside hG6 HC.out).spelt
end
end Go.Proofs.YtaefonagbcnmdaaGreatDoor

namespace Go.Proofs.YtaefonagbcnmdaaGreatDoor
open Go.RowKit

section
variable {w : World} {κ : Nat → Nat} {g : Nat} {ts : List Tm.T} {en : Tm.T} {s : Tm.S} {e : Tm.E} {es : List Tm.E} {tv av : Value} {q cap : Nat}
set_option maxRecDepth 100000 in
set_option maxHeartbeats 4000000 in
theorem afterArgument_unfit (h : RInv w κ g ts en s (e :: es) tv (.slice (some ⟨q, 0, none⟩) (es.length + 1) cap) av) (hi : s.i ≤ ts.length) (hx : Tm.punct (Tm.peek ts en s.i) = [41]) (hsu : Tm.suits e.1.name e.1.parts = false) :
    Calls Tryz.prog 169 #[.pointer (some ⟨g, 0, none⟩), .pointer (some ⟨q, es.length * 9, none⟩)] w (GPost w κ g ts en tv (.slice (some ⟨q, 0, none⟩) (es.length + 1) cap) av s es (.error (e.1.at_, 11))) := by
  have hx' : Tm.punct (Tm.peek ts en s.i) = (⟨#[41]⟩ : ByteArray).toList := by rw [Go.ByteArray.toList_eq]; exact hx
  have hy' : Tm.punct (Tm.peek ts en s.i) ≠ (⟨#[44]⟩ : ByteArray).toList := by rw [Go.ByteArray.toList_eq, hx]; decide
  have HX := Lib.hid hx'; clear hx hx'
  have HY := Lib.hid hy'; clear hy'
  have HSU := Lib.hid hsu; clear hsu
  obtain ⟨κ1, hR1, hK1, hc⟩ := h.boxed (.cells #[.int .i64 0, .string ⟨#[]⟩, .int .i64 0, .slice none 0 0, .int .i64 0] 32)
  have HR1 := Lib.hid hR1
  have HK1 := Lib.hid hK1
  have HC := Lib.hid hc
  clear h hR1 hK1 hc
  go_enter Tryz.func169, Tryz.ntmps169
  go_wp2_with fail
  refine (pskip_no HR1.out _ HY.out).mono ?_
  rintro r w2 ⟨rfl, hB2⟩
  have HB2 := Lib.hid hB2
  clear hB2
  go_wp2_with fail
  refine (expect_ok (HR1.out.below HB2.out) hi _ HX.out).mono ?_
  rintro r w3 ⟨rfl, hR3, hK3⟩
  have hb3 := ((Blk.new w 32 #[.int .i64 0, .string ⟨#[]⟩, .int .i64 0, .slice none 0 0, .int .i64 0]).below HB2.out (by simp)).kept hK3 HC.out
  obtain ⟨Ap, cp, Aq, cq, he2, hh, hql, hq3, ⟨f0, f1, f2, f3, f4, f5, f6, f7, f8⟩, hqf⟩ := hR3.top9
  have hS3 : (w3).cell? ⟨q, es.length * 9 + 2, none⟩ = some (.string ⟨e.1.name.toArray⟩) ∧ w3.cell? ⟨q, es.length * 9 + 3, none⟩ = some (.int .i64 e.1.at_) ∧ w3.cell? ⟨q, es.length * 9 + 4, none⟩ = some (.slice Ap e.1.parts.length cp) := ⟨f2, f3, f4⟩
  have hqN : q ≠ w.heap.size := by
    intro h0
    rw [h0] at hq3
    rw [HC.out] at hq3
    cases hq3
  have hrl := hb3.lt
  have HH3 := Lib.hid hh
  have HB3 := Lib.hid hb3
  have HR3 := Lib.hid hR3
  have HK3 := Lib.hid hK3
  have HE2 := Lib.hid he2
  clear hb3 hR3 hK3 hh f0 f1 f5 f6 f7 f8 hqf he2 hq3
  go_wp2_with fail
  obtain ⟨f2, f3, f4⟩ := hS3
  go_still_tail 12, (by kernel_rfl)
  go_wp2_with fail
  refine (application_any _ _ Ap e.1.parts.length cp _).mono ?_
  rintro r w4 ⟨rfl, hB4⟩
  have HB4 := Lib.hid (show Below w3.heap.size w3 w4 from ((Below.refl w3.heap.size w3).drew).trans hB4)
  clear hB4
  go_wp2_with fail
  refine (checked_bad (Tm.app e.1.name e.1.at_ e.1.parts) (.slice Ap e.1.parts.length cp) _ (HH3.out.below HB4.out) HSU.out).mono ?_
  rintro r w5 ⟨hr5, hB5⟩
  unfold Tm.thrown at hr5
  subst hr5
  go_wp2_with fail
  exact ⟨rfl, rfl, κ1, (HK1.out.trans (.below HB2.out)).trans (HK3.out.trans (.below (HB4.out.trans (hB5.mono HB4.out.size))))⟩
set_option maxRecDepth 100000 in
set_option maxHeartbeats 4000000 in
theorem afterArgument_bad (h : RInv w κ g ts en s (e :: es) tv (.slice (some ⟨q, 0, none⟩) (es.length + 1) cap) av) (h1 : Tm.punct (Tm.peek ts en s.i) ≠ [44]) (h2 : Tm.punct (Tm.peek ts en s.i) ≠ [41]) :
    Calls Tryz.prog 169 #[.pointer (some ⟨g, 0, none⟩), .pointer (some ⟨q, es.length * 9, none⟩)] w (GPost w κ g ts en tv (.slice (some ⟨q, 0, none⟩) (es.length + 1) cap) av s es (.error (Tm.refusal (Tm.peek ts en s.i)))) := by
  have hx' : Tm.punct (Tm.peek ts en s.i) ≠ (⟨#[41]⟩ : ByteArray).toList := by rw [Go.ByteArray.toList_eq]; exact h2
  have hy' : Tm.punct (Tm.peek ts en s.i) ≠ (⟨#[44]⟩ : ByteArray).toList := by rw [Go.ByteArray.toList_eq]; exact h1
  have HX := Lib.hid hx'; clear h2 hx'
  have HY := Lib.hid hy'; clear h1 hy'
  have HH := Lib.hid h; clear h
  have hB1 := (Below.refl w.heap.size w).alloc (Nat.le_refl _) (.cells #[.int .i64 0, .string ⟨#[]⟩, .int .i64 0, .slice none 0 0, .int .i64 0] 32)
  have HB1 := Lib.hid hB1; clear hB1
  go_enter Tryz.func169, Tryz.ntmps169
  go_wp2_with fail
  refine (pskip_no (HH.out.below HB1.out) _ HY.out).mono ?_
  rintro r w2 ⟨rfl, hB2⟩
  have HB2 := Lib.hid (HB1.out.trans (hB2.mono HB1.out.size))
  clear hB2
  go_wp2_with fail
  refine (expect_bad (HH.out.below HB2.out) _ HX.out).mono ?_
  rintro r w3 ⟨hr3, hB3⟩
  unfold Tm.thrown at hr3
  subst hr3
  go_wp2_with fail
  exact ⟨rfl, rfl, κ, .below (HB2.out.trans (hB3.mono HB2.out.size))⟩
end
end Go.Proofs.YtaefonagbcnmdaaGreatDoor

namespace Go.Proofs.YtaefonagbcnmdaaGreatDoor
open Go.RowKit

theorem own_cells0 {w : World} {B : Nat} {e : TypeId} {size n : Nat} {v : Value} {xs : List Value} (h : w.ownsRow B e size v n xs) (hn : 0 < n) :
    ∃ q cap, v = .slice (some ⟨q, 0, none⟩) n cap ∧ ∀ j u, xs[j]? = some u → w.cell? ⟨q, 0 + j, none⟩ = some u := by
  obtain ⟨m, rfl⟩ : ∃ m, n = m + 1 := ⟨n - 1, by omega⟩
  obtain ⟨q, cap, hv⟩ := own_form2 h
  subst hv
  refine ⟨q, cap, rfl, fun j u hu => ?_⟩
  have := h.cells (g := q) rfl j u hu
  rwa [show (⟨q, 0, none⟩ : Addr).add j = ⟨q, 0 + j, none⟩ from by unfold Addr.add; split <;> simp_all] at this
/-- New blocks will be there for good. -/
def fresh0 (κ : Nat → Nat) (N : Nat) : Nat → Nat := fun b => if N ≤ b then 0 else κ b
theorem RInv.fresh {w : World} {κ : Nat → Nat} {g : Nat} {ts : List Tm.T} {en : Tm.T} {s : Tm.S} {es : List Tm.E} {tv sv av : Value} (h : RInv w κ g ts en s es tv sv av) :
    RInv w (fresh0 κ w.heap.size) g ts en s es tv sv av ∧ Kept κ (fresh0 κ w.heap.size) w w := by
  have hS : Stays κ (fresh0 κ w.heap.size) w w (fun _ => True) := fun b hb _ => ⟨rfl, if_neg (by omega)⟩
  have hK : Kept κ (fresh0 κ w.heap.size) w w := ⟨rfl, rfl, rfl, Nat.le_refl _, fun b hb _ => hS b hb trivial⟩
  obtain ⟨h1, h2⟩ := own_stays hS h.own h.ks trivial
  exact ⟨⟨h.blk, (hS g h.blk.lt trivial).2.trans h.kg, h.toks.kept hK, h1, h2, h.ents.stays hS hK (fun _ _ => ⟨trivial, trivial⟩), h.term.kept hK, h.stack, h.hi, h.hn, h.hes, h.hp⟩, hK⟩
section
variable {w : World} {κ : Nat → Nat} {g : Nat} {ts : List Tm.T} {en : Tm.T} {s : Tm.S} {e : Tm.E} {es : List Tm.E} {tv av : Value} {q cap : Nat}
set_option maxRecDepth 100000 in
set_option maxHeartbeats 4000000 in
theorem afterElement_bar (h : RInv w κ g ts en s (e :: es) tv (.slice (some ⟨q, 0, none⟩) (es.length + 1) cap) av) (hi : s.i ≤ ts.length) (hx : Tm.punct (Tm.peek ts en s.i) = [124]) :
    Calls Tryz.prog 171 #[.pointer (some ⟨g, 0, none⟩), .pointer (some ⟨q, es.length * 9, none⟩)] w (GPost w κ g ts en tv (.slice (some ⟨q, 0, none⟩) (es.length + 1) cap) av s es (.ok (s.i + 1, { e.1 with kind := 6 }, none))) := by
  have hx' : Tm.punct (Tm.peek ts en s.i) = (⟨#[124]⟩ : ByteArray).toList := by rw [Go.ByteArray.toList_eq]; exact hx
  have hy' : Tm.punct (Tm.peek ts en s.i) ≠ (⟨#[44]⟩ : ByteArray).toList := by rw [Go.ByteArray.toList_eq, hx]; decide
  have HX := Lib.hid hx'; clear hx hx'
  have HY := Lib.hid hy'; clear hy'
  obtain ⟨κ1, hR1, hK1, hc⟩ := h.boxed (.cells #[.int .i64 0, .string ⟨#[]⟩, .int .i64 0, .slice none 0 0, .int .i64 0] 32)
  have HR1 := Lib.hid hR1
  have HK1 := Lib.hid hK1
  have HC := Lib.hid hc
  clear h hR1 hK1 hc
  go_enter Tryz.func171, Tryz.ntmps171
  go_wp2_with fail
  refine (pskip_no HR1.out _ HY.out).mono ?_
  rintro r w2 ⟨rfl, hB2⟩
  have HB2 := Lib.hid hB2
  clear hB2
  go_wp2_with fail
  refine (pskip_yes (HR1.out.below HB2.out) hi _ HX.out).mono ?_
  rintro r w3 ⟨rfl, hR3, hK3⟩
  have hb3 := ((Blk.new w 32 #[.int .i64 0, .string ⟨#[]⟩, .int .i64 0, .slice none 0 0, .int .i64 0]).below HB2.out (by simp)).kept hK3 HC.out
  obtain ⟨Ap, cp, Aq, cq, he2, hh, hql, hq3, ⟨f0, _⟩, hqf⟩ := hR3.top9
  have hqN : w.heap.size ≠ q := by
    intro h0
    rw [← h0] at hq3
    rw [HC.out] at hq3
    cases hq3
  obtain ⟨hR4, hK4⟩ := hR3.setTop (e' := ({ e.1 with kind := 6 }, e.2)) 0 (.int .i64 6) rfl rfl rfl rfl
  have hb4 := hb3.far (p := ⟨q, es.length * 9, none⟩) hqN (.int .i64 6)
  have HR4 := Lib.hid hR4
  have HK4 := Lib.hid (hK3.trans hK4)
  have HB4 := Lib.hid hb4
  obtain ⟨r0, r1, r2, r3, r4⟩ : w3.cell? ⟨w.heap.size, 0, none⟩ = some (.int .i64 0) ∧ w3.cell? ⟨w.heap.size, 1, none⟩ = some (.string ⟨#[]⟩) ∧ w3.cell? ⟨w.heap.size, 2, none⟩ = some (.int .i64 0) ∧ w3.cell? ⟨w.heap.size, 3, none⟩ = some (.slice none 0 0) ∧ w3.cell? ⟨w.heap.size, 4, none⟩ = some (.int .i64 0) :=
    ⟨by simpa using hb3.cell 0, by simpa using hb3.cell 1, by simpa using hb3.cell 2, by simpa using hb3.cell 3, by simpa using hb3.cell 4⟩
  have hf := hb3.frozen
  have hrl := hb3.lt
  have hNq : q ≠ w.heap.size := hqN.symm
  clear hb3 hR3 hK3 hh he2 hq3 hR4 hK4 hb4
  go_wp2_with fail
  obtain ⟨w5, hw5, hE5, hG5, hB5, q0, q1, q2, q3, q4⟩ := HB4.out.term5 0 ⟨#[]⟩ 0 (.slice none 0 0) 0
  rw [hw5]
  refine bodyPost_ret (v := .tuple #[Tm.val Tm.zero (.slice none 0 0), .bool false]) (by simp [results, Tryz.results171, go_sem, q0, q1, q2, q3, q4, Tm.val, Tm.zero, Tm.kind, Tm.name, Tm.num, Tm.at_]) rfl ⟨Tm.zero, none, 0, 0, rfl, κ1, ({ e.1 with kind := 6 }, e.2), ?_, rfl, ((HK1.out.trans (.below HB2.out)).trans HK4.out).above hG5 (Nat.le_refl _)⟩
  exact (HR4.out.aside hG5 HC.out).spelt
set_option maxRecDepth 100000 in
set_option maxHeartbeats 4000000 in
theorem afterElement_bad (h : RInv w κ g ts en s (e :: es) tv (.slice (some ⟨q, 0, none⟩) (es.length + 1) cap) av) (h1 : Tm.punct (Tm.peek ts en s.i) ≠ [44]) (h2 : Tm.punct (Tm.peek ts en s.i) ≠ [124]) (h3 : Tm.punct (Tm.peek ts en s.i) ≠ [93]) :
    Calls Tryz.prog 171 #[.pointer (some ⟨g, 0, none⟩), .pointer (some ⟨q, es.length * 9, none⟩)] w (GPost w κ g ts en tv (.slice (some ⟨q, 0, none⟩) (es.length + 1) cap) av s es (.error (Tm.refusal (Tm.peek ts en s.i)))) := by
  have hx' : Tm.punct (Tm.peek ts en s.i) ≠ (⟨#[124]⟩ : ByteArray).toList := by rw [Go.ByteArray.toList_eq]; exact h2
  have hy' : Tm.punct (Tm.peek ts en s.i) ≠ (⟨#[44]⟩ : ByteArray).toList := by rw [Go.ByteArray.toList_eq]; exact h1
  have hz' : Tm.punct (Tm.peek ts en s.i) ≠ (⟨#[93]⟩ : ByteArray).toList := by rw [Go.ByteArray.toList_eq]; exact h3
  have HX := Lib.hid hx'; clear h2 hx'
  have HY := Lib.hid hy'; clear h1 hy'
  have HZ := Lib.hid hz'; clear h3 hz'
  have HH := Lib.hid h; clear h
  have HB1 := Lib.hid ((Below.refl w.heap.size w).alloc (Nat.le_refl _) (.cells #[.int .i64 0, .string ⟨#[]⟩, .int .i64 0, .slice none 0 0, .int .i64 0] 32))
  have hf := field_tok
  go_enter Tryz.func171, Tryz.ntmps171
  go_wp2_with fail
  refine (pskip_no (HH.out.below HB1.out) _ HY.out).mono ?_
  rintro r w2 ⟨rfl, hB2⟩
  have HB2 := Lib.hid (HB1.out.trans (hB2.mono HB1.out.size))
  clear hB2
  go_wp2_with fail
  refine (pskip_no (HH.out.below HB2.out) _ HX.out).mono ?_
  rintro r w3 ⟨rfl, hB3⟩
  have HB3 := Lib.hid (HB2.out.trans (hB3.mono HB2.out.size))
  clear hB3
  go_wp2_with fail
  refine (peek_any (HH.out.below HB3.out)).mono ?_
  rintro r w4 ⟨rfl, hB4⟩
  have HB4 := Lib.hid (HB3.out.trans (hB4.mono HB3.out.size))
  clear hB4
  go_wp2_with fail
  refine (application_any _ _ none 0 0 _).mono ?_
  rintro r w5 ⟨rfl, hB5⟩
  have HB5 := Lib.hid (HB4.out.trans (hB5.mono HB4.out.size))
  clear hB5
  go_wp2_with fail
  have hB6 := HB5.out.alloc HB5.out.size (.cells #[.int .i64 4, .string ⟨#[91, 93]⟩, .int .i64 0, .slice none 0 0, .int .i64 (Tm.peek ts en s.i).2.2] 32)
  refine (expect_bad (HH.out.below hB6) _ HZ.out).mono ?_
  rintro r w7 ⟨hr7, hB7⟩
  unfold Tm.thrown at hr7
  subst hr7
  go_wp2_with fail
  exact ⟨rfl, rfl, κ, .below (hB6.trans (hB7.mono hB6.size))⟩
end
end Go.Proofs.YtaefonagbcnmdaaGreatDoor

namespace Go.Proofs.YtaefonagbcnmdaaGreatDoor
open Go.RowKit

section
variable {w : World} {κ : Nat → Nat} {g : Nat} {ts : List Tm.T} {en : Tm.T} {s : Tm.S} {e : Tm.E} {es : List Tm.E} {tv av : Value} {q cap : Nat}
/-- The parts and the places of the innermost open term, for the list of them. -/
theorem RInv.topRows {w : World} {κ : Nat → Nat} {sv : Value} (h : RInv w κ g ts en s (e :: es) tv sv av) (h1 : 0 < e.1.parts.length) (h2 : 0 < e.1.places.length) :
    ∃ qp cp qq cq vs, e.2 = (.slice (some ⟨qp, 0, none⟩) e.1.parts.length cp, .slice (some ⟨qq, 0, none⟩) e.1.places.length cq) ∧ vs.length = e.1.parts.length ∧ (∀ j u, (Tm.flat e.1.parts vs)[j]? = some u → w.cell? ⟨qp, 0 + j, none⟩ = some u) ∧
      (∀ (j : Nat) a t, vs[j]? = some a → e.1.parts[j]? = some t → Targs w κ a t.args) ∧ (∀ (i : Nat) p, e.1.places[i]? = some p → w.cell? ⟨qq, 0 + i, none⟩ = some (.int .i64 p)) := by
  obtain ⟨⟨vs, hvl, hvo, hvs⟩, _, hqo, _⟩ := h.ents.1
  obtain ⟨qp, cp, hp, hpc⟩ := own_cells0 hvo h1
  obtain ⟨qq, cq, hq, hqc⟩ := own_cells0 hqo h2
  refine ⟨qp, cp, qq, cq, vs, Prod.ext hp hq, hvl, hpc, hvs, fun i p hi => hqc i _ (by rw [List.getElem?_map, hi]; rfl)⟩
set_option maxRecDepth 100000 in
set_option maxHeartbeats 4000000 in
theorem afterElement_close (h : RInv w κ g ts en s (e :: es) tv (.slice (some ⟨q, 0, none⟩) (es.length + 1) cap) av) (hi : s.i ≤ ts.length) (T : Tm.T) (hT : Tm.peek ts en s.i = T) (hx : Tm.punct T = [93]) (h1 : 0 < e.1.parts.length) (h2 : e.1.places.length = e.1.parts.length) :
    Calls Tryz.prog 171 #[.pointer (some ⟨g, 0, none⟩), .pointer (some ⟨q, es.length * 9, none⟩)] w (GPost w κ g ts en tv (.slice (some ⟨q, 0, none⟩) (es.length + 1) cap) av s es (.ok (s.i + 1, e.1, some (Tm.list e.1.parts e.1.places (Tm.app [91, 93] T.2.2 []))))) := by
  have hx' : Tm.punct (Tm.peek ts en s.i) = (⟨#[93]⟩ : ByteArray).toList := by rw [Go.ByteArray.toList_eq, hT]; exact hx
  have hy' : Tm.punct (Tm.peek ts en s.i) ≠ (⟨#[44]⟩ : ByteArray).toList := by rw [Go.ByteArray.toList_eq, hT, hx]; decide
  have hz' : Tm.punct (Tm.peek ts en s.i) ≠ (⟨#[124]⟩ : ByteArray).toList := by rw [Go.ByteArray.toList_eq, hT, hx]; decide
  have HX := Lib.hid hx'; clear hx hx'
  have HY := Lib.hid hy'; clear hy'
  have HZ := Lib.hid hz'; clear hz'
  have HT := Lib.hid hT; clear hT
  have H12 := Lib.hid (show 0 < e.1.parts.length ∧ e.1.places.length = e.1.parts.length from ⟨h1, h2⟩)
  have hn := h.hn
  have hi2 := h.hi
  have hpl := (h.hp e (by simp)).2
  clear h1 h2
  obtain ⟨κ1, hR1, hK1, hc⟩ := h.boxed (.cells #[.int .i64 0, .string ⟨#[]⟩, .int .i64 0, .slice none 0 0, .int .i64 0] 32)
  have HR1 := Lib.hid hR1
  have HK1 := Lib.hid hK1
  have HC := Lib.hid hc
  have hf := field_tok
  clear h hR1 hK1 hc
  go_enter Tryz.func171, Tryz.ntmps171
  go_wp2_with fail
  refine (pskip_no HR1.out _ HY.out).mono ?_
  rintro r w2 ⟨rfl, hB2⟩
  have HB2 := Lib.hid hB2
  clear hB2
  go_wp2_with fail
  refine (pskip_no (HR1.out.below HB2.out) _ HZ.out).mono ?_
  rintro r w3 ⟨rfl, hB3⟩
  have HB3 := Lib.hid (HB2.out.trans (hB3.mono HB2.out.size))
  clear hB3
  go_wp2_with fail
  refine (peek_any (HR1.out.below HB3.out)).mono ?_
  rintro r w4 ⟨rfl, hB4⟩
  rw [HT.out]
  have HB4 := Lib.hid (HB3.out.trans (hB4.mono HB3.out.size))
  clear hB4
  go_wp2_with fail
  refine (application_any _ _ none 0 0 _).mono ?_
  rintro r w5 ⟨rfl, hB5⟩
  have HB5 := Lib.hid (HB4.out.trans (hB5.mono HB4.out.size))
  clear hB5
  obtain ⟨κ2, hR6, hK6, hc6⟩ := (HR1.out.below HB5.out).boxed (.cells #[.int .i64 4, .string ⟨#[91, 93]⟩, .int .i64 0, .slice none 0 0, .int .i64 T.2.2] 32)
  have HR6 := Lib.hid hR6
  have HK6 := Lib.hid hK6
  have HC6 := Lib.hid hc6
  clear hR6 hK6 hc6
  go_wp2_with fail
  refine (expect_ok HR6.out hi _ HX.out).mono ?_
  rintro r w7 ⟨rfl, hR7, hK7⟩
  have hb5 : Blk w5 w.heap.size 32 #[.int .i64 0, .string ⟨#[]⟩, .int .i64 0, .slice none 0 0, .int .i64 0] := (Blk.new w 32 #[.int .i64 0, .string ⟨#[]⟩, .int .i64 0, .slice none 0 0, .int .i64 0]).below HB5.out (by simp)
  have hcN : κ2 w.heap.size = 1 := (HK6.out.block w.heap.size hb5.lt (by rw [HC.out]; exact Nat.le_refl 1)).2.trans HC.out
  have hb7 := (hb5.alloc (.cells #[.int .i64 4, .string ⟨#[91, 93]⟩, .int .i64 0, .slice none 0 0, .int .i64 T.2.2] 32)).kept hK7 hcN
  have hd7 := (Blk.new w5 32 #[.int .i64 4, .string ⟨#[91, 93]⟩, .int .i64 0, .slice none 0 0, .int .i64 T.2.2]).kept hK7 HC6.out
  obtain ⟨d0, d1, d2, d3, d4⟩ : w7.cell? ⟨w5.heap.size, 0, none⟩ = some (.int .i64 4) ∧ w7.cell? ⟨w5.heap.size, 1, none⟩ = some (.string ⟨#[91, 93]⟩) ∧ w7.cell? ⟨w5.heap.size, 2, none⟩ = some (.int .i64 0) ∧ w7.cell? ⟨w5.heap.size, 3, none⟩ = some (.slice none 0 0) ∧ w7.cell? ⟨w5.heap.size, 4, none⟩ = some (.int .i64 T.2.2) :=
    ⟨by simpa using hd7.cell 0, by simpa using hd7.cell 1, by simpa using hd7.cell 2, by simpa using hd7.cell 3, by simpa using hd7.cell 4⟩
  obtain ⟨hR8, hK8⟩ := hR7.fresh
  have hcN8 : fresh0 κ2 w7.heap.size w.heap.size = 1 := (if_neg (by have := hb7.lt; omega)).trans hcN
  obtain ⟨_, _, _, _, hea, _, hql, hq3, ⟨f0, f1, f2, f3, f4, f5, f6, f7, f8⟩, hqf⟩ := hR8.top9
  obtain ⟨qp, cp, qq, cq, vs, heb, hvl, hc1, hc2, hc3⟩ := hR8.topRows H12.out.1 (by rw [H12.out.2]; exact H12.out.1)
  rw [hea] at heb
  obtain ⟨e1, e2⟩ := Prod.mk.inj heb
  rw [e1] at f4 hea
  rw [e2] at f5 hea
  clear e1 e2 heb f0 f1 f2 f3 f6 f7 f8 hqf
  have HL := Lib.hid (list_any (w := w7.drew) (κ := fresh0 κ2 w7.heap.size) (fun b hb => if_pos hb) e.1.parts vs e.1.places (Tm.app [91, 93] T.2.2 []) (.slice none 0 0) qp 0 cp qq 0 cq hvl (by rw [H12.out.2]; exact Nat.le_refl _) (by omega) hc1 (fun j a t ha ht => (hc2 j a t ha ht).kept (.below (Below.refl _ _).drew)) hc3 (.nil none 0))
  have HB7 := Lib.hid hb7
  have HR8 := Lib.hid hR8
  have HK8 := Lib.hid ((HK1.out.trans (.below HB5.out)).trans (HK6.out.trans (hK7.trans hK8)))
  have HEA := Lib.hid hea
  have hrl := hb7.lt
  have HCN := Lib.hid hcN8
  clear hb7 hR7 hR8 hK7 hK8 hc1 hc2 hc3 hb5 hcN hd7 hea hvl hcN8 hq3
  go_wp2_with fail
  go_still_tail 9, (by kernel_rfl)
  go_wp2_with fail
  refine HL.out.mono ?_
  rintro r w9 ⟨v, rfl, hv, hB9⟩
  have hB9' : Below w7.heap.size w7 w9 := ((Below.refl w7.heap.size w7).drew).trans hB9
  have hb9 := HB7.out.below hB9' hrl
  generalize Tm.list e.1.parts e.1.places (Tm.app [91, 93] T.2.2 []) = L at *
  obtain ⟨Av, cv, rfl⟩ := hv.form
  obtain ⟨r0, r1, r2, r3, r4⟩ : w9.cell? ⟨w.heap.size, 0, none⟩ = some (.int .i64 0) ∧ w9.cell? ⟨w.heap.size, 1, none⟩ = some (.string ⟨#[]⟩) ∧ w9.cell? ⟨w.heap.size, 2, none⟩ = some (.int .i64 0) ∧ w9.cell? ⟨w.heap.size, 3, none⟩ = some (.slice none 0 0) ∧ w9.cell? ⟨w.heap.size, 4, none⟩ = some (.int .i64 0) :=
    ⟨by simpa using hb9.cell 0, by simpa using hb9.cell 1, by simpa using hb9.cell 2, by simpa using hb9.cell 3, by simpa using hb9.cell 4⟩
  have hfr := hb9.frozen
  have hrl9 := hb9.lt
  have HB9 := Lib.hid hb9
  have HBB := Lib.hid hB9'
  have HV := Lib.hid hv
  clear hb9 hB9 hB9' hv HL
  unfold Tm.val
  go_wp2_with fail
  obtain ⟨w10, hw10, _, hG10, _, q0, q1, q2, q3, q4⟩ := HB9.out.term5 L.kind ⟨L.name.toArray⟩ L.num (.slice Av L.args.length cv) L.at_
  rw [hw10]
  refine bodyPost_ret (v := .tuple #[Tm.val L (.slice Av L.args.length cv), .bool true]) (by simp [results, Tryz.results171, go_sem, q0, q1, q2, q3, q4, Tm.val]) rfl ⟨_, rfl, fresh0 κ2 w7.heap.size, e, ?_, rfl, .inl ?_, (HK8.out.trans (.below HBB.out)).above hG10 (Nat.le_refl _)⟩
  · exact ((HR8.out.below HBB.out).aside hG10 HCN.out).spelt
  · exact HV.out.firm ⟨hG10.size, fun b hb hk => hG10.block b hb (fun e => by cases e; have := HCN.out; omega)⟩
end
end Go.Proofs.YtaefonagbcnmdaaGreatDoor

namespace Go.Proofs.YtaefonagbcnmdaaGreatDoor
open Go.RowKit

section
variable {w w5 : World} {κ κ5 : Nat → Nat} {g : Nat} {ts : List Tm.T} {en : Tm.T} {s : Tm.S} {e e' : Tm.E} {es : List Tm.E} {tv av : Value} {q cap : Nat}
/-- A row of the innermost open term has turned, and then one of its cells. -/
theorem RInv.turnStore (h : RInv w κ g ts en s (e :: es) tv (.slice (some ⟨q, 0, none⟩) (es.length + 1) cap) av)
    (hS : Stays κ κ5 w w5 (fun x => x ≠ 4 + 2 * es.length ∧ x ≠ 5 + 2 * es.length)) (hK : Kept κ κ5 w w5) (he : OpenR w5 κ5 (g + 1) es.length e')
    (hpe : e'.1.parts.length ≤ s.i + 1 ∧ e'.1.places.length ≤ s.i + 1) (j : Nat) (u : Value) (hc : Tm.cells e' = (Tm.cells e).set j u) :
    RInv (w5.setCell ⟨q, es.length * 9 + j, none⟩ u) κ5 g ts en { s with stack := e'.1 :: es.map (·.1) } (e' :: es) tv (.slice (some ⟨q, 0, none⟩) (es.length + 1) cap) av ∧ Kept κ κ5 w (w5.setCell ⟨q, es.length * 9 + j, none⟩ u) := by
  obtain ⟨o1, _⟩ := own_stays hS h.own h.ks (by omega)
  have hst := World.ownsRow.stored (n := es.length + 1) o1 (es.length * 9 + j) u
  refine h.turnTop hS hK he hpe hst.2 ?_
  have := hst.1
  simp only [Tm.rows] at this
  rw [List.set_append, if_neg (by rw [Tm.rows_len]; omega), Tm.rows_len, Nat.add_sub_cancel_left, ← hc] at this
  exact this
theorem RInv.morePlaces (h : RInv w κ g ts en s (e :: es) tv (.slice (some ⟨q, 0, none⟩) (es.length + 1) cap) av) {v' : Value} {p : Int} (hgr : w.grownBy w5 e.2.2.ownBlock) (hat : v'.ownBlock = e.2.2.ownBlock ∨ ∃ k, w.heap.size ≤ k ∧ v'.ownBlock = some k)
    (hown : w5.ownsRow (g + 1) 3 1 v' (e.1.places.length + 1) (e.1.places.map (.int .i64) ++ [.int .i64 p])) (hb : e.1.places.length ≤ s.i) :
    ∃ κ', RInv (w5.setCell ⟨q, es.length * 9 + 5, none⟩ v') κ' g ts en { s with stack := { e.1 with places := e.1.places ++ [p] } :: es.map (·.1) } (({ e.1 with places := e.1.places ++ [p] }, e.2.1, v') :: es) tv (.slice (some ⟨q, 0, none⟩) (es.length + 1) cap) av ∧
      Kept κ κ' w (w5.setCell ⟨q, es.length * 9 + 5, none⟩ v') := by
  obtain ⟨hparts, hkp, hpl, hkq⟩ := h.ents.1
  have hS := grown_stays hkq hgr hat
  have hK := hS.keeps (by omega) hgr
  have hS2 : Stays κ (recol κ v' (5 + 2 * es.length)) w w5 (fun x => x ≠ 4 + 2 * es.length ∧ x ≠ 5 + 2 * es.length) := fun b hb hP => hS b hb hP.2
  obtain ⟨vs, hvl, hvo, hvs⟩ := hparts
  obtain ⟨o1, o2⟩ := own_stays hS hvo hkp (by omega)
  refine ⟨_, h.turnStore (e' := ({ e.1 with places := e.1.places ++ [p] }, e.2.1, v')) hS2 hK ⟨⟨vs, hvl, o1, fun j a t ha ht => (hvs j a t ha ht).kept hK⟩, o2, ?_, recol_own _ _ _⟩ ⟨(h.hp e (by simp)).1, by simp; omega⟩ 5 v' rfl⟩
  simpa using hown
theorem RInv.moreParts (h : RInv w κ g ts en s (e :: es) tv (.slice (some ⟨q, 0, none⟩) (es.length + 1) cap) av) {v' : Value} (hgr : w.grownBy w5 e.2.1.ownBlock) (hat : v'.ownBlock = e.2.1.ownBlock ∨ ∃ k, w.heap.size ≤ k ∧ v'.ownBlock = some k)
    (hown : ∀ vs : List Value, vs.length = e.1.parts.length → w.ownsRow (g + 1) 32 5 e.2.1 e.1.parts.length (Tm.flat e.1.parts vs) → w5.ownsRow (g + 1) 32 5 v' (e.1.parts.length + 1) (Tm.flat e.1.parts vs ++ [.int .i64 s.term.kind, .string ⟨s.term.name.toArray⟩, .int .i64 s.term.num, av, .int .i64 s.term.at_])) (hb : e.1.parts.length ≤ s.i) :
    ∃ κ', RInv (w5.setCell ⟨q, es.length * 9 + 4, none⟩ v') κ' g ts en { s with stack := { e.1 with parts := e.1.parts ++ [s.term] } :: es.map (·.1) } (({ e.1 with parts := e.1.parts ++ [s.term] }, v', e.2.2) :: es) tv (.slice (some ⟨q, 0, none⟩) (es.length + 1) cap) av ∧
      Kept κ κ' w (w5.setCell ⟨q, es.length * 9 + 4, none⟩ v') := by
  obtain ⟨hparts, hkp, hpl, hkq⟩ := h.ents.1
  have hS := grown_stays hkp hgr hat
  have hK := hS.keeps (by omega) hgr
  have hS2 : Stays κ (recol κ v' (4 + 2 * es.length)) w w5 (fun x => x ≠ 4 + 2 * es.length ∧ x ≠ 5 + 2 * es.length) := fun b hb hP => hS b hb hP.1
  obtain ⟨vs, hvl, hvo, hvs⟩ := hparts
  obtain ⟨o1, o2⟩ := own_stays hS hpl hkq (by omega)
  have hown' := hown vs hvl hvo
  refine ⟨_, h.turnStore (e' := ({ e.1 with parts := e.1.parts ++ [s.term] }, v', e.2.2)) hS2 hK ⟨⟨vs ++ [av], by simp [hvl], ?_, ?_⟩, recol_own _ _ _, o1, o2⟩ ⟨by simp; omega, (h.hp e (by simp)).2⟩ 4 v' rfl⟩
  · rw [Tm.flat_snoc _ _ hvl]
    simpa using hown'
  · intro j a t ha ht
    simp only at ht
    by_cases hj : j < vs.length
    · rw [List.getElem?_append_left hj] at ha
      rw [List.getElem?_append_left (by omega)] at ht
      exact (hvs j a t ha ht).kept hK
    · rw [List.getElem?_append_right (by omega)] at ha
      rw [List.getElem?_append_right (by omega)] at ht
      have hj0 : j - vs.length = 0 := by
        rcases hjj : j - vs.length with _ | m
        · rfl
        · rw [hjj] at ha; simp at ha
      rw [hj0] at ha
      rw [show j - e.1.parts.length = 0 by omega] at ht
      simp at ha ht
      subst ha; subst ht
      exact h.term.kept hK
end
end Go.Proofs.YtaefonagbcnmdaaGreatDoor

namespace Go.Proofs.YtaefonagbcnmdaaGreatDoor
open Go.RowKit

theorem info_int : (Tryz.prog.info? 3).map (fun i => (i.zero, i.size, i.bytes)) = some (some (.int .i64 0), 1, 8) := by kernel_rfl
theorem own_low {w w' : World} {B : Nat} {e : TypeId} {size n : Nat} {v : Value} {xs : List Value} (h : w.ownsRow B e size v n xs) (hb : Below w.heap.size w w') : w'.ownsRow B e size v n xs :=
  h.kept (row := none) ⟨hb.os, hb.tape, hb.output, hb.size, fun q hq _ => hb.block q hq⟩ (by
    rcases hob : v.ownBlock with _ | q
    · exact .inl rfl
    · right; simp)
section
variable {w : World} {κ : Nat → Nat} {g : Nat} {ts : List Tm.T} {en : Tm.T} {s : Tm.S} {e : Tm.E} {es : List Tm.E} {tv av : Value} {q cap : Nat}
set_option maxRecDepth 100000 in
set_option maxHeartbeats 4000000 in
theorem afterElement_comma (h : RInv w κ g ts en s (e :: es) tv (.slice (some ⟨q, 0, none⟩) (es.length + 1) cap) av) (hi : s.i ≤ ts.length) (hx : Tm.punct (Tm.peek ts en s.i) = [44]) :
    Calls Tryz.prog 171 #[.pointer (some ⟨g, 0, none⟩), .pointer (some ⟨q, es.length * 9, none⟩)] w (GPost w κ g ts en tv (.slice (some ⟨q, 0, none⟩) (es.length + 1) cap) av s es (.ok (s.i + 1, { e.1 with places := e.1.places ++ [(Tm.peek ts en (s.i + 1)).2.2] }, none))) := by
  obtain ⟨i0, hi0, hz0, hz1, hz2⟩ := info_parts info_int
  have hx' : Tm.punct (Tm.peek ts en s.i) = (⟨#[44]⟩ : ByteArray).toList := by rw [Go.ByteArray.toList_eq]; exact hx
  have HX := Lib.hid hx'; clear hx hx'
  obtain ⟨κ1, hR1, hK1, hc⟩ := h.boxed (.cells #[.int .i64 0, .string ⟨#[]⟩, .int .i64 0, .slice none 0 0, .int .i64 0] 32)
  have HR1 := Lib.hid hR1
  have HK1 := Lib.hid hK1
  have HC := Lib.hid hc
  have hf := field_tok
  have hn := h.hn
  have hil := h.hi
  have hpl := (h.hp e (by simp)).2
  have hnx : s.next.i = s.i + 1 := rfl
  clear h hR1 hK1 hc
  obtain ⟨T, hT⟩ : ∃ T, Tm.peek ts en (s.i + 1) = T := ⟨_, rfl⟩
  rw [hT]
  have HT := Lib.hid (show Tm.peek ts en s.next.i = T from hT); clear hT
  go_enter Tryz.func171, Tryz.ntmps171
  go_wp2_with fail
  refine (pskip_yes HR1.out hi _ HX.out).mono ?_
  rintro r w2 ⟨rfl, hR2, hK2⟩
  have hb2 := (Blk.new w 32 #[.int .i64 0, .string ⟨#[]⟩, .int .i64 0, .slice none 0 0, .int .i64 0]).kept hK2 HC.out
  obtain ⟨Ap, cp, Aq, cq, he2, _, hql, hq3, ⟨_, _, _, _, _, f5, _⟩, hqf⟩ := hR2.top9
  have hNq : w.heap.size ≠ q := by
    intro h0
    rw [← h0, HC.out] at hq3
    cases hq3
  have hqN := hNq.symm
  have hrl := hb2.lt
  have hgl := hR2.blk.lt
  have HB2 := Lib.hid hb2
  have HR2 := Lib.hid hR2
  have HK2 := Lib.hid hK2
  have HE2 := Lib.hid he2
  have hO2 := hR2.ents.1.places
  rw [he2] at hO2
  have HO2 := Lib.hid hO2
  clear hb2 hR2 hK2 he2 hO2 hq3
  go_wp2_with fail
  have hqne : some q ≠ (Value.slice Aq e.1.places.length cq).ownBlock := fun h0 => by
    have h1 := HR2.out.ents.1.kq q (by rw [HE2.out]; exact h0.symm)
    have h2 := HR2.out.ks q rfl
    omega
  have hNne : some w.heap.size ≠ (Value.slice Aq e.1.places.length cq).ownBlock := fun h0 => by
    have h1 := HR2.out.ents.1.kq w.heap.size (by rw [HE2.out]; exact h0.symm)
    have h2 := HC.out
    omega
  have HSR := Lib.hid HR2.out.own
  have hmx : e.1.places.length + 1 ≤ maxLen := by unfold maxLen; omega
  go_region_law (first
    | (go_simp; go_at_call 55; refine (peek_any (HR2.out.below (Below.refl _ _).drew)).mono ?_; (rintro r w3 ⟨rfl, hB3⟩); rw [HT.out]; have f53 : w3.cell? ⟨q, es.length * 9 + 5, none⟩ = some (.slice Aq e.1.places.length cq) := (hB3.cell (p := ⟨q, es.length * 9 + 5, none⟩) hql).trans f5; have hql3 : q < w3.heap.size := World.block_lt_of_cell? w3 _ f53; have hB3' : Below w2.heap.size w2 w3 := ((Below.refl w2.heap.size w2).drew).trans hB3; have HB3 := Lib.hid hB3'; have HO3 := Lib.hid ((own_low HO2.out hB3').alloc (.cells #[.int .i64 T.2.2] 3)); have HSR3 := Lib.hid ((own_low HSR.out hB3').alloc (.cells #[.int .i64 T.2.2] 3)); have HN3 := Lib.hid (new_cells w3 [.int .i64 T.2.2] 3); have HBN3 := Lib.hid ((HB2.out.below hB3' hrl).alloc (.cells #[.int .i64 T.2.2] 3)); clear hB3 hB3')
    | (refine step_append_at rfl (.tmp 14) (.tmp 18) 108 rfl (g + 1) 3 i0 (.int .i64 0) 1 8 Tryz.underlying108 hi0 hz0 hz1 hz2 rfl (by decide) (.slice Aq e.1.places.length cq) e.1.places.length (e.1.places.map (.int .i64)) (by simp [Act.eval, Act.put]) HO3.out ⟨w3.heap.size, 0, none⟩ 1 1 [.int .i64 T.2.2] (by simp [Act.eval, Act.put]) rfl (by simpa using HN3.out) (by simp [Value.oneCell']) hmx (by omega) (by have := HB3.out.size; simp; omega) ?_; intro v' w5 hown5 hgr5 hat5; (obtain ⟨qv, capv, rfl⟩ := own_form2 hown5); have hgr6 : (w3.alloc (.cells #[.int .i64 T.2.2] 3)).grownBy w5 (Value.slice Aq e.1.places.length cq).ownBlock := ⟨hgr5.os, hgr5.tape, hgr5.output, hgr5.size, hgr5.block⟩; have hS5 := HSR3.out.kept hgr6 (.inr hqne); have z5 := hS5.frozenAt (es.length * 9 + 5); have f55 : w5.cell? ⟨q, es.length * 9 + 5, none⟩ = some (.slice Aq e.1.places.length cq) := hgr6.cell ((((Below.refl w3.heap.size w3).alloc (Nat.le_refl _) (.cells #[.int .i64 T.2.2] 3)).cell (p := ⟨q, es.length * 9 + 5, none⟩) hql3).trans f53) hqne; have hql5 : q < w5.heap.size := World.block_lt_of_cell? w5 _ f55; have hbN5 := HBN3.out.grown hgr6 hNne; have HG6 := Lib.hid hgr6; have HOW := Lib.hid hown5; have HAT := Lib.hid hat5; have HBN5 := Lib.hid hbN5; clear hgr5 hgr6 hown5 hat5 hS5 hbN5))
  all_goals
    have hX : Below w2.heap.size w2 (w3.alloc (.cells #[.int .i64 T.2.2] 3)) := HB3.out.alloc HB3.out.size _
    obtain ⟨κ', hR6, hK6⟩ := (HR2.out.below hX).morePlaces (v' := .slice (some ⟨qv, 0, none⟩) (e.1.places.length + 1) capv) (p := T.2.2) (by rw [HE2.out]; exact HG6.out) (by rw [HE2.out]; exact HAT.out.imp id (fun h => ⟨_, Nat.le_refl _, h⟩)) HOW.out (by rw [hnx]; exact hpl)
    have hcN : κ' w.heap.size = 1 := (hK6.block w.heap.size (Nat.lt_of_lt_of_le hrl hX.size) (by rw [HC.out]; exact Nat.le_refl 1)).2.trans HC.out
    obtain ⟨r0, r1, r2, r3, r4⟩ : w5.cell? ⟨w.heap.size, 0, none⟩ = some (.int .i64 0) ∧ w5.cell? ⟨w.heap.size, 1, none⟩ = some (.string ⟨#[]⟩) ∧ w5.cell? ⟨w.heap.size, 2, none⟩ = some (.int .i64 0) ∧ w5.cell? ⟨w.heap.size, 3, none⟩ = some (.slice none 0 0) ∧ w5.cell? ⟨w.heap.size, 4, none⟩ = some (.int .i64 0) :=
      ⟨by simpa using HBN5.out.cell 0, by simpa using HBN5.out.cell 1, by simpa using HBN5.out.cell 2, by simpa using HBN5.out.cell 3, by simpa using HBN5.out.cell 4⟩
    have hfr := HBN5.out.frozen
    have hrl5 := HBN5.out.lt
    have HBN6 := Lib.hid (HBN5.out.far (p := ⟨q, es.length * 9 + 5, none⟩) hNq (.slice (some ⟨qv, 0, none⟩) (e.1.places.length + 1) capv))
    have HR6 := Lib.hid hR6
    have HK6 := Lib.hid ((HK1.out.trans HK2.out).trans ((Kept.below hX).trans hK6))
    have HCN := Lib.hid hcN
    clear hR6 hK6 hcN hX HAT HOW HSR3 HN3 HO3
    go_wp2_with fail
    obtain ⟨w7, hw7, _, hG7, _, q0, q1, q2, q3, q4⟩ := HBN6.out.term5 0 ⟨#[]⟩ 0 (.slice none 0 0) 0
    rw [hw7]
    refine bodyPost_ret (v := .tuple #[Tm.val Tm.zero (.slice none 0 0), .bool false]) (by simp [results, Tryz.results171, go_sem, q0, q1, q2, q3, q4, Tm.val, Tm.zero, Tm.kind, Tm.name, Tm.num, Tm.at_]) rfl ⟨Tm.zero, none, 0, 0, rfl, κ', ({ e.1 with places := e.1.places ++ [T.2.2] }, e.2.1, .slice (some ⟨qv, 0, none⟩) (e.1.places.length + 1) capv), ?_, rfl, HK6.out.above hG7 (Nat.le_refl _)⟩
    exact (HR6.out.aside hG7 HCN.out).spelt
end
end Go.Proofs.YtaefonagbcnmdaaGreatDoor

namespace Go.Proofs.YtaefonagbcnmdaaGreatDoor
open Go.RowKit

theorem far1 {w : World} {N o q i : Nat} {x u : Value} (h : w.cell? ⟨q, i, none⟩ = some x) (hN : q ≠ N) : (w.setCell ⟨N, o, none⟩ u).cell? ⟨q, i, none⟩ = some x :=
  (World.cell?_of_block (a := ⟨q, i, none⟩) (Below.heap_setCell w ⟨N, o, none⟩ u q hN)).trans h
section
variable {w : World} {κ : Nat → Nat} {g : Nat} {ts : List Tm.T} {en : Tm.T} {s : Tm.S} {e : Tm.E} {es : List Tm.E} {tv av : Value} {q cap : Nat}
set_option maxRecDepth 100000 in
set_option maxHeartbeats 4000000 in
theorem goOn_op (h : RInv w κ g ts en s (e :: es) tv (.slice (some ⟨q, 0, none⟩) (es.length + 1) cap) av) (hk : e.1.kind = 1) :
    Calls Tryz.prog 133 #[.pointer (some ⟨g, 0, none⟩), .pointer (some ⟨q, es.length * 9, none⟩)] w (GPost w κ g ts en tv (.slice (some ⟨q, 0, none⟩) (es.length + 1) cap) av s es
      (.ok (s.i, { e.1 with most := e.1.last }, if (e.1.parts.length : Int) == e.1.need then some (Tm.app e.1.name e.1.at_ e.1.parts) else none))) := by
  obtain ⟨Ap, cp, Aq, cq, he2, _, hql, hq3, ⟨f0, f1, _, _, _, _, _, f7, _⟩, hqf⟩ := h.top9
  obtain ⟨hR0, hK0⟩ := h.setTop (e' := ({ e.1 with most := e.1.last }, e.2)) 1 (.int .i64 e.1.last) rfl rfl rfl rfl
  obtain ⟨κ1, hR1, hK1, hc⟩ := hR0.boxed (.cells #[.int .i64 0, .string ⟨#[]⟩, .int .i64 0, .slice none 0 0, .int .i64 0] 32)
  rw [World.size_setCell] at hc
  have hb1 := Blk.new (w.setCell ⟨q, es.length * 9 + 1, none⟩ (.int .i64 e.1.last)) 32 #[.int .i64 0, .string ⟨#[]⟩, .int .i64 0, .slice none 0 0, .int .i64 0]
  rw [World.size_setCell] at hb1
  rw [hk] at f0
  have HR1 := Lib.hid hR1
  have HK1 := Lib.hid (hK0.trans hK1)
  have HC := Lib.hid hc
  have HB1 := Lib.hid hb1
  have HE2 := Lib.hid he2
  clear h hR0 hK0 hR1 hK1 hc hb1 he2 hk hq3
  obtain ⟨O, hO⟩ : ∃ O, (if (e.1.parts.length : Int) == e.1.need then some (Tm.app e.1.name e.1.at_ e.1.parts) else none) = O := ⟨_, rfl⟩
  rw [hO]
  have HO := Lib.hid hO; clear hO
  go_enter Tryz.func133, Tryz.ntmps133
  go_wp2_with fail
  clear f0 f1 f7 hqf hql
  generalize (w.setCell ⟨q, es.length * 9 + 1, none⟩ (.int .i64 e.1.last)).alloc (.cells #[.int .i64 0, .string ⟨#[]⟩, .int .i64 0, .slice none 0 0, .int .i64 0] 32) = w2 at *
  obtain ⟨Ap', cp', Aq', cq', he2', hh, hql, hq3, ⟨_, _, f2, f3, f4, _, f6, _, _⟩, hqf⟩ := HR1.out.top9
  obtain ⟨e1, e2⟩ := Prod.mk.inj (HE2.out.symm.trans he2')
  cases e1
  cases e2
  have hqN : q ≠ w.heap.size := by
    intro h0
    rw [h0, HC.out] at hq3
    cases hq3
  have hS2 : (w2.drew.cell? ⟨q, es.length * 9 + 2, none⟩ = some (.string ⟨e.1.name.toArray⟩) ∧ w2.drew.cell? ⟨q, es.length * 9 + 3, none⟩ = some (.int .i64 e.1.at_) ∧ w2.drew.cell? ⟨q, es.length * 9 + 4, none⟩ = some (.slice Ap e.1.parts.length cp)) ∧ w2.drew.cell? ⟨q, es.length * 9 + 6, none⟩ = some (.int .i64 e.1.need) := ⟨⟨f2, f3, f4⟩, f6⟩
  have hrl := HB1.out.lt
  clear f2 f3 f4 f6 hh he2' hq3
  go_region_held3 (fun w' => (w'.cell? ⟨q, es.length * 9 + 2, none⟩ = some (.string ⟨e.1.name.toArray⟩) ∧ w'.cell? ⟨q, es.length * 9 + 3, none⟩ = some (.int .i64 e.1.at_) ∧ w'.cell? ⟨q, es.length * 9 + 4, none⟩ = some (.slice Ap e.1.parts.length cp)) ∧ w'.cell? ⟨q, es.length * 9 + 6, none⟩ = some (.int .i64 e.1.need))
    (first | with_reducible exact hS2 | with_reducible exact hS4 | with_reducible exact ⟨far3 (far3 (far3 (far3 (far3 hS4.1 hqN) hqN) hqN) hqN) hqN, far1 (far1 (far1 (far1 (far1 hS4.2 hqN) hqN) hqN) hqN) hqN⟩)
    (first
    | (go_at_call 164; refine (application_any _ _ Ap e.1.parts.length cp _).mono ?_; (rintro r w4 ⟨rfl, hB4⟩); have hS4 := (show (w4.cell? ⟨q, es.length * 9 + 2, none⟩ = some (.string ⟨e.1.name.toArray⟩) ∧ w4.cell? ⟨q, es.length * 9 + 3, none⟩ = some (.int .i64 e.1.at_) ∧ w4.cell? ⟨q, es.length * 9 + 4, none⟩ = some (.slice Ap e.1.parts.length cp)) ∧ w4.cell? ⟨q, es.length * 9 + 6, none⟩ = some (.int .i64 e.1.need) from ⟨low3 hS2.1 hB4 hql, (hB4.cell (p := ⟨q, es.length * 9 + 6, none⟩) hql).trans hS2.2⟩); have hB4' : Below w2.heap.size w2 w4 := ((Below.refl w2.heap.size w2).drew).trans hB4; have hbN := HB1.out.below hB4' hrl; (obtain ⟨r0, r1, r2, r3, r4⟩ : w4.cell? ⟨w.heap.size, 0, none⟩ = some (.int .i64 0) ∧ w4.cell? ⟨w.heap.size, 1, none⟩ = some (.string ⟨#[]⟩) ∧ w4.cell? ⟨w.heap.size, 2, none⟩ = some (.int .i64 0) ∧ w4.cell? ⟨w.heap.size, 3, none⟩ = some (.slice none 0 0) ∧ w4.cell? ⟨w.heap.size, 4, none⟩ = some (.int .i64 0) := ⟨by simpa using hbN.cell 0, by simpa using hbN.cell 1, by simpa using hbN.cell 2, by simpa using hbN.cell 3, by simpa using hbN.cell 4⟩); have hfr := hbN.frozen; have hrl4 := hbN.lt; have HBN := Lib.hid hbN; have HB4 := Lib.hid hB4'; clear hB4 hB4' hbN))
  all_goals
    go_wp2_with fail
    obtain ⟨w6, hw6, _, hG6, _, q0, q1, q2, q3, q4⟩ := HBN.out.term5 4 ⟨e.1.name.toArray⟩ 0 (.slice Ap e.1.parts.length cp) e.1.at_
    rw [hw6]
    have hRf := ((HR1.out.below HB4.out).aside hG6 HC.out).spelt
    have hKf := (HK1.out.trans (.below HB4.out)).above hG6 (Nat.le_refl _)
    have hO := HO.out
    cases hb : ((e.1.parts.length : Int) == e.1.need)
    · rw [hb, if_neg (by decide)] at hO
      subst hO
      exact bodyPost_ret (v := .tuple #[Tm.val (Tm.app e.1.name e.1.at_ e.1.parts) (.slice Ap e.1.parts.length cp), .bool false]) (by simp [results, Tryz.results133, go_sem, q0, q1, q2, q3, q4, Tm.val, Tm.app, Tm.kind, Tm.name, Tm.num, Tm.at_, hb]) rfl ⟨Tm.app e.1.name e.1.at_ e.1.parts, Ap, _, cp, rfl, κ1, ({ e.1 with most := e.1.last }, e.2), hRf, rfl, hKf⟩
    · rw [hb, if_pos rfl] at hO
      subst hO
      exact bodyPost_ret (v := .tuple #[Tm.val (Tm.app e.1.name e.1.at_ e.1.parts) (.slice Ap e.1.parts.length cp), .bool true]) (by simp [results, Tryz.results133, go_sem, q0, q1, q2, q3, q4, Tm.val, Tm.app, Tm.kind, Tm.name, Tm.num, Tm.at_, hb]) rfl ⟨_, rfl, κ1, ({ e.1 with most := e.1.last }, e.2), hRf, rfl, .inr ⟨by rw [HE2.out], rfl⟩, hKf⟩
end
end Go.Proofs.YtaefonagbcnmdaaGreatDoor

namespace Go.Proofs.YtaefonagbcnmdaaGreatDoor
open Go.RowKit

section
variable {w : World} {κ : Nat → Nat} {g : Nat} {ts : List Tm.T} {en : Tm.T} {s : Tm.S} {e : Tm.E} {es : List Tm.E} {tv av : Value} {q cap : Nat}
theorem afterArgument_any (h : RInv w κ g ts en s (e :: es) tv (.slice (some ⟨q, 0, none⟩) (es.length + 1) cap) av) (hi : s.i ≤ ts.length) (hk : e.1.kind = 2) :
    Calls Tryz.prog 169 #[.pointer (some ⟨g, 0, none⟩), .pointer (some ⟨q, es.length * 9, none⟩)] w (GPost w κ g ts en tv (.slice (some ⟨q, 0, none⟩) (es.length + 1) cap) av s es (Tm.goOn ts en s.i e.1)) := by
  by_cases c1 : Tm.punct (Tm.peek ts en s.i) = [44]
  · have he : Tm.goOn ts en s.i e.1 = .ok (s.i + 1, e.1, none) := by simp [Tm.goOn, hk, c1]
    rw [he]
    exact afterArgument_comma h hi c1
  · by_cases c2 : Tm.punct (Tm.peek ts en s.i) = [41]
    · cases hs : Tm.suits e.1.name e.1.parts
      · have he : Tm.goOn ts en s.i e.1 = .error (e.1.at_, 11) := by simp [Tm.goOn, hk, c2, hs]
        rw [he]
        exact afterArgument_unfit h hi c2 hs
      · have he : Tm.goOn ts en s.i e.1 = .ok (s.i + 1, e.1, some (Tm.app e.1.name e.1.at_ e.1.parts)) := by simp [Tm.goOn, hk, c2, hs]
        rw [he]
        exact afterArgument_close h hi c2 hs
    · have he : Tm.goOn ts en s.i e.1 = .error (Tm.refusal (Tm.peek ts en s.i)) := by simp [Tm.goOn, hk, c1, c2]
      rw [he]
      exact afterArgument_bad h c1 c2
theorem afterElement_any (h : RInv w κ g ts en s (e :: es) tv (.slice (some ⟨q, 0, none⟩) (es.length + 1) cap) av) (hi : s.i ≤ ts.length) (hk : e.1.kind = 5) (h1 : 0 < e.1.parts.length) (h2 : e.1.places.length = e.1.parts.length) :
    Calls Tryz.prog 171 #[.pointer (some ⟨g, 0, none⟩), .pointer (some ⟨q, es.length * 9, none⟩)] w (GPost w κ g ts en tv (.slice (some ⟨q, 0, none⟩) (es.length + 1) cap) av s es (Tm.goOn ts en s.i e.1)) := by
  by_cases c1 : Tm.punct (Tm.peek ts en s.i) = [44]
  · have he : Tm.goOn ts en s.i e.1 = .ok (s.i + 1, { e.1 with places := e.1.places ++ [(Tm.peek ts en (s.i + 1)).2.2] }, none) := by simp [Tm.goOn, hk, c1]
    rw [he]
    exact afterElement_comma h hi c1
  · by_cases c2 : Tm.punct (Tm.peek ts en s.i) = [124]
    · have he : Tm.goOn ts en s.i e.1 = .ok (s.i + 1, { e.1 with kind := 6 }, none) := by simp [Tm.goOn, hk, c2]
      rw [he]
      exact afterElement_bar h hi c2
    · by_cases c3 : Tm.punct (Tm.peek ts en s.i) = [93]
      · have he : Tm.goOn ts en s.i e.1 = .ok (s.i + 1, e.1, some (Tm.list e.1.parts e.1.places (Tm.app [91, 93] (Tm.peek ts en s.i).2.2 []))) := by simp [Tm.goOn, hk, c3]
        rw [he]
        exact afterElement_close h hi _ rfl c3 h1 h2
      · have he : Tm.goOn ts en s.i e.1 = .error (Tm.refusal (Tm.peek ts en s.i)) := by simp [Tm.goOn, hk, c1, c2, c3]
        rw [he]
        exact afterElement_bad h c1 c2 c3
set_option maxRecDepth 100000 in
set_option maxHeartbeats 4000000 in
theorem goOn_2 (h : RInv w κ g ts en s (e :: es) tv (.slice (some ⟨q, 0, none⟩) (es.length + 1) cap) av) (hi : s.i ≤ ts.length) (hk : e.1.kind = 2) :
    Calls Tryz.prog 133 #[.pointer (some ⟨g, 0, none⟩), .pointer (some ⟨q, es.length * 9, none⟩)] w (GPost w κ g ts en tv (.slice (some ⟨q, 0, none⟩) (es.length + 1) cap) av s es (Tm.goOn ts en s.i e.1)) := by
  obtain ⟨Ap, cp, Aq, cq, he2, _, hql, hq3, ⟨f0, _⟩, hqf⟩ := h.top9
  obtain ⟨κ1, hR1, hK1, hc⟩ := h.boxed (.cells #[.int .i64 0, .string ⟨#[]⟩, .int .i64 0, .slice none 0 0, .int .i64 0] 32)
  have hca := afterArgument_any hR1 hi hk
  rw [hk] at f0
  obtain ⟨O, hO⟩ : ∃ O, Tm.goOn ts en s.i e.1 = O := ⟨_, rfl⟩
  rw [hO] at hca ⊢
  have HCA := Lib.hid hca
  have HK1 := Lib.hid hK1
  have HC := Lib.hid hc
  clear h hR1 hK1 hc he2 hk hq3 hca hO
  go_enter Tryz.func133, Tryz.ntmps133
  go_wp2_with fail
  refine HCA.out.mono ?_
  rintro r w2 hp
  have hbN : ∀ {κ' : Nat → Nat}, Kept κ1 κ' (w.alloc (.cells #[.int .i64 0, .string ⟨#[]⟩, .int .i64 0, .slice none 0 0, .int .i64 0] 32)) w2 → Blk w2 w.heap.size 32 #[.int .i64 0, .string ⟨#[]⟩, .int .i64 0, .slice none 0 0, .int .i64 0] ∧ κ' w.heap.size = 1 := fun hK =>
    ⟨(Blk.new w 32 _).kept hK HC.out, (hK.block w.heap.size (by simp) (by rw [HC.out]; exact Nat.le_refl 1)).2.trans HC.out⟩
  rcases O with f | ⟨i, o, _ | t⟩
  · obtain ⟨hr, κ', hK⟩ := hp
    unfold Tm.thrown at hr
    subst hr
    have HK := Lib.hid hK
    clear hK hbN
    go_wp2_with fail
    exact ⟨rfl, rfl, κ', HK1.out.trans HK.out⟩
  · obtain ⟨t, A, n, c, rfl, κ', e', hR, he, hK⟩ := hp
    obtain ⟨hb, hcN⟩ := hbN hK
    obtain ⟨r0, r1, r2, r3, r4⟩ : w2.cell? ⟨w.heap.size, 0, none⟩ = some (.int .i64 0) ∧ w2.cell? ⟨w.heap.size, 1, none⟩ = some (.string ⟨#[]⟩) ∧ w2.cell? ⟨w.heap.size, 2, none⟩ = some (.int .i64 0) ∧ w2.cell? ⟨w.heap.size, 3, none⟩ = some (.slice none 0 0) ∧ w2.cell? ⟨w.heap.size, 4, none⟩ = some (.int .i64 0) :=
      ⟨by simpa using hb.cell 0, by simpa using hb.cell 1, by simpa using hb.cell 2, by simpa using hb.cell 3, by simpa using hb.cell 4⟩
    have hfr := hb.frozen
    have hrl := hb.lt
    have HB := Lib.hid hb
    have HR := Lib.hid hR
    have HK := Lib.hid hK
    have HE := Lib.hid he
    clear hbN hb hR hK he
    unfold Tm.val
    go_wp2_with fail
    obtain ⟨w6, hw6, _, hG6, _, q0, q1, q2, q3, q4⟩ := HB.out.term5 t.kind ⟨t.name.toArray⟩ t.num (.slice A n c) t.at_
    rw [hw6]
    exact bodyPost_ret (v := .tuple #[Tm.val t (.slice A n c), .bool false]) (by simp [results, Tryz.results133, go_sem, q0, q1, q2, q3, q4, Tm.val]) rfl ⟨t, A, n, c, rfl, κ', e', HR.out.aside hG6 hcN, HE.out, (HK1.out.trans HK.out).above hG6 (Nat.le_refl _)⟩
  · obtain ⟨v, rfl, κ', e', hR, he, hv, hK⟩ := hp
    obtain ⟨hb, hcN⟩ := hbN hK
    obtain ⟨Av, cv, rfl⟩ : ∃ A c, v = .slice A t.args.length c := by
      rcases hv with hv | ⟨hv, ha⟩
      · exact hv.form
      · rw [ha, hv]
        obtain ⟨_, _, ho, _⟩ := hR.ents.1.parts
        exact own_slice ho
    obtain ⟨r0, r1, r2, r3, r4⟩ : w2.cell? ⟨w.heap.size, 0, none⟩ = some (.int .i64 0) ∧ w2.cell? ⟨w.heap.size, 1, none⟩ = some (.string ⟨#[]⟩) ∧ w2.cell? ⟨w.heap.size, 2, none⟩ = some (.int .i64 0) ∧ w2.cell? ⟨w.heap.size, 3, none⟩ = some (.slice none 0 0) ∧ w2.cell? ⟨w.heap.size, 4, none⟩ = some (.int .i64 0) :=
      ⟨by simpa using hb.cell 0, by simpa using hb.cell 1, by simpa using hb.cell 2, by simpa using hb.cell 3, by simpa using hb.cell 4⟩
    have hfr := hb.frozen
    have hrl := hb.lt
    have HB := Lib.hid hb
    have HR := Lib.hid hR
    have HK := Lib.hid hK
    have HE := Lib.hid he
    have HV := Lib.hid hv
    clear hbN hb hR hK he hv
    unfold Tm.val
    go_wp2_with fail
    obtain ⟨w6, hw6, _, hG6, _, q0, q1, q2, q3, q4⟩ := HB.out.term5 t.kind ⟨t.name.toArray⟩ t.num (.slice Av t.args.length cv) t.at_
    rw [hw6]
    exact bodyPost_ret (v := .tuple #[Tm.val t (.slice Av t.args.length cv), .bool true]) (by simp [results, Tryz.results133, go_sem, q0, q1, q2, q3, q4, Tm.val]) rfl ⟨_, rfl, κ', e', HR.out.aside hG6 hcN, HE.out, HV.out.imp (fun h => h.firm ⟨hG6.size, fun b hb hk => hG6.block b hb (fun e => by cases e; omega)⟩) id, (HK1.out.trans HK.out).above hG6 (Nat.le_refl _)⟩
set_option maxRecDepth 100000 in
set_option maxHeartbeats 4000000 in
theorem goOn_5 (h : RInv w κ g ts en s (e :: es) tv (.slice (some ⟨q, 0, none⟩) (es.length + 1) cap) av) (hi : s.i ≤ ts.length) (hk : e.1.kind = 5) (h1 : 0 < e.1.parts.length) (h2 : e.1.places.length = e.1.parts.length) :
    Calls Tryz.prog 133 #[.pointer (some ⟨g, 0, none⟩), .pointer (some ⟨q, es.length * 9, none⟩)] w (GPost w κ g ts en tv (.slice (some ⟨q, 0, none⟩) (es.length + 1) cap) av s es (Tm.goOn ts en s.i e.1)) := by
  obtain ⟨Ap, cp, Aq, cq, he2, _, hql, hq3, ⟨f0, _⟩, hqf⟩ := h.top9
  obtain ⟨κ1, hR1, hK1, hc⟩ := h.boxed (.cells #[.int .i64 0, .string ⟨#[]⟩, .int .i64 0, .slice none 0 0, .int .i64 0] 32)
  have hca := afterElement_any hR1 hi hk h1 h2
  rw [hk] at f0
  obtain ⟨O, hO⟩ : ∃ O, Tm.goOn ts en s.i e.1 = O := ⟨_, rfl⟩
  rw [hO] at hca ⊢
  have HCA := Lib.hid hca
  have HK1 := Lib.hid hK1
  have HC := Lib.hid hc
  clear h hR1 hK1 hc he2 hk hq3 hca hO
  go_enter Tryz.func133, Tryz.ntmps133
  go_wp2_with fail
  refine HCA.out.mono ?_
  rintro r w2 hp
  have hbN : ∀ {κ' : Nat → Nat}, Kept κ1 κ' (w.alloc (.cells #[.int .i64 0, .string ⟨#[]⟩, .int .i64 0, .slice none 0 0, .int .i64 0] 32)) w2 → Blk w2 w.heap.size 32 #[.int .i64 0, .string ⟨#[]⟩, .int .i64 0, .slice none 0 0, .int .i64 0] ∧ κ' w.heap.size = 1 := fun hK =>
    ⟨(Blk.new w 32 _).kept hK HC.out, (hK.block w.heap.size (by simp) (by rw [HC.out]; exact Nat.le_refl 1)).2.trans HC.out⟩
  rcases O with f | ⟨i, o, _ | t⟩
  · obtain ⟨hr, κ', hK⟩ := hp
    unfold Tm.thrown at hr
    subst hr
    have HK := Lib.hid hK
    clear hK hbN
    go_wp2_with fail
    exact ⟨rfl, rfl, κ', HK1.out.trans HK.out⟩
  · obtain ⟨t, A, n, c, rfl, κ', e', hR, he, hK⟩ := hp
    obtain ⟨hb, hcN⟩ := hbN hK
    obtain ⟨r0, r1, r2, r3, r4⟩ : w2.cell? ⟨w.heap.size, 0, none⟩ = some (.int .i64 0) ∧ w2.cell? ⟨w.heap.size, 1, none⟩ = some (.string ⟨#[]⟩) ∧ w2.cell? ⟨w.heap.size, 2, none⟩ = some (.int .i64 0) ∧ w2.cell? ⟨w.heap.size, 3, none⟩ = some (.slice none 0 0) ∧ w2.cell? ⟨w.heap.size, 4, none⟩ = some (.int .i64 0) :=
      ⟨by simpa using hb.cell 0, by simpa using hb.cell 1, by simpa using hb.cell 2, by simpa using hb.cell 3, by simpa using hb.cell 4⟩
    have hfr := hb.frozen
    have hrl := hb.lt
    have HB := Lib.hid hb
    have HR := Lib.hid hR
    have HK := Lib.hid hK
    have HE := Lib.hid he
    clear hbN hb hR hK he
    unfold Tm.val
    go_wp2_with fail
    obtain ⟨w6, hw6, _, hG6, _, q0, q1, q2, q3, q4⟩ := HB.out.term5 t.kind ⟨t.name.toArray⟩ t.num (.slice A n c) t.at_
    rw [hw6]
    exact bodyPost_ret (v := .tuple #[Tm.val t (.slice A n c), .bool false]) (by simp [results, Tryz.results133, go_sem, q0, q1, q2, q3, q4, Tm.val]) rfl ⟨t, A, n, c, rfl, κ', e', HR.out.aside hG6 hcN, HE.out, (HK1.out.trans HK.out).above hG6 (Nat.le_refl _)⟩
  · obtain ⟨v, rfl, κ', e', hR, he, hv, hK⟩ := hp
    obtain ⟨hb, hcN⟩ := hbN hK
    obtain ⟨Av, cv, rfl⟩ : ∃ A c, v = .slice A t.args.length c := by
      rcases hv with hv | ⟨hv, ha⟩
      · exact hv.form
      · rw [ha, hv]
        obtain ⟨_, _, ho, _⟩ := hR.ents.1.parts
        exact own_slice ho
    obtain ⟨r0, r1, r2, r3, r4⟩ : w2.cell? ⟨w.heap.size, 0, none⟩ = some (.int .i64 0) ∧ w2.cell? ⟨w.heap.size, 1, none⟩ = some (.string ⟨#[]⟩) ∧ w2.cell? ⟨w.heap.size, 2, none⟩ = some (.int .i64 0) ∧ w2.cell? ⟨w.heap.size, 3, none⟩ = some (.slice none 0 0) ∧ w2.cell? ⟨w.heap.size, 4, none⟩ = some (.int .i64 0) :=
      ⟨by simpa using hb.cell 0, by simpa using hb.cell 1, by simpa using hb.cell 2, by simpa using hb.cell 3, by simpa using hb.cell 4⟩
    have hfr := hb.frozen
    have hrl := hb.lt
    have HB := Lib.hid hb
    have HR := Lib.hid hR
    have HK := Lib.hid hK
    have HE := Lib.hid he
    have HV := Lib.hid hv
    clear hbN hb hR hK he hv
    unfold Tm.val
    go_wp2_with fail
    obtain ⟨w6, hw6, _, hG6, _, q0, q1, q2, q3, q4⟩ := HB.out.term5 t.kind ⟨t.name.toArray⟩ t.num (.slice Av t.args.length cv) t.at_
    rw [hw6]
    exact bodyPost_ret (v := .tuple #[Tm.val t (.slice Av t.args.length cv), .bool true]) (by simp [results, Tryz.results133, go_sem, q0, q1, q2, q3, q4, Tm.val]) rfl ⟨_, rfl, κ', e', HR.out.aside hG6 hcN, HE.out, HV.out.imp (fun h => h.firm ⟨hG6.size, fun b hb hk => hG6.block b hb (fun e => by cases e; omega)⟩) id, (HK1.out.trans HK.out).above hG6 (Nat.le_refl _)⟩
end
end Go.Proofs.YtaefonagbcnmdaaGreatDoor

namespace Go.Proofs.YtaefonagbcnmdaaGreatDoor
open Go.RowKit

section
variable {w : World} {κ : Nat → Nat} {g : Nat} {ts : List Tm.T} {en : Tm.T} {s : Tm.S} {e : Tm.E} {es : List Tm.E} {tv av : Value} {q cap : Nat}
/-- The first part of the innermost open term. -/
theorem RInv.topFirst {sv : Value} (h : RInv w κ g ts en s (e :: es) tv sv av) (h1 : 0 < e.1.parts.length) :
    ∃ qp cp A c, e.2.1 = .slice (some ⟨qp, 0, none⟩) e.1.parts.length cp ∧ Targs w κ (.slice A (e.1.parts.getD 0 Tm.zero).args.length c) (e.1.parts.getD 0 Tm.zero).args ∧
      w.cell? ⟨qp, 0, none⟩ = some (.int .i64 (e.1.parts.getD 0 Tm.zero).kind) ∧ w.cell? ⟨qp, 1, none⟩ = some (.string ⟨(e.1.parts.getD 0 Tm.zero).name.toArray⟩) ∧ w.cell? ⟨qp, 2, none⟩ = some (.int .i64 (e.1.parts.getD 0 Tm.zero).num) ∧
      w.cell? ⟨qp, 3, none⟩ = some (.slice A (e.1.parts.getD 0 Tm.zero).args.length c) ∧ w.cell? ⟨qp, 4, none⟩ = some (.int .i64 (e.1.parts.getD 0 Tm.zero).at_) := by
  obtain ⟨⟨vs, hvl, hvo, hvs⟩, _⟩ := h.ents.1
  obtain ⟨qp, cp, hp, hpc⟩ := own_cells0 hvo h1
  have hg : e.1.parts.getD 0 Tm.zero = e.1.parts[0] := by rw [List.getD_eq_getElem?_getD, List.getElem?_eq_getElem h1]; rfl
  rw [hg]
  obtain ⟨a, ha⟩ : ∃ a, vs[0]? = some a := ⟨vs[0]'(by omega), List.getElem?_eq_getElem (by omega)⟩
  have hT := hvs 0 a _ ha (List.getElem?_eq_getElem h1)
  obtain ⟨A, c, rfl⟩ := hT.form
  obtain ⟨f0, f1, f2, f3, f4⟩ := Tm.flat_get (List.getElem?_eq_getElem h1) ha
  have c0 := hpc _ _ f0
  have c1 := hpc _ _ f1
  have c2 := hpc _ _ f2
  have c3 := hpc _ _ f3
  have c4 := hpc _ _ f4
  simp only [Nat.zero_mul, Nat.zero_add, Nat.add_zero] at c0 c1 c2 c3 c4
  exact ⟨qp, cp, A, c, hp, hT, c0, c1, c2, c3, c4⟩
set_option maxRecDepth 100000 in
set_option maxHeartbeats 4000000 in
theorem goOn_whole (h : RInv w κ g ts en s (e :: es) tv (.slice (some ⟨q, 0, none⟩) (es.length + 1) cap) av) (hk : e.1.kind = 0) (h1 : 0 < e.1.parts.length) :
    Calls Tryz.prog 133 #[.pointer (some ⟨g, 0, none⟩), .pointer (some ⟨q, es.length * 9, none⟩)] w (GPost w κ g ts en tv (.slice (some ⟨q, 0, none⟩) (es.length + 1) cap) av s es (.ok (s.i, e.1, some (e.1.parts.getD 0 Tm.zero)))) := by
  obtain ⟨Ap, cp, Aq, cq, he2, _, hql, hq3, ⟨f0, _, _, _, f4, _⟩, hqf⟩ := h.top9
  obtain ⟨qp, cp', A, c, hp, hT, c0, c1, c2, c3, c4⟩ := h.topFirst h1
  rw [he2] at hp
  rw [show Value.slice Ap e.1.parts.length cp = .slice (some ⟨qp, 0, none⟩) e.1.parts.length cp' from hp] at f4
  rw [hk] at f0
  have hqpl : qp < w.heap.size := World.block_lt_of_cell? w _ c0
  have hix : (0 : Int) < (e.1.parts.length : Int) := by omega
  have HT := Lib.hid hT
  generalize e.1.parts.getD 0 Tm.zero = t at *
  have HH := Lib.hid h
  clear h he2 hk hq3 hp hT h1
  go_enter Tryz.func133, Tryz.ntmps133
  go_wp2_with fail
  have hB : Below w.heap.size w (w.alloc (.cells #[.int .i64 t.kind, .string ⟨t.name.toArray⟩, .int .i64 t.num, .slice A t.args.length c, .int .i64 t.at_] 32)) := (Below.refl _ _).alloc (Nat.le_refl _) _
  exact bodyPost_ret (v := .tuple #[Tm.val t (.slice A t.args.length c), .bool true]) (by simp [results, Tryz.results133, go_sem, Tm.val]) rfl ⟨_, rfl, κ, e, (HH.out.below hB).spelt, rfl, .inl (HT.out.kept (.below hB)), .below hB⟩
set_option maxRecDepth 100000 in
set_option maxHeartbeats 4000000 in
theorem goOn_brackets (h : RInv w κ g ts en s (e :: es) tv (.slice (some ⟨q, 0, none⟩) (es.length + 1) cap) av) (hi : s.i ≤ ts.length) (hk : e.1.kind = 3) (h1 : 0 < e.1.parts.length) (hx : Tm.punct (Tm.peek ts en s.i) = [41]) :
    Calls Tryz.prog 133 #[.pointer (some ⟨g, 0, none⟩), .pointer (some ⟨q, es.length * 9, none⟩)] w (GPost w κ g ts en tv (.slice (some ⟨q, 0, none⟩) (es.length + 1) cap) av s es (.ok (s.i + 1, e.1, some (e.1.parts.getD 0 Tm.zero)))) := by
  have hx' : Tm.punct (Tm.peek ts en s.i) = (⟨#[41]⟩ : ByteArray).toList := by rw [Go.ByteArray.toList_eq]; exact hx
  have HX := Lib.hid hx'; clear hx hx'
  obtain ⟨t, ht⟩ : ∃ t, e.1.parts.getD 0 Tm.zero = t := ⟨_, rfl⟩
  rw [ht]
  have HTT := Lib.hid ht
  have H1 := Lib.hid h1
  clear ht h1
  obtain ⟨_, _, _, _, _, _, hql, _, ⟨f0, _⟩, _⟩ := h.top9
  obtain ⟨κ1, hR1, hK1, hc⟩ := h.boxed (.cells #[.int .i64 0, .string ⟨#[]⟩, .int .i64 0, .slice none 0 0, .int .i64 0] 32)
  rw [hk] at f0
  have HR1 := Lib.hid hR1
  have HK1 := Lib.hid hK1
  have HC := Lib.hid hc
  clear h hR1 hK1 hc hk
  go_enter Tryz.func133, Tryz.ntmps133
  go_wp2_with fail
  refine (expect_ok HR1.out hi _ HX.out).mono ?_
  rintro r w2 ⟨rfl, hR2, hK2⟩
  have hb := (Blk.new w 32 #[.int .i64 0, .string ⟨#[]⟩, .int .i64 0, .slice none 0 0, .int .i64 0]).kept hK2 HC.out
  obtain ⟨r0, r1, r2, r3, r4⟩ : w2.cell? ⟨w.heap.size, 0, none⟩ = some (.int .i64 0) ∧ w2.cell? ⟨w.heap.size, 1, none⟩ = some (.string ⟨#[]⟩) ∧ w2.cell? ⟨w.heap.size, 2, none⟩ = some (.int .i64 0) ∧ w2.cell? ⟨w.heap.size, 3, none⟩ = some (.slice none 0 0) ∧ w2.cell? ⟨w.heap.size, 4, none⟩ = some (.int .i64 0) :=
    ⟨by simpa using hb.cell 0, by simpa using hb.cell 1, by simpa using hb.cell 2, by simpa using hb.cell 3, by simpa using hb.cell 4⟩
  have hfr := hb.frozen
  have hrl := hb.lt
  obtain ⟨Ap, cp, Aq, cq, he2, _, hql2, _, ⟨_, _, _, _, f4, _⟩, _⟩ := hR2.top9
  obtain ⟨qp, cp', A, c, hp, hT, c0, c1, c2, c3, c4⟩ := hR2.topFirst H1.out
  rw [HTT.out] at hT c0 c1 c2 c3 c4
  rw [he2] at hp
  rw [show Value.slice Ap e.1.parts.length cp = .slice (some ⟨qp, 0, none⟩) e.1.parts.length cp' from hp] at f4
  have hix : (0 : Int) < (e.1.parts.length : Int) := by have := H1.out; omega
  have HT := Lib.hid hT
  have HB := Lib.hid hb
  have HR2 := Lib.hid hR2
  have HK2 := Lib.hid hK2
  clear hb hR2 hK2 he2 hp hT f0
  go_wp2_with fail
  obtain ⟨w6, hw6, _, hG6, _, q0, q1, q2, q3, q4⟩ := HB.out.term5 t.kind ⟨t.name.toArray⟩ t.num (.slice A t.args.length c) t.at_
  rw [hw6]
  exact bodyPost_ret (v := .tuple #[Tm.val t (.slice A t.args.length c), .bool true]) (by simp [results, Tryz.results133, go_sem, q0, q1, q2, q3, q4, Tm.val]) rfl ⟨_, rfl, κ1, e, (HR2.out.aside hG6 HC.out).spelt, rfl, .inl (HT.out.firm ⟨hG6.size, fun b hb hk => hG6.block b hb (fun e => by cases e; have := HC.out; omega)⟩), (HK1.out.trans HK2.out).above hG6 (Nat.le_refl _)⟩
set_option maxRecDepth 100000 in
set_option maxHeartbeats 4000000 in
theorem goOn_braces (h : RInv w κ g ts en s (e :: es) tv (.slice (some ⟨q, 0, none⟩) (es.length + 1) cap) av) (hi : s.i ≤ ts.length) (hk : e.1.kind = 4) (hx : Tm.punct (Tm.peek ts en s.i) = [125]) :
    Calls Tryz.prog 133 #[.pointer (some ⟨g, 0, none⟩), .pointer (some ⟨q, es.length * 9, none⟩)] w (GPost w κ g ts en tv (.slice (some ⟨q, 0, none⟩) (es.length + 1) cap) av s es (.ok (s.i + 1, e.1, some (Tm.app [123, 125] e.1.at_ e.1.parts)))) := by
  have hx' : Tm.punct (Tm.peek ts en s.i) = (⟨#[125]⟩ : ByteArray).toList := by rw [Go.ByteArray.toList_eq]; exact hx
  have HX := Lib.hid hx'; clear hx hx'
  obtain ⟨_, _, _, _, _, _, hql, _, ⟨f0, _⟩, _⟩ := h.top9
  obtain ⟨κ1, hR1, hK1, hc⟩ := h.boxed (.cells #[.int .i64 0, .string ⟨#[]⟩, .int .i64 0, .slice none 0 0, .int .i64 0] 32)
  rw [hk] at f0
  have HR1 := Lib.hid hR1
  have HK1 := Lib.hid hK1
  have HC := Lib.hid hc
  clear h hR1 hK1 hc hk
  go_enter Tryz.func133, Tryz.ntmps133
  go_wp2_with fail
  refine (expect_ok HR1.out hi _ HX.out).mono ?_
  rintro r w2 ⟨rfl, hR2, hK2⟩
  have hb := (Blk.new w 32 #[.int .i64 0, .string ⟨#[]⟩, .int .i64 0, .slice none 0 0, .int .i64 0]).kept hK2 HC.out
  have hrl := hb.lt
  obtain ⟨Ap, cp, Aq, cq, he2, _, hql2, _, ⟨_, _, _, f3, f4, _⟩, _⟩ := hR2.top9
  have HB := Lib.hid hb
  have HR2 := Lib.hid hR2
  have HK2 := Lib.hid hK2
  have HE2 := Lib.hid he2
  clear hb hR2 hK2 he2 f0
  go_wp2_with fail
  go_still_tail 8, (by kernel_rfl)
  go_wp2_with fail
  refine (application_any _ _ Ap e.1.parts.length cp _).mono ?_
  rintro r w4 ⟨rfl, hB4⟩
  have hB4' : Below w2.heap.size w2 w4 := ((Below.refl w2.heap.size w2).drew).trans hB4
  have hb4 := HB.out.below hB4' hrl
  obtain ⟨r0, r1, r2, r3, r4⟩ : w4.cell? ⟨w.heap.size, 0, none⟩ = some (.int .i64 0) ∧ w4.cell? ⟨w.heap.size, 1, none⟩ = some (.string ⟨#[]⟩) ∧ w4.cell? ⟨w.heap.size, 2, none⟩ = some (.int .i64 0) ∧ w4.cell? ⟨w.heap.size, 3, none⟩ = some (.slice none 0 0) ∧ w4.cell? ⟨w.heap.size, 4, none⟩ = some (.int .i64 0) :=
    ⟨by simpa using hb4.cell 0, by simpa using hb4.cell 1, by simpa using hb4.cell 2, by simpa using hb4.cell 3, by simpa using hb4.cell 4⟩
  have hfr := hb4.frozen
  have hrl4 := hb4.lt
  have HB4 := Lib.hid hb4
  have HBB := Lib.hid hB4'
  clear hb4 hB4 hB4' f3 f4
  go_wp2_with fail
  obtain ⟨w6, hw6, _, hG6, _, q0, q1, q2, q3, q4⟩ := HB4.out.term5 4 ⟨#[123, 125]⟩ 0 (.slice Ap e.1.parts.length cp) e.1.at_
  rw [hw6]
  exact bodyPost_ret (v := .tuple #[Tm.val (Tm.app [123, 125] e.1.at_ e.1.parts) (.slice Ap e.1.parts.length cp), .bool true]) (by simp [results, Tryz.results133, go_sem, q0, q1, q2, q3, q4, Tm.val, Tm.app, Tm.kind, Tm.name, Tm.num, Tm.at_]) rfl ⟨_, rfl, κ1, e, ((HR2.out.below HBB.out).aside hG6 HC.out).spelt, rfl, .inr ⟨by rw [HE2.out], rfl⟩, ((HK1.out.trans HK2.out).trans (.below HBB.out)).above hG6 (Nat.le_refl _)⟩
end
end Go.Proofs.YtaefonagbcnmdaaGreatDoor

namespace Go.Proofs.YtaefonagbcnmdaaGreatDoor
open Go.RowKit

section
variable {w : World} {κ : Nat → Nat} {g : Nat} {ts : List Tm.T} {en : Tm.T} {s : Tm.S} {e : Tm.E} {es : List Tm.E} {tv av : Value} {q cap : Nat}
/-- The elements in front of the last part, that part, and the places. -/
theorem RInv.topLast {sv : Value} (h : RInv w κ g ts en s (e :: es) tv sv av) {pi : List Tm} {pt : Tm} (hp : e.1.parts = pi ++ [pt]) (h2 : 0 < e.1.places.length) :
    ∃ qp cp qq cq vi A c, e.2 = (.slice (some ⟨qp, 0, none⟩) (pi.length + 1) cp, .slice (some ⟨qq, 0, none⟩) e.1.places.length cq) ∧ pi.length + 1 ≤ cp ∧ cp ≤ maxLen ∧ vi.length = pi.length ∧ (∀ j u, (Tm.flat pi vi)[j]? = some u → w.cell? ⟨qp, 0 + j, none⟩ = some u) ∧
      (∀ (j : Nat) a t, vi[j]? = some a → pi[j]? = some t → Targs w κ a t.args) ∧ (∀ (i : Nat) p, e.1.places[i]? = some p → w.cell? ⟨qq, 0 + i, none⟩ = some (.int .i64 p)) ∧ Targs w κ (.slice A pt.args.length c) pt.args ∧
      w.cell? ⟨qp, pi.length * 5, none⟩ = some (.int .i64 pt.kind) ∧ w.cell? ⟨qp, pi.length * 5 + 1, none⟩ = some (.string ⟨pt.name.toArray⟩) ∧ w.cell? ⟨qp, pi.length * 5 + 2, none⟩ = some (.int .i64 pt.num) ∧ w.cell? ⟨qp, pi.length * 5 + 3, none⟩ = some (.slice A pt.args.length c) ∧ w.cell? ⟨qp, pi.length * 5 + 4, none⟩ = some (.int .i64 pt.at_) := by
  obtain ⟨⟨vs, hvl, hvo, hvs⟩, _, hqo, _⟩ := h.ents.1
  rw [hp] at hvl hvo hvs
  rw [List.length_append, List.length_singleton] at hvl hvo
  obtain ⟨qq, cq, hq, hqc⟩ := own_cells0 hqo h2
  have hcap : ∃ qp cp, e.2.1 = .slice (some ⟨qp, 0, none⟩) (pi.length + 1) cp ∧ pi.length + 1 ≤ cp ∧ cp ≤ maxLen := by
    rcases hvo.2 with ⟨_, h0⟩ | ⟨qp, cp, cur, hv, _, _, hn, hc, _⟩
    · omega
    · exact ⟨qp, cp, hv, hn, hc⟩
  obtain ⟨qp, cp, hpv, hn1, hn2⟩ := hcap
  obtain ⟨qp', cp', hpv', hpc⟩ := own_cells0 hvo (by omega)
  rw [hpv] at hpv'
  cases hpv'
  obtain ⟨vi, va, rfl⟩ : ∃ vi va, vs = vi ++ [va] := ⟨vs.dropLast, vs.getLast (by intro h0; rw [h0] at hvl; simp at hvl), (List.dropLast_concat_getLast _).symm⟩
  have hvil : vi.length = pi.length := by simpa using hvl
  have hT := hvs pi.length va pt (by rw [← hvil]; simp) (by simp)
  obtain ⟨A, c, rfl⟩ := hT.form
  rw [Tm.flat_snoc _ _ hvil] at hpc
  have hfl := Tm.flat_len hvil
  have last : ∀ j u, ([.int .i64 pt.kind, .string ⟨pt.name.toArray⟩, .int .i64 pt.num, .slice A pt.args.length c, .int .i64 pt.at_] : List Value)[j]? = some u → w.cell? ⟨qp, pi.length * 5 + j, none⟩ = some u := fun j u hu => by
    have := hpc (pi.length * 5 + j) u (by rw [List.getElem?_append_right (by omega), hfl, Nat.add_sub_cancel_left]; exact hu)
    rwa [Nat.zero_add] at this
  refine ⟨qp, cp, qq, cq, vi, A, c, Prod.ext hpv hq, hn1, hn2, hvil, fun j u hu => hpc j u ?_, fun j a t ha ht => ?_, fun i p hi => hqc i _ (by rw [List.getElem?_map, hi]; rfl), hT, last 0 _ rfl, last 1 _ rfl, last 2 _ rfl, last 3 _ rfl, last 4 _ rfl⟩
  · rw [List.getElem?_append_left (List.getElem?_eq_some_iff.1 hu).1]; exact hu
  · refine hvs j a t ?_ ?_
    · rw [List.getElem?_append_left (List.getElem?_eq_some_iff.1 ha).1]; exact ha
    · rw [List.getElem?_append_left (List.getElem?_eq_some_iff.1 ht).1]; exact ht
set_option maxRecDepth 100000 in
set_option maxHeartbeats 4000000 in
theorem goOn_rest (h : RInv w κ g ts en s (e :: es) tv (.slice (some ⟨q, 0, none⟩) (es.length + 1) cap) av) (hi : s.i ≤ ts.length) (hk : e.1.kind = 6) {pi : List Tm} {pt : Tm} (hp : e.1.parts = pi ++ [pt]) (h2 : e.1.places.length = pi.length) (h1 : 0 < pi.length) (hx : Tm.punct (Tm.peek ts en s.i) = [93]) :
    Calls Tryz.prog 133 #[.pointer (some ⟨g, 0, none⟩), .pointer (some ⟨q, es.length * 9, none⟩)] w (GPost w κ g ts en tv (.slice (some ⟨q, 0, none⟩) (es.length + 1) cap) av s es (.ok (s.i + 1, e.1, some (Tm.list pi e.1.places pt)))) := by
  have hx' : Tm.punct (Tm.peek ts en s.i) = (⟨#[93]⟩ : ByteArray).toList := by rw [Go.ByteArray.toList_eq]; exact hx
  have HX := Lib.hid hx'; clear hx hx'
  have hn := h.hn
  have hil := h.hi
  have hpp := h.hp e (by simp)
  rw [hp] at hpp
  simp only [List.length_append, List.length_singleton] at hpp
  have HP := Lib.hid hp
  have H12 := Lib.hid (show e.1.places.length = pi.length ∧ 0 < pi.length from ⟨h2, h1⟩)
  clear h1 h2 hp
  obtain ⟨_, _, _, _, _, _, hql, _, ⟨f0, _⟩, _⟩ := h.top9
  obtain ⟨κ1, hR1, hK1, hc⟩ := h.boxed (.cells #[.int .i64 0, .string ⟨#[]⟩, .int .i64 0, .slice none 0 0, .int .i64 0] 32)
  rw [hk] at f0
  have HR1 := Lib.hid hR1
  have HK1 := Lib.hid hK1
  have HC := Lib.hid hc
  clear h hR1 hK1 hc hk
  obtain ⟨L, hL⟩ : ∃ L, Tm.list pi e.1.places pt = L := ⟨_, rfl⟩
  rw [hL]
  have HL0 := Lib.hid hL
  clear hL
  go_enter Tryz.func133, Tryz.ntmps133
  go_wp2_with fail
  refine (expect_ok HR1.out hi _ HX.out).mono ?_
  rintro r w2 ⟨rfl, hR2, hK2⟩
  have hb := (Blk.new w 32 #[.int .i64 0, .string ⟨#[]⟩, .int .i64 0, .slice none 0 0, .int .i64 0]).kept hK2 HC.out
  have hrl := hb.lt
  obtain ⟨hR3, hK3⟩ := hR2.fresh
  have hcN : fresh0 κ1 w2.heap.size w.heap.size = 1 := (if_neg (by omega)).trans HC.out
  obtain ⟨Ap, cp', Aq, cq', he2, _, hql2, _, ⟨_, _, _, _, f4, f5, _⟩, _⟩ := hR3.top9
  obtain ⟨qp, cp, qq, cq, vi, A, c, he3, hn1, hn2, hvl, hc1, hc2, hc3, hT, g0, g1, g2, g3, g4⟩ := hR3.topLast HP.out (by have := H12.out; omega)
  rw [he2] at he3
  obtain ⟨e1, e2⟩ := Prod.mk.inj he3
  rw [e1] at f4
  rw [e2] at f5
  clear e1 e2 he3 he2 f0
  have hcpi : (pi.length : Int) ≤ (cp : Int) := by omega
  have hpi0 : (0 : Int) ≤ (pi.length : Int) := by omega
  have hpi1 : (pi.length : Int) < (pi.length : Int) + 1 := by omega
  have hw1 : IntKind.i64.wrap ((pi.length : Int) + 1 - 1) = (pi.length : Int) := by rw [IntWalk.i64_in _ (by omega)]; omega
  have HL := Lib.hid (list_any (w := w2.drew) (κ := fresh0 κ1 w2.heap.size) (fun b hb => if_pos hb) pi vi e.1.places pt (.slice A pt.args.length c) qp 0 cp qq 0 cq hvl (by have := H12.out; omega) (by omega) hc1 (fun j a t ha ht => (hc2 j a t ha ht).kept (.below (Below.refl _ _).drew)) hc3 (hT.kept (.below (Below.refl _ _).drew)))
  have HB := Lib.hid hb
  have HR3 := Lib.hid hR3
  have HK3 := Lib.hid (HK1.out.trans (hK2.trans hK3))
  have HCN := Lib.hid hcN
  clear hb hR2 hR3 hK2 hK3 hc1 hc2 hc3 hT hvl hcN
  go_wp2_with fail
  go_still_tail 17, (by kernel_rfl)
  go_wp2_with fail
  refine HL.out.mono ?_
  rintro r w9 ⟨v, rfl, hv, hB9⟩
  rw [HL0.out] at hv ⊢
  have hB9' : Below w2.heap.size w2 w9 := ((Below.refl w2.heap.size w2).drew).trans hB9
  have hb9 := HB.out.below hB9' hrl
  obtain ⟨Av, cv, rfl⟩ := hv.form
  obtain ⟨r0, r1, r2, r3, r4⟩ : w9.cell? ⟨w.heap.size, 0, none⟩ = some (.int .i64 0) ∧ w9.cell? ⟨w.heap.size, 1, none⟩ = some (.string ⟨#[]⟩) ∧ w9.cell? ⟨w.heap.size, 2, none⟩ = some (.int .i64 0) ∧ w9.cell? ⟨w.heap.size, 3, none⟩ = some (.slice none 0 0) ∧ w9.cell? ⟨w.heap.size, 4, none⟩ = some (.int .i64 0) :=
    ⟨by simpa using hb9.cell 0, by simpa using hb9.cell 1, by simpa using hb9.cell 2, by simpa using hb9.cell 3, by simpa using hb9.cell 4⟩
  have hfr := hb9.frozen
  have hrl9 := hb9.lt
  have HB9 := Lib.hid hb9
  have HBB := Lib.hid hB9'
  have HV := Lib.hid hv
  clear hb9 hB9 hB9' hv HL f4 f5 g0 g1 g2 g3 g4 hpp hcpi hn1 hn2
  unfold Tm.val
  go_wp2_with fail
  obtain ⟨w10, hw10, _, hG10, _, q0, q1, q2, q3, q4⟩ := HB9.out.term5 L.kind ⟨L.name.toArray⟩ L.num (.slice Av L.args.length cv) L.at_
  rw [hw10]
  refine bodyPost_ret (v := .tuple #[Tm.val L (.slice Av L.args.length cv), .bool true]) (by simp [results, Tryz.results133, go_sem, q0, q1, q2, q3, q4, Tm.val]) rfl ⟨_, rfl, fresh0 κ1 w2.heap.size, e, ?_, rfl, .inl ?_, (HK3.out.trans (.below HBB.out)).above hG10 (Nat.le_refl _)⟩
  · exact ((HR3.out.below HBB.out).aside hG10 HCN.out).spelt
  · exact HV.out.firm ⟨hG10.size, fun b hb hk => hG10.block b hb (fun e => by cases e; have := HCN.out; omega)⟩
set_option maxRecDepth 100000 in
set_option maxHeartbeats 4000000 in
theorem goOn_bad (h : RInv w κ g ts en s (e :: es) tv (.slice (some ⟨q, 0, none⟩) (es.length + 1) cap) av) (hk : (e.1.kind = 3 ∧ Tm.punct (Tm.peek ts en s.i) ≠ [41]) ∨ (e.1.kind = 4 ∧ Tm.punct (Tm.peek ts en s.i) ≠ [125]) ∨ (e.1.kind = 6 ∧ Tm.punct (Tm.peek ts en s.i) ≠ [93])) :
    Calls Tryz.prog 133 #[.pointer (some ⟨g, 0, none⟩), .pointer (some ⟨q, es.length * 9, none⟩)] w (GPost w κ g ts en tv (.slice (some ⟨q, 0, none⟩) (es.length + 1) cap) av s es (.error (Tm.refusal (Tm.peek ts en s.i)))) := by
  obtain ⟨_, _, _, _, _, _, hql, _, ⟨f0, _⟩, _⟩ := h.top9
  have HH := Lib.hid h
  have HB1 := Lib.hid ((Below.refl w.heap.size w).alloc (Nat.le_refl _) (.cells #[.int .i64 0, .string ⟨#[]⟩, .int .i64 0, .slice none 0 0, .int .i64 0] 32))
  clear h
  rcases hk with ⟨hk, hx⟩ | ⟨hk, hx⟩ | ⟨hk, hx⟩
  · have HX := Lib.hid (show Tm.punct (Tm.peek ts en s.i) ≠ (⟨#[41]⟩ : ByteArray).toList by rw [Go.ByteArray.toList_eq]; exact hx)
    rw [hk] at f0
    clear hx hk
    go_enter Tryz.func133, Tryz.ntmps133
    go_wp2_with fail
    refine (expect_bad (HH.out.below HB1.out) _ HX.out).mono ?_
    rintro r w7 ⟨hr7, hB7⟩
    unfold Tm.thrown at hr7
    subst hr7
    go_wp2_with fail
    exact ⟨rfl, rfl, κ, .below (HB1.out.trans (hB7.mono HB1.out.size))⟩
  · have HX := Lib.hid (show Tm.punct (Tm.peek ts en s.i) ≠ (⟨#[125]⟩ : ByteArray).toList by rw [Go.ByteArray.toList_eq]; exact hx)
    rw [hk] at f0
    clear hx hk
    go_enter Tryz.func133, Tryz.ntmps133
    go_wp2_with fail
    refine (expect_bad (HH.out.below HB1.out) _ HX.out).mono ?_
    rintro r w7 ⟨hr7, hB7⟩
    unfold Tm.thrown at hr7
    subst hr7
    go_wp2_with fail
    exact ⟨rfl, rfl, κ, .below (HB1.out.trans (hB7.mono HB1.out.size))⟩
  · have HX := Lib.hid (show Tm.punct (Tm.peek ts en s.i) ≠ (⟨#[93]⟩ : ByteArray).toList by rw [Go.ByteArray.toList_eq]; exact hx)
    rw [hk] at f0
    clear hx hk
    go_enter Tryz.func133, Tryz.ntmps133
    go_wp2_with fail
    refine (expect_bad (HH.out.below HB1.out) _ HX.out).mono ?_
    rintro r w7 ⟨hr7, hB7⟩
    unfold Tm.thrown at hr7
    subst hr7
    go_wp2_with fail
    exact ⟨rfl, rfl, κ, .below (HB1.out.trans (hB7.mono HB1.out.size))⟩
end
/-- What holds of an open term when a part has just been given to it. -/
def Tm.O.Fed (o : Tm.O) : Prop :=
  0 < o.parts.length ∧ 0 ≤ o.kind ∧ o.kind ≤ 6 ∧ (o.kind = 5 → o.places.length = o.parts.length) ∧ (o.kind = 6 → o.parts.length = o.places.length + 1 ∧ 0 < o.places.length)
theorem goOn_any {w : World} {κ : Nat → Nat} {g : Nat} {ts : List Tm.T} {en : Tm.T} {s : Tm.S} {e : Tm.E} {es : List Tm.E} {tv av : Value} {q cap : Nat} (h : RInv w κ g ts en s (e :: es) tv (.slice (some ⟨q, 0, none⟩) (es.length + 1) cap) av) (hi : s.i ≤ ts.length) (hf : e.1.Fed) :
    Calls Tryz.prog 133 #[.pointer (some ⟨g, 0, none⟩), .pointer (some ⟨q, es.length * 9, none⟩)] w (GPost w κ g ts en tv (.slice (some ⟨q, 0, none⟩) (es.length + 1) cap) av s es (Tm.goOn ts en s.i e.1)) := by
  obtain ⟨h1, hk0, hk6, h5, h6⟩ := hf
  have hk : e.1.kind = 0 ∨ e.1.kind = 1 ∨ e.1.kind = 2 ∨ e.1.kind = 3 ∨ e.1.kind = 4 ∨ e.1.kind = 5 ∨ e.1.kind = 6 := by omega
  rcases hk with hk | hk | hk | hk | hk | hk | hk
  · have he : Tm.goOn ts en s.i e.1 = .ok (s.i, e.1, some (e.1.parts.getD 0 Tm.zero)) := by simp [Tm.goOn, hk]
    rw [he]
    exact goOn_whole h hk h1
  · have he : Tm.goOn ts en s.i e.1 = .ok (s.i, { e.1 with most := e.1.last }, if (e.1.parts.length : Int) == e.1.need then some (Tm.app e.1.name e.1.at_ e.1.parts) else none) := by
      have hb : (e.1.kind == 1) = true := by rw [hk]; rfl
      unfold Tm.goOn
      simp only [hb, if_true]
    rw [he]
    exact goOn_op h hk
  · exact goOn_2 h hi hk
  · by_cases c : Tm.punct (Tm.peek ts en s.i) = [41]
    · have he : Tm.goOn ts en s.i e.1 = .ok (s.i + 1, e.1, some (e.1.parts.getD 0 Tm.zero)) := by simp [Tm.goOn, hk, c]
      rw [he]
      exact goOn_brackets h hi hk h1 c
    · have he : Tm.goOn ts en s.i e.1 = .error (Tm.refusal (Tm.peek ts en s.i)) := by simp [Tm.goOn, hk, c]
      rw [he]
      exact goOn_bad h (.inl ⟨hk, c⟩)
  · by_cases c : Tm.punct (Tm.peek ts en s.i) = [125]
    · have he : Tm.goOn ts en s.i e.1 = .ok (s.i + 1, e.1, some (Tm.app [123, 125] e.1.at_ e.1.parts)) := by simp [Tm.goOn, hk, c]
      rw [he]
      exact goOn_braces h hi hk c
    · have he : Tm.goOn ts en s.i e.1 = .error (Tm.refusal (Tm.peek ts en s.i)) := by simp [Tm.goOn, hk, c]
      rw [he]
      exact goOn_bad h (.inr (.inl ⟨hk, c⟩))
  · exact goOn_5 h hi hk h1 (h5 hk)
  · by_cases c : Tm.punct (Tm.peek ts en s.i) = [93]
    · obtain ⟨pi, pt, hp⟩ : ∃ pi pt, e.1.parts = pi ++ [pt] := ⟨e.1.parts.dropLast, e.1.parts.getLast (by intro h0; rw [h0] at h1; simp at h1), (List.dropLast_concat_getLast _).symm⟩
      have he : Tm.goOn ts en s.i e.1 = .ok (s.i + 1, e.1, some (Tm.list pi e.1.places pt)) := by
        simp [Tm.goOn, hk, c, hp]
      obtain ⟨h61, h62⟩ := h6 hk
      rw [hp] at h61
      simp only [List.length_append, List.length_singleton] at h61
      rw [he]
      exact goOn_rest h hi hk hp (by omega) (by omega) c
    · have he : Tm.goOn ts en s.i e.1 = .error (Tm.refusal (Tm.peek ts en s.i)) := by simp [Tm.goOn, hk, c]
      rw [he]
      exact goOn_bad h (.inr (.inr ⟨hk, c⟩))
end Go.Proofs.YtaefonagbcnmdaaGreatDoor

namespace Go.Proofs.YtaefonagbcnmdaaGreatDoor
open Go.RowKit

theorem info_term : (Tryz.prog.info? 32).map (fun i => (i.zero, i.size, i.bytes)) = some (some (.agg #[.int .i64 0, .string ⟨#[]⟩, .int .i64 0, .slice none 0 0, .int .i64 0]), 5, 64) := by kernel_rfl
theorem setCell_comm (w : World) (a b : Addr) (x y : Value) (h : a.block ≠ b.block) : (w.setCell a x).setCell b y = (w.setCell b y).setCell a x := by
  unfold World.setCell
  simp only
  congr 1
  apply Array.ext_getElem?
  intro i
  by_cases h1 : b.block = i <;> by_cases h2 : a.block = i <;> simp_all [Array.getElem?_modify]
theorem put5_comm (w : World) {q qv o n : Nat} (hq : q ≠ qv) (u a b c d e : Value) :
    (((((w.setCell ⟨q, o, none⟩ u).setCell ⟨qv, n, none⟩ a).setCell ⟨qv, n + 1, none⟩ b).setCell ⟨qv, n + 2, none⟩ c).setCell ⟨qv, n + 3, none⟩ d).setCell ⟨qv, n + 4, none⟩ e =
      (((((w.setCell ⟨qv, n, none⟩ a).setCell ⟨qv, n + 1, none⟩ b).setCell ⟨qv, n + 2, none⟩ c).setCell ⟨qv, n + 3, none⟩ d).setCell ⟨qv, n + 4, none⟩ e).setCell ⟨q, o, none⟩ u := by
  rw [setCell_comm w _ ⟨qv, n, none⟩ _ _ hq, setCell_comm _ _ ⟨qv, n + 1, none⟩ _ _ hq, setCell_comm _ _ ⟨qv, n + 2, none⟩ _ _ hq, setCell_comm _ _ ⟨qv, n + 3, none⟩ _ _ hq, setCell_comm _ _ ⟨qv, n + 4, none⟩ _ _ hq]
theorem own_unique {w : World} {B B' : Nat} {e : TypeId} {size n : Nat} {v : Value} {xs ys : List Value} (h : w.ownsRow B e size v n xs) (k : w.ownsRow B' e size v n ys) : xs = ys := by
  obtain ⟨h1, h2⟩ := h
  obtain ⟨k1, k2⟩ := k
  rcases h2 with ⟨rfl, rfl⟩ | ⟨g, cap, cur, rfl, _, hg, _, _, _, ht⟩
  · have a1 : xs = [] := List.eq_nil_of_length_eq_zero (by simpa using h1)
    have a2 : ys = [] := List.eq_nil_of_length_eq_zero (by simpa using k1)
    rw [a1, a2]
  · rcases k2 with ⟨h0, _⟩ | ⟨g', cap', cur', hv, _, hg', _, _, _, ht'⟩
    · cases h0
    · cases hv
      rw [hg] at hg'
      cases hg'
      rw [← ht, ← ht']
theorem own_put5 {w : World} {B q cap n : Nat} {F : List Value} {z0 z1 z2 z3 z4 a b c d e : Value} (hF : F.length = n * 5) (h : w.ownsRow B 32 5 (.slice (some ⟨q, 0, none⟩) (n + 1) cap) (n + 1) (F ++ [z0, z1, z2, z3, z4])) :
    (((((w.setCell ⟨q, n * 5, none⟩ a).setCell ⟨q, n * 5 + 1, none⟩ b).setCell ⟨q, n * 5 + 2, none⟩ c).setCell ⟨q, n * 5 + 3, none⟩ d).setCell ⟨q, n * 5 + 4, none⟩ e).ownsRow B 32 5 (.slice (some ⟨q, 0, none⟩) (n + 1) cap) (n + 1) (F ++ [a, b, c, d, e]) ∧
      w.grownBy (((((w.setCell ⟨q, n * 5, none⟩ a).setCell ⟨q, n * 5 + 1, none⟩ b).setCell ⟨q, n * 5 + 2, none⟩ c).setCell ⟨q, n * 5 + 3, none⟩ d).setCell ⟨q, n * 5 + 4, none⟩ e) (some q) := by
  have s0 := (World.ownsRow.stored h (n * 5) a).1
  have s1 := (World.ownsRow.stored s0 (n * 5 + 1) b).1
  have s2 := (World.ownsRow.stored s1 (n * 5 + 2) c).1
  have s3 := (World.ownsRow.stored s2 (n * 5 + 3) d).1
  have s4 := (World.ownsRow.stored s3 (n * 5 + 4) e).1
  constructor
  · have e0 : ((((((F ++ [z0, z1, z2, z3, z4]).set (n * 5) a).set (n * 5 + 1) b).set (n * 5 + 2) c).set (n * 5 + 3) d).set (n * 5 + 4) e) = F ++ [a, b, c, d, e] := by
      rw [List.set_append, if_neg (by omega), List.set_append, if_neg (by omega), List.set_append, if_neg (by omega), List.set_append, if_neg (by omega), List.set_append, if_neg (by omega), hF]
      simp
    rw [e0] at s4
    exact s4
  · exact gb_set (gb_set (gb_set (gb_set (gb_set (gb_refl w (some q)) (p := ⟨q, n * 5, none⟩) (.inl rfl) _) (p := ⟨q, n * 5 + 1, none⟩) (.inl rfl) _) (p := ⟨q, n * 5 + 2, none⟩) (.inl rfl) _) (p := ⟨q, n * 5 + 3, none⟩) (.inl rfl) _) (p := ⟨q, n * 5 + 4, none⟩) (.inl rfl) _
theorem grown_then {X w5 w6 : World} {row : Option Nat} {qv : Nat} (h : X.grownBy w5 row) (hat : some qv = row ∨ X.heap.size ≤ qv) (k : w5.grownBy w6 (some qv)) : X.grownBy w6 row :=
  ⟨k.os.trans h.os, k.tape.trans h.tape, k.output.trans h.output, Nat.le_trans h.size k.size, fun b hb hr => by
    refine (k.block b (Nat.lt_of_lt_of_le hb h.size) (fun e => ?_)).trans (h.block b hb hr)
    cases e
    rcases hat with hat | hat
    · exact hr hat
    · omega⟩
theorem not_new {N q qv n cap : Nat} {row : Option Nat} (h : some q ≠ row) (hat : (Value.slice (some ⟨qv, 0, none⟩) n cap).ownBlock = row ∨ (Value.slice (some ⟨qv, 0, none⟩) n cap).ownBlock = some N) (hq : q < N) : q ≠ qv := by
  intro h0
  subst h0
  rcases hat with ha | ha
  · exact h ha
  · have : q = N := by simpa [Value.ownBlock] using ha
    omega
/-- Behind the append: the new part's cells. -/
theorem fed_cells {w5 : World} {B qv capv n : Nat} {F : List Value} {z0 z1 z2 z3 z4 : Value} (hF : F.length = n * 5) (h : w5.ownsRow B 32 5 (.slice (some ⟨qv, 0, none⟩) (n + 1) capv) (n + 1) (F ++ [z0, z1, z2, z3, z4])) :
    (w5.cell? ⟨qv, n * 5, none⟩ = some z0 ∧ w5.cell? ⟨qv, n * 5 + 1, none⟩ = some z1 ∧ w5.cell? ⟨qv, n * 5 + 2, none⟩ = some z2 ∧ w5.cell? ⟨qv, n * 5 + 3, none⟩ = some z3 ∧ w5.cell? ⟨qv, n * 5 + 4, none⟩ = some z4) ∧ ∀ j, w5.frozen? ⟨qv, j, none⟩ = false := by
  have c := fun j (hj : j < 5) => h.cellAt (n * 5 + j) (by omega)
  have g : ∀ j, (F ++ [z0, z1, z2, z3, z4])[n * 5 + j]? = [z0, z1, z2, z3, z4][j]? := fun j => by
    rw [List.getElem?_append_right (by omega), hF, Nat.add_sub_cancel_left]
  exact ⟨⟨(c 0 (by omega)).trans (g 0), (c 1 (by omega)).trans (g 1), (c 2 (by omega)).trans (g 2), (c 3 (by omega)).trans (g 3), (c 4 (by omega)).trans (g 4)⟩, h.frozenAt⟩
section
variable {w : World} {κ : Nat → Nat} {g : Nat} {ts : List Tm.T} {en : Tm.T} {s : Tm.S} {e : Tm.E} {es : List Tm.E} {tv sv av : Value}
/-- What give makes of what stands behind the part; r: the open terms around. -/
def Tm.given (s : Tm.S) (r : List Tm.O) : Except Tm.F (Nat × Tm.O × Option Tm) → Except Tm.F (Tm.S × Bool)
  | .error f => .error f
  | .ok (i, o', none) => .ok ({ s with i := i, stack := o' :: r }, false)
  | .ok (i, o', some t) => .ok (⟨i, r, t, o'.prio⟩, true)
theorem Tm.give_eq {s : Tm.S} {o : Tm.O} {r : List Tm.O} (h : s.stack = o :: r) : Tm.give ts en s = Tm.given s r (Tm.goOn ts en s.i { o with parts := o.parts ++ [s.term] }) := by
  unfold Tm.give
  rw [h]
  dsimp only
  generalize Tm.goOn ts en s.i { o with parts := o.parts ++ [s.term] } = x
  rcases x with f | ⟨i, o', _ | t⟩ <;> rfl
set_option maxRecDepth 100000 in
set_option maxHeartbeats 8000000 in
theorem give_any (h : RInv w κ g ts en s (e :: es) tv sv av) (hi : s.i ≤ ts.length) (hpi : e.1.parts.length ≤ s.i) (hf : ({ e.1 with parts := e.1.parts ++ [s.term] } : Tm.O).Fed) :
    Calls Tryz.prog 75 #[.pointer (some ⟨g, 0, none⟩)] w (MPost w κ g ts en tv (Tm.give ts en s)) := by
  obtain ⟨i0, hi0, hz0, hz1, hz2⟩ := info_parts info_term
  obtain ⟨q, cap, hsv⟩ := own_form2 (n := es.length) h.own
  subst hsv
  have hn := h.hn
  obtain ⟨Av, cv, rfl⟩ := h.term.form
  have hgl := h.blk.lt
  have hgb := h.blk
  obtain ⟨g6, g7, g8, g9, g10⟩ : w.cell? ⟨g, 6, none⟩ = some (.int .i64 s.term.kind) ∧ w.cell? ⟨g, 7, none⟩ = some (.string ⟨s.term.name.toArray⟩) ∧ w.cell? ⟨g, 8, none⟩ = some (.int .i64 s.term.num) ∧ w.cell? ⟨g, 9, none⟩ = some (.slice Av s.term.args.length cv) ∧ w.cell? ⟨g, 10, none⟩ = some (.int .i64 s.term.at_) :=
    ⟨by simpa using hgb.cell 6, by simpa using hgb.cell 7, by simpa using hgb.cell 8, by simpa using hgb.cell 9, by simpa using hgb.cell 10⟩
  obtain ⟨O, hO⟩ : ∃ O, Tm.goOn ts en s.i { e.1 with parts := e.1.parts ++ [s.term] } = O := ⟨_, rfl⟩
  rw [Tm.give_eq (o := e.1) (r := es.map (·.1)) h.stack, hO]
  have HO := Lib.hid hO
  have HF := Lib.hid hf
  have HH := Lib.hid h
  clear h hgb hO hf
  go_enter Tryz.func75, Tryz.ntmps75
  go_wp2_with fail
  refine (top_any HH.out).mono ?_
  rintro r w2 ⟨rfl, n0, hw2⟩
  have hB2 : Below w.heap.size w w2 := by rw [hw2]; exact drewN_below (Below.refl _ _) n0
  clear hw2
  have hR2 := HH.out.below hB2
  obtain ⟨Ap, cp, Aq, cq, he2, _, hql, hq3, ⟨_, _, _, _, f4, _⟩, hqf⟩ := hR2.top9
  replace g6 := (hB2.cell (p := ⟨g, 6, none⟩) hgl).trans g6
  replace g7 := (hB2.cell (p := ⟨g, 7, none⟩) hgl).trans g7
  replace g8 := (hB2.cell (p := ⟨g, 8, none⟩) hgl).trans g8
  replace g9 := (hB2.cell (p := ⟨g, 9, none⟩) hgl).trans g9
  replace g10 := (hB2.cell (p := ⟨g, 10, none⟩) hgl).trans g10
  replace hgl := hR2.blk.lt
  obtain ⟨vs, hvl, hvo, hvs⟩ := hR2.ents.1.parts
  have hqne : some q ≠ (Value.slice Ap e.1.parts.length cp).ownBlock := fun h0 => by
    have h1 := hR2.ents.1.kp q (by rw [he2]; exact h0.symm)
    omega
  have hgne : some g ≠ (Value.slice Ap e.1.parts.length cp).ownBlock := fun h0 => by
    have h1 := hR2.ents.1.kp g (by rw [he2]; exact h0.symm)
    have h2 := hR2.kg
    omega
  rw [he2] at hvo
  have HR2 := Lib.hid hR2
  have HB2 := Lib.hid hB2
  have HE2 := Lib.hid he2
  have HO2 := Lib.hid (hvo.alloc (.cells #[.int .i64 0, .string ⟨#[]⟩, .int .i64 0, .slice none 0 0, .int .i64 0] 32))
  have HN2 := Lib.hid (new_cells w2 [.int .i64 0, .string ⟨#[]⟩, .int .i64 0, .slice none 0 0, .int .i64 0] 32)
  have HSR := Lib.hid (hR2.own.alloc (.cells #[.int .i64 0, .string ⟨#[]⟩, .int .i64 0, .slice none 0 0, .int .i64 0] 32))
  have HVL := Lib.hid hvl
  have HFL := Lib.hid (Tm.flat_len hvl)
  have hmx : e.1.parts.length + 1 ≤ maxLen := by unfold maxLen; omega
  have HGB := Lib.hid (hR2.blk.alloc (.cells #[.int .i64 0, .string ⟨#[]⟩, .int .i64 0, .slice none 0 0, .int .i64 0] 32))
  clear hR2 hB2 he2 hvo hvs hvl hq3
  have hix0 : (0 : Int) ≤ (e.1.parts.length : Int) := by omega
  have hix1 : (e.1.parts.length : Int) < (e.1.parts.length : Int) + 1 := by omega
  go_upto_region 2 with fail
  go_cut [] (fun wx => ∃ κ3 v3, Hid (RInv wx κ3 g ts en { s with stack := { e.1 with parts := e.1.parts ++ [s.term] } :: es.map (·.1) } (({ e.1 with parts := e.1.parts ++ [s.term] }, v3, e.2.2) :: es) tv (.slice (some ⟨q, 0, none⟩) (es.length + 1) cap) (.slice Av s.term.args.length cv)) ∧ Hid (Kept κ κ3 w wx))
  case first =>
    go_region_law (first
      | (refine step_append_at rfl (.tmp 11) (.tmp 17) 23 rfl (g + 1) 32 i0 (.agg #[.int .i64 0, .string ⟨#[]⟩, .int .i64 0, .slice none 0 0, .int .i64 0]) 5 64 Tryz.underlying23 hi0 hz0 hz1 hz2 rfl (by decide) (.slice Ap e.1.parts.length cp) e.1.parts.length (Tm.flat e.1.parts vs) (by simp [Act.eval, Act.put]) HO2.out ⟨w2.heap.size, 0, none⟩ 1 1 [.int .i64 0, .string ⟨#[]⟩, .int .i64 0, .slice none 0 0, .int .i64 0] (by simp [Act.eval, Act.put]) rfl (by simpa using HN2.out) (by simp [Value.oneCell']) hmx (by omega) (by simp; omega) ?_; intro v' w5 hown5 hgr5 hat5; (obtain ⟨qv, capv, rfl⟩ := own_form2 hown5); have hgr6 : (w2.alloc (.cells #[.int .i64 0, .string ⟨#[]⟩, .int .i64 0, .slice none 0 0, .int .i64 0] 32)).grownBy w5 (Value.slice Ap e.1.parts.length cp).ownBlock := ⟨hgr5.os, hgr5.tape, hgr5.output, hgr5.size, hgr5.block⟩; have hgb5 := HGB.out.grown hgr6 hgne; (obtain ⟨j6, j7, j8, j9, j10⟩ : w5.cell? ⟨g, 6, none⟩ = some (.int .i64 s.term.kind) ∧ w5.cell? ⟨g, 7, none⟩ = some (.string ⟨s.term.name.toArray⟩) ∧ w5.cell? ⟨g, 8, none⟩ = some (.int .i64 s.term.num) ∧ w5.cell? ⟨g, 9, none⟩ = some (.slice Av s.term.args.length cv) ∧ w5.cell? ⟨g, 10, none⟩ = some (.int .i64 s.term.at_) := ⟨by simpa using hgb5.cell 6, by simpa using hgb5.cell 7, by simpa using hgb5.cell 8, by simpa using hgb5.cell 9, by simpa using hgb5.cell 10⟩); have f45 : w5.cell? ⟨q, es.length * 9 + 4, none⟩ = some (.slice Ap e.1.parts.length cp) := hgr6.cell ((((Below.refl w2.heap.size w2).alloc (Nat.le_refl _) _).cell (p := ⟨q, es.length * 9 + 4, none⟩) hql).trans f4) hqne; have z5 := (HSR.out.kept hgr6 (.inr hqne)).frozenAt (es.length * 9 + 4); (obtain ⟨⟨p0, p1, p2, p3, p4⟩, zv⟩ := fed_cells HFL.out hown5); have hqv : q ≠ qv := not_new (cap := capv) (n := e.1.parts.length + 1) hqne hat5 (by simp; omega); have hvq := hqv.symm; have hql5 := World.block_lt_of_cell? w5 _ f45; have hqvl5 := World.block_lt_of_cell? w5 _ p0; have HG6 := Lib.hid hgr6; have HOW := Lib.hid hown5; have HAT := Lib.hid (show (Value.slice (some ⟨qv, 0, none⟩) (e.1.parts.length + 1) capv).ownBlock = (Value.slice Ap e.1.parts.length cp).ownBlock ∨ ∃ k, (w2.alloc (.cells #[.int .i64 0, .string ⟨#[]⟩, .int .i64 0, .slice none 0 0, .int .i64 0] 32)).heap.size ≤ k ∧ (Value.slice (some ⟨qv, 0, none⟩) (e.1.parts.length + 1) capv).ownBlock = some k from hat5.imp id (fun h => ⟨_, Nat.le_refl _, h⟩)); clear hgr5 hgr6 hown5 hat5 hgb5)
      | (trace_state; fail))
    all_goals
      obtain ⟨hO5, hG5⟩ := own_put5 HFL.out HOW.out (a := .int .i64 s.term.kind) (b := .string ⟨s.term.name.toArray⟩) (c := .int .i64 s.term.num) (d := .slice Av s.term.args.length cv) (e := .int .i64 s.term.at_)
      have hB3 : Below w2.heap.size w2 (w2.alloc (.cells #[.int .i64 0, .string ⟨#[]⟩, .int .i64 0, .slice none 0 0, .int .i64 0] 32)) := (Below.refl _ _).alloc (Nat.le_refl _) _
      have hG7 := grown_then HG6.out (by rcases HAT.out with ha | ⟨k, hk, ha⟩; exact .inl ha; exact .inr (by cases ha; exact hk)) hG5
      obtain ⟨κ3, hR3, hK3⟩ := (HR2.out.below hB3).moreParts (v' := .slice (some ⟨qv, 0, none⟩) (e.1.parts.length + 1) capv) (by rw [HE2.out]; exact hG7) (by rw [HE2.out]; exact HAT.out) (fun vs' hl' ho' => by
        rw [HE2.out] at ho'
        rw [own_unique ho' HO2.out]
        exact hO5) hpi
      have HR3 := Lib.hid hR3
      have HK3 := Lib.hid (((Kept.below HB2.out).trans (.below hB3)).trans hK3)
      clear hR3 hK3 hO5 hG5 hG7 hB3 j6 j7 j8 j9 j10 f45 z5 p0 p1 p2 p3 p4 zv HG6 HOW HAT
      try rw [put5_comm w5 hqv]
      clear hqv hvq hql5 hqvl5
      generalize (((((w5.setCell ⟨qv, e.1.parts.length * 5, none⟩ (.int .i64 s.term.kind)).setCell ⟨qv, e.1.parts.length * 5 + 1, none⟩ (.string ⟨s.term.name.toArray⟩)).setCell ⟨qv, e.1.parts.length * 5 + 2, none⟩ (.int .i64 s.term.num)).setCell ⟨qv, e.1.parts.length * 5 + 3, none⟩ (.slice Av s.term.args.length cv)).setCell ⟨qv, e.1.parts.length * 5 + 4, none⟩ (.int .i64 s.term.at_)).setCell ⟨q, es.length * 9 + 4, none⟩ (.slice (some ⟨qv, 0, none⟩) (e.1.parts.length + 1) capv) = w6 at *
      clear g6 g7 g8 g9 g10 f4 HR2 HO2 HN2 HSR HGB HF HH
      go_wp2_with fail
      go_meet
      exact ⟨κ3, _, HR3, HK3⟩
  case rest =>
    obtain ⟨κ3, v3, HR3, HK3⟩ := hcut
    clear g6 g7 g8 g9 g10 f4 HR2 HO2 HN2 HSR HGB
    generalize wc = w6 at *
    have hgo := goOn_any HR3.out hi HF.out
    have HGO := Lib.hid (show Calls Tryz.prog 133 #[.pointer (some ⟨g, 0, none⟩), .pointer (some ⟨q, es.length * 9, none⟩)] w6 (GPost w6 κ3 g ts en tv (.slice (some ⟨q, 0, none⟩) (es.length + 1) cap) (.slice Av s.term.args.length cv) { s with stack := { e.1 with parts := e.1.parts ++ [s.term] } :: es.map (·.1) } es O) by rw [← HO.out]; exact hgo)
    clear hgo HO
    rcases O with f | ⟨i, o, _ | t⟩
    · go_wp2_with fail
      refine HGO.out.mono ?_
      rintro r w7 ⟨hr7, κ7, hK7⟩
      unfold Tm.thrown at hr7
      subst hr7
      go_wp2_with fail
      exact ⟨rfl, rfl, κ7, HK3.out.trans hK7⟩
    · go_wp2_with fail
      refine HGO.out.mono ?_
      rintro r w7 ⟨t, A, n, c, rfl, κ7, e7, hR7, he7, hK7⟩
      have HR7 := Lib.hid hR7
      have HK7 := Lib.hid hK7
      have HE7 := Lib.hid he7
      clear hR7 hK7 he7
      unfold Tm.val
      go_wp2_with fail
      go_ret
      have hB8 : Below w7.heap.size w7 (w7.alloc (.cells #[.int .i64 t.kind, .string ⟨t.name.toArray⟩, .int .i64 t.num, .slice A n c, .int .i64 t.at_] 32)) := (Below.refl _ _).alloc (Nat.le_refl _) _
      refine ⟨rfl, κ7, e7 :: es, .slice (some ⟨q, 0, none⟩) (es.length + 1) cap, .slice Av s.term.args.length cv, ?_, (HK3.out.trans HK7.out).trans (.below hB8)⟩
      rw [← HE7.out]
      exact HR7.out.below hB8
    · go_wp2_with fail
      refine HGO.out.mono ?_
      rintro r w7 ⟨v, rfl, κ7, e7, hR7, he7, hv7, hK7⟩
      obtain ⟨Aw, cw, rfl⟩ : ∃ A c, v = .slice A t.args.length c := by
        rcases hv7 with hv | ⟨hv, ha⟩
        · exact hv.form
        · rw [ha, hv]
          obtain ⟨_, _, ho, _⟩ := hR7.ents.1.parts
          exact own_slice ho
      have hB8 : Below w7.heap.size w7 (w7.alloc (.cells #[.int .i64 t.kind, .string ⟨t.name.toArray⟩, .int .i64 t.num, .slice Aw t.args.length cw, .int .i64 t.at_] 32)) := (Below.refl _ _).alloc (Nat.le_refl _) _
      have hR8 := hR7.below hB8
      have hm8 := Blk.new w7 32 #[.int .i64 t.kind, .string ⟨t.name.toArray⟩, .int .i64 t.num, .slice Aw t.args.length cw, .int .i64 t.at_]
      have hv8 : GRet (w7.alloc (.cells #[.int .i64 t.kind, .string ⟨t.name.toArray⟩, .int .i64 t.num, .slice Aw t.args.length cw, .int .i64 t.at_] 32)) κ7 e7 t (.slice Aw t.args.length cw) := hv7.imp (fun h => h.kept (.below hB8)) id
      have HK8 := Lib.hid ((HK3.out.trans hK7).trans (.below hB8))
      have HR8 := Lib.hid hR8
      have HV8 := Lib.hid hv8
      have HM8 := Lib.hid hm8
      have HE7 := Lib.hid he7
      clear hR7 hK7 hv7 hR8 hm8 hv8 hB8 he7 HGO
      unfold Tm.val
      go_wp2_with fail
      have hmg : w7.heap.size ≠ g := fun h0 => by have := HR8.out.blk; have h1 := HM8.out; rw [h0] at h1; have h2 := h1.symm.trans this; simp at h2
      generalize hN : w7.heap.size = M at *
      generalize w7.alloc (.cells #[.int .i64 t.kind, .string ⟨t.name.toArray⟩, .int .i64 t.num, .slice Aw t.args.length cw, .int .i64 t.at_] 32) = w8 at *
      have hgb := HR8.out.blk
      have hgl8 := hgb.lt
      have hgf := hgb.frozen
      have c5 : w8.cell? ⟨g, 5, none⟩ = some (.slice (some ⟨q, 0, none⟩) (es.length + 1) cap) := by simpa using hgb.cell 5
      obtain ⟨c6, c7, c8, c9, c10, c11⟩ : w8.cell? ⟨g, 6, none⟩ = some (.int .i64 s.term.kind) ∧ w8.cell? ⟨g, 7, none⟩ = some (.string ⟨s.term.name.toArray⟩) ∧ w8.cell? ⟨g, 8, none⟩ = some (.int .i64 s.term.num) ∧ w8.cell? ⟨g, 9, none⟩ = some (.slice Av s.term.args.length cv) ∧ w8.cell? ⟨g, 10, none⟩ = some (.int .i64 s.term.at_) ∧ w8.cell? ⟨g, 11, none⟩ = some (.int .i64 s.prio) :=
        ⟨by simpa using hgb.cell 6, by simpa using hgb.cell 7, by simpa using hgb.cell 8, by simpa using hgb.cell 9, by simpa using hgb.cell 10, by simpa using hgb.cell 11⟩
      obtain ⟨m0, m1, m2, m3, m4⟩ : w8.cell? ⟨M, 0, none⟩ = some (.int .i64 t.kind) ∧ w8.cell? ⟨M, 1, none⟩ = some (.string ⟨t.name.toArray⟩) ∧ w8.cell? ⟨M, 2, none⟩ = some (.int .i64 t.num) ∧ w8.cell? ⟨M, 3, none⟩ = some (.slice Aw t.args.length cw) ∧ w8.cell? ⟨M, 4, none⟩ = some (.int .i64 t.at_) :=
        ⟨by simpa using HM8.out.cell 0, by simpa using HM8.out.cell 1, by simpa using HM8.out.cell 2, by simpa using HM8.out.cell 3, by simpa using HM8.out.cell 4⟩
      obtain ⟨_, _, _, _, _, _, hql8, hq38, ⟨_, _, _, _, _, _, _, _, f8⟩, _⟩ := HR8.out.top9
      have hqg : q ≠ g := fun h0 => by have := HR8.out.kg; rw [← h0, hq38] at this; cases this
      have hgq := hqg.symm
      have hgm := hmg.symm
      have hcap : es.length + 1 ≤ cap ∧ cap ≤ maxLen := by
        rcases HR8.out.own.2 with ⟨h0, _⟩ | ⟨_, _, _, hv, _, _, hn1, hn2, _⟩
        · cases h0
        · cases hv; exact ⟨hn1, hn2⟩
      have hcm := hcap.2
      unfold maxLen at hcm
      have hl0 : (0 : Int) ≤ (es.length : Int) := by omega
      have hl1 : (es.length : Int) ≤ (cap : Int) := by omega
      have hw1 : IntKind.i64.wrap ((es.length : Int) + 1 - 1) = (es.length : Int) := by rw [IntWalk.i64_in _ (by omega)]; omega
      have hw2 : wrap64 (es.length : Int) = (es.length : Int) := IntWalk.wrap64_in _ ⟨by omega, by omega⟩
      clear hcap hcm hgb
      go_region
      have hbg := HR8.out.blk
      have hbg9 : Blk (w8.setCell ⟨g, 5, none⟩ (.slice (some ⟨q, 0, none⟩) es.length cap)).drew g 106 #[tv, .int .i64 i, .int .i64 en.1, .string ⟨en.2.1.toArray⟩, .int .i64 en.2.2, .slice (some ⟨q, 0, none⟩) es.length cap, .int .i64 s.term.kind, .string ⟨s.term.name.toArray⟩, .int .i64 s.term.num, .slice Av s.term.args.length cv, .int .i64 s.term.at_, .int .i64 s.prio] := by
        have := hbg.put 5 (.slice (some ⟨q, 0, none⟩) es.length cap)
        simp at this
        exact this
      have hG9 : w8.grownBy (w8.setCell ⟨g, 5, none⟩ (.slice (some ⟨q, 0, none⟩) es.length cap)).drew (some g) := gb_drew (gb_set (gb_refl w8 (some g)) (p := ⟨g, 5, none⟩) (.inl rfl) _)
      generalize (w8.setCell ⟨g, 5, none⟩ (.slice (some ⟨q, 0, none⟩) es.length cap)).drew = w9 at *
      replace m0 := hG9.cell m0 (by simpa using hmg)
      replace m1 := hG9.cell m1 (by simpa using hmg)
      replace m2 := hG9.cell m2 (by simpa using hmg)
      replace m3 := hG9.cell m3 (by simpa using hmg)
      replace m4 := hG9.cell m4 (by simpa using hmg)
      replace f8 := hG9.cell f8 (by simpa using hqg)
      obtain ⟨k6, k7, k8, k9, k10, k11⟩ : w9.cell? ⟨g, 6, none⟩ = some (.int .i64 s.term.kind) ∧ w9.cell? ⟨g, 7, none⟩ = some (.string ⟨s.term.name.toArray⟩) ∧ w9.cell? ⟨g, 8, none⟩ = some (.int .i64 s.term.num) ∧ w9.cell? ⟨g, 9, none⟩ = some (.slice Av s.term.args.length cv) ∧ w9.cell? ⟨g, 10, none⟩ = some (.int .i64 s.term.at_) ∧ w9.cell? ⟨g, 11, none⟩ = some (.int .i64 s.prio) :=
        ⟨by simpa using hbg9.cell 6, by simpa using hbg9.cell 7, by simpa using hbg9.cell 8, by simpa using hbg9.cell 9, by simpa using hbg9.cell 10, by simpa using hbg9.cell 11⟩
      have hgf9 := hbg9.frozen
      have hgl9 := hbg9.lt
      have HBG9 := Lib.hid hbg9
      have HG9 := Lib.hid hG9
      clear hbg hbg9 hG9 c5 c6 c7 c8 c9 c10 c11 hgf hgl8 hql8 hq38
      go_wp2_with fail
      go_region
      have hbX : Blk ((((((w9.setCell ⟨g, 6, none⟩ (.int .i64 t.kind)).setCell ⟨g, 7, none⟩ (.string ⟨t.name.toArray⟩)).setCell ⟨g, 8, none⟩ (.int .i64 t.num)).setCell ⟨g, 9, none⟩ (.slice Aw t.args.length cw)).setCell ⟨g, 10, none⟩ (.int .i64 t.at_)).setCell ⟨g, 11, none⟩ (.int .i64 e7.1.prio)).drew g 106
          #[tv, .int .i64 i, .int .i64 en.1, .string ⟨en.2.1.toArray⟩, .int .i64 en.2.2, .slice (some ⟨q, 0, none⟩) es.length cap, .int .i64 t.kind, .string ⟨t.name.toArray⟩, .int .i64 t.num, .slice Aw t.args.length cw, .int .i64 t.at_, .int .i64 e7.1.prio] := by
        refine Blk.drew ?_
        simpa using (((((HBG9.out.put 6 (.int .i64 t.kind)).put 7 (.string ⟨t.name.toArray⟩)).put 8 (.int .i64 t.num)).put 9 (.slice Aw t.args.length cw)).put 10 (.int .i64 t.at_)).put 11 (.int .i64 e7.1.prio)
      have hGX : w9.grownBy ((((((w9.setCell ⟨g, 6, none⟩ (.int .i64 t.kind)).setCell ⟨g, 7, none⟩ (.string ⟨t.name.toArray⟩)).setCell ⟨g, 8, none⟩ (.int .i64 t.num)).setCell ⟨g, 9, none⟩ (.slice Aw t.args.length cw)).setCell ⟨g, 10, none⟩ (.int .i64 t.at_)).setCell ⟨g, 11, none⟩ (.int .i64 e7.1.prio)).drew (some g) :=
        gb_drew (gb_set (gb_set (gb_set (gb_set (gb_set (gb_set (gb_refl w9 (some g)) (p := ⟨g, 6, none⟩) (.inl rfl) _) (p := ⟨g, 7, none⟩) (.inl rfl) _) (p := ⟨g, 8, none⟩) (.inl rfl) _) (p := ⟨g, 9, none⟩) (.inl rfl) _) (p := ⟨g, 10, none⟩) (.inl rfl) _) (p := ⟨g, 11, none⟩) (.inl rfl) _)
      generalize ((((((w9.setCell ⟨g, 6, none⟩ (.int .i64 t.kind)).setCell ⟨g, 7, none⟩ (.string ⟨t.name.toArray⟩)).setCell ⟨g, 8, none⟩ (.int .i64 t.num)).setCell ⟨g, 9, none⟩ (.slice Aw t.args.length cw)).setCell ⟨g, 10, none⟩ (.int .i64 t.at_)).setCell ⟨g, 11, none⟩ (.int .i64 e7.1.prio)).drew = w10 at *
      obtain ⟨κ', hRf, hKf⟩ := HR8.out.popped HV8.out (grown_then HG9.out (.inl rfl) hGX) hbX
      rw [HE7.out] at hRf
      have HRf := Lib.hid hRf
      have HKf := Lib.hid hKf
      clear hRf hKf hbX hGX k6 k7 k8 k9 k10 k11 m0 m1 m2 m3 m4 f8
      go_wp2_with fail
      go_ret
      exact ⟨rfl, κ', es, _, _, HRf.out, HK8.out.trans HKf.out⟩
end
end Go.Proofs.YtaefonagbcnmdaaGreatDoor

