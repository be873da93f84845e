import Derived.Test.YtnkmefnbhfghgaaGreatDoorX1
import Derived.Deep.RegionLaw
import Derived.Deep.RegionWith
set_option linter.unusedSimpArgs false
set_option linter.unusedVariables false
namespace Go.Proofs.YtnkmefnbhfghgaaGreatDoor
open Go.RowKit

/-- The reference's scanner: block g; where it stands, what it has, where the last token ended, the first error and its place. -/
def RScan (w : World) (g : Nat) (s : ByteArray) (p : Nat) (v : Value) (to : Nat) (err : Int) (bad : Nat) : Prop :=
  Blk w g 47 #[.string s, .int .i64 p, v, .int .i64 to, .int .i64 err, .int .i64 bad]
def ROwn (w : World) (g : Nat) (v : Value) (out : List Tk.T) : Prop := w.ownsRow (g + 1) 32 3 v out.length (Tk.flat out)
/-- The scanner in the midst of a call: what stood below it stands. -/
structure RIn (w0 w : World) (g : Nat) (s : ByteArray) (p : Nat) (v : Value) (out : List Tk.T) (to : Nat) (err : Int) (bad : Nat) : Prop where
  blk : RScan w g s p v to err bad
  own : ROwn w g v out
  low : Below g w0 w
section
variable {w0 w w' : World} {g : Nat} {s : ByteArray} {p : Nat} {v : Value} {out : List Tk.T} {to : Nat} {err : Int} {bad : Nat}
theorem RIn.lt (h : RIn w0 w g s p v out to err bad) : g < w.heap.size := Blk.lt h.blk
theorem RIn.drew (h : RIn w0 w g s p v out to err bad) : RIn w0 w.drew g s p v out to err bad := ⟨Blk.drew h.blk, h.own, h.low.drew⟩
theorem RIn.drewN (h : RIn w0 w g s p v out to err bad) (n : Nat) : RIn w0 (w.drewN n) g s p v out to err bad := ⟨Blk.drewN h.blk n, h.own, ⟨h.low.os, h.low.tape, h.low.output, h.low.size, h.low.block⟩⟩
theorem RIn.alloc (h : RIn w0 w g s p v out to err bad) (o : Obj) : RIn w0 (w.alloc o) g s p v out to err bad := ⟨Blk.alloc h.blk o, World.ownsRow.alloc h.own o, h.low.alloc (Nat.le_of_lt h.lt) o⟩
theorem RIn.below (h : RIn w0 w g s p v out to err bad) (hb : Below w.heap.size w w') : RIn w0 w' g s p v out to err bad :=
  ⟨Blk.below h.blk hb h.lt, World.ownsRow.kept (row := none) h.own ⟨hb.os, hb.tape, hb.output, hb.size, fun q hq _ => hb.block q hq⟩ (by
    rcases hob : v.ownBlock with _ | q
    · exact .inl rfl
    · right; simp), h.low.trans (hb.mono (Nat.le_of_lt h.lt))⟩
theorem RIn.far (h : RIn w0 w g s p v out to err bad) {q : Addr} (hq : g < q.block) (ho : v.ownBlock ≠ some q.block) (u : Value) : RIn w0 (w.setCell q u) g s p v out to err bad :=
  ⟨Blk.far h.blk (by omega) u, ownsRow_setCell_other h.own ho u, h.low.setCell (Nat.le_of_lt hq) u⟩
theorem RIn.setAt (h : RIn w0 w g s p v out to err bad) {n : Int} {z : Nat} (hn : n = z) : RIn w0 (w.setCell ⟨g, 1, none⟩ (.int .i64 n)) g s z v out to err bad := by
  subst hn
  exact ⟨Blk.put h.blk 1 _, ownsRow_setCell_below h.own (Nat.lt_succ_self g) _, h.low.setCell (Nat.le_refl _) _⟩
theorem RIn.setTo (h : RIn w0 w g s p v out to err bad) {n : Int} {z : Nat} (hn : n = z) : RIn w0 (w.setCell ⟨g, 3, none⟩ (.int .i64 n)) g s p v out z err bad := by
  subst hn
  exact ⟨Blk.put h.blk 3 _, ownsRow_setCell_below h.own (Nat.lt_succ_self g) _, h.low.setCell (Nat.le_refl _) _⟩
theorem RIn.setErr (h : RIn w0 w g s p v out to err bad) (c : Int) : RIn w0 (w.setCell ⟨g, 4, none⟩ (.int .i64 c)) g s p v out to c bad :=
  ⟨Blk.put h.blk 4 _, ownsRow_setCell_below h.own (Nat.lt_succ_self g) _, h.low.setCell (Nat.le_refl _) _⟩
theorem RIn.setBad (h : RIn w0 w g s p v out to err bad) {n : Int} {q : Nat} (hn : n = q) : RIn w0 (w.setCell ⟨g, 5, none⟩ (.int .i64 n)) g s p v out to err q := by
  subst hn
  exact ⟨Blk.put h.blk 5 _, ownsRow_setCell_below h.own (Nat.lt_succ_self g) _, h.low.setCell (Nat.le_refl _) _⟩
theorem RIn.cells (h : RIn w0 w g s p v out to err bad) : w.cell? ⟨g, 0, none⟩ = some (.string s) ∧ w.cell? ⟨g, 1, none⟩ = some (.int .i64 p) ∧ w.cell? ⟨g, 2, none⟩ = some v ∧ w.cell? ⟨g, 3, none⟩ = some (.int .i64 to) ∧ w.cell? ⟨g, 4, none⟩ = some (.int .i64 err) ∧ w.cell? ⟨g, 5, none⟩ = some (.int .i64 bad) :=
  ⟨by simpa using Blk.cell h.blk 0, by simpa using Blk.cell h.blk 1, by simpa using Blk.cell h.blk 2, by simpa using Blk.cell h.blk 3, by simpa using Blk.cell h.blk 4, by simpa using Blk.cell h.blk 5⟩
theorem RIn.frozen (h : RIn w0 w g s p v out to err bad) (i : Nat) : w.frozen? ⟨g, i, none⟩ = false := Blk.frozen h.blk i
theorem RIn.trans (h : RIn w w' g s p v out to err bad) (hb : Below g w0 w) : RIn w0 w' g s p v out to err bad := ⟨h.blk, h.own, hb.trans h.low⟩
end

set_option maxRecDepth 100000 in
set_option maxHeartbeats 1000000 in
theorem rfail_any (g : Nat) (s : ByteArray) (p : Nat) (v : Value) (out : List Tk.T) (to bad : Nat) (c : Int) (q : Nat) (w0 w : World) (hS : RIn w0 w g s p v out to 0 bad) :
    Calls Tryz.prog 59 #[.pointer (some ⟨g, 0, none⟩), .int .i64 c, .int .i64 q] w fun e w' => (∃ r, e = .returned r) ∧ RIn w0 w' g s p v out to c q ∧ w.grownBy w' (some g) := by
  obtain ⟨c0, c1, c2, c3, c4, c5⟩ := hS.cells
  have f4 := hS.frozen 4
  have f5 := hS.frozen 5
  have hgl := hS.lt
  go_enter Tryz.func59, Tryz.ntmps59
  go_wp2_with fail
  exact bodyPost_end (v := .tuple #[]) (by simp [results, Tryz.results59, go_sem]) rfl ⟨⟨_, rfl⟩, (hS.setErr c).setBad rfl, gb_set (gb_set (gb_refl _ _) (p := ⟨g, 4, none⟩) (.inl rfl) _) (p := ⟨g, 5, none⟩) (.inl rfl) _⟩

theorem step_append_own {w : World} {ops : Array Oper} {o : Oper} {a : Act} {K : Act → World → Prop} {Q : Exit → Act → World → Prop} {E : Prop} (hgd : o.guard = none) (s x : Operand) (t : TypeId)
    (ho : o.op = .call { callee := .builtin .append, args := #[s, x], argTypes := #[t, t] })
    (base : Nat) (e : TypeId) (i : TypeInfo) (z : Value) (size bytes : Nat) (ht : Tryz.prog.underlying t = some (.slice e)) (hi : Tryz.prog.info? e = some i) (hz : i.zero = some z)
    (hsize : i.size = size) (hby : i.bytes = bytes) (hzs : z.cells.size = size) (hsz : 0 < size)
    (v : Value) (n : Nat) (xs : List Value) (hs : a.eval s = v) (hown : w.ownsRow base e size v n xs)
    (ad : Addr) (m c : Nat) (news : List Value) (hx : a.eval x = .slice (some ad) m c) (hl : news.length = m * size) (hnews : ∀ j u, news[j]? = some u → w.cell? (ad.add j) = some u) (h1 : ∀ u ∈ news, u.oneCell' = true)
    (h63 : n + m ≤ maxLen) (hbytes : (n + m) * bytes ≤ 140737488355328) (hbase : base ≤ w.heap.size)
    (h : ∀ v' w', w'.ownsRow base e size v' (n + m) (xs ++ news) → w.grownBy w' v.ownBlock → K (a.put o.dst v') w') : if Region.wanted o (yielded ops a.tmps) = true then Oper.wp Tryz.prog o a w K Q else E := by
  rw [if_pos (by simp [Region.wanted, hgd])]
  exact wp_append_own w s x t ho base e i z size bytes ht hi hz hsize hby hzs hsz v n xs hs hown ad m c news hx hl hnews h1 h63 hbytes hbase fun v' w' h2 h3 _ => h v' w' h2 h3
end Go.Proofs.YtnkmefnbhfghgaaGreatDoor

namespace Go.Proofs.YtnkmefnbhfghgaaGreatDoor
open Go.RowKit

def RPost (w0 : World) (g : Nat) (s : ByteArray) (z : Nat) (out : List Tk.T) (to : Nat) (err : Int) (bad : Nat) (e : Ending) (w' : World) : Prop :=
  (∃ r, e = .returned r) ∧ ∃ v, RIn w0 w' g s z v out to err bad
/-- What a method of the reference's scanner leaves. -/
def QPost (w0 : World) (g : Nat) (s : ByteArray) (p : Nat) (out : List Tk.T) (to : Nat) (q : Tk.Q) (e : Ending) (w' : World) : Prop :=
  match q with
  | .move z => RPost w0 g s z out to 0 0 e w'
  | .tok k t z => RPost w0 g s z (out ++ [(k, t, p)]) z 0 0 e w'
  | .bad q c => ∃ z out' to', RPost w0 g s z out' to' c q e w'
theorem QPost.ret {w0 : World} {g : Nat} {s : ByteArray} {p : Nat} {out : List Tk.T} {to : Nat} {q : Tk.Q} {e : Ending} {w' : World} (h : QPost w0 g s p out to q e w') : ∃ r, e = .returned r := by
  cases q with
  | move z => exact h.1
  | tok k t z => exact h.1
  | bad q c => obtain ⟨_, _, _, h⟩ := h; exact h.1
theorem QPost.again {w0 : World} {g : Nat} {s : ByteArray} {p : Nat} {out : List Tk.T} {to : Nat} {q : Tk.Q} {e : Ending} {w' : World} (h : QPost w0 g s p out to q e w') (r : Value) : QPost w0 g s p out to q (.returned r) w' := by
  cases q with
  | move z => exact ⟨⟨r, rfl⟩, h.2⟩
  | tok k t z => exact ⟨⟨r, rfl⟩, h.2⟩
  | bad q c => obtain ⟨z, o, t, h⟩ := h; exact ⟨z, o, t, ⟨r, rfl⟩, h.2⟩
theorem RIn.append {w0 w w' : World} {g : Nat} {s : ByteArray} {p : Nat} {v v' : Value} {out : List Tk.T} {to : Nat} {err : Int} {bad : Nat} {x : Tk.T} {n : Nat} {xs : List Value} (h : RIn w0 w g s p v out to err bad)
    (hown : w'.ownsRow (g + 1) 32 3 v' n xs) (hn : n = (out ++ [x]).length) (hxs : xs = Tk.flat (out ++ [x])) (hg : w.grownBy w' v.ownBlock) :
    RIn w0 (w'.setCell ⟨g, 2, none⟩ v') g s p v' (out ++ [x]) to err bad := by
  subst hn hxs
  have hne : some g ≠ v.ownBlock := fun e => by have := (World.ownsRow.lt h.own g e.symm).1; omega
  exact ⟨Blk.put (Blk.grown h.blk hg hne) 2 v', ownsRow_setCell_below hown (Nat.lt_succ_self g) _, (h.low.grown hg (Nat.le_of_lt h.lt) (fun q e => by have := (World.ownsRow.lt h.own q e).1; omega)).setCell (Nat.le_refl _) _⟩
theorem RIn.grown {w0 w w' : World} {g : Nat} {s : ByteArray} {p : Nat} {v : Value} {out : List Tk.T} {to : Nat} {err : Int} {bad : Nat} (h : RIn w0 w g s p v out to err bad) (hg : w.grownBy w' v.ownBlock) :
    g < w'.heap.size ∧ w'.cell? ⟨g, 1, none⟩ = some (.int .i64 p) ∧ w'.cell? ⟨g, 2, none⟩ = some v ∧ w'.cell? ⟨g, 3, none⟩ = some (.int .i64 to) ∧ w'.frozen? ⟨g, 1, none⟩ = false ∧ w'.frozen? ⟨g, 2, none⟩ = false ∧ w'.frozen? ⟨g, 3, none⟩ = false := by
  have hne : some g ≠ v.ownBlock := fun e => by have := (World.ownsRow.lt h.own g e.symm).1; omega
  have hb := Blk.grown h.blk hg hne
  exact ⟨hb.lt, by simpa using hb.cell 1, by simpa using hb.cell 2, by simpa using hb.cell 3, hb.frozen 1, hb.frozen 2, hb.frozen 3⟩
theorem own_form1 {w : World} {B : Nat} {e : TypeId} {size n : Nat} {v : Value} {xs : List Value} (h : w.ownsRow B e size v (n + 1) xs) : ∃ q cap, v = .slice (some ⟨q, 0, none⟩) (n + 1) cap := by
  rcases h.2 with ⟨_, h⟩ | ⟨q, cap, _, h, _⟩
  · omega
  · exact ⟨q, cap, h⟩

set_option maxRecDepth 100000 in
set_option maxHeartbeats 4000000 in
/-- A token whose check says nothing, or behind an error: it is put behind the others. -/
theorem radd_rest (g : Nat) (s : ByteArray) (p : Nat) (v : Value) (out : List Tk.T) (to bad : Nat) (err : Int) (k : Int) (t : List UInt8) (z : Nat) (w0 w : World) (hout : out.length ≤ 65536) (htl : t.length ≤ 4611686018427387904) (hS : RIn w0 w g s p v out to err bad)
    (cc : Int) (hcc : Tk.check k t = cc) (hk : (cc != 0) = false ∨ ((cc != 0) = true ∧ (err == 0) = false)) :
    Calls Tryz.prog 66 #[.pointer (some ⟨g, 0, none⟩), .int .i64 k, .string ⟨t.toArray⟩, .int .i64 z] w (RPost w0 g s z (out ++ [(k, t, p)]) z err bad) := by
  obtain ⟨i0, hi, hz0, hz1, hz2⟩ := info_parts info_token
  have HCC := Lib.hid hcc; clear hcc
  obtain ⟨c0, c1, c2, c3, c4, c5⟩ := hS.cells
  have hgl := hS.lt
  go_enter Tryz.func66, Tryz.ntmps66
  go_wp2_with fail
  have hTk := Blk.new w 32 #[.int .i64 k, .string ⟨t.toArray⟩, .int .i64 p]
  have hS1 := hS.alloc (.cells #[.int .i64 k, .string ⟨t.toArray⟩, .int .i64 p] 32)
  refine (rcheck_any k ⟨t.toArray⟩ p _ (by simpa [ByteArray.size] using htl)).mono ?_; rintro e w2 ⟨rfl, hB2⟩
  rw [show ({ data := t.toArray } : ByteArray).data.toList = t from rfl, HCC.out]
  have hS2 := hS1.below hB2
  have hT2 := hTk.below hB2 hTk.lt
  clear c0 c1 c2 c3 c4 c5
  obtain ⟨c0, c1, c2, c3, c4, c5⟩ := hS2.cells
  have hgl2 := hS2.lt
  have hgl3 := hT2.lt
  have d0 : w2.cell? ⟨w.heap.size, 0, none⟩ = some (.int .i64 k) := by simpa using hT2.cell 0
  have d1 : w2.cell? ⟨w.heap.size, 1, none⟩ = some (.string ⟨t.toArray⟩) := by simpa using hT2.cell 1
  have d2 : w2.cell? ⟨w.heap.size, 2, none⟩ = some (.int .i64 p) := by simpa using hT2.cell 2
  have f1 := hS2.frozen 1
  have f2 := hS2.frozen 2
  have f3 := hS2.frozen 3
  have hmx : out.length + 1 ≤ maxLen := by unfold maxLen; omega
  have hb1 : g + 1 ≤ w2.heap.size := hgl2
  have HO := Lib.hid (show w2.ownsRow (g + 1) 32 3 v out.length (Tk.flat out) from hS2.own)
  have HS2 := Lib.hid hS2; clear hS2 hS1 hS hTk hT2
  rcases hk with hk | ⟨hk, he⟩
  all_goals
    go_wp2_with fail
    have HN := Lib.hid (cells_new w2 [.int .i64 k, .string ⟨t.toArray⟩, .int .i64 (p : Int)] 32)
    have HS3 := Lib.hid ((HS2.out.alloc (.cells #[.int .i64 k, .string ⟨t.toArray⟩, .int .i64 (p : Int)] 32)).drew)
    have hO3 := Lib.hid (HS3.out.own)
    go_region_law (refine step_append_own rfl (.tmp 39) (.tmp 41) 23 rfl (g + 1) 32 i0 (.agg #[.int .i64 0, .string ⟨#[]⟩, .int .i64 0]) 3 32 Tryz.underlying23 hi hz0 hz1 hz2 rfl (by decide) v out.length (Tk.flat out) (by simp [Act.eval, Act.put]) hO3.out ⟨w2.heap.size, 0, none⟩ 1 1 [.int .i64 k, .string ⟨t.toArray⟩, .int .i64 (p : Int)] (by simp [Act.eval, Act.put]) rfl HN.out (by simp [Value.oneCell']) hmx (by omega) (by simp; omega) ?_; intro v' w5 hown5 hgr5; obtain ⟨q, cap, rfl⟩ := own_form1 hown5; obtain ⟨hgl5, j1, j2, j3, k1, k2, k3⟩ := HS3.out.grown hgr5)
    all_goals
      have hS6 := HS3.out.append (x := (k, t, p)) hown5 (by simp) (by rw [Tk.flat_snoc]) hgr5
      go_wp2_with fail
      exact bodyPost_end (v := .tuple #[]) (by simp [results, Tryz.results66, go_sem]) rfl ⟨⟨_, rfl⟩, _, (hS6.setAt rfl).setTo rfl⟩

set_option maxRecDepth 100000 in
set_option maxHeartbeats 4000000 in
/-- A token whose check says something: the first error. -/
theorem radd_bad (g : Nat) (s : ByteArray) (p : Nat) (v : Value) (out : List Tk.T) (to : Nat) (k : Int) (t : List UInt8) (z : Nat) (w0 w : World) (hout : out.length ≤ 65536) (htl : t.length ≤ 4611686018427387904) (hS : RIn w0 w g s p v out to 0 0)
    (cc : Int) (hcc : Tk.check k t = cc) (hk : (cc != 0) = true) :
    Calls Tryz.prog 66 #[.pointer (some ⟨g, 0, none⟩), .int .i64 k, .string ⟨t.toArray⟩, .int .i64 z] w (RPost w0 g s z (out ++ [(k, t, p)]) z cc p) := by
  obtain ⟨i0, hi, hz0, hz1, hz2⟩ := info_parts info_token
  have HCC := Lib.hid hcc; clear hcc
  obtain ⟨c0, c1, c2, c3, c4, c5⟩ := hS.cells
  have hgl := hS.lt
  go_enter Tryz.func66, Tryz.ntmps66
  go_wp2_with fail
  have hTk := Blk.new w 32 #[.int .i64 k, .string ⟨t.toArray⟩, .int .i64 p]
  have hS1 := hS.alloc (.cells #[.int .i64 k, .string ⟨t.toArray⟩, .int .i64 p] 32)
  refine (rcheck_any k ⟨t.toArray⟩ p _ (by simpa [ByteArray.size] using htl)).mono ?_; rintro e w2 ⟨rfl, hB2⟩
  rw [show ({ data := t.toArray } : ByteArray).data.toList = t from rfl, HCC.out]
  have hS2 := hS1.below hB2
  have hT2 := hTk.below hB2 hTk.lt
  clear c0 c1 c2 c3 c4 c5
  obtain ⟨c0, c1, c2, c3, c4, c5⟩ := hS2.cells
  have hgl2 := hS2.lt
  have hgl3 := hT2.lt
  have f4 := hS2.frozen 4
  have f5 := hS2.frozen 5
  have d0 : w2.cell? ⟨w.heap.size, 0, none⟩ = some (.int .i64 k) := by simpa using hT2.cell 0
  have d1 : w2.cell? ⟨w.heap.size, 1, none⟩ = some (.string ⟨t.toArray⟩) := by simpa using hT2.cell 1
  have d2 : w2.cell? ⟨w.heap.size, 2, none⟩ = some (.int .i64 p) := by simpa using hT2.cell 2
  have hne : some w.heap.size ≠ some g := fun e => by have := Option.some.inj e; omega
  go_wp2_with fail
  refine (rfail_any g s p v out to 0 cc p w0 _ hS2).mono ?_
  rintro e w3 ⟨⟨r, rfl⟩, hS3, hGr⟩
  have hT3 := hT2.grown hGr hne
  clear c0 c1 c2 c3 c4 c5 d0 d1 d2 hgl2 hgl3 f4 f5
  obtain ⟨c0, c1, c2, c3, c4, c5⟩ := hS3.cells
  have hgl3 := hS3.lt
  have hgl4 := hT3.lt
  have d0 : w3.cell? ⟨w.heap.size, 0, none⟩ = some (.int .i64 k) := by simpa using hT3.cell 0
  have d1 : w3.cell? ⟨w.heap.size, 1, none⟩ = some (.string ⟨t.toArray⟩) := by simpa using hT3.cell 1
  have d2 : w3.cell? ⟨w.heap.size, 2, none⟩ = some (.int .i64 p) := by simpa using hT3.cell 2
  have f1 := hS3.frozen 1
  have f2 := hS3.frozen 2
  have f3 := hS3.frozen 3
  have hmx : out.length + 1 ≤ maxLen := by unfold maxLen; omega
  have hb1 : g + 1 ≤ w3.heap.size := hgl3
  have HS2 := Lib.hid hS3; clear hS3 hS2 hS1 hS hTk hT2 hT3
  go_wp2_with fail
  have HN := Lib.hid (cells_new w3 [.int .i64 k, .string ⟨t.toArray⟩, .int .i64 (p : Int)] 32)
  have HS3 := Lib.hid ((HS2.out.alloc (.cells #[.int .i64 k, .string ⟨t.toArray⟩, .int .i64 (p : Int)] 32)).drew)
  have hO3 := Lib.hid (HS3.out.own)
  go_region_law (refine step_append_own rfl (.tmp 39) (.tmp 41) 23 rfl (g + 1) 32 i0 (.agg #[.int .i64 0, .string ⟨#[]⟩, .int .i64 0]) 3 32 Tryz.underlying23 hi hz0 hz1 hz2 rfl (by decide) v out.length (Tk.flat out) (by simp [Act.eval, Act.put]) hO3.out ⟨w3.heap.size, 0, none⟩ 1 1 [.int .i64 k, .string ⟨t.toArray⟩, .int .i64 (p : Int)] (by simp [Act.eval, Act.put]) rfl HN.out (by simp [Value.oneCell']) hmx (by omega) (by simp; omega) ?_; intro v' w5 hown5 hgr5; obtain ⟨q, cap, rfl⟩ := own_form1 hown5; obtain ⟨hgl5, j1, j2, j3, k1, k2, k3⟩ := HS3.out.grown hgr5)
  all_goals
    have hS6 := HS3.out.append (x := (k, t, p)) hown5 (by simp) (by rw [Tk.flat_snoc]) hgr5
    go_wp2_with fail
    exact bodyPost_end (v := .tuple #[]) (by simp [results, Tryz.results66, go_sem]) rfl ⟨⟨_, rfl⟩, _, (hS6.setAt rfl).setTo rfl⟩

theorem radd_any (g : Nat) (s : ByteArray) (p : Nat) (v : Value) (out : List Tk.T) (to : Nat) (k : Int) (t : List UInt8) (z : Nat) (w0 w : World) (hout : out.length ≤ 65536) (hz : z ≤ 65536) (htl : t.length ≤ 4611686018427387904) (hS : RIn w0 w g s p v out to 0 0) :
    Calls Tryz.prog 66 #[.pointer (some ⟨g, 0, none⟩), .int .i64 k, .string ⟨t.toArray⟩, .int .i64 z] w (QPost w0 g s p out to (Tk.qadd k t z p)) := by
  unfold Tk.qadd
  by_cases hc : Tk.check k t = 0
  · rw [if_pos hc]
    exact radd_rest g s p v out to 0 0 k t z w0 w hout htl hS 0 hc (.inl rfl)
  · rw [if_neg hc]
    refine (radd_bad g s p v out to k t z w0 w hout htl hS _ rfl (by rw [bne_iff_ne]; exact hc)).mono ?_
    intro e w' h
    exact ⟨_, _, _, h⟩
end Go.Proofs.YtnkmefnbhfghgaaGreatDoor

namespace Go.Proofs.YtnkmefnbhfghgaaGreatDoor
open Go.RowKit

set_option maxRecDepth 100000 in
set_option maxHeartbeats 2000000 in
theorem rline_any (g : Nat) (s : ByteArray) (p : Nat) (v : Value) (out : List Tk.T) (to : Nat) (w0 w : World) (hs : s.size ≤ 65536) (hp : p < s.size) (h37 : Tk.bt s.data.toList p = 37) (hS : RIn w0 w g s p v out to 0 0) :
    Calls Tryz.prog 62 #[.pointer (some ⟨g, 0, none⟩)] w (QPost w0 g s p out to (Tk.qline s.data.toList p)) := by
  have HZ := Lib.hid (size_data s)
  have hb := Tk.bt_of s p hp
  have e37 : ((s[p].toNat : Int) == 37) = true := by rw [hb, h37]; rfl
  clear hb h37
  obtain ⟨c0, c1, c2, c3, c4, c5⟩ := hS.cells
  have hgl := hS.lt
  have hp1 : (0 : Int) ≤ (p : Int) := by omega
  have hp2 : (p : Int) < (s.size : Int) := by omega
  go_enter Tryz.func62, Tryz.ntmps62
  go_wp2_with fail
  go_quiet (fail)
  go_wp2_with fail
  clear c0 c1 c2 c3 c4 c5
  go_loopw [3] (fun i' wr => ∃ i : Nat, p + 1 ≤ i ∧ i ≤ s.size ∧ i' = .int .i64 i ∧ RIn w0 wr g s p v out to 0 0 ∧ Hid (Tk.run Tk.inLine s.data.toList (p + 1) = Tk.run Tk.inLine s.data.toList i)) (fun i' _ => s.size - (intOf i').toNat)
  case atStart => exact ⟨p + 1, Nat.le_refl _, hp, by go_num, hS.drewN _, Lib.hid rfl⟩
  case round =>
    obtain ⟨i, hpi, his, rfl, hR, hr⟩ := hrel
    obtain ⟨c0, c1, c2, c3, c4, c5⟩ := hR.cells
    have f1 := hR.frozen 1
    have hgr := hR.lt
    by_cases hlt : i < s.size
    · have HB := Lib.hid (Tk.bt_of s i hlt)
      cases hin : Tk.inText (s[i].toNat : Int)
      · have HIN := Lib.hid hin; clear hin
        have h10 : ¬ Tk.bt s.data.toList i = 10 := by rw [← HB.out]; intro h; have := HIN.out; rw [h] at this; revert this; decide
        have hl : Tk.run Tk.inLine s.data.toList i = i := Tk.run_no (by rw [HZ.out]; exact hlt) (by rw [← HB.out]; simp [Tk.inLine, HIN.out])
        have hq : Tk.qline s.data.toList p = .bad i 2 := by unfold Tk.qline; rw [hr.out, hl, if_pos (by rw [HZ.out]; exact hlt), if_neg h10]
        have HQ := Lib.hid hq; clear hq hl h10
        go_wp2_with fail
        refine (rByte_any _ _).mono ?_; rintro e w' ⟨rfl, rfl⟩
        rw [HIN.out]
        go_wp2_with fail
        refine (rfail_any g s p v out to 0 2 i w0 _ hR).mono ?_
        rintro e w2 ⟨⟨r, rfl⟩, hR2, hGr⟩
        go_wp2_with fail
        rw [HQ.out]
        exact bodyPost_end (v := .tuple #[]) (by simp [results, Tryz.results62, go_sem]) rfl ⟨_, _, _, ⟨_, rfl⟩, _, hR2⟩
      · have HIN := Lib.hid hin; clear hin
        by_cases h10 : (s[i].toNat : Int) = 10
        · have e10 : ((s[i].toNat : Int) == 10) = true := by rw [beq_iff_eq]; exact h10
          have hl : Tk.run Tk.inLine s.data.toList i = i := Tk.run_no (by rw [HZ.out]; exact hlt) (by rw [← HB.out, h10]; rfl)
          have hq : Tk.qline s.data.toList p = .move i := by unfold Tk.qline; rw [hr.out, hl, if_pos (by rw [HZ.out]; exact hlt), if_pos (by rw [← HB.out]; exact h10)]
          have HQ := Lib.hid hq; clear hq hl h10
          go_wp2_with fail
          refine (rByte_any _ _).mono ?_; rintro e w' ⟨rfl, rfl⟩
          rw [HIN.out]
          go_wp2_with fail
          rw [HQ.out]
          exact bodyPost_end (v := .tuple #[]) (by simp [results, Tryz.results62, go_sem]) rfl ⟨⟨_, rfl⟩, _, hR.setAt rfl⟩
        · have e10 : ((s[i].toNat : Int) == 10) = false := by rw [beq_eq_false_iff_ne]; exact h10
          have hl : Tk.run Tk.inLine s.data.toList i = Tk.run Tk.inLine s.data.toList (i + 1) := Tk.run_yes (by rw [HZ.out]; exact hlt) (by rw [← HB.out]; simp [Tk.inLine, HIN.out, h10])
          have HL := Lib.hid hl; clear hl h10
          go_wp2_with fail
          refine (rByte_any _ _).mono ?_; rintro e w' ⟨rfl, rfl⟩
          rw [HIN.out]
          go_wp2_with fail
          go_roundw
          case rel => exact ⟨i + 1, by omega, by omega, by go_num, hR, Lib.hid (by rw [hr.out, HL.out])⟩
          case measure => simp [intOf]; omega
    · have e0 : decide ((i : Int) < (s.size : Int)) = false := by simp; omega
      have hl : Tk.run Tk.inLine s.data.toList i = i := Tk.run_end (by rw [HZ.out]; omega)
      have hq : Tk.qline s.data.toList p = .move s.size := by unfold Tk.qline; rw [hr.out, hl, if_neg (by rw [HZ.out]; omega), HZ.out]
      have HQ := Lib.hid hq; clear hq hl
      go_wp2_with fail
      rw [HQ.out]
      exact bodyPost_end (v := .tuple #[]) (by simp [results, Tryz.results62, go_sem]) rfl ⟨⟨_, rfl⟩, _, hR.setAt rfl⟩
end Go.Proofs.YtnkmefnbhfghgaaGreatDoor

namespace Go.Proofs.YtnkmefnbhfghgaaGreatDoor
open Go.RowKit

set_option maxRecDepth 100000 in
set_option maxHeartbeats 2000000 in
theorem rblock_any (g : Nat) (s : ByteArray) (p : Nat) (v : Value) (out : List Tk.T) (to : Nat) (w0 w : World) (hs : s.size ≤ 65536) (hp : p < s.size) (h47 : Tk.bt s.data.toList p = 47) (hS : RIn w0 w g s p v out to 0 0) :
    Calls Tryz.prog 62 #[.pointer (some ⟨g, 0, none⟩)] w (QPost w0 g s p out to (Tk.qcom s.data.toList p (s.size + 1) (p + 1))) := by
  have HZ := Lib.hid (size_data s)
  have hb := Tk.bt_of s p hp
  have e37 : ((s[p].toNat : Int) == 37) = false := by rw [hb, h47]; rfl
  clear hb h47
  obtain ⟨c0, c1, c2, c3, c4, c5⟩ := hS.cells
  have hgl := hS.lt
  have hp1 : (0 : Int) ≤ (p : Int) := by omega
  have hp2 : (p : Int) < (s.size : Int) := by omega
  go_enter Tryz.func62, Tryz.ntmps62
  go_wp2_with fail
  go_quiet (fail)
  go_wp2_with fail
  clear c0 c1 c2 c3 c4 c5
  go_loopw [3] (fun i' wr => ∃ i f : Nat, p + 1 ≤ i ∧ i ≤ s.size ∧ s.size < i + f ∧ i' = .int .i64 i ∧ RIn w0 wr g s p v out to 0 0 ∧ Hid (Tk.qcom s.data.toList p (s.size + 1) (p + 1) = Tk.qcom s.data.toList p f i)) (fun i' _ => s.size - (intOf i').toNat)
  case atStart => exact ⟨p + 1, s.size + 1, Nat.le_refl _, hp, by omega, by go_num, hS.drewN _, Lib.hid rfl⟩
  case round =>
    obtain ⟨i, f, hpi, his, hf, rfl, hR, hr⟩ := hrel
    obtain ⟨f', rfl⟩ : ∃ f', f = f' + 1 := ⟨f - 1, by omega⟩
    obtain ⟨c0, c1, c2, c3, c4, c5⟩ := hR.cells
    have f1 := hR.frozen 1
    have hgr := hR.lt
    by_cases hlt : i < s.size
    · have HB := Lib.hid (Tk.bt_of s i hlt)
      cases hin : Tk.inText ((s[i]'hlt).toNat : Int)
      · have HIN := Lib.hid hin; clear hin
        have hq : Tk.qcom s.data.toList p (s.size + 1) (p + 1) = .bad i 2 := by rw [hr.out, Tk.qcom, if_pos (show i < s.data.toList.length by rw [HZ.out]; exact hlt), ← HB.out, HIN.out, if_neg (by decide)]
        have HQ := Lib.hid hq; clear hq
        go_wp2_with fail
        refine (rByte_any _ _).mono ?_; rintro e w' ⟨rfl, rfl⟩
        rw [HIN.out]
        go_wp2_with fail
        refine (rfail_any g s p v out to 0 2 i w0 _ hR).mono ?_
        rintro e w2 ⟨⟨r, rfl⟩, hR2, hGr⟩
        go_wp2_with fail
        rw [HQ.out]
        exact bodyPost_end (v := .tuple #[]) (by simp [results, Tryz.results62, go_sem]) rfl ⟨_, _, _, ⟨_, rfl⟩, _, hR2⟩
      · have HIN := Lib.hid hin; clear hin
        have hstep : ¬ (p + 2 < i ∧ Tk.bt s.data.toList i = 47 ∧ Tk.bt s.data.toList (i - 1) = 42) → Tk.qcom s.data.toList p (f' + 1) i = Tk.qcom s.data.toList p f' (i + 1) := by
          intro h
          rw [Tk.qcom, if_pos (show i < s.data.toList.length by rw [HZ.out]; exact hlt), ← HB.out, HIN.out, if_pos rfl]
          repeat' split
          · rename_i a b c; exact absurd ⟨a, by rw [← HB.out]; exact b, c⟩ h
          all_goals rfl
        have HST := Lib.hid hstep; clear hstep
        obtain ⟨j, hj⟩ : ∃ j, i = j + 1 := ⟨i - 1, by omega⟩
        have hsub : (i : Int) - 1 = (j : Int) := by omega
        have hj1 : (0 : Int) ≤ (j : Int) := by omega
        have hj2 : (j : Int) < (s.size : Int) := by omega
        have hjl : j < s.size := by omega
        have HJ := Lib.hid (Tk.bt_of s j hjl)
        have HJE := Lib.hid hj; clear hj
        by_cases h2 : p + 2 < i
        · have e2 : decide ((p : Int) + 2 < (i : Int)) = true := by simp; omega
          by_cases h47 : ((s[i]'hlt).toNat : Int) = 47
          · have e47 : (((s[i]'hlt).toNat : Int) == 47) = true := by rw [beq_iff_eq]; exact h47
            by_cases h42 : ((s[j]'hjl).toNat : Int) = 42
            · have e42 : (((s[j]'hjl).toNat : Int) == 42) = true := by rw [beq_iff_eq]; exact h42
              have hq : Tk.qcom s.data.toList p (s.size + 1) (p + 1) = .move (i + 1) := by
                rw [hr.out, Tk.qcom, if_pos (show i < s.data.toList.length by rw [HZ.out]; exact hlt), ← HB.out, HIN.out, if_pos rfl, if_pos h2, if_pos h47, if_pos (by rw [HJE.out, Nat.add_sub_cancel, ← HJ.out]; exact h42)]
              have HQ := Lib.hid hq; clear hq h42 h47
              go_wp2_with fail
              refine (rByte_any _ _).mono ?_; rintro e w' ⟨rfl, rfl⟩
              rw [HIN.out]
              go_wp2_with fail
              rw [HQ.out]
              exact bodyPost_end (v := .tuple #[]) (by simp [results, Tryz.results62, go_sem]) rfl ⟨⟨_, rfl⟩, _, hR.setAt (by omega)⟩
            · have e42 : (((s[j]'hjl).toNat : Int) == 42) = false := by rw [beq_eq_false_iff_ne]; exact h42
              have hl := HST.out (fun h => h42 (by rw [HJ.out, show j = i - 1 from by omega]; exact h.2.2))
              have HL := Lib.hid hl; clear hl h42 h47
              go_wp2_with fail
              refine (rByte_any _ _).mono ?_; rintro e w' ⟨rfl, rfl⟩
              rw [HIN.out]
              go_wp2_with fail
              go_roundw
              case rel => exact ⟨i + 1, f', by omega, by omega, by omega, by go_num, hR, Lib.hid (by rw [hr.out, HL.out])⟩
              case measure => simp [intOf]; omega
          · have e47 : (((s[i]'hlt).toNat : Int) == 47) = false := by rw [beq_eq_false_iff_ne]; exact h47
            have hl := HST.out (fun h => h47 (by rw [HB.out]; exact h.2.1))
            have HL := Lib.hid hl; clear hl h47
            go_wp2_with fail
            refine (rByte_any _ _).mono ?_; rintro e w' ⟨rfl, rfl⟩
            rw [HIN.out]
            go_wp2_with fail
            go_roundw
            case rel => exact ⟨i + 1, f', by omega, by omega, by omega, by go_num, hR, Lib.hid (by rw [hr.out, HL.out])⟩
            case measure => simp [intOf]; omega
        · have e2 : decide ((p : Int) + 2 < (i : Int)) = false := by simp; omega
          have hl := HST.out (fun h => h2 h.1)
          have HL := Lib.hid hl; clear hl
          go_wp2_with fail
          refine (rByte_any _ _).mono ?_; rintro e w' ⟨rfl, rfl⟩
          rw [HIN.out]
          go_wp2_with fail
          go_roundw
          case rel => exact ⟨i + 1, f', by omega, by omega, by omega, by go_num, hR, Lib.hid (by rw [hr.out, HL.out])⟩
          case measure => simp [intOf]; omega
    · have e0 : decide ((i : Int) < (s.size : Int)) = false := by simp; omega
      have hq : Tk.qcom s.data.toList p (s.size + 1) (p + 1) = .bad p 12 := by rw [hr.out, Tk.qcom, if_neg (by rw [HZ.out]; exact hlt)]
      have HQ := Lib.hid hq; clear hq
      go_wp2_with fail
      refine (rfail_any g s p v out to 0 12 p w0 _ hR).mono ?_
      rintro e w2 ⟨⟨r, rfl⟩, hR2, hGr⟩
      obtain ⟨d0, d1, d2, d3, d4, d5⟩ := hR2.cells
      have k1 := hR2.frozen 1
      have hgr2 := hR2.lt
      go_wp2_with fail
      rw [HQ.out]
      exact bodyPost_end (v := .tuple #[]) (by simp [results, Tryz.results62, go_sem]) rfl ⟨_, _, _, ⟨_, rfl⟩, _, hR2.setAt rfl⟩
end Go.Proofs.YtnkmefnbhfghgaaGreatDoor

namespace Go.Proofs.YtnkmefnbhfghgaaGreatDoor
open Go.RowKit

set_option maxRecDepth 100000 in
theorem rescaped_any (c m : Int) (w : World) :
    Calls Tryz.prog 93 #[.int .u8 c, .int .u8 m] w fun e w' => e = .returned (.int .u8 (Tk.meant c m)) ∧ w = w' := by
  by_cases h2 : c = m
  · subst h2
    have hcc : decide (c = c) = true := by simp
    go_enter Tryz.func93, Tryz.ntmps93
    go_wp2
    all_goals
      go_ret
      exact ⟨by simp [Tk.meant], rfl⟩
  have b2 : (c == m) = false := by simp [h2]
  by_cases h1 : c = 92
  · subst h1
    go_enter Tryz.func93, Tryz.ntmps93
    go_wp2
    go_ret
    exact ⟨by simp [Tk.meant], rfl⟩
  have b1 : (c == 92) = false := by simp [h1]
  by_cases h3 : m = 39
  · subst h3
    go_enter Tryz.func93, Tryz.ntmps93
    go_wp2
    go_ret
    exact ⟨by simp [Tk.meant, h1, h2], rfl⟩
  have b3 : (m == 39) = false := by simp [h3]
  have b3' : (m != 39) = true := by simp [h3]
  by_cases h4 : c = 110
  · subst h4
    go_enter Tryz.func93, Tryz.ntmps93
    go_wp2
    go_ret
    exact ⟨by simp [Tk.meant, h2, h3], rfl⟩
  have b4 : (c == 110) = false := by simp [h4]
  by_cases h5 : c = 116
  · subst h5
    go_enter Tryz.func93, Tryz.ntmps93
    go_wp2
    go_ret
    exact ⟨by simp [Tk.meant, h2, h3], rfl⟩
  have b5 : (c == 116) = false := by simp [h5]
  go_enter Tryz.func93, Tryz.ntmps93
  go_wp2
  go_ret
  exact ⟨by simp [Tk.meant, h1, h2, h3, h4, h5], rfl⟩

theorem bt_byte (l : List UInt8) (i : Nat) : 0 ≤ Tk.bt l i ∧ Tk.bt l i ≤ 255 := by
  have := (l.getD i 0).toNat_lt
  unfold Tk.bt
  omega

set_option maxRecDepth 100000 in
set_option maxHeartbeats 2000000 in
theorem rchar_a (g : Nat) (s : ByteArray) (p : Nat) (v : Value) (out : List Tk.T) (to : Nat) (w0 w : World) (hs : s.size ≤ 65536) (hp : p + 2 ≤ s.size) (hout : out.length ≤ 65536) (hS : RIn w0 w g s p v out to 0 0) (h2 : ¬ p + 2 < s.size) :
    Calls Tryz.prog 92 #[.pointer (some ⟨g, 0, none⟩)] w (QPost w0 g s p out to (Tk.qchar s.data.toList p)) := by
  have HZ := Lib.hid (size_data s)
  obtain ⟨c0, c1, c2, c3, c4, c5⟩ := hS.cells
  have hgl := hS.lt
  have hq : Tk.qchar s.data.toList p = .bad p 11 := by unfold Tk.qchar; rw [if_neg (by rw [HZ.out]; exact h2)]
  have HQ := Lib.hid hq; clear hq
  have hbe : Tk.bt s.data.toList (p + 2) = 0 := Tk.bt_end (by rw [HZ.out]; omega)
  have HBE := Lib.hid hbe; clear hbe
  go_enter Tryz.func92, Tryz.ntmps92
  go_wp2_with fail
  refine (rat_any s g (p + 2) _ (by omega) (by omega) c0).mono ?_; rintro e w' ⟨rfl, rfl⟩
  rw [HBE.out]
  go_wp2_with fail
  refine (rfail_any g s p v out to 0 11 p w0 _ hS).mono ?_
  rintro e w2 ⟨⟨r, rfl⟩, hR2, hGr⟩
  go_wp2_with fail
  rw [HQ.out]
  exact bodyPost_end (v := .tuple #[]) (by simp [results, Tryz.results92, go_sem]) rfl ⟨_, _, _, ⟨_, rfl⟩, _, hR2⟩

set_option maxRecDepth 100000 in
set_option maxHeartbeats 2000000 in
theorem rchar_b (g : Nat) (s : ByteArray) (p : Nat) (v : Value) (out : List Tk.T) (to : Nat) (w0 w : World) (hs : s.size ≤ 65536) (hp : p + 2 ≤ s.size) (hout : out.length ≤ 65536) (hS : RIn w0 w g s p v out to 0 0) (h2 : p + 2 < s.size) (hin : Tk.inText (Tk.bt s.data.toList (p + 2)) = false) :
    Calls Tryz.prog 92 #[.pointer (some ⟨g, 0, none⟩)] w (QPost w0 g s p out to (Tk.qchar s.data.toList p)) := by
  have HZ := Lib.hid (size_data s)
  obtain ⟨c0, c1, c2, c3, c4, c5⟩ := hS.cells
  have hgl := hS.lt
  have hq : Tk.qchar s.data.toList p = .bad (p + 2) 2 := by unfold Tk.qchar; rw [if_pos (by rw [HZ.out]; exact h2), hin, if_neg (by decide)]
  have HQ := Lib.hid hq; clear hq
  have hb2 := Tk.bt_of s (p + 2) h2
  have HB2 := Lib.hid hb2
  rw [← hb2] at hin
  have HIN := Lib.hid hin; clear hin hb2
  go_enter Tryz.func92, Tryz.ntmps92
  go_wp2_with fail
  refine (rByte_any _ _).mono ?_; rintro e w' ⟨rfl, rfl⟩
  rw [HIN.out]
  go_wp2_with fail
  refine (rfail_any g s p v out to 0 2 (p + 2) w0 _ hS).mono ?_
  rintro e w2 ⟨⟨r, rfl⟩, hR2, hGr⟩
  go_wp2_with fail
  rw [HQ.out]
  exact bodyPost_end (v := .tuple #[]) (by simp [results, Tryz.results92, go_sem]) rfl ⟨_, _, _, ⟨_, rfl⟩, _, hR2⟩

set_option maxRecDepth 100000 in
set_option maxHeartbeats 2000000 in
theorem rchar_c1 (g : Nat) (s : ByteArray) (p : Nat) (v : Value) (out : List Tk.T) (to : Nat) (w0 w : World) (hs : s.size ≤ 65536) (hp : p + 2 ≤ s.size) (hout : out.length ≤ 65536) (hS : RIn w0 w g s p v out to 0 0) (h2 : p + 2 < s.size) (hin : Tk.inText (Tk.bt s.data.toList (p + 2)) = true) (h92 : Tk.bt s.data.toList (p + 2) = 92) (h3 : ¬ p + 3 < s.size) :
    Calls Tryz.prog 92 #[.pointer (some ⟨g, 0, none⟩)] w (QPost w0 g s p out to (Tk.qchar s.data.toList p)) := by
  have HZ := Lib.hid (size_data s)
  obtain ⟨c0, c1, c2, c3, c4, c5⟩ := hS.cells
  have hgl := hS.lt
  have hq : Tk.qchar s.data.toList p = .bad p 11 := by unfold Tk.qchar; rw [if_pos (by rw [HZ.out]; exact h2), if_pos hin, if_pos h92, if_neg (by rw [HZ.out]; exact h3)]
  have HQ := Lib.hid hq; clear hq
  have hb2 := Tk.bt_of s (p + 2) h2
  rw [← hb2] at hin
  have HIN := Lib.hid hin; clear hin hb2
  have H92 := Lib.hid h92; clear h92
  have hbe : Tk.bt s.data.toList (p + 3) = 0 := Tk.bt_end (by rw [HZ.out]; omega)
  have HBE := Lib.hid hbe; clear hbe
  go_enter Tryz.func92, Tryz.ntmps92
  go_wp2_with fail
  refine (rByte_any _ _).mono ?_; rintro e w' ⟨rfl, rfl⟩
  rw [HIN.out]
  go_wp2_with fail
  refine (rat_any s g (p + 2) _ (by omega) (by omega) c0).mono ?_; rintro e w' ⟨rfl, rfl⟩
  rw [H92.out]
  go_wp2_with fail
  refine (rat_any s g (p + 3) _ (by omega) (by omega) c0).mono ?_; rintro e w' ⟨rfl, rfl⟩
  rw [HBE.out]
  go_wp2_with fail
  refine (rescaped_any _ _ _).mono ?_; rintro e w' ⟨rfl, rfl⟩
  rw [show Tk.meant 0 92 = 0 from by decide]
  go_wp2_with fail
  refine (rfail_any g s p v out to 0 11 p w0 _ hS).mono ?_
  rintro e w2 ⟨⟨r, rfl⟩, hR2, hGr⟩
  go_wp2_with fail
  rw [HQ.out]
  exact bodyPost_end (v := .tuple #[]) (by simp [results, Tryz.results92, go_sem]) rfl ⟨_, _, _, ⟨_, rfl⟩, _, hR2⟩

set_option maxRecDepth 100000 in
set_option maxHeartbeats 2000000 in
theorem rchar_c2 (g : Nat) (s : ByteArray) (p : Nat) (v : Value) (out : List Tk.T) (to : Nat) (w0 w : World) (hs : s.size ≤ 65536) (hp : p + 2 ≤ s.size) (hout : out.length ≤ 65536) (hS : RIn w0 w g s p v out to 0 0) (h2 : p + 2 < s.size) (hin : Tk.inText (Tk.bt s.data.toList (p + 2)) = true) (h92 : Tk.bt s.data.toList (p + 2) = 92) (h3 : p + 3 < s.size) (hin3 : Tk.inText (Tk.bt s.data.toList (p + 3)) = false) :
    Calls Tryz.prog 92 #[.pointer (some ⟨g, 0, none⟩)] w (QPost w0 g s p out to (Tk.qchar s.data.toList p)) := by
  have HZ := Lib.hid (size_data s)
  obtain ⟨c0, c1, c2, c3, c4, c5⟩ := hS.cells
  have hgl := hS.lt
  have hq : Tk.qchar s.data.toList p = .bad (p + 3) 2 := by unfold Tk.qchar; rw [if_pos (by rw [HZ.out]; exact h2), if_pos hin, if_pos h92, if_pos (by rw [HZ.out]; exact h3), hin3, if_neg (by decide)]
  have HQ := Lib.hid hq; clear hq
  have hb2 := Tk.bt_of s (p + 2) h2
  rw [← hb2] at hin
  have HIN := Lib.hid hin; clear hin hb2
  have H92 := Lib.hid h92; clear h92
  have hb3 := Tk.bt_of s (p + 3) h3
  rw [← hb3] at hin3
  have HIN3 := Lib.hid hin3; clear hin3 hb3
  go_enter Tryz.func92, Tryz.ntmps92
  go_wp2_with fail
  refine (rByte_any _ _).mono ?_; rintro e w' ⟨rfl, rfl⟩
  rw [HIN.out]
  go_wp2_with fail
  refine (rat_any s g (p + 2) _ (by omega) (by omega) c0).mono ?_; rintro e w' ⟨rfl, rfl⟩
  rw [H92.out]
  go_wp2_with fail
  refine (rByte_any _ _).mono ?_; rintro e w' ⟨rfl, rfl⟩
  rw [HIN3.out]
  go_wp2_with fail
  refine (rfail_any g s p v out to 0 2 (p + 3) w0 _ hS).mono ?_
  rintro e w2 ⟨⟨r, rfl⟩, hR2, hGr⟩
  go_wp2_with fail
  rw [HQ.out]
  exact bodyPost_end (v := .tuple #[]) (by simp [results, Tryz.results92, go_sem]) rfl ⟨_, _, _, ⟨_, rfl⟩, _, hR2⟩

set_option maxRecDepth 100000 in
set_option maxHeartbeats 2000000 in
theorem rchar_c3 (g : Nat) (s : ByteArray) (p : Nat) (v : Value) (out : List Tk.T) (to : Nat) (w0 w : World) (hs : s.size ≤ 65536) (hp : p + 2 ≤ s.size) (hout : out.length ≤ 65536) (hS : RIn w0 w g s p v out to 0 0) (h2 : p + 2 < s.size) (hin : Tk.inText (Tk.bt s.data.toList (p + 2)) = true) (h92 : Tk.bt s.data.toList (p + 2) = 92) (h3 : p + 3 < s.size) (hin3 : Tk.inText (Tk.bt s.data.toList (p + 3)) = true) (hmn : Tk.meant (Tk.bt s.data.toList (p + 3)) 92 = 0) :
    Calls Tryz.prog 92 #[.pointer (some ⟨g, 0, none⟩)] w (QPost w0 g s p out to (Tk.qchar s.data.toList p)) := by
  have HZ := Lib.hid (size_data s)
  obtain ⟨c0, c1, c2, c3, c4, c5⟩ := hS.cells
  have hgl := hS.lt
  have hq : Tk.qchar s.data.toList p = .bad p 11 := by unfold Tk.qchar; rw [if_pos (by rw [HZ.out]; exact h2), if_pos hin, if_pos h92, if_pos (by rw [HZ.out]; exact h3), if_pos hin3, if_pos hmn]
  have HQ := Lib.hid hq; clear hq
  have hb2 := Tk.bt_of s (p + 2) h2
  rw [← hb2] at hin
  have HIN := Lib.hid hin; clear hin hb2
  have H92 := Lib.hid h92; clear h92
  have hb3 := Tk.bt_of s (p + 3) h3
  have hbb := bt_byte s.data.toList (p + 3)
  rw [← hb3] at hin3
  have HIN3 := Lib.hid hin3; clear hin3 hb3
  have HMN := Lib.hid hmn; clear hmn
  go_enter Tryz.func92, Tryz.ntmps92
  go_wp2_with fail
  refine (rByte_any _ _).mono ?_; rintro e w' ⟨rfl, rfl⟩
  rw [HIN.out]
  go_wp2_with fail
  refine (rat_any s g (p + 2) _ (by omega) (by omega) c0).mono ?_; rintro e w' ⟨rfl, rfl⟩
  rw [H92.out]
  go_wp2_with fail
  refine (rByte_any _ _).mono ?_; rintro e w' ⟨rfl, rfl⟩
  rw [HIN3.out]
  go_wp2_with fail
  refine (rat_any s g (p + 3) _ (by omega) (by omega) c0).mono ?_; rintro e w' ⟨rfl, rfl⟩
  go_wp2_with fail
  refine (rescaped_any _ _ _).mono ?_; rintro e w' ⟨rfl, rfl⟩
  rw [HMN.out]
  go_wp2_with fail
  refine (rfail_any g s p v out to 0 11 p w0 _ hS).mono ?_
  rintro e w2 ⟨⟨r, rfl⟩, hR2, hGr⟩
  go_wp2_with fail
  rw [HQ.out]
  exact bodyPost_end (v := .tuple #[]) (by simp [results, Tryz.results92, go_sem]) rfl ⟨_, _, _, ⟨_, rfl⟩, _, hR2⟩

set_option maxRecDepth 100000 in
set_option maxHeartbeats 2000000 in
theorem rchar_c4 (g : Nat) (s : ByteArray) (p : Nat) (v : Value) (out : List Tk.T) (to : Nat) (w0 w : World) (hs : s.size ≤ 65536) (hp : p + 2 ≤ s.size) (hout : out.length ≤ 65536) (hS : RIn w0 w g s p v out to 0 0) (h2 : p + 2 < s.size) (hin : Tk.inText (Tk.bt s.data.toList (p + 2)) = true) (h92 : Tk.bt s.data.toList (p + 2) = 92) (h3 : p + 3 < s.size) (hin3 : Tk.inText (Tk.bt s.data.toList (p + 3)) = true) (hmn : ¬ Tk.meant (Tk.bt s.data.toList (p + 3)) 92 = 0) :
    Calls Tryz.prog 92 #[.pointer (some ⟨g, 0, none⟩)] w (QPost w0 g s p out to (Tk.qchar s.data.toList p)) := by
  have HZ := Lib.hid (size_data s)
  obtain ⟨c0, c1, c2, c3, c4, c5⟩ := hS.cells
  have hgl := hS.lt
  have hq : Tk.qchar s.data.toList p = Tk.qadd 4 [UInt8.ofNat (Tk.meant (Tk.bt s.data.toList (p + 3)) 92).toNat] (p + 4) p := by unfold Tk.qchar; rw [if_pos (by rw [HZ.out]; exact h2), if_pos hin, if_pos h92, if_pos (by rw [HZ.out]; exact h3), if_pos hin3, if_neg hmn]
  have HQ := Lib.hid hq; clear hq
  have hb2 := Tk.bt_of s (p + 2) h2
  rw [← hb2] at hin
  have HIN := Lib.hid hin; clear hin hb2
  have H92 := Lib.hid h92; clear h92
  have e0 : (Tk.meant (Tk.bt s.data.toList (p + 3)) 92 == 0) = false := by rw [beq_eq_false_iff_ne]; exact hmn
  have hb3 := Tk.bt_of s (p + 3) h3
  have hbb := bt_byte s.data.toList (p + 3)
  rw [← hb3] at hin3
  have HIN3 := Lib.hid hin3; clear hin3 hb3
  have HMN := Lib.hid hmn; clear hmn
  go_enter Tryz.func92, Tryz.ntmps92
  go_wp2_with fail
  refine (rByte_any _ _).mono ?_; rintro e w' ⟨rfl, rfl⟩
  rw [HIN.out]
  go_wp2_with fail
  refine (rat_any s g (p + 2) _ (by omega) (by omega) c0).mono ?_; rintro e w' ⟨rfl, rfl⟩
  rw [H92.out]
  go_wp2_with fail
  refine (rByte_any _ _).mono ?_; rintro e w' ⟨rfl, rfl⟩
  rw [HIN3.out]
  go_wp2_with fail
  refine (rat_any s g (p + 3) _ (by omega) (by omega) c0).mono ?_; rintro e w' ⟨rfl, rfl⟩
  go_wp2_with fail
  refine (rescaped_any _ _ _).mono ?_; rintro e w' ⟨rfl, rfl⟩
  obtain ⟨mc, hmc⟩ : ∃ mc, Tk.meant (Tk.bt s.data.toList (p + 3)) 92 = mc := ⟨_, rfl⟩
  rw [hmc] at e0 HQ ⊢
  clear hmc HMN hbb
  go_wp2_with fail
  rw [conv_one _ w.heap.size mc (by simp [go_sem])]
  go_wp2_with fail
  try rw [show (p : Int) + 2 + 1 = ((p + 3 : Nat) : Int) from by omega]
  try rw [show (p : Int) + 3 + 1 = ((p + 4 : Nat) : Int) from by omega]
  try rw [show (p : Int) + 3 = ((p + 3 : Nat) : Int) from by omega]
  try rw [show (p : Int) + 4 = ((p + 4 : Nat) : Int) from by omega]
  refine (radd_any g s p v out to 4 [UInt8.ofNat mc.toNat] (p + 4) w0 _ hout (by omega) (by simp) (hS.alloc _)).mono ?_
  intro e w2 hP
  obtain ⟨r, rfl⟩ := hP.ret
  go_wp2_with fail
  rw [HQ.out]
  exact bodyPost_end (v := .tuple #[]) (by simp [results, Tryz.results92, go_sem]) rfl (hP.again _)

set_option maxRecDepth 100000 in
set_option maxHeartbeats 2000000 in
theorem rchar_d (g : Nat) (s : ByteArray) (p : Nat) (v : Value) (out : List Tk.T) (to : Nat) (w0 w : World) (hs : s.size ≤ 65536) (hp : p + 2 ≤ s.size) (hout : out.length ≤ 65536) (hS : RIn w0 w g s p v out to 0 0) (h2 : p + 2 < s.size) (hin : Tk.inText (Tk.bt s.data.toList (p + 2)) = true) (h92 : ¬ Tk.bt s.data.toList (p + 2) = 92) (h32 : Tk.bt s.data.toList (p + 2) < 32) :
    Calls Tryz.prog 92 #[.pointer (some ⟨g, 0, none⟩)] w (QPost w0 g s p out to (Tk.qchar s.data.toList p)) := by
  have HZ := Lib.hid (size_data s)
  obtain ⟨c0, c1, c2, c3, c4, c5⟩ := hS.cells
  have hgl := hS.lt
  have hq : Tk.qchar s.data.toList p = .bad p 11 := by unfold Tk.qchar; rw [if_pos (by rw [HZ.out]; exact h2), if_pos hin, if_neg h92, if_pos h32]
  have HQ := Lib.hid hq; clear hq
  have hb2 := Tk.bt_of s (p + 2) h2
  have e92 : (Tk.bt s.data.toList (p + 2) == 92) = false := by rw [beq_eq_false_iff_ne]; exact h92
  rw [← hb2] at hin
  have HIN := Lib.hid hin; clear hin hb2 h92
  go_enter Tryz.func92, Tryz.ntmps92
  go_wp2_with fail
  refine (rByte_any _ _).mono ?_; rintro e w' ⟨rfl, rfl⟩
  rw [HIN.out]
  go_wp2_with fail
  refine (rat_any s g (p + 2) _ (by omega) (by omega) c0).mono ?_; rintro e w' ⟨rfl, rfl⟩
  go_wp2_with fail
  refine (rfail_any g s p v out to 0 11 p w0 _ hS).mono ?_
  rintro e w2 ⟨⟨r, rfl⟩, hR2, hGr⟩
  go_wp2_with fail
  rw [HQ.out]
  exact bodyPost_end (v := .tuple #[]) (by simp [results, Tryz.results92, go_sem]) rfl ⟨_, _, _, ⟨_, rfl⟩, _, hR2⟩

set_option maxRecDepth 100000 in
set_option maxHeartbeats 2000000 in
theorem rchar_e (g : Nat) (s : ByteArray) (p : Nat) (v : Value) (out : List Tk.T) (to : Nat) (w0 w : World) (hs : s.size ≤ 65536) (hp : p + 2 ≤ s.size) (hout : out.length ≤ 65536) (hS : RIn w0 w g s p v out to 0 0) (h2 : p + 2 < s.size) (hin : Tk.inText (Tk.bt s.data.toList (p + 2)) = true) (h92 : ¬ Tk.bt s.data.toList (p + 2) = 92) (h32 : ¬ Tk.bt s.data.toList (p + 2) < 32) :
    Calls Tryz.prog 92 #[.pointer (some ⟨g, 0, none⟩)] w (QPost w0 g s p out to (Tk.qchar s.data.toList p)) := by
  have HZ := Lib.hid (size_data s)
  obtain ⟨c0, c1, c2, c3, c4, c5⟩ := hS.cells
  have hgl := hS.lt
  have hq : Tk.qchar s.data.toList p = Tk.qadd 4 [UInt8.ofNat (Tk.bt s.data.toList (p + 2)).toNat] (p + 3) p := by unfold Tk.qchar; rw [if_pos (by rw [HZ.out]; exact h2), if_pos hin, if_neg h92, if_neg h32]
  have HQ := Lib.hid hq; clear hq
  have hb2 := Tk.bt_of s (p + 2) h2
  have e92 : (Tk.bt s.data.toList (p + 2) == 92) = false := by rw [beq_eq_false_iff_ne]; exact h92
  rw [← hb2] at hin
  have HIN := Lib.hid hin; clear hin hb2 h92
  have e0 : (Tk.bt s.data.toList (p + 2) == 0) = false := by rw [beq_eq_false_iff_ne]; omega
  go_enter Tryz.func92, Tryz.ntmps92
  go_wp2_with fail
  refine (rByte_any _ _).mono ?_; rintro e w' ⟨rfl, rfl⟩
  rw [HIN.out]
  go_wp2_with fail
  refine (rat_any s g (p + 2) _ (by omega) (by omega) c0).mono ?_; rintro e w' ⟨rfl, rfl⟩
  obtain ⟨mc, hmc⟩ : ∃ mc, Tk.bt s.data.toList (p + 2) = mc := ⟨_, rfl⟩
  rw [hmc] at e0 e92 h32 HQ ⊢
  clear hmc
  go_wp2_with fail
  rw [conv_one _ w.heap.size mc (by simp [go_sem])]
  go_wp2_with fail
  try rw [show (p : Int) + 2 + 1 = ((p + 3 : Nat) : Int) from by omega]
  try rw [show (p : Int) + 3 + 1 = ((p + 4 : Nat) : Int) from by omega]
  try rw [show (p : Int) + 3 = ((p + 3 : Nat) : Int) from by omega]
  try rw [show (p : Int) + 4 = ((p + 4 : Nat) : Int) from by omega]
  refine (radd_any g s p v out to 4 [UInt8.ofNat mc.toNat] (p + 3) w0 _ hout (by omega) (by simp) (hS.alloc _)).mono ?_
  intro e w2 hP
  obtain ⟨r, rfl⟩ := hP.ret
  go_wp2_with fail
  rw [HQ.out]
  exact bodyPost_end (v := .tuple #[]) (by simp [results, Tryz.results92, go_sem]) rfl (hP.again _)

theorem rchar_any (g : Nat) (s : ByteArray) (p : Nat) (v : Value) (out : List Tk.T) (to : Nat) (w0 w : World) (hs : s.size ≤ 65536) (hp : p + 2 ≤ s.size) (hout : out.length ≤ 65536) (hS : RIn w0 w g s p v out to 0 0) :
    Calls Tryz.prog 92 #[.pointer (some ⟨g, 0, none⟩)] w (QPost w0 g s p out to (Tk.qchar s.data.toList p)) := by
  by_cases h2 : p + 2 < s.size
  · cases hin : Tk.inText (Tk.bt s.data.toList (p + 2))
    · exact rchar_b g s p v out to w0 w hs hp hout hS h2 hin
    · by_cases h92 : Tk.bt s.data.toList (p + 2) = 92
      · by_cases h3 : p + 3 < s.size
        · cases hin3 : Tk.inText (Tk.bt s.data.toList (p + 3))
          · exact rchar_c2 g s p v out to w0 w hs hp hout hS h2 hin h92 h3 hin3
          · by_cases hmn : Tk.meant (Tk.bt s.data.toList (p + 3)) 92 = 0
            · exact rchar_c3 g s p v out to w0 w hs hp hout hS h2 hin h92 h3 hin3 hmn
            · exact rchar_c4 g s p v out to w0 w hs hp hout hS h2 hin h92 h3 hin3 hmn
        · exact rchar_c1 g s p v out to w0 w hs hp hout hS h2 hin h92 h3
      · by_cases h32 : Tk.bt s.data.toList (p + 2) < 32
        · exact rchar_d g s p v out to w0 w hs hp hout hS h2 hin h92 h32
        · exact rchar_e g s p v out to w0 w hs hp hout hS h2 hin h92 h32
  · exact rchar_a g s p v out to w0 w hs hp hout hS h2
end Go.Proofs.YtnkmefnbhfghgaaGreatDoor

namespace Go.Proofs.YtnkmefnbhfghgaaGreatDoor
open Go.RowKit

theorem sub_small (s : ByteArray) (a z : Nat) (h : s.size ≤ 65536) : (Tk.sub s.data.toList a z).length ≤ 4611686018427387904 := by
  unfold Tk.sub
  rw [List.length_take, List.length_drop, size_data]
  omega
theorem str_sub (s : ByteArray) (a z : Nat) : s.extract a z = ⟨(Tk.sub s.data.toList a z).toArray⟩ := sub_str s a z

set_option maxRecDepth 100000 in
set_option maxHeartbeats 2000000 in
theorem rname_tok (g : Nat) (s : ByteArray) (p : Nat) (v : Value) (out : List Tk.T) (to : Nat) (w0 w : World) (hs : s.size ≤ 65536) (hp : p < s.size) (hout : out.length ≤ 65536) (hS : RIn w0 w g s p v out to 0 0) :
    Calls Tryz.prog 64 #[.pointer (some ⟨g, 0, none⟩)] w (QPost w0 g s p out to (Tk.qadd 1 (Tk.sub s.data.toList p (Tk.dottedEnd s.data.toList p)) (Tk.dottedEnd s.data.toList p) p)) := by
  have HZ := Lib.hid (size_data s)
  obtain ⟨c0, c1, c2, c3, c4, c5⟩ := hS.cells
  have hgl := hS.lt
  have hr0 : Tk.run Tk.inWord s.data.toList p ≤ s.size := by rw [← HZ.out]; exact Tk.run_le (by rw [HZ.out]; omega)
  have hr1 := Tk.run_ge Tk.inWord s.data.toList p
  go_enter Tryz.func64, Tryz.ntmps64
  go_wp2_with fail
  refine (rrun_any s g p _ (by omega) (by omega) c0).mono ?_; rintro e w' ⟨rfl, rfl⟩
  go_wp2_with fail
  go_loop [2] (fun i' => ∃ k f : Nat, p ≤ k ∧ k ≤ s.size ∧ s.size - k ≤ f ∧ i' = .int .i64 k ∧ Hid (Tk.dottedEnd s.data.toList p = Tk.dots f s.data.toList k)) (fun i' => s.size - (intOf i').toNat)
  case atStart => exact ⟨_, s.size, hr1, hr0, by omega, rfl, Lib.hid (by rw [← HZ.out]; rfl)⟩
  case round =>
    obtain ⟨k, f, hpk, hk, hf, rfl, hr⟩ := hrel
    have HF := Lib.hid hf; clear hf
    have hend : Tk.dottedEnd s.data.toList p = k → Tk.qadd 1 (Tk.sub s.data.toList p (Tk.dottedEnd s.data.toList p)) (Tk.dottedEnd s.data.toList p) p = Tk.qadd 1 (Tk.sub s.data.toList p k) k p := fun h => by rw [h]
    have HEND := Lib.hid hend; clear hend
    have hk1 : (p : Int) ≤ (k : Int) := by omega
    have hk2 : (k : Int) ≤ (s.size : Int) := by omega
    cases hp46 : Tk.bt s.data.toList k == 46
    · have hl : Tk.startsAt Tk.point s.data.toList k = false := by simp only [Tk.startsAt, Tk.point, hp46, Bool.and_false]
      have HQ := Lib.hid (HEND.out (hr.out.trans (Tk.dots_no1 hl)))
      clear hl HEND
      go_wp2_with fail
      refine (rat_any s g k _ (by omega) (by omega) c0).mono ?_; rintro e w' ⟨rfl, rfl⟩
      go_wp2_with fail
      go_region_with (go_at_call 66; rw [str_sub]; refine (radd_any g s p v out to 1 (Tk.sub s.data.toList p k) k w0 _ hout (by omega) (sub_small s p k hs) hS.drew).mono ?_; intro e w2 hP; obtain ⟨r, rfl⟩ := hP.ret)
      all_goals
        go_wp2_with fail
        rw [HQ.out]
        exact bodyPost_end (v := .tuple #[]) (by simp [results, Tryz.results64, go_sem]) rfl (hP.again _)
    · have hlt : k < s.size := by
        refine Nat.lt_of_not_le fun h => ?_
        rw [Tk.bt_end (by rw [HZ.out]; exact h)] at hp46
        revert hp46; decide
      have hl : Tk.startsAt Tk.point s.data.toList k = true := by
        rw [Tk.starts_yes (by rw [HZ.out]; exact hlt)]; exact hp46
      cases hp2 : Tk.small (Tk.bt s.data.toList (k + 1))
      · have hl2 : Tk.startsAt Tk.small s.data.toList (k + 1) = false := by simp only [Tk.startsAt, hp2, Bool.and_false]
        have HQ := Lib.hid (HEND.out (hr.out.trans (Tk.dots_no2 hl2)))
        have HP2 := Lib.hid hp2
        clear hl hl2 HEND hp2
        go_wp2_with fail
        refine (rat_any s g k _ (by omega) (by omega) c0).mono ?_; rintro e w' ⟨rfl, rfl⟩
        go_wp2_with fail
        refine (rat_any s g (k + 1) _ (by omega) (by omega) c0).mono ?_; rintro e w' ⟨rfl, rfl⟩
        go_wp2_with fail
        refine (rsmall_any _ _).mono ?_; rintro e w' ⟨rfl, rfl⟩
        rw [HP2.out]
        go_wp2_with fail
        go_region_with (go_at_call 66; rw [str_sub]; refine (radd_any g s p v out to 1 (Tk.sub s.data.toList p k) k w0 _ hout (by omega) (sub_small s p k hs) hS.drew).mono ?_; intro e w2 hP; obtain ⟨r, rfl⟩ := hP.ret)
        all_goals
          go_wp2_with fail
          rw [HQ.out]
          exact bodyPost_end (v := .tuple #[]) (by simp [results, Tryz.results64, go_sem]) rfl (hP.again _)
      · have hlt2 : k + 1 < s.size := by
          refine Nat.lt_of_not_le fun h => ?_
          rw [Tk.bt_end (by rw [HZ.out]; exact h)] at hp2
          revert hp2; decide
        have hl2 : Tk.startsAt Tk.small s.data.toList (k + 1) = true := by
          rw [Tk.starts_yes (by rw [HZ.out]; exact hlt2)]; exact hp2
        obtain ⟨f', hfg, _, hd, hg'⟩ := Tk.dots_yes (by rw [HZ.out]; exact HF.out) hl hl2
        rw [HZ.out] at hg'
        have hle : Tk.run Tk.inWord s.data.toList (k + 1) ≤ s.size := by rw [← HZ.out]; exact Tk.run_le (by rw [HZ.out]; omega)
        have hge := Tk.run_ge Tk.inWord s.data.toList (k + 1)
        have HD := Lib.hid hd; clear hd
        have HFG := Lib.hid hfg; clear hfg
        have HP2 := Lib.hid hp2
        clear hl hl2 HEND hp2
        go_wp2_with fail
        refine (rat_any s g k _ (by omega) (by omega) c0).mono ?_; rintro e w' ⟨rfl, rfl⟩
        go_wp2_with fail
        refine (rat_any s g (k + 1) _ (by omega) (by omega) c0).mono ?_; rintro e w' ⟨rfl, rfl⟩
        go_wp2_with fail
        refine (rsmall_any _ _).mono ?_; rintro e w' ⟨rfl, rfl⟩
        rw [HP2.out]
        go_wp2_with fail
        refine (rrun_any s g (k + 1) _ (by omega) (by omega) c0).mono ?_; rintro e w' ⟨rfl, rfl⟩
        go_wp2_with fail
        go_round
        case rel => exact ⟨_, f', by omega, hle, by omega, rfl, Lib.hid (by rw [hr.out, HD.out])⟩
        case measure => simp [intOf]; omega
end Go.Proofs.YtnkmefnbhfghgaaGreatDoor

namespace Go.Proofs.YtnkmefnbhfghgaaGreatDoor
open Go.RowKit

theorem rsign_bt (l : List UInt8) (i : Nat) : Tk.rsign (Tk.bt l i) = Tk.sign (Tk.bt l i) := (Tk.sign_eq (l.getD i 0)).symm

set_option maxRecDepth 100000 in
set_option maxHeartbeats 2000000 in
/-- Digits. -/
theorem rnum_digits (g : Nat) (s : ByteArray) (p : Nat) (v : Value) (out : List Tk.T) (to : Nat) (w0 w : World) (hs : s.size ≤ 65536) (hp : p < s.size) (hout : out.length ≤ 65536) (hS : RIn w0 w g s p v out to 0 0) (h48 : ¬ (Tk.bt s.data.toList p = 48 ∧ Tk.bt s.data.toList (p + 1) = 39)) :
    Calls Tryz.prog 67 #[.pointer (some ⟨g, 0, none⟩)] w (QPost w0 g s p out to (Tk.qadd 3 (Tk.sub s.data.toList p (Tk.run Tk.digit s.data.toList p)) (Tk.run Tk.digit s.data.toList p) p)) := by
  have HZ := Lib.hid (size_data s)
  obtain ⟨c0, c1, c2, c3, c4, c5⟩ := hS.cells
  have hgl := hS.lt
  have hb := Tk.bt_of s p hp
  have hp1 : (0 : Int) ≤ (p : Int) := by omega
  have hp2 : (p : Int) < (s.size : Int) := by omega
  have H48 := Lib.hid h48; clear h48
  cases h1 : ((s[p]'hp).toNat : Int) == 48
  all_goals
    have HB := Lib.hid hb; clear hb
    have hb39 : (((s[p]'hp).toNat : Int) == 48) = true → (Tk.bt s.data.toList (p + 1) == 39) = false := fun h => by
      rw [beq_eq_false_iff_ne]; intro h9
      exact H48.out ⟨by rw [← HB.out]; simpa using h, h9⟩
    have HB39 := Lib.hid hb39; clear hb39
    go_enter Tryz.func67, Tryz.ntmps67
    go_wp2_with fail
    go_quiet ((go_at_call 61; first | exact q1 (rat_any s g (p + 1) _ (by omega) (by omega) (by exact c0)) | exact q2 (rat_any s g (p + 1) _ (by omega) (by omega) (by exact c0))))
    try rw [HB39.out h1]
    go_wp2_with fail
    have hSd := hS.drewN nq
    obtain ⟨d0, d1, d2, d3, d4, d5⟩ := hSd.cells
    have hgl2 := hSd.lt
    have HSd := Lib.hid hSd; clear hSd
    generalize w.drewN nq = w2 at *
    clear c0 c1 c2 c3 c4 c5
    go_loop [2] (fun i' => ∃ k : Nat, p ≤ k ∧ k ≤ s.size ∧ i' = .int .i64 k ∧ Hid (Tk.run Tk.digit s.data.toList p = Tk.run Tk.digit s.data.toList k)) (fun i' => s.size - (intOf i').toNat)
    case atStart => exact ⟨p, Nat.le_refl _, Nat.le_of_lt hp, rfl, Lib.hid rfl⟩
    case round =>
      obtain ⟨k, hpk, hk, rfl, hr⟩ := hrel
      cases hd : Tk.digit (Tk.bt s.data.toList k)
      · have HD := Lib.hid hd; clear hd
        have hl : Tk.run Tk.digit s.data.toList k = k := by
          by_cases hlt : k < s.size
          · exact Tk.run_no (by rw [HZ.out]; exact hlt) HD.out
          · exact Tk.run_end (by rw [HZ.out]; omega)
        have hq : Tk.qadd 3 (Tk.sub s.data.toList p (Tk.run Tk.digit s.data.toList p)) (Tk.run Tk.digit s.data.toList p) p = Tk.qadd 3 (Tk.sub s.data.toList p k) k p := by rw [hr.out, hl]
        have HQ := Lib.hid hq; clear hq hl
        have hk1 : (p : Int) ≤ (k : Int) := by omega
        have hk2 : (k : Int) ≤ (s.size : Int) := by omega
        go_wp2_with fail
        refine (rat_any s g k _ (by omega) (by omega) d0).mono ?_; rintro e w' ⟨rfl, rfl⟩
        go_wp2_with fail
        refine (rdigit_any _ _).mono ?_; rintro e w' ⟨rfl, rfl⟩
        rw [HD.out]
        go_wp2_with fail
        go_region_with (go_at_call 66; rw [str_sub]; refine (radd_any g s p v out to 3 (Tk.sub s.data.toList p k) k w0 _ hout (by omega) (sub_small s p k hs) HSd.out.drew).mono ?_; intro e w5 hP; obtain ⟨r, rfl⟩ := hP.ret)
        all_goals
          go_wp2_with fail
          rw [HQ.out]
          exact bodyPost_end (v := .tuple #[]) (by simp [results, Tryz.results67, go_sem]) rfl (hP.again _)
      · have hlt : k < s.size := by
          refine Nat.lt_of_not_le fun h => ?_
          rw [Tk.bt_end (by rw [HZ.out]; exact h)] at hd
          revert hd; decide
        have HD := Lib.hid hd; clear hd
        go_wp2_with fail
        refine (rat_any s g k _ (by omega) (by omega) d0).mono ?_; rintro e w' ⟨rfl, rfl⟩
        go_wp2_with fail
        refine (rdigit_any _ _).mono ?_; rintro e w' ⟨rfl, rfl⟩
        rw [HD.out]
        go_wp2_with fail
        go_round
        case rel => exact ⟨k + 1, by omega, by omega, by go_num, Lib.hid (by rw [hr.out, Tk.run_yes (by rw [HZ.out]; exact hlt) HD.out])⟩
        case measure => simp [intOf]; omega

set_option maxRecDepth 100000 in
set_option maxHeartbeats 2000000 in
/-- A character. -/
theorem rnum_char (g : Nat) (s : ByteArray) (p : Nat) (v : Value) (out : List Tk.T) (to : Nat) (w0 w : World) (hs : s.size ≤ 65536) (hp : p < s.size) (hout : out.length ≤ 65536) (hS : RIn w0 w g s p v out to 0 0) (h48 : Tk.bt s.data.toList p = 48) (h39 : Tk.bt s.data.toList (p + 1) = 39) :
    Calls Tryz.prog 67 #[.pointer (some ⟨g, 0, none⟩)] w (QPost w0 g s p out to (Tk.qchar s.data.toList p)) := by
  have HZ := Lib.hid (size_data s)
  obtain ⟨c0, c1, c2, c3, c4, c5⟩ := hS.cells
  have hgl := hS.lt
  have hp1 : (0 : Int) ≤ (p : Int) := by omega
  have hp2 : (p : Int) < (s.size : Int) := by omega
  have h2 : p + 2 ≤ s.size := by
    refine Nat.lt_of_not_le fun h => ?_
    rw [Tk.bt_end (by rw [HZ.out]; omega)] at h39
    revert h39; decide
  have h1 : (((s[p]'hp).toNat : Int) == 48) = true := by rw [Tk.bt_of s p hp, h48]; rfl
  have H39 := Lib.hid h39; clear h39 h48
  go_enter Tryz.func67, Tryz.ntmps67
  go_wp2_with fail
  go_quiet ((go_at_call 61; first | exact q1 (rat_any s g (p + 1) _ (by omega) (by omega) (by exact c0)) | exact q2 (rat_any s g (p + 1) _ (by omega) (by omega) (by exact c0))))
  rw [H39.out]
  go_wp2_with fail
  refine (rchar_any g s p v out to w0 _ hs h2 hout (hS.drewN _)).mono ?_
  intro e w5 hP
  obtain ⟨r, rfl⟩ := hP.ret
  go_wp2_with fail
  exact bodyPost_ret (v := .tuple #[]) (by simp [results, Tryz.results67, go_sem]) rfl (hP.again _)
theorem rnum_any (g : Nat) (s : ByteArray) (p : Nat) (v : Value) (out : List Tk.T) (to : Nat) (w0 w : World) (hs : s.size ≤ 65536) (hp : p < s.size) (hout : out.length ≤ 65536) (hS : RIn w0 w g s p v out to 0 0) :
    Calls Tryz.prog 67 #[.pointer (some ⟨g, 0, none⟩)] w (QPost w0 g s p out to (Tk.qnum s.data.toList p)) := by
  unfold Tk.qnum
  by_cases h : Tk.bt s.data.toList p = 48 ∧ Tk.bt s.data.toList (p + 1) = 39
  · rw [if_pos h]; exact rnum_char g s p v out to w0 w hs hp hout hS h.1 h.2
  · rw [if_neg h]; exact rnum_digits g s p v out to w0 w hs hp hout hS h
end Go.Proofs.YtnkmefnbhfghgaaGreatDoor

namespace Go.Proofs.YtnkmefnbhfghgaaGreatDoor
open Go.RowKit

theorem sub_dot {l : List UInt8} {p z : Nat} (h : Tk.sub l p z = [46]) : Tk.qadd 7 (Tk.sub l p z) z p = Tk.qadd 7 [46] z p := by rw [h]
set_option maxRecDepth 100000 in
set_option maxHeartbeats 4000000 in
theorem rsigns_any (g : Nat) (s : ByteArray) (p : Nat) (v : Value) (out : List Tk.T) (to : Nat) (w0 w : World) (hs : s.size ≤ 65536) (hp : p < s.size) (hout : out.length ≤ 65536) (hS : RIn w0 w g s p v out to 0 0) :
    Calls Tryz.prog 70 #[.pointer (some ⟨g, 0, none⟩)] w (QPost w0 g s p out to (Tk.qsigns s.data.toList p)) := by
  have HZ := Lib.hid (size_data s)
  obtain ⟨c0, c1, c2, c3, c4, c5⟩ := hS.cells
  have hgl := hS.lt
  have hp1 : (0 : Int) ≤ (p : Int) := by omega
  have hp2 : (p : Int) < (s.size : Int) := by omega
  go_enter Tryz.func70, Tryz.ntmps70
  go_wp2_with fail
  go_loop [2] (fun i' => ∃ k : Nat, p ≤ k ∧ k ≤ s.size ∧ i' = .int .i64 k ∧ Hid (Tk.run Tk.sign s.data.toList p = Tk.run Tk.sign s.data.toList k)) (fun i' => s.size - (intOf i').toNat)
  case atStart => exact ⟨p, Nat.le_refl _, Nat.le_of_lt hp, rfl, Lib.hid rfl⟩
  case round =>
    obtain ⟨z, hpk, hk, rfl, hr⟩ := hrel
    cases hd : Tk.sign (Tk.bt s.data.toList z)
    · have hl : Tk.run Tk.sign s.data.toList p = z := by
        rw [hr.out]
        by_cases hlt : z < s.size
        · exact Tk.run_no (by rw [HZ.out]; exact hlt) hd
        · exact Tk.run_end (by rw [HZ.out]; omega)
      have hq : Tk.qsigns s.data.toList p = if Tk.sub s.data.toList p z = [46] then
          if z = s.data.toList.length then Tk.qadd 7 [46] z p
          else if Tk.blank (Tk.bt s.data.toList z) then Tk.qadd 7 [46] z p
          else if Tk.bt s.data.toList z = 37 then Tk.qadd 7 [46] z p
          else .bad p 11
        else Tk.qadd 1 (Tk.sub s.data.toList p z) z p := by unfold Tk.qsigns; rw [hl]
      rw [HZ.out] at hq
      have HQ := Lib.hid hq; clear hq hl
      have HD := Lib.hid hd; clear hd
      have hk1 : (p : Int) ≤ (z : Int) := by omega
      have hk2 : (z : Int) ≤ (s.size : Int) := by omega
      cases hdot : ((s.extract p z).toList == [46])
      · have hne : ¬ Tk.sub s.data.toList p z = [46] := by rw [← sub_list]; simpa using hdot
        have hq : Tk.qsigns s.data.toList p = Tk.qadd 1 (Tk.sub s.data.toList p z) z p := by rw [HQ.out, if_neg hne]
        have HQ2 := Lib.hid hq; clear hq hne HQ
        go_wp2_with fail
        refine (rat_any s g z _ (by omega) (by omega) c0).mono ?_; rintro e w' ⟨rfl, rfl⟩
        go_wp2_with fail
        refine (rsign_any _ _).mono ?_; rintro e w' ⟨rfl, rfl⟩
        rw [rsign_bt, HD.out]
        go_wp2_with fail
        go_quiet (fail)
        go_wp2_with fail
        rw [str_sub]
        refine (radd_any g s p v out to 1 (Tk.sub s.data.toList p z) z w0 _ hout (by omega) (sub_small s p z hs) (hS.drewN _)).mono ?_
        intro e w5 hP
        obtain ⟨r, rfl⟩ := hP.ret
        go_wp2_with fail
        rw [HQ2.out]
        exact bodyPost_end (v := .tuple #[]) (by simp [results, Tryz.results70, go_sem]) rfl (hP.again _)
      · have hne : Tk.sub s.data.toList p z = [46] := by rw [← sub_list]; simpa using hdot
        rw [hne] at HQ
        have HNE := Lib.hid hne; clear hne
        by_cases hend : z = s.size
        · have e1 : ((z : Int) == (s.size : Int)) = true := by rw [beq_iff_eq]; omega
          have hq : Tk.qsigns s.data.toList p = Tk.qadd 7 [46] z p := by rw [HQ.out, if_pos rfl, if_pos hend]
          have HQ2 := Lib.hid hq; clear hq HQ hend
          go_wp2_with fail
          refine (rat_any s g z _ (by omega) (by omega) c0).mono ?_; rintro e w' ⟨rfl, rfl⟩
          go_wp2_with fail
          refine (rsign_any _ _).mono ?_; rintro e w' ⟨rfl, rfl⟩
          rw [rsign_bt, HD.out]
          go_wp2_with fail
          go_quiet (fail)
          go_wp2_with fail
          refine (radd_any g s p v out to 7 [46] z w0 _ hout (by omega) (by decide) (hS.drewN _)).mono ?_
          intro e w5 hP
          obtain ⟨r, rfl⟩ := hP.ret
          go_wp2_with fail
          rw [HQ2.out]
          exact bodyPost_ret (v := .tuple #[]) (by simp [results, Tryz.results70, go_sem]) rfl (hP.again _)
        · have hlt : z < s.size := by omega
          have e1 : ((z : Int) == (s.size : Int)) = false := by rw [beq_eq_false_iff_ne]; omega
          have hz2 : (z : Int) < (s.size : Int) := by omega
          have HB := Lib.hid (Tk.bt_of s z hlt)
          have hq : Tk.qsigns s.data.toList p = if Tk.blank (Tk.bt s.data.toList z) then Tk.qadd 7 [46] z p
            else if Tk.bt s.data.toList z = 37 then Tk.qadd 7 [46] z p else .bad p 11 := by rw [HQ.out, if_pos rfl, if_neg hend]
          have HQ1 := Lib.hid hq; clear hq HQ hend
          cases hbl : Tk.blank (Tk.bt s.data.toList z)
          · by_cases h37 : Tk.bt s.data.toList z = 37
            · have e37 : (((s[z]'hlt).toNat : Int) == 37) = true := by rw [HB.out, beq_iff_eq]; exact h37
              have hq : Tk.qsigns s.data.toList p = Tk.qadd 7 [46] z p := by rw [HQ1.out, hbl, if_neg (by decide), if_pos h37]
              have HQ2 := Lib.hid hq; clear hq HQ1 h37
              have HBL := Lib.hid hbl; clear hbl
              go_wp2_with fail
              refine (rat_any s g z _ (by omega) (by omega) c0).mono ?_; rintro e w' ⟨rfl, rfl⟩
              go_wp2_with fail
              refine (rsign_any _ _).mono ?_; rintro e w' ⟨rfl, rfl⟩
              rw [rsign_bt, HD.out]
              go_wp2_with fail
              go_quiet (fail)
              go_wp2_with fail
              refine (rblank_any _ _).mono ?_; rintro e w' ⟨rfl, rfl⟩
              rw [HB.out, HBL.out]
              go_wp2_with fail
              refine (radd_any g s p v out to 7 [46] z w0 _ hout (by omega) (by decide) (hS.drewN _)).mono ?_
              intro e w5 hP
              obtain ⟨r, rfl⟩ := hP.ret
              go_wp2_with fail
              rw [HQ2.out]
              exact bodyPost_ret (v := .tuple #[]) (by simp [results, Tryz.results70, go_sem]) rfl (hP.again _)
            · have e37 : (((s[z]'hlt).toNat : Int) == 37) = false := by rw [HB.out, beq_eq_false_iff_ne]; exact h37
              have hq : Tk.qsigns s.data.toList p = .bad p 11 := by rw [HQ1.out, hbl, if_neg (by decide), if_neg h37]
              have HQ2 := Lib.hid hq; clear hq HQ1 h37
              have HBL := Lib.hid hbl; clear hbl
              have hSd := hS.drewN
              go_wp2_with fail
              refine (rat_any s g z _ (by omega) (by omega) c0).mono ?_; rintro e w' ⟨rfl, rfl⟩
              go_wp2_with fail
              refine (rsign_any _ _).mono ?_; rintro e w' ⟨rfl, rfl⟩
              rw [rsign_bt, HD.out]
              go_wp2_with fail
              go_quiet (fail)
              go_wp2_with fail
              refine (rblank_any _ _).mono ?_; rintro e w' ⟨rfl, rfl⟩
              rw [HB.out, HBL.out]
              go_wp2_with fail
              refine (rfail_any g s p v out to 0 11 p w0 _ (hSd _)).mono ?_
              rintro e w2 ⟨⟨r, rfl⟩, hR2, hGr⟩
              go_wp2_with fail
              rw [HQ2.out]
              exact bodyPost_ret (v := .tuple #[]) (by simp [results, Tryz.results70, go_sem]) rfl ⟨_, _, _, ⟨_, rfl⟩, _, hR2⟩
          · have hq : Tk.qsigns s.data.toList p = Tk.qadd 7 [46] z p := by rw [HQ1.out, hbl, if_pos rfl]
            have HQ2 := Lib.hid hq; clear hq HQ1
            have HBL := Lib.hid hbl; clear hbl
            go_wp2_with fail
            refine (rat_any s g z _ (by omega) (by omega) c0).mono ?_; rintro e w' ⟨rfl, rfl⟩
            go_wp2_with fail
            refine (rsign_any _ _).mono ?_; rintro e w' ⟨rfl, rfl⟩
            rw [rsign_bt, HD.out]
            go_wp2_with fail
            go_quiet (fail)
            go_wp2_with fail
            refine (rblank_any _ _).mono ?_; rintro e w' ⟨rfl, rfl⟩
            rw [HB.out, HBL.out]
            go_wp2_with fail
            refine (radd_any g s p v out to 7 [46] z w0 _ hout (by omega) (by decide) (hS.drewN _)).mono ?_
            intro e w5 hP
            obtain ⟨r, rfl⟩ := hP.ret
            go_wp2_with fail
            rw [HQ2.out]
            exact bodyPost_ret (v := .tuple #[]) (by simp [results, Tryz.results70, go_sem]) rfl (hP.again _)
    · have hlt : z < s.size := by
        refine Nat.lt_of_not_le fun h => ?_
        rw [Tk.bt_end (by rw [HZ.out]; exact h)] at hd
        revert hd; decide
      have HD := Lib.hid hd; clear hd
      go_wp2_with fail
      refine (rat_any s g z _ (by omega) (by omega) c0).mono ?_; rintro e w' ⟨rfl, rfl⟩
      go_wp2_with fail
      refine (rsign_any _ _).mono ?_; rintro e w' ⟨rfl, rfl⟩
      rw [rsign_bt, HD.out]
      go_wp2_with fail
      go_round
      case rel => exact ⟨z + 1, by omega, by omega, by go_num, Lib.hid (by rw [hr.out, Tk.run_yes (by rw [HZ.out]; exact hlt) HD.out])⟩
      case measure => simp [intOf]; omega
end Go.Proofs.YtnkmefnbhfghgaaGreatDoor
