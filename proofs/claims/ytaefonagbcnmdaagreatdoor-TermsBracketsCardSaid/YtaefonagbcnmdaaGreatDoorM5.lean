import Derived.Test.YtaefonagbcnmdaaGreatDoorM4
import Derived.Test.YtaefonagbcnmdaaGreatDoorM3
import Derived.Test.YtaefonagbcnmdaaGreatDoorA19
import Derived.Maps.OwnIn
import Derived.Test.YtaefonagbcnmdaaGreatDoorA20
import Derived.Laws.Small
import Derived.Test.YtaefonagbcnmdaaGreatDoorA23
set_option linter.unusedSimpArgs false
set_option linter.unusedVariables false
namespace Go.Proofs.YtaefonagbcnmdaaGreatDoor
open Go.RowKit

/-! The terms in a term, with their levels, in preorder. -/
def Tm.lvl (c : Bool) (l : Int) (i : Nat) : Int := if i == 1 && c then l else l + 1
mutual
def Tm.walk : Tm → Int → List (Int × Tm)
  | .mk k n m ts p, l => (l, .mk k n m ts p) :: Tm.walks (Tm.isChain (.mk k n m ts p)) l 0 ts
def Tm.walks (c : Bool) (l : Int) : Nat → List Tm → List (Int × Tm)
  | _, [] => []
  | i, a :: ts => Tm.walk a (Tm.lvl c l i) ++ Tm.walks c l (i + 1) ts
end
mutual
def Tm.siz : Tm → Nat
  | .mk _ _ _ ts _ => 1 + Tm.sizs ts
def Tm.sizs : List Tm → Nat
  | [] => 0
  | a :: ts => Tm.siz a + Tm.sizs ts
end
theorem Tm.walk_eq (t : Tm) (l : Int) : Tm.walk t l = (l, t) :: Tm.walks (Tm.isChain t) l 0 t.args := by
  cases t; rw [Tm.walk]; rfl
theorem Tm.siz_eq (t : Tm) : Tm.siz t = 1 + Tm.sizs t.args := by
  cases t; rw [Tm.siz]; rfl
theorem Tm.siz_pos (t : Tm) : 0 < Tm.siz t := by rw [Tm.siz_eq]; omega
theorem Tm.sizs_len (l : List Tm) : l.length ≤ Tm.sizs l := by
  induction l with
  | nil => simp
  | cons a l ih => rw [Tm.sizs, List.length_cons]; have := Tm.siz_pos a; omega

/-- What the walk has still to go through: a term, its level, its place. -/
structure Tm.P where
  t : Tm
  l : Int
  a : Addr
def Tm.pcells : List Tm.P → List Value
  | [] => []
  | e :: es => Tm.pcells es ++ [.pointer (some e.a), .int .i64 e.l]
theorem Tm.pcells_len (es : List Tm.P) : (Tm.pcells es).length = es.length * 2 := by
  induction es with
  | nil => rfl
  | cons e es ih => rw [Tm.pcells, List.length_append, ih, List.length_cons]; simp; omega
def Tm.pwalk : List Tm.P → List (Int × Tm)
  | [] => []
  | e :: es => Tm.walk e.t e.l ++ Tm.pwalk es
def Tm.psize : List Tm.P → Nat
  | [] => 0
  | e :: es => Tm.siz e.t + Tm.psize es
theorem Tm.pwalk_append (a b : List Tm.P) : Tm.pwalk (a ++ b) = Tm.pwalk a ++ Tm.pwalk b := by
  induction a with
  | nil => rfl
  | cons e es ih => rw [List.cons_append, Tm.pwalk, ih, Tm.pwalk, List.append_assoc]
theorem Tm.psize_append (a b : List Tm.P) : Tm.psize (a ++ b) = Tm.psize a + Tm.psize b := by
  induction a with
  | nil => simp [Tm.psize]
  | cons e es ih => rw [List.cons_append, Tm.psize, ih, Tm.psize]; omega
theorem Tm.psize_len (l : List Tm.P) : l.length ≤ Tm.psize l := by
  induction l with
  | nil => simp
  | cons a l ih => rw [Tm.psize, List.length_cons]; have := Tm.siz_pos a.t; omega
/-- The arguments of a term, as entries: those from the i-th on. -/
def Tm.kids (c : Bool) (l : Int) (g o : Nat) : Nat → List Tm → List Tm.P
  | _, [] => []
  | i, t :: ts => ⟨t, Tm.lvl c l i, ⟨g, o + 5 * i, none⟩⟩ :: Tm.kids c l g o (i + 1) ts
theorem Tm.kids_len (c : Bool) (l : Int) (g o : Nat) (i : Nat) (ts : List Tm) : (Tm.kids c l g o i ts).length = ts.length := by
  induction ts generalizing i with
  | nil => rfl
  | cons t ts ih => rw [Tm.kids, List.length_cons, ih, List.length_cons]
theorem Tm.kids_walk (c : Bool) (l : Int) (g o : Nat) (i : Nat) (ts : List Tm) : Tm.pwalk (Tm.kids c l g o i ts) = Tm.walks c l i ts := by
  induction ts generalizing i with
  | nil => rw [Tm.kids, Tm.pwalk, Tm.walks]
  | cons t ts ih => rw [Tm.kids, Tm.pwalk, Tm.walks, ih]
theorem Tm.kids_size (c : Bool) (l : Int) (g o : Nat) (i : Nat) (ts : List Tm) : Tm.psize (Tm.kids c l g o i ts) = Tm.sizs ts := by
  induction ts generalizing i with
  | nil => rw [Tm.kids, Tm.psize, Tm.sizs]
  | cons t ts ih => rw [Tm.kids, Tm.psize, Tm.sizs, ih]
theorem Tm.kids_get (c : Bool) (l : Int) (g o : Nat) (i j : Nat) (ts : List Tm) (t : Tm) (h : ts[j]? = some t) : (Tm.kids c l g o i ts)[j]? = some ⟨t, Tm.lvl c l (i + j), ⟨g, o + 5 * (i + j), none⟩⟩ := by
  induction ts generalizing i j with
  | nil => simp at h
  | cons u ts ih =>
    cases j with
    | zero => simp at h; subst h; rw [Tm.kids]; simp
    | succ j =>
      rw [Tm.kids, List.getElem?_cons_succ, ih (i + 1) j (by simpa using h), show i + 1 + j = i + (j + 1) by omega]
theorem Tm.sizs_get {j : Nat} {ts : List Tm} {t : Tm} (h : ts[j]? = some t) : Tm.siz t ≤ Tm.sizs ts := by
  induction ts generalizing j with
  | nil => simp at h
  | cons u ts ih =>
    rw [Tm.sizs]
    cases j with
    | zero => simp at h; subst h; omega
    | succ j => have := ih (j := j) (by simpa using h); omega

/-- A term at a place of memory. -/
def TmAt (w : World) (κ : Nat → Nat) (a : Addr) (t : Tm) : Prop :=
  a.spot = none ∧ a.block < w.heap.size ∧ ∃ v, Targs w κ v t.args ∧ ∀ (j : Nat) u, [Value.int .i64 t.kind, .string ⟨t.name.toArray⟩, .int .i64 t.num, v, .int .i64 t.at_][j]? = some u → w.cell? ⟨a.block, a.off + j, none⟩ = some u
end Go.Proofs.YtaefonagbcnmdaaGreatDoor

namespace Go.Proofs.YtaefonagbcnmdaaGreatDoor
open Go.RowKit Go.Shelf
attribute [local go_sem] Oper.semAt_some

theorem info_part : (Tryz.prog.info? 98).map (fun i => (i.zero, i.size, i.bytes)) = some (some (.agg #[.pointer none, .int .i64 0]), 2, 16) := by kernel_rfl
/-- What a consumer of the walk may write. -/
def Spares (X : Nat → Prop) (w w' : World) : Prop := w.heap.size ≤ w'.heap.size ∧ ∀ b, b < w.heap.size → ¬ X b → w'.heap[b]? = w.heap[b]?
theorem Spares.firm {X : Nat → Prop} {κ : Nat → Nat} {w w' : World} (h : Spares X w w') (hX : ∀ b, κ b = 0 → ¬ X b) : Firm κ w w' := ⟨h.1, fun b hb hk => h.2 b hb (hX b hk)⟩
theorem below_firm {N0 : Nat} {κ : Nat → Nat} {w w' : World} (h : Below N0 w w') (hs : w.heap.size ≤ w'.heap.size) (hX : ∀ b, κ b = 0 → b < N0) : Firm κ w w' := ⟨hs, fun b _ hk => h.block b (hX b hk)⟩
theorem TmAt.firm {κ : Nat → Nat} {w w' : World} (h : Firm κ w w') {a : Addr} {t : Tm} (hk : κ a.block = 0) (ht : TmAt w κ a t) : TmAt w' κ a t := by
  obtain ⟨h1, h2, v, h3, h4⟩ := ht
  exact ⟨h1, Nat.lt_of_lt_of_le h2 h.1, v, h3.firm h, fun j u hu => (World.cell?_of_block (a := ⟨a.block, a.off + j, none⟩) (h.2 a.block h2 hk)).trans (h4 j u hu)⟩
theorem Spares.own {X : Nat → Prop} {w w' : World} {B : Nat} {e : TypeId} {size n : Nat} {v : Value} {xs : List Value} (h : Spares X w w') (hX : ∀ b, X b → b < B) (ho : w.ownsRow B e size v n xs) : w'.ownsRow B e size v n xs := by
  refine ⟨ho.1, ?_⟩
  rcases ho.2 with h0 | ⟨g, cap, cur, hv, hb, hg, rest⟩
  · exact .inl h0
  · exact .inr ⟨g, cap, cur, hv, hb, (h.2 g (Array.getElem?_eq_some_iff.1 hg).1 (fun hx => by have := hX g hx; omega)).trans hg, rest⟩
/-- The walk between two rounds. -/
def WalkI (K : List (Int × Tm) → World → Prop) (κ : Nat → Nat) (N0 M : Nat) (m : Nat) (sv : Value) (w : World) : Prop :=
  ∃ st : List Tm.P, w.ownsRow N0 98 2 sv st.length (Tm.pcells st) ∧ K (Tm.pwalk st) w ∧ Tm.psize st = m ∧ m ≤ M ∧ N0 ≤ w.heap.size ∧
    ∀ e ∈ st, TmAt w κ e.a e.t ∧ κ e.a.block = 0 ∧ 1 ≤ e.l ∧ e.l + Tm.siz e.t ≤ M + 1
theorem exists_least {p : Nat → Prop} (h : ∃ n, p n) : ∃ n, p n ∧ ∀ m, p m → n ≤ m := by
  obtain ⟨n, hn⟩ := h
  induction n using Nat.strongRecOn with
  | ind n ih =>
    by_cases hm : ∃ m, m < n ∧ p m
    · obtain ⟨m, h1, h2⟩ := hm; exact ih m h1 h2
    · exact ⟨n, hn, fun m h2 => Nat.le_of_not_lt (fun h3 => hm ⟨m, h3, h2⟩)⟩
open Classical in
noncomputable def least (p : Nat → Prop) : Nat := if h : ∃ n, p n then (exists_least h).choose else 0
theorem least_spec {p : Nat → Prop} (h : ∃ n, p n) : p (least p) := by
  unfold least; rw [dif_pos h]; exact (exists_least h).choose_spec.1
theorem least_le {p : Nat → Prop} {m : Nat} (h : p m) : least p ≤ m := by
  unfold least; rw [dif_pos ⟨m, h⟩]; exact (exists_least ⟨m, h⟩).choose_spec.2 m h
/-- The arguments of a term in memory, each at its place. -/
theorem kids_at {w : World} {κ : Nat → Nat} {g o m ca : Nat} {ts : List Tm} (h : Targs w κ (.slice (some ⟨g, o, none⟩) m ca) ts) (c : Bool) (l : Int) :
    ∀ e ∈ Tm.kids c l g o 0 ts, TmAt w κ e.a e.t ∧ κ e.a.block = 0 ∧ l ≤ e.l ∧ e.l + Tm.siz e.t ≤ l + 1 + Tm.sizs ts := by
  intro e he
  obtain ⟨j, hj⟩ := List.getElem?_of_mem he
  have hlt : j < ts.length := by
    have := (List.getElem?_eq_some_iff.1 hj).1
    rwa [Tm.kids_len] at this
  obtain ⟨t, ht⟩ : ∃ t, ts[j]? = some t := ⟨_, List.getElem?_eq_getElem hlt⟩
  rw [Tm.kids_get c l g o 0 j ts t ht, Option.some.injEq] at hj
  subst hj
  have hsz := Tm.sizs_get ht
  have hlv : l ≤ Tm.lvl c l (0 + j) ∧ Tm.lvl c l (0 + j) ≤ l + 1 := by
    unfold Tm.lvl
    split <;> omega
  generalize hv : Value.slice (some ⟨g, o, none⟩) m ca = v at h
  cases h with
  | nil => simp at hlt
  | mk g' o' cap _ vs hl hc hg hk cells sub =>
    rw [Value.slice.injEq, Option.some.injEq, Addr.mk.injEq] at hv
    obtain ⟨⟨rfl, rfl, -⟩, -, -⟩ := hv
    obtain ⟨a, ha⟩ : ∃ a, vs[j]? = some a := ⟨_, List.getElem?_eq_getElem (by omega)⟩
    obtain ⟨f0, f1, f2, f3, f4⟩ := Tm.flat_get ht ha
    refine ⟨⟨rfl, hg, a, sub j a t ha ht, ?_⟩, hk, hlv.1, by simp only; omega⟩
    intro i u hu
    have hii : o + 5 * (0 + j) + i = o + (j * 5 + i) := by omega
    simp only [hii]
    refine cells _ _ ?_
    match i, hu with
    | 0, hu => cases hu; exact f0
    | 1, hu => cases hu; exact f1
    | 2, hu => cases hu; exact f2
    | 3, hu => cases hu; exact f3
    | 4, hu => cases hu; exact f4
theorem pair_new (w : World) (p : Addr) (l : Int) : ∀ j u, [Value.pointer (some p), .int .i64 l][j]? = some u → (w.alloc (.cells #[.pointer (some p), .int .i64 l] 98)).cell? ((⟨w.heap.size, 0, none⟩ : Addr).add j) = some u := by
  intro j u hu
  have hb := Blk.new w 98 #[.pointer (some p), .int .i64 l]
  rw [show (⟨w.heap.size, 0, none⟩ : Addr).add j = ⟨w.heap.size, j, none⟩ from by unfold Addr.add; split <;> simp_all]
  match j, hu with
  | 0, hu => cases hu; exact hb.cell 0
  | 1, hu => cases hu; exact hb.cell 1
end Go.Proofs.YtaefonagbcnmdaaGreatDoor

namespace Go.Proofs.YtaefonagbcnmdaaGreatDoor
open Go.RowKit Go.Shelf
attribute [local go_sem] Oper.semAt_some

theorem addr_add0 (q j : Nat) : (⟨q, 0, none⟩ : Addr).add j = ⟨q, j, none⟩ := by unfold Addr.add; split <;> simp_all
theorem kid_pushed {N0 N n : Nat} {W3 wr w6 w7 : World} {sv v' : Value} {xs : List Value} {cs : Array Value} {tp te : TypeId} (hne : sv.ownBlock ≠ some N) (ho : wr.ownsRow N0 te 2 sv n xs) (hB : Below N0 W3 wr) (hZ : W3.heap.size ≤ wr.heap.size) (hb : Blk wr N tp cs) (hN0 : N0 ≤ W3.heap.size)
    (h6 : Below wr.heap.size wr w6) (hgr : w6.grownBy w7 sv.ownBlock) (hat : v'.ownBlock = sv.ownBlock ∨ v'.ownBlock = some w6.heap.size) : v'.ownBlock ≠ some N ∧ Below N0 W3 w7 ∧ W3.heap.size ≤ w7.heap.size ∧ Blk w7 N tp cs := by
  have hl := hb.lt
  have hs := h6.size
  have hs7 := hgr.size
  have hb6 := hb.below h6 hl
  refine ⟨?_, ?_, by omega, hb6.grown hgr (fun e => hne e.symm)⟩
  · rcases hat with h | h
    · rw [h]; exact hne
    · rw [h]; intro e; cases e; omega
  · exact (hB.trans (h6.mono (by omega))).grown hgr (by omega) (fun k e => (ho.lt k e).1)
theorem kid_row {W : World} {N0 k : Nat} {te : TypeId} {v : Value} {kids rest : List Tm.P} {e : Tm.P} (hk : kids[k]? = some e)
    (h : W.ownsRow N0 te 2 v ((kids.drop (k + 1) ++ rest).length + 1) (Tm.pcells (kids.drop (k + 1) ++ rest) ++ [.pointer (some e.a), .int .i64 e.l])) :
    W.ownsRow N0 te 2 v (kids.drop k ++ rest).length (Tm.pcells (kids.drop k ++ rest)) := by
  obtain ⟨hlt, rfl⟩ := List.getElem?_eq_some_iff.1 hk
  rw [List.drop_eq_getElem_cons hlt, List.cons_append, Tm.pcells, List.length_cons]
  exact h
set_option maxRecDepth 100000 in
set_option maxHeartbeats 4000000 in
theorem all_in (n l N0 M : Nat) (hn : 1 ≤ n) (hM : M ≤ 1099511627776) (X : Nat → Prop) (κ : Nat → Nat) (hκ : ∀ b, κ b = 0 → b < N0 ∧ ¬ X b) (hX : ∀ b, X b → b < N0)
    (K : List (Int × Tm) → World → Prop) (Kx : World → Prop)
    (hlow : ∀ r W W', K r W → Below N0 W W' → K r W')
    (hy : ∀ lv x r W v, K ((lv, x) :: r) W → N0 ≤ W.heap.size → Targs W κ v x.args → YieldAt Fence.wide (n - 1) Tryz.prog l #[.int .i64 lv, .agg #[.int .i64 x.kind, .string ⟨x.name.toArray⟩, .int .i64 x.num, v, .int .i64 x.at_]] W fun e W' =>
      ∃ b, e = .returned (.bool b) ∧ Spares X W W' ∧ (b = true → K r W') ∧ (b = false → Kx W'))
    (t : Tm) (rb : Nat) (W : World) (hN : N0 ≤ W.heap.size) (ht : TmAt W κ ⟨rb, 0, none⟩ t) (hrb : κ rb = 0) (hsz : Tm.siz t ≤ M) (h0 : K (Tm.walk t 1) W) :
    CallsIn Fence.wide n Tryz.prog 63 #[.func (.yield l) #[] #[], .pointer (some ⟨rb, 0, none⟩)] W fun e W' => (∃ v, e = .returned v) ∧ (Kx W' ∨ K [] W') := by
  have hstart : WalkI K κ N0 M (Tm.siz t) (.slice (some ⟨W.heap.size, 0, none⟩) 1 1) (W.alloc (.cells #[.pointer (some ⟨rb, 0, none⟩), .int .i64 1] 98)) := by
    have hB : Below N0 W (W.alloc (.cells #[.pointer (some ⟨rb, 0, none⟩), .int .i64 1] 98)) := (Below.refl N0 W).alloc hN _
    refine ⟨[⟨t, 1, ⟨rb, 0, none⟩⟩], ⟨rfl, .inr ⟨W.heap.size, 1, _, rfl, hN, World.alloc_heap_new _ _, Nat.le_refl _, by unfold maxLen; omega, rfl, rfl⟩⟩, ?_, by simp [Tm.psize], hsz, by simp; omega, ?_⟩
    · have : Tm.pwalk [⟨t, 1, ⟨rb, 0, none⟩⟩] = Tm.walk t 1 := by simp [Tm.pwalk]
      rw [this]
      exact hlow _ _ _ h0 hB
    · intro e he
      rw [List.mem_singleton] at he
      subst he
      exact ⟨ht.firm (below_firm hB (by simp) (fun b hb => (hκ b hb).1)) hrb, hrb, by simp, by show (1 : Int) + Tm.siz t ≤ M + 1; omega⟩
  have HS := Lib.hid hstart
  clear hstart ht h0 hsz hrb
  refine callsIn_of_wp Tryz.func63 rfl trivial ?_ rfl
  simp only [Tryz.ntmps63, List.size_toArray, List.length_cons, List.length_nil, Nat.reduceAdd, Nat.reduceSub, Array.replicate_succ, Array.replicate_zero, List.push_toArray, List.append_toArray, List.nil_append, List.cons_append]
  gi_wp2
  gi_loopw [3] (fun c wr => ∃ m, WalkI K κ N0 M m c wr) (fun c wr => least (fun m => WalkI K κ N0 M m c wr))
  case atStart => exact ⟨_, HS.out⟩
  case round =>
    clear HS
    have hleast := least_spec hrel
    generalize hμ : least _ = μ at hleast
    have HMU := Lib.hid hμ
    clear hμ hrel
    obtain ⟨st, ho, hK, hm, hmM, hNr, hst⟩ := hleast
    obtain ⟨Aq, cap, hsv⟩ := own_slice ho
    subst hsv
    cases st with
    | nil =>
      have HK := Lib.hid (show K [] wr from hK)
      clear hK ho hst hm
      gi_wp2
      go_end0
      exact ⟨⟨_, rfl⟩, .inr HK.out⟩
    | cons e rest =>
      obtain ⟨et, el, eb, eo, es⟩ := e
      obtain ⟨hat, hkb, hl1, hl2⟩ := hst ⟨et, el, ⟨eb, eo, es⟩⟩ (by simp)
      obtain ⟨hsp, hbl, v, hv, hcl⟩ := hat
      simp only at hsp hbl hkb hl1 hl2 hv hcl
      subst hsp
      obtain ⟨q, cap', hq⟩ := own_form2 ho
      simp only [List.length_cons] at hq
      rw [Value.slice.injEq] at hq
      obtain ⟨rfl, -, rfl⟩ := hq
      obtain ⟨A, ca, rfl⟩ := hv.form
      have hcs := fun j u hu => ho.cells (g := q) rfl j u hu
      obtain ⟨c0, c1⟩ : wr.cell? ⟨q, rest.length * 2, none⟩ = some (.pointer (some ⟨eb, eo, none⟩)) ∧ wr.cell? ⟨q, rest.length * 2 + 1, none⟩ = some (.int .i64 el) := by
        refine ⟨?_, ?_⟩
        · have := hcs (rest.length * 2) (.pointer (some ⟨eb, eo, none⟩)) (by rw [Tm.pcells, List.getElem?_append_right (by rw [Tm.pcells_len]; omega), Tm.pcells_len, Nat.sub_self]; rfl)
          rwa [addr_add0] at this
        · have := hcs (rest.length * 2 + 1) (.int .i64 el) (by rw [Tm.pcells, List.getElem?_append_right (by rw [Tm.pcells_len]; omega), Tm.pcells_len, Nat.add_sub_cancel_left]; rfl)
          rwa [addr_add0] at this
      have hcap : rest.length + 1 ≤ cap := by
        rcases ho.2 with ⟨h, _⟩ | ⟨_, _, _, h, _, _, hn, _⟩
        · cases h
        · rw [Value.slice.injEq] at h
          obtain ⟨_, _, rfl⟩ := h
          exact hn
      clear hcs
      have hql := World.block_lt_of_cell? wr _ c0
      have hB1 : Below N0 wr (wr.alloc (.cells #[.pointer (some ⟨eb, eo, none⟩), .int .i64 el] 98)) := (Below.refl N0 wr).alloc hNr _
      have hB1' : Below wr.heap.size wr (wr.alloc (.cells #[.pointer (some ⟨eb, eo, none⟩), .int .i64 el] 98)) := (Below.refl _ wr).alloc (Nat.le_refl _) _
      have hF1 := below_firm hB1.drew (by simp) (fun b hb => (hκ b hb).1)
      have hrl : rest.length ≤ M := by
        have := Tm.psize_len rest
        rw [Tm.psize] at hm
        simp only at hm
        omega
      rw [Tm.pwalk, Tm.walk_eq, List.cons_append] at hK
      simp only at hK
      obtain ⟨e0, e1, e2, e3, e4⟩ : wr.cell? ⟨eb, eo, none⟩ = some (.int .i64 et.kind) ∧ wr.cell? ⟨eb, eo + 1, none⟩ = some (.string ⟨et.name.toArray⟩) ∧ wr.cell? ⟨eb, eo + 2, none⟩ = some (.int .i64 et.num) ∧ wr.cell? ⟨eb, eo + 3, none⟩ = some (.slice A et.args.length ca) ∧ wr.cell? ⟨eb, eo + 4, none⟩ = some (.int .i64 et.at_) :=
        ⟨hcl 0 _ rfl, hcl 1 _ rfl, hcl 2 _ rfl, hcl 3 _ rfl, hcl 4 _ rfl⟩
      obtain ⟨fn, tmps, assign, body, hye, hR⟩ := hy el et _ (wr.alloc (.cells #[.pointer (some ⟨eb, eo, none⟩), .int .i64 el] 98)).drew _ (hlow _ _ _ hK hB1.drew) (by simp; omega) (hv.firm hF1)
      have HHO := Lib.hid ho
      have HHV := Lib.hid hv
      have HST := Lib.hid hst
      have HF1 := Lib.hid hF1
      have HKK := Lib.hid hκ
      clear ho hv hst hcl hF1 hK hy hκ
      gi_wp2_with fail
      refine wpIn_mono (Q := fun ex a' W3 => match ex with | .normal => ∃ b, a' = { tmps := List.toArray ((Value.func (.yield l) #[] #[]) :: (Value.pointer (some ⟨rb, 0, none⟩)) :: undef :: (Value.slice (some ⟨q, 0, none⟩) rest.length cap) :: (Value.int .i64 rest.length) :: (Value.pointer (some ⟨wr.heap.size, 0, none⟩)) :: u6 :: u7 :: (Value.agg #[.pointer (some ⟨rb, 0, none⟩), .int .i64 1]) :: (Value.slice (some ⟨W.heap.size, 0, none⟩) 1 1) :: (Value.slice (some ⟨q, 0, none⟩) (rest.length + 1) cap) :: (Value.int .i64 (rest.length + 1)) :: (Value.bool true) :: (Value.slice (some ⟨q, 0, none⟩) (rest.length + 1) cap) :: (Value.int .i64 (rest.length + 1)) :: (Value.int .i64 rest.length) :: (Value.slice (some ⟨q, 0, none⟩) (rest.length + 1) cap) :: (Value.int .i64 rest.length) :: (Value.pointer (some ⟨q, rest.length * 2, none⟩)) :: (Value.agg #[.pointer (some ⟨eb, eo, none⟩), .int .i64 el]) :: (Value.slice (some ⟨q, 0, none⟩) (rest.length + 1) cap) :: (Value.int .i64 rest.length) :: (Value.slice (some ⟨q, 0, none⟩) rest.length cap) :: (Value.func (.yield l) #[] #[]) :: (Value.pointer (some ⟨wr.heap.size, 1, none⟩)) :: (Value.int .i64 el) :: (Value.pointer (some ⟨wr.heap.size, 0, none⟩)) :: (Value.pointer (some ⟨eb, eo, none⟩)) :: (Value.pointer (some ⟨eb, eo, none⟩)) :: (Value.agg #[.int .i64 et.kind, .string ⟨et.name.toArray⟩, .int .i64 et.num, .slice A et.args.length ca, .int .i64 et.at_]) :: (Value.bool b) :: (Value.bool (!b)) :: u32 :: u33 :: u34 :: u35 :: u36 :: u37 :: u38 :: u39 :: u40 :: u41 :: u42 :: u43 :: u44 :: u45 :: u46 :: u47 :: u48 :: u49 :: u50 :: u51 :: u52 :: u53 :: u54 :: u55 :: u56 :: u57 :: u58 :: u59 :: u60 :: u61 :: u62 :: u63 :: u64 :: u65 :: u66 :: u67 :: u68 :: []), defers := [] } ∧ Spares X (wr.alloc (.cells #[.pointer (some ⟨eb, eo, none⟩), .int .i64 el] 98)).drew W3 ∧ (b = true → K (Tm.walks et.isChain el 0 et.args ++ Tm.pwalk rest) W3) ∧ (b = false → Kx W3) | _ => False) ?region ?behind
      case region =>
        gi_region_with (refine hR.mono ?_; rintro e W3 ⟨b, rfl, hsp3, hb1, hb0⟩)
        all_goals exact ⟨b, rfl, hsp3, hb1, hb0⟩
      case behind =>
        clear hR hye
        intro ex a' W3 hq
        cases ex
        all_goals first | exact hq.elim | skip
        obtain ⟨b, rfl, hsp3, hb1, hb0⟩ := hq
        cases b with
        | false =>
          have hx := hb0 rfl
          gi_wp2
          refine bodyPost_ret (results_none rfl _ _ _) rfl ?_
          exact ⟨⟨_, rfl⟩, .inl hx⟩
        | true =>
          have hk3 := hb1 rfl
          clear hb0 hb1
          have hF3 : Firm κ wr W3 := by
            have h2 := hsp3.firm (κ := κ) (fun b hb => (HKK.out b hb).2)
            exact ⟨Nat.le_trans HF1.out.1 h2.1, fun b hb hk => (h2.2 b (Nat.lt_of_lt_of_le hb HF1.out.1) hk).trans (HF1.out.2 b hb hk)⟩
          have hv3 := HHV.out.firm hF3
          have cc : ∀ j, W3.cell? ⟨eb, j, none⟩ = wr.cell? ⟨eb, j, none⟩ := fun j => World.cell?_of_block (a := ⟨eb, j, none⟩) (hF3.2 eb hbl hkb)
          rw [← cc] at e0 e1 e2 e3 e4
          have hNX : ¬ X wr.heap.size := fun hx => by have := hX _ hx; omega
          have hBN : Blk W3 wr.heap.size 98 #[.pointer (some ⟨eb, eo, none⟩), .int .i64 el] := (hsp3.2 wr.heap.size (by simp) hNX).trans (Blk.new wr 98 _)
          have hpop : wr.ownsRow N0 98 2 (.slice (some ⟨q, 0, none⟩) rest.length cap) rest.length (Tm.pcells rest) := ownsRow_pop (Tm.pcells_len rest) HHO.out
          have hown3 := hsp3.own hX (own_low hpop hB1'.drew)
          have hst3 : ∀ e ∈ rest, TmAt W3 κ e.a e.t ∧ κ e.a.block = 0 ∧ 1 ≤ e.l ∧ e.l + Tm.siz e.t ≤ M + 1 := fun e he => by
            obtain ⟨x1, x2, x3⟩ := HST.out e (List.mem_cons_of_mem _ he)
            exact ⟨x1.firm hF3 x2, x2, x3⟩
          have b0 : W3.cell? ⟨wr.heap.size, 0, none⟩ = some (.pointer (some ⟨eb, eo, none⟩)) := by simpa using hBN.cell 0
          have hal : et.args.length ≤ M := by
            have := Tm.sizs_len et.args
            have h2 := Tm.siz_eq et
            omega
          have hnN : N0 ≤ W3.heap.size := by have := hF3.1; omega
          have HB3 := Lib.hid hBN
          have HO3 := Lib.hid hown3
          have HS3 := Lib.hid hst3
          have HV3 := Lib.hid hv3
          have HK3 := Lib.hid hk3
          clear hF3 cc hBN hpop hown3 hst3 hv3 hk3 hsp3 HHO HHV HST HF1 c0 c1
          obtain ⟨g, o, hA⟩ : ∃ g o, et.args = [] ∨ A = some ⟨g, o, none⟩ := by
            have h1 : ∀ v ts, Targs W3 κ v ts → ts = [] ∨ ∃ g o m c, v = .slice (some ⟨g, o, none⟩) m c := by
              intro v ts h
              cases h with
              | nil => exact .inl rfl
              | mk g o => exact .inr ⟨g, o, _, _, rfl⟩
            rcases h1 _ _ HV3.out with h | ⟨g, o, m, c, h⟩
            · exact ⟨0, 0, .inl h⟩
            · rw [Value.slice.injEq] at h
              exact ⟨g, o, .inr h.1⟩
          obtain ⟨kids, hkids⟩ : ∃ ks, Tm.kids et.isChain el g o 0 et.args = ks := ⟨_, rfl⟩
          have HKI := Lib.hid hkids
          have HKA := Lib.hid (show ∀ e ∈ kids, TmAt W3 κ e.a e.t ∧ κ e.a.block = 0 ∧ 1 ≤ e.l ∧ e.l + Tm.siz e.t ≤ M + 1 from by
            intro e he
            rw [← hkids] at he
            rcases hA with h | rfl
            · rw [h] at he; cases he
            · obtain ⟨x1, x2, x3, x4⟩ := kids_at HV3.out et.isChain el e he
              have := Tm.siz_eq et
              exact ⟨x1, x2, by omega, by omega⟩)
          have hklen : kids.length = et.args.length := by rw [← hkids, Tm.kids_len]
          clear hkids
          have hNlt : wr.heap.size < W3.heap.size := HB3.out.lt
          have hNN : N0 ≤ wr.heap.size := hNr
          have heb : eb < N0 := (HKK.out eb hkb).1
          clear hB1 hB1' hNX
          gi_wp2_with fail
          obtain ⟨N, hNeq⟩ : ∃ N, wr.heap.size = N := ⟨_, rfl⟩
          simp only [hNeq] at *
          clear hNeq
          gi_loopw [3, 6] (fun sv i w4 => ∃ k : Nat, i = .int .i64 ((k : Int) - 1) ∧ k ≤ et.args.length ∧ Hid (w4.ownsRow N0 98 2 sv (kids.drop k ++ rest).length (Tm.pcells (kids.drop k ++ rest))) ∧ Hid (sv.ownBlock ≠ some N) ∧ Hid (Below N0 W3 w4) ∧ Hid (W3.heap.size ≤ w4.heap.size) ∧ Hid (Blk w4 N 98 #[.pointer (some ⟨eb, eo, none⟩), .int .i64 el]))
            (fun _ i _ => (intOf i + 1).toNat)
          case atStart =>
            have hd : kids.drop et.args.length ++ rest = rest := by rw [List.drop_eq_nil_of_le (by omega), List.nil_append]
            refine ⟨et.args.length, rfl, Nat.le_refl _, Lib.hid (by rw [hd]; exact HO3.out), Lib.hid ?_, Lib.hid (Below.refl _ _), Lib.hid (Nat.le_refl _), HB3⟩
            intro h
            simp only [Value.ownBlock, Option.some.injEq] at h
            omega
          case round =>
            obtain ⟨k, rfl, hkl, HO4, HNE, HB4, HZ4, HB5⟩ := hrel
            cases k with
            | zero =>
              have hW : WalkI K κ N0 M (Tm.sizs et.args + Tm.psize rest) u3 wr := by
                have hF4 := below_firm (κ := κ) HB4.out HZ4.out (fun b hb => (HKK.out b hb).1)
                rw [Tm.psize] at hm
                simp only at hm
                have hse := Tm.siz_eq et
                refine ⟨kids.drop 0 ++ rest, HO4.out, ?_, ?_, by omega, by have := HZ4.out; omega, ?_⟩
                · rw [List.drop_zero, Tm.pwalk_append, ← HKI.out, Tm.kids_walk]
                  exact hlow _ _ _ HK3.out HB4.out
                · rw [List.drop_zero, Tm.psize_append, ← HKI.out, Tm.kids_size]
                · intro e he
                  rw [List.drop_zero] at he
                  rcases List.mem_append.1 he with he | he
                  · obtain ⟨x1, x2, x3⟩ := HKA.out e he
                    exact ⟨x1.firm hF4 x2, x2, x3⟩
                  · obtain ⟨x1, x2, x3⟩ := HS3.out e he
                    exact ⟨x1.firm hF4 x2, x2, x3⟩
              have hlt : Tm.sizs et.args + Tm.psize rest < μ := by
                rw [Tm.psize] at hm
                simp only at hm
                have hse := Tm.siz_eq et
                omega
              have HW := Lib.hid hW
              have HLT := Lib.hid hlt
              clear hW hlt
              gi_wp2_with fail
              refine ⟨⟨_, HW.out⟩, ?_⟩
              have h1 := HMU.out
              exact Nat.lt_of_le_of_lt (least_le HW.out) (Nat.lt_of_lt_of_eq HLT.out h1.symm)
            | succ k =>
              have hlt : k < et.args.length := by omega
              obtain ⟨kt, hkt⟩ : ∃ kt, et.args[k]? = some kt := ⟨_, List.getElem?_eq_getElem hlt⟩
              obtain rfl : A = some ⟨g, o, none⟩ := by
                rcases hA with h | h
                · rw [h] at hlt; simp at hlt
                · exact h
              have hkk := Tm.kids_get et.isChain el g o 0 k et.args kt hkt
              rw [HKI.out, Nat.zero_add] at hkk
              have cc : ∀ j, wr.cell? ⟨eb, j, none⟩ = W3.cell? ⟨eb, j, none⟩ := fun j => World.cell?_of_block (a := ⟨eb, j, none⟩) (HB4.out.block eb heb)
              rw [← cc] at e0 e1 e2 e3 e4
              obtain ⟨b0', b1'⟩ : wr.cell? ⟨N, 0, none⟩ = some (.pointer (some ⟨eb, eo, none⟩)) ∧ wr.cell? ⟨N, 1, none⟩ = some (.int .i64 el) := ⟨by simpa using HB5.out.cell 0, by simpa using HB5.out.cell 1⟩
              clear b0 cc
              have hNl : N < wr.heap.size := World.block_lt_of_cell? wr _ b0'
              have hebl : eb < wr.heap.size := World.block_lt_of_cell? wr _ e3
              have HCH := Lib.hid (isChain_any et (some ⟨g, o, none⟩) ca)
              obtain ⟨ch, hch⟩ : ∃ ch, et.isChain = ch := ⟨_, rfl⟩
              rw [hch] at HCH hkk
              obtain ⟨i0, hi0, hz0, hz1, hz2⟩ := info_parts info_part
              have hN3 : N0 ≤ W3.heap.size := hnN
              have hmx : ∀ j, (kids.drop j ++ rest).length + 1 ≤ 4398046511104 := by intro j; simp only [List.length_append, List.length_drop]; omega
              by_cases hk1 : k = 1
              · subst hk1
                cases ch with
                | true =>
                  gi_wp2_with (first | (refine ⟨trivial, ?_⟩; gi_at_call 64; refine (callsIn_wide.2 (HCH.out _)).mono ?_; rintro e w5 ⟨rfl, hB5⟩; (obtain ⟨y0, y1, y3⟩ : w5.cell? ⟨N, 0, none⟩ = some (.pointer (some ⟨eb, eo, none⟩)) ∧ w5.cell? ⟨N, 1, none⟩ = some (.int .i64 el) ∧ w5.cell? ⟨eb, eo + 3, none⟩ = some (.slice (some ⟨g, o, none⟩) et.args.length ca) := ⟨(hB5.cell (p := ⟨N, 0, none⟩) hNl).trans b0', (hB5.cell (p := ⟨N, 1, none⟩) hNl).trans b1', (hB5.cell (p := ⟨eb, eo + 3, none⟩) hebl).trans e3⟩); have HB6 := Lib.hid (show Below wr.heap.size wr (w5.alloc (.cells #[.pointer (some ⟨g, o + 5, none⟩), .int .i64 (el)] 98)) from hB5.alloc hB5.size _); have HO6 := Lib.hid (own_low HO4.out HB6.out); have HZ6 := Lib.hid (show N0 ≤ w5.heap.size by have h1 := hB5.size; have h2 := HZ4.out; omega); have HN6 := Lib.hid (pair_new w5 ⟨g, o + 5, none⟩ (el))) | (gi_at_builtin; refine wpListIn_append_own_at _ rfl (.tmp 57) (.tmp 67) 99 rfl N0 98 i0 (.agg #[.pointer none, .int .i64 0]) 2 16 Tryz.underlying99 hi0 hz0 hz1 hz2 rfl (by decide) u3 (kids.drop 2 ++ rest).length (Tm.pcells (kids.drop 2 ++ rest)) (by simp [Act.eval, Act.put]) HO6.out ⟨w5.heap.size, 0, none⟩ 1 1 [.pointer (some ⟨g, o + 5, none⟩), .int .i64 (el)] (by simp [Act.eval, Act.put]) rfl (by simpa using HN6.out) (by simp [Value.oneCell']) (by have := hmx 2; unfold maxLen; omega) (by have := hmx 2; omega) (by have := HZ6.out; simp; omega) ?_; intro v' w7 hown7 hgr7 hnil7 hat7; have HO7 := Lib.hid hown7; have HG7 := Lib.hid hgr7; have HAT7 := Lib.hid hat7; clear hown7 hgr7 hnil7 hat7))
                  refine ⟨?_, ?_⟩
                  · repeat apply Exists.intro
                    refine ⟨?_, rfl⟩
                    obtain ⟨z1, z2, z3, z4⟩ := kid_pushed HNE.out HO4.out HB4.out HZ4.out HB5.out hN3 HB6.out HG7.out HAT7.out
                    exact ⟨1, by go_num, by omega, Lib.hid (kid_row hkk HO7.out), Lib.hid z1, Lib.hid z2, Lib.hid z3, Lib.hid z4⟩
                  · simp [intOf]
                | false =>
                  gi_wp2_with (first | (refine ⟨trivial, ?_⟩; gi_at_call 64; refine (callsIn_wide.2 (HCH.out _)).mono ?_; rintro e w5 ⟨rfl, hB5⟩; (obtain ⟨y0, y1, y3⟩ : w5.cell? ⟨N, 0, none⟩ = some (.pointer (some ⟨eb, eo, none⟩)) ∧ w5.cell? ⟨N, 1, none⟩ = some (.int .i64 el) ∧ w5.cell? ⟨eb, eo + 3, none⟩ = some (.slice (some ⟨g, o, none⟩) et.args.length ca) := ⟨(hB5.cell (p := ⟨N, 0, none⟩) hNl).trans b0', (hB5.cell (p := ⟨N, 1, none⟩) hNl).trans b1', (hB5.cell (p := ⟨eb, eo + 3, none⟩) hebl).trans e3⟩); have HB6 := Lib.hid (show Below wr.heap.size wr (w5.alloc (.cells #[.pointer (some ⟨g, o + 5, none⟩), .int .i64 (el + 1)] 98)) from hB5.alloc hB5.size _); have HO6 := Lib.hid (own_low HO4.out HB6.out); have HZ6 := Lib.hid (show N0 ≤ w5.heap.size by have h1 := hB5.size; have h2 := HZ4.out; omega); have HN6 := Lib.hid (pair_new w5 ⟨g, o + 5, none⟩ (el + 1))) | (gi_at_builtin; refine wpListIn_append_own_at _ rfl (.tmp 57) (.tmp 67) 99 rfl N0 98 i0 (.agg #[.pointer none, .int .i64 0]) 2 16 Tryz.underlying99 hi0 hz0 hz1 hz2 rfl (by decide) u3 (kids.drop 2 ++ rest).length (Tm.pcells (kids.drop 2 ++ rest)) (by simp [Act.eval, Act.put]) HO6.out ⟨w5.heap.size, 0, none⟩ 1 1 [.pointer (some ⟨g, o + 5, none⟩), .int .i64 (el + 1)] (by simp [Act.eval, Act.put]) rfl (by simpa using HN6.out) (by simp [Value.oneCell']) (by have := hmx 2; unfold maxLen; omega) (by have := hmx 2; omega) (by have := HZ6.out; simp; omega) ?_; intro v' w7 hown7 hgr7 hnil7 hat7; have HO7 := Lib.hid hown7; have HG7 := Lib.hid hgr7; have HAT7 := Lib.hid hat7; clear hown7 hgr7 hnil7 hat7))
                  refine ⟨?_, ?_⟩
                  · repeat apply Exists.intro
                    refine ⟨?_, rfl⟩
                    obtain ⟨z1, z2, z3, z4⟩ := kid_pushed HNE.out HO4.out HB4.out HZ4.out HB5.out hN3 HB6.out HG7.out HAT7.out
                    exact ⟨1, by go_num, by omega, Lib.hid (kid_row hkk HO7.out), Lib.hid z1, Lib.hid z2, Lib.hid z3, Lib.hid z4⟩
                  · simp [intOf]
              · have hkz : ((k : Int) == 1) = false := by rw [beq_eq_false_iff_ne]; omega
                have HB6 := Lib.hid (show Below wr.heap.size wr (wr.alloc (.cells #[.pointer (some ⟨g, o + k * 5, none⟩), .int .i64 (el + 1)] 98)) from (Below.refl _ wr).alloc (Nat.le_refl _) _); have HO6 := Lib.hid (own_low HO4.out HB6.out); have HZ6 := Lib.hid (show N0 ≤ wr.heap.size by have h2 := HZ4.out; omega); have HN6 := Lib.hid (pair_new wr ⟨g, o + k * 5, none⟩ (el + 1))
                have hlv : Tm.lvl ch el k = el + 1 := by
                  unfold Tm.lvl
                  rw [if_neg]
                  simp only [Bool.and_eq_true, beq_iff_eq]
                  exact fun h => hk1 h.1
                rw [hlv, Nat.mul_comm 5 k] at hkk
                have HKK2 := Lib.hid hkk
                clear hkk hlv
                gi_wp2_with fail
                refine ⟨trivial, ?_⟩
                gi_wp2_with (gi_at_builtin; refine wpListIn_append_own_at _ rfl (.tmp 57) (.tmp 67) 99 rfl N0 98 i0 (.agg #[.pointer none, .int .i64 0]) 2 16 Tryz.underlying99 hi0 hz0 hz1 hz2 rfl (by decide) u3 (kids.drop (k + 1) ++ rest).length (Tm.pcells (kids.drop (k + 1) ++ rest)) (by simp [Act.eval, Act.put]) HO6.out ⟨wr.heap.size, 0, none⟩ 1 1 [.pointer (some ⟨g, o + k * 5, none⟩), .int .i64 (el + 1)] (by simp [Act.eval, Act.put]) rfl (by simpa using HN6.out) (by simp [Value.oneCell']) (by have := hmx (k + 1); unfold maxLen; omega) (by have := hmx (k + 1); omega) (by have := HZ6.out; simp; omega) ?_; intro v' w7 hown7 hgr7 hnil7 hat7; have HO7 := Lib.hid hown7; have HG7 := Lib.hid hgr7; have HAT7 := Lib.hid hat7; clear hown7 hgr7 hnil7 hat7)
                refine ⟨?_, ?_⟩
                · repeat apply Exists.intro
                  refine ⟨?_, rfl⟩
                  obtain ⟨z1, z2, z3, z4⟩ := kid_pushed HNE.out HO4.out HB4.out HZ4.out HB5.out hN3 HB6.out HG7.out HAT7.out
                  exact ⟨k, by go_num, by omega, Lib.hid (kid_row HKK2.out HO7.out), Lib.hid z1, Lib.hid z2, Lib.hid z3, Lib.hid z4⟩
                · simp [intOf]

end Go.Proofs.YtaefonagbcnmdaaGreatDoor

namespace Go.Proofs.YtaefonagbcnmdaaGreatDoor
open Go.RowKit Go.Shelf
attribute [local go_sem] Oper.semAt_some

theorem all_any (k : Int) (nm : Value) (m : Int) (v : Value) (p : Int) (w : World) :
    Calls Tryz.prog 36 #[.agg #[.int .i64 k, nm, .int .i64 m, v, .int .i64 p]] w fun e w' => e = .returned (.func (.func 63) #[] #[.pointer (some ⟨w.heap.size, 0, none⟩)]) ∧
      w' = w.alloc (.cells #[.int .i64 k, nm, .int .i64 m, v, .int .i64 p] 32) := by
  go_enter Tryz.func36, Tryz.ntmps36
  go_wp2
  go_ret
  exact ⟨rfl, rfl⟩
/-- A term as it is handed to a function. -/
def Tm.agg (t : Tm) (v : Value) : Value := .agg #[.int .i64 t.kind, .string ⟨t.name.toArray⟩, .int .i64 t.num, v, .int .i64 t.at_]
/-- Between two rounds of a range over the terms in a term: the loop's own cell (block cB), its record (D + 1), its deferred calls (D). -/
def AIn (w : World) (J : List (Int × Tm) → Value → Prop) (cB D : Nat) (tid : TypeId) (o : Obj) (r : List (Int × Tm)) (W : World) : Prop :=
  ∃ c, Blk W cB tid #[c] ∧ J r c ∧ W.heap[D + 1]? = some o ∧ W.heap[D]? = some (.deferred (some [])) ∧ Below w.heap.size w W ∧ D + 2 ≤ W.heap.size
theorem Spares.trans {X : Nat → Prop} {a b c : World} (h : Spares X a b) (k : Spares X b c) : Spares X a c :=
  ⟨Nat.le_trans h.1 k.1, fun i hi hx => (k.2 i (Nat.lt_of_lt_of_le hi h.1) hx).trans (h.2 i hi hx)⟩
theorem Spares.putObj (X : Nat → Prop) (w : World) (l : Nat) (o : Obj) (h : X l) : Spares X w (w.putObj l o) :=
  ⟨by simp, fun i hi hx => World.putObj_heap_other (fun e => hx (e ▸ h))⟩
theorem Spares.mono {X Y : Nat → Prop} {a b : World} (h : Spares X a b) (hxy : ∀ i, X i → Y i) : Spares Y a b := ⟨h.1, fun i hi hy => h.2 i hi (fun hx => hy (hxy i hx))⟩
/-- The loop over the terms in a term, whatever code assigns them and stands in the body. -/
theorem range_all {g : Operand} {ps : Array Tmp} {assign body : Code} {Q : Exit → Act → World → Prop} {a : Act} (t : Tm) (rb cB : Nat) (tid : TypeId) (κ : Nat → Nat) (w w3 : World)
    (J : List (Int × Tm) → Value → Prop) (Jx : Value → Prop) (c0 : Value)
    (hg : a.eval g = .func (.func 63) #[] #[.pointer (some ⟨rb, 0, none⟩)])
    (hκ : ∀ b, κ b = 0 → b < w3.heap.size ∧ b ≠ cB) (ht : TmAt w3 κ ⟨rb, 0, none⟩ t) (hrb : κ rb = 0) (hsz : Tm.siz t ≤ 1099511627776)
    (k0 : Blk w3 cB tid #[c0]) (hcB : w.heap.size ≤ cB) (hJ : J (Tm.walk t 1) c0) (kB : Below w.heap.size w w3) (hps : ps.size = 2) (a₁ : Int → Tm → Value → Act)
    (hassign : ∀ (l : Nat) (lv : Int) (x : Tm) (v : Value) (W : World) (Kc : Act → World → Prop), Kc (a₁ lv x v) W →
      assign.wpIn (Fence.wide.inRound l) 1 Tryz.prog (Exit.then Kc (fun _ _ _ => False)) { tmps := (ps.zip #[.int .i64 lv, .agg #[.int .i64 x.kind, .string ⟨x.name.toArray⟩, .int .i64 x.num, v, .int .i64 x.at_]]).foldl (fun t (p, v) => t.setIfInBounds p v) a.tmps, defers := [] } W)
    (hbody : ∀ (l : Nat) (lv : Int) (x : Tm) (v c : Value) (r : List (Int × Tm)) (W : World), J ((lv, x) :: r) c → Blk W cB tid #[c] → Targs W κ v x.args → w3.heap.size ≤ W.heap.size → Below w.heap.size w W →
      body.wpIn (Fence.wide.inRound l) 1 Tryz.prog (fun e _ W' => ∃ c', Blk W' cB tid #[c'] ∧ Spares (fun b => b = cB) W W' ∧ Below w.heap.size W W' ∧ ((e = .normal ∧ J r c') ∨ (e = .ret ∧ Jx c'))) (a₁ lv x v) W)
    (hdone : ∀ (c : Value) (W : World), J [] c → Blk W cB tid #[c] → Below w.heap.size w W → W.heap[w3.heap.size]? = some (.deferred (some [])) →
      Q .normal { a with defers := { target := .collected w3.heap.size, args := #[] } :: a.defers } W)
    (hstop : ∀ (c : Value) (W : World), Jx c → Blk W cB tid #[c] → Below w.heap.size w W → W.heap[w3.heap.size]? = some (.deferred (some [])) →
      Code.ret.wpIn Fence.wide 3 Tryz.prog Q { a with defers := { target := .collected w3.heap.size, args := #[] } :: a.defers } W) :
    (Code.rangeFunc g ps assign body).wpIn Fence.wide 3 Tryz.prog Q a w3 := by
  refine wpIn_rangeFunc ?_
  intro fn hfn
  obtain ⟨rec, hrec⟩ : ∃ rec : LoopState → Option Code → Loop, rec = fun st pe => { state := st, pending := pe, fn, tmps := a.tmps, params := ps, assign, body, defers := w3.heap.size } := ⟨_, rfl⟩
  obtain ⟨D, hD⟩ : ∃ D, w3.heap.size = D := ⟨_, rfl⟩
  have hcl : cB < D := by have := k0.lt; omega
  have hwD : w.heap.size ≤ D := by omega
  have hsw := World.alloc_heap_new (w3.alloc (.deferred (some []))) (.loop (rec .ready none))
  rw [World.size_alloc, hD] at hsw
  have hB0 : Below w.heap.size w ((w3.alloc (.deferred (some []))).alloc (.loop (rec .ready none))) := (kB.alloc (by omega) _).alloc (by simp; omega) _
  have h0 : AIn w J cB D tid (.loop (rec .ready none)) (Tm.walk t 1) ((w3.alloc (.deferred (some []))).alloc (.loop (rec .ready none))) :=
    ⟨c0, (k0.alloc _).alloc _, hJ, hsw, by rw [← hD]; exact (Below.heap_alloc _ _ _ (by simp)).trans (World.alloc_heap_new w3 _), hB0, by simp; omega⟩
  rw [hD] at hκ hdone hstop hbody
  refine ⟨w3.heap.size + 1, [{ target := .collected w3.heap.size, args := #[] }], (w3.alloc (.deferred (some []))).alloc (.loop (rec .ready none)), { target := .fn (.func 63) #[.pointer (some ⟨rb, 0, none⟩)], args := #[.func (.yield (w3.heap.size + 1)) #[] #[]] },
    (w3.alloc (.deferred (some []))).alloc (.loop (rec .ready none)), 63, #[.func (.yield (w3.heap.size + 1)) #[] #[], .pointer (some ⟨rb, 0, none⟩)], (w3.alloc (.deferred (some []))).alloc (.loop (rec .ready none)), ?_, ?_, ?_, ?_, fun _ => by omega, ?_⟩
  · rw [hrec]; exact run_enterLoop_outer _ _ _ _ _
  · simp only [resolve, hg]
    simp [go_sem]
  · intro f' _; trivial
  · simp [invoke, go_sem, enters_of Tryz.func63 (by kernel_rfl) rfl]
  · rw [hD]
    have hF : Firm κ w3 ((w3.alloc (.deferred (some []))).alloc (.loop (rec .ready none))) := ⟨by simp; omega, fun b hb hk => (Below.heap_alloc _ _ _ (by simp; omega)).trans (Below.heap_alloc _ _ _ hb)⟩
    refine (all_in 2 (D + 1) (D + 2) 1099511627776 (by omega) (by omega) (fun b => b = cB ∨ b = D + 1) κ (fun b hb => ⟨by have := (hκ b hb).1; omega, by have := hκ b hb; omega⟩) (fun b hb => by omega)
      (AIn w J cB D tid (.loop (rec .ready none))) (fun W => ∃ c, Blk W cB tid #[c] ∧ Jx c ∧ W.heap[D + 1]? = some (.loop (rec .done (some .ret))) ∧ W.heap[D]? = some (.deferred (some [])) ∧ Below w.heap.size w W) ?_ ?_
      t rb _ (by simp; omega) (ht.firm hF hrb) hrb hsz h0).mono ?_
    · rintro r W W' ⟨c, hb, hj, hl, hd, hB, hs⟩ hBB
      exact ⟨c, hb.below hBB (by omega), hj, (hBB.block _ (by omega)).trans hl, (hBB.block _ (by omega)).trans hd, hB.trans (hBB.mono (by omega)), by have := hBB.size; omega⟩
    · rintro lv x r W v ⟨c, hb, hj, hl, hd, hB, hs⟩ hN hv
      have hy := run_yield (P := Tryz.prog) (args := #[.int .i64 lv, .agg #[.int .i64 x.kind, .string ⟨x.name.toArray⟩, .int .i64 x.num, v, .int .i64 x.at_]]) hl (by rw [hrec]; simp [hps])
      rw [hrec] at hy
      refine ⟨fn, _, assign, body, hy, roundIn_of_wpIn hfn (hassign _ lv x v W _ ⟨_, run_beginRound hl (by rw [hrec]), ?_⟩)⟩
      obtain ⟨W2, hW2⟩ : ∃ W2, W.putObj (D + 1) (.loop { rec .ready none with state := .busy }) = W2 := ⟨_, rfl⟩
      rw [hW2]
      have hz2 : W2.heap.size = W.heap.size := by rw [← hW2]; simp
      have hl2 : W2.heap[D + 1]? = some (.loop { rec .ready none with state := .busy }) := by rw [← hW2]; exact World.putObj_heap_same (Array.getElem?_eq_some_iff.1 hl).1
      have ho2 : ∀ b, b ≠ D + 1 → W2.heap[b]? = W.heap[b]? := fun b hne => by rw [← hW2]; exact World.putObj_heap_other hne
      have hb2 : Blk W2 cB tid #[c] := (ho2 cB (by omega)).trans hb
      have hd2 : W2.heap[D]? = some (.deferred (some [])) := (ho2 D (by omega)).trans hd
      have hB2 : Below w.heap.size w W2 := by rw [← hW2]; exact below_putObj hB _ _ (by omega)
      have hs2 : Spares (fun b => b = cB ∨ b = D + 1) W W2 := by rw [← hW2]; exact Spares.putObj _ _ _ _ (.inr rfl)
      have hv2 : Targs W2 κ v x.args := hv.firm ⟨by omega, fun b _ hk => ho2 b (by have := (hκ b hk).1; omega)⟩
      refine wpIn_mono (hbody _ lv x v c r W2 hj hb2 hv2 (by omega) hB2) ?_
      rintro e a3 W3 ⟨c', hb3, hs3, hB3, hcase⟩
      have hl3 : W3.heap[D + 1]? = some (.loop { rec .ready none with state := .busy }) := (hs3.2 (D + 1) (by omega) (by omega)).trans hl2
      have hd3 : W3.heap[D]? = some (.deferred (some [])) := (hs3.2 D (by omega) (by omega)).trans hd2
      have hz3 := hs3.1
      rcases hcase with ⟨rfl, hj3⟩ | ⟨rfl, hj3⟩
      · have he := run_endRound (P := Tryz.prog) none hl3
        refine ⟨_, _, he, true, rfl, (hs2.trans (hs3.mono fun i hi => .inl hi)).trans (Spares.putObj _ _ _ _ (.inr rfl)), fun _ => ⟨c', hb3.putObj _ (by omega), hj3, ?_, (World.putObj_heap_other (by omega)).trans hd3, below_putObj (hB2.trans hB3) _ _ (by omega), by simp; omega⟩, fun h => (by cases h)⟩
        rw [World.putObj_heap_same (Array.getElem?_eq_some_iff.1 hl3).1, hrec]
        rfl
      · have he := run_endRound (P := Tryz.prog) (some .ret) hl3
        refine ⟨_, _, he, false, rfl, (hs2.trans (hs3.mono fun i hi => .inl hi)).trans (Spares.putObj _ _ _ _ (.inr rfl)), fun h => (by cases h), fun _ => ⟨c', hb3.putObj _ (by omega), hj3, ?_, (World.putObj_heap_other (by omega)).trans hd3, below_putObj (hB2.trans hB3) _ _ (by omega)⟩⟩
        rw [World.putObj_heap_same (Array.getElem?_eq_some_iff.1 hl3).1, hrec]
        rfl
    · rintro e W2 ⟨⟨v, rfl⟩, (⟨c, hb, hj, hl, hd, hB⟩ | ⟨c, hb, hj, hl, hd, hB, hs⟩)⟩
      · have hend := run_endLoop (P := Tryz.prog) hl (by rw [hrec]; simp)
        refine ⟨some .ret, _, by rw [hrec] at hend; exact hend, ?_⟩
        have := hstop c _ hj (hb.putObj (.loop { rec .done (some .ret) with state := .exhausted }) (show cB ≠ D + 1 by omega)) (below_putObj hB _ _ (by omega)) ((World.putObj_heap_other (by omega)).trans hd)
        rw [hrec] at this
        exact this
      · have hend := run_endLoop (P := Tryz.prog) hl (by rw [hrec]; simp)
        refine ⟨none, _, by rw [hrec] at hend; exact hend, ?_⟩
        have := hdone c _ hj (hb.putObj (.loop { rec .ready none with state := .exhausted }) (show cB ≠ D + 1 by omega)) (below_putObj hB _ _ (by omega)) ((World.putObj_heap_other (by omega)).trans hd)
        rw [hrec] at this
        exact this
end Go.Proofs.YtaefonagbcnmdaaGreatDoor

namespace Go.Proofs.YtaefonagbcnmdaaGreatDoor
open Go.RowKit Go.Shelf
attribute [local go_sem] Oper.semAt_some

theorem Targs.recolor_lt {w : World} {κ κ' : Nat → Nat} (h : ∀ b, b < w.heap.size → κ b = 0 → κ' b = 0) {v : Value} {ts : List Tm} (ht : Targs w κ v ts) : Targs w κ' v ts := by
  induction ht with
  | nil A cap => exact .nil A cap
  | mk g o cap ts vs hl hc hg hk cells sub ih => exact .mk g o cap ts vs hl hc hg (h g hg hk) cells ih
/-- The greatest level from d on. -/
def Tm.deepest : List (Int × Tm) → Int → Int
  | [], d => d
  | e :: r, d => Tm.deepest r (max d e.1)
def Tm.depth (t : Tm) : Int := Tm.deepest (Tm.walk t 1) 0
/-- What is there for good when a range begins whose term lies in block rb: the rest belongs to others. -/
def aged (w : World) (κ : Nat → Nat) (rb : Nat) : Nat → Nat := fun b => if b = rb ∨ (b < w.heap.size ∧ κ b = 0) then 0 else 1
theorem aged_zero {w : World} {κ : Nat → Nat} {rb b : Nat} (h : aged w κ rb b = 0) : b = rb ∨ (b < w.heap.size ∧ κ b = 0) := by
  unfold aged at h; split at h
  · assumption
  · cases h
theorem aged_term {w w' : World} {κ : Nat → Nat} {t : Tm} {v : Value} (hv : Targs w κ v t.args) (hB : Below w.heap.size w w') (hs : w.heap.size ≤ w'.heap.size) :
    TmAt (w'.alloc (.cells #[.int .i64 t.kind, .string ⟨t.name.toArray⟩, .int .i64 t.num, v, .int .i64 t.at_] 32)) (aged w κ w'.heap.size) ⟨w'.heap.size, 0, none⟩ t := by
  have h1 := hv.recolor_lt (κ' := aged w κ w'.heap.size) (fun b hb hk => if_pos (.inr ⟨hb, hk⟩))
  have h2 : Firm (aged w κ w'.heap.size) w (w'.alloc (.cells #[.int .i64 t.kind, .string ⟨t.name.toArray⟩, .int .i64 t.num, v, .int .i64 t.at_] 32)) :=
    ⟨by simp; omega, fun b hb _ => (Below.heap_alloc _ _ _ (by omega)).trans (hB.block b hb)⟩
  refine ⟨rfl, by simp, v, h1.firm h2, fun j u hu => ?_⟩
  have := new_cells w' [.int .i64 t.kind, .string ⟨t.name.toArray⟩, .int .i64 t.num, v, .int .i64 t.at_] 32 j u hu
  rw [addr_add0] at this
  simpa using this
set_option maxRecDepth 100000 in
set_option maxHeartbeats 2000000 in
theorem Depth_any (t : Tm) (v : Value) {κ : Nat → Nat} (w : World) (hv : Targs w κ v t.args) (hsz : Tm.siz t ≤ 1099511627776) :
    Calls Tryz.prog 18 #[.agg #[.int .i64 t.kind, .string ⟨t.name.toArray⟩, .int .i64 t.num, v, .int .i64 t.at_]] w fun e w' => e = .returned (.int .i64 (Tm.depth t)) ∧ Below w.heap.size w w' := by
  refine (callsIn_wide (n := 3)).1 ?_
  refine callsIn_of_wp_marks Tryz.func18 rfl trivial ?_ rfl
  simp only [Tryz.ntmps18, List.size_toArray, List.length_cons, List.length_nil, Nat.reduceAdd, Nat.reduceSub, Array.replicate_succ, Array.replicate_zero, List.push_toArray, List.append_toArray, List.nil_append, List.cons_append]
  gi_wp2_with (refine ⟨trivial, ?_⟩; gi_at_call 36; refine (callsIn_wide.2 (all_any _ _ _ _ _ _)).mono ?_; rintro e w' ⟨rfl, rfl⟩)
  obtain ⟨w2, hw2⟩ : ∃ w2, ((w.alloc (.cells #[.int .i64 t.kind, .string ⟨t.name.toArray⟩, .int .i64 t.num, v, .int .i64 t.at_] 32)).alloc (.cells #[.int .i64 0] 3)) = w2 := ⟨_, rfl⟩
  have hz2 : w2.heap.size = w.heap.size + 1 + 1 := by rw [← hw2]; simp
  have hB2 : Below w.heap.size w w2 := by rw [← hw2]; exact ((Below.refl _ w).alloc (Nat.le_refl _) _).alloc (by simp) _
  have k2 : Blk w2 (w.heap.size + 1) 3 #[.int .i64 0] := by
    have := Blk.new (w.alloc (.cells #[.int .i64 t.kind, .string ⟨t.name.toArray⟩, .int .i64 t.num, v, .int .i64 t.at_] 32)) 3 #[.int .i64 0]
    rw [hw2, World.size_alloc] at this
    exact this
  have hta := aged_term hv hB2 (by omega)
  rw [hw2, ← hz2]
  have HZ2 := Lib.hid hz2
  have hz3 : w.heap.size + 2 ≤ w2.heap.size := by omega
  clear hw2 hz2
  refine range_all t w2.heap.size (w.heap.size + 1) 3 (aged w κ w2.heap.size) w (w2.alloc _) (fun r c => ∃ d : Int, c = .int .i64 d ∧ Tm.deepest r d = Tm.depth t) (fun _ => False) (.int .i64 0) rfl ?k1 hta (if_pos (.inl rfl)) hsz (k2.alloc _) (by omega) ⟨0, rfl, rfl⟩ (hB2.alloc (by omega) _) rfl
    (fun lv x v' => { tmps := #[.agg #[.int .i64 t.kind, .string ⟨t.name.toArray⟩, .int .i64 t.num, v, .int .i64 t.at_], .pointer (some ⟨w.heap.size, 0, none⟩), .int .i64 0, .pointer (some ⟨w.heap.size + 1, 0, none⟩), .int .i64 lv, .agg #[.int .i64 t.kind, .string ⟨t.name.toArray⟩, .int .i64 t.num, v, .int .i64 t.at_],
      .func (.func 63) #[] #[.pointer (some ⟨w2.heap.size, 0, none⟩)], .int .i64 lv, .agg #[.int .i64 x.kind, .string ⟨x.name.toArray⟩, .int .i64 x.num, v', .int .i64 x.at_], undef, undef, undef, undef], defers := [] }) ?assign ?body ?done ?stop
  case k1 =>
    intro b hb
    rw [World.size_alloc]
    rcases aged_zero hb with rfl | ⟨h, _⟩ <;> omega
  case assign =>
    clear hta k2 hB2 hv
    intro l lv x v' W Kc hK
    gi_wp2
    exact hK
  case body =>
    clear hta k2 hB2 hv
    rintro l lv x v' c r W ⟨d, rfl, hd⟩ hb _ hs hB
    have hc := hb.cell 0
    have hf := hb.frozen 0
    simp at hc
    rw [World.size_alloc] at hs
    have HB := Lib.hid hb
    have HD := Lib.hid hd
    clear hb hd
    gi_wp2
    exact ⟨.int .i64 (max d lv), by simpa using HB.out.put 0 (.int .i64 (max d lv)), ⟨by simp, fun b hb hne => Below.heap_setCell _ _ _ _ hne⟩, (Below.refl _ W).setCell (by simp) _, max d lv, rfl, HD.out⟩
  case done =>
    clear hta k2 hB2 hv
    rintro c W ⟨d, rfl, hd⟩ hb hB hD
    have hd' : d = Tm.depth t := hd
    subst hd'
    have hc := hb.cell 0
    have hf := hb.frozen 0
    simp at hc
    rw [World.size_alloc] at hD ⊢
    have hb' := hb.putObj (.deferred none) (show w.heap.size + 1 ≠ w2.heap.size + 1 by omega)
    have hB' := below_putObj hB (w2.heap.size + 1) (.deferred none) (by omega)
    gi_wp2
    refine ⟨by simp, .inl ⟨_, _, rfl, run_takeDeferred hD, ?_⟩⟩
    exact ⟨.int .i64 (Tm.depth t), by simp [results, Tryz.results18, go_sem], rfl, hB'⟩
  case stop =>
    intro c W h
    exact h.elim
end Go.Proofs.YtaefonagbcnmdaaGreatDoor

namespace Go.Proofs.YtaefonagbcnmdaaGreatDoor
open Go.RowKit

/-! How large the terms are that are read: at most four terms for each token. -/
def Tm.O.wt (o : Tm.O) : Nat := Tm.sizs o.parts + o.places.length + 2
def Tm.wts : List Tm.O → Nat
  | [] => 0
  | o :: r => o.wt + Tm.wts r
def Tm.S.fits (s : Tm.S) : Prop := Tm.wts s.stack ≤ 4 * s.i + 4 ∧ Tm.siz s.term ≤ 4 * s.i + 4
def Tm.S.fill (s : Tm.S) : Prop := Tm.wts s.stack + Tm.siz s.term ≤ 4 * s.i + 4
theorem Tm.S.fill.fits {s : Tm.S} (h : s.fill) : s.fits := ⟨by have := h; unfold Tm.S.fill at this; omega, by have := h; unfold Tm.S.fill at this; omega⟩
theorem Tm.siz_app (n : List UInt8) (a : Int) (l : List Tm) : Tm.siz (Tm.app n a l) = 1 + Tm.sizs l := by rw [Tm.siz_eq]; rfl
theorem Tm.siz_mk0 (k : Int) (n : List UInt8) (m a : Int) : Tm.siz (.mk k n m [] a) = 1 := by rw [Tm.siz_eq]; rfl
theorem Tm.sizs_append (a b : List Tm) : Tm.sizs (a ++ b) = Tm.sizs a + Tm.sizs b := by
  induction a with
  | nil => simp [Tm.sizs]
  | cons t ts ih => rw [List.cons_append, Tm.sizs, ih, Tm.sizs]; omega
theorem Tm.sizs_one (t : Tm) : Tm.sizs [t] = Tm.siz t := by simp [Tm.sizs]
theorem Tm.siz_getD (l : List Tm) : Tm.siz (l.getD 0 Tm.zero) ≤ Tm.sizs l + 1 := by
  cases l with
  | nil => simp [Tm.zero, Tm.siz_mk0]
  | cons t ts => simp [Tm.sizs]; omega
theorem Tm.siz_getLastD (l : List Tm) : Tm.sizs l.dropLast + Tm.siz (l.getLastD Tm.zero) ≤ Tm.sizs l + 1 := by
  rcases List.eq_nil_or_concat l with rfl | ⟨a, t, rfl⟩
  · simp [Tm.zero, Tm.siz_mk0, Tm.sizs]
  · rw [List.concat_eq_append, List.dropLast_concat, List.getLastD_concat, Tm.sizs_append, Tm.sizs_one]; omega
theorem Tm.siz_list (l : List Tm) (places : List Int) (e : Tm) : Tm.siz (Tm.list l places e) ≤ Tm.sizs l + places.length + Tm.siz e := by
  unfold Tm.list
  induction l generalizing places with
  | nil => simp [Tm.sizs]
  | cons t ts ih =>
    cases places with
    | nil => simp
    | cons p ps =>
      have := ih ps
      rw [List.zip_cons_cons, List.foldr_cons, Tm.siz_app, Tm.sizs, Tm.sizs_one, Tm.sizs, List.length_cons]
      dsimp only
      omega
theorem Tm.goOn_wt {ts : List Tm.T} {en : Tm.T} {i i' : Nat} {o o' : Tm.O} {r : Option Tm} (h : Tm.goOn ts en i o = .ok (i', o', r)) :
    o'.wt + 4 * i ≤ o.wt + 4 * i' ∧ i ≤ i' ∧ ∀ t, r = some t → Tm.siz t ≤ o.wt := by
  have h1 := Tm.siz_getD o.parts
  have h2 := fun e => Tm.siz_list o.parts o.places e
  have h3 := fun e => Tm.siz_list o.parts.dropLast o.places e
  have h4 := Tm.siz_getLastD o.parts
  unfold Tm.goOn at h
  dsimp only at h
  repeat' split at h
  all_goals first | (cases h; done) | skip
  all_goals
    simp only [Except.ok.injEq, Prod.mk.injEq] at h
    obtain ⟨rfl, rfl, rfl⟩ := h
    refine ⟨?_, ?_, ?_⟩
  all_goals first
    | (simp only [Tm.O.wt, List.length_append, List.length_singleton]; omega)
    | omega
    | (intro t ht; cases ht; done)
    | (intro t ht; cases ht; unfold Tm.O.wt; (try rw [Tm.siz_app]); omega)
    | (intro t ht; cases ht; unfold Tm.O.wt; have h5 := h2 (Tm.app [91, 93] (Tm.peek ts en i).2.2 []); rw [Tm.siz_app] at h5; simp only [Tm.sizs] at h5; omega)
    | (intro t ht; cases ht; unfold Tm.O.wt; have h5 := h3 (o.parts.getLastD Tm.zero); omega)
    | (intro t ht; split at ht <;> cases ht; unfold Tm.O.wt; rw [Tm.siz_app]; omega)
theorem Tm.give_fits {ts : List Tm.T} {en : Tm.T} {s s' : Tm.S} {b : Bool} (h : Tm.give ts en s = .ok (s', b)) (hs : s.fill) : (b = false → s'.fits) ∧ (b = true → s'.fill) := by
  unfold Tm.give at h
  unfold Tm.S.fill at hs
  split at h
  · cases h
    rename_i he
    exact ⟨fun _ => ⟨by rw [he]; simp [Tm.wts], by omega⟩, fun h => (by cases h)⟩
  · rename_i o r he
    rw [he, Tm.wts] at hs
    have hw : Tm.O.wt { o with parts := o.parts ++ [s.term] } = o.wt + Tm.siz s.term := by
      simp only [Tm.O.wt, Tm.sizs_append, Tm.sizs_one]; omega
    split at h
    · cases h
    · rename_i i' o' hg
      cases h
      obtain ⟨h1, h2, _⟩ := Tm.goOn_wt hg
      rw [hw] at h1
      exact ⟨fun _ => ⟨by simp only [Tm.wts]; omega, by simp only; omega⟩, fun h => (by cases h)⟩
    · rename_i i' o' t hg
      cases h
      obtain ⟨h1, h2, h3⟩ := Tm.goOn_wt hg
      have h4 := h3 t rfl
      rw [hw] at h4
      refine ⟨fun h => (by cases h), fun _ => ?_⟩
      unfold Tm.S.fill
      simp only
      omega
theorem Tm.pushInfix_fits {ts : List Tm.T} {en : Tm.T} {s s' : Tm.S} {b : Bool} (h : Tm.pushInfix ts en s = (s', b)) (hs : s.fill) : (b = true → s'.fits) ∧ (b = false → s'.fill) := by
  unfold Tm.pushInfix at h
  dsimp only at h
  split at h
  · cases h; exact ⟨fun h => (by cases h), fun _ => hs⟩
  · cases h
    refine ⟨fun _ => ?_, fun h => (by cases h)⟩
    unfold Tm.S.fill at hs
    refine ⟨?_, ?_⟩
    · simp only [Tm.S.push, Tm.S.next, Tm.wts, Tm.O.wt, Tm.sizs_one, List.length_nil]; omega
    · simp only [Tm.S.push, Tm.S.next]; omega
theorem Tm.begin_fits {ts : List Tm.T} {en : Tm.T} {s s' : Tm.S} {b : Bool} (h : Tm.begin_ ts en s = .ok (s', b)) (hs : s.fits) : (b = false → s'.fits) ∧ (b = true → s'.fill) := by
  obtain ⟨h1, h2⟩ := hs
  unfold Tm.begin_ at h
  dsimp only at h
  repeat' split at h
  all_goals first | (cases h; done) | skip
  all_goals (try unfold Tm.beginName at h); (try unfold Tm.beginVariable at h); (try unfold Tm.beginBracket at h)
  all_goals (try dsimp only at h)
  all_goals repeat' split at h
  all_goals first | (cases h; done) | skip
  all_goals
    simp only [Except.ok.injEq, Prod.mk.injEq] at h
    obtain ⟨rfl, rfl⟩ := h
  all_goals first
    | (refine ⟨fun h => (by cases h), fun _ => ?_⟩; unfold Tm.S.fill; simp only [Tm.S.have_, Tm.S.next, Tm.siz_mk0, Tm.variable_, Tm.siz_app, Tm.sizs]; omega)
    | (refine ⟨fun _ => ⟨?_, ?_⟩, fun h => (by cases h)⟩
       · simp only [Tm.S.push, Tm.S.next, Tm.opn, Tm.wts, Tm.O.wt, Tm.sizs, Tm.variable_, Tm.siz_mk0, List.length_nil, List.length_singleton]; omega
       · simp only [Tm.S.push, Tm.S.next]; omega)
theorem Tm.climb_fits {ts : List Tm.T} {en : Tm.T} (f : Nat) {s s' : Tm.S} (h : Tm.climb ts en f s = .ok s') (hs : s.fill) : s'.fits := by
  induction f generalizing s with
  | zero => cases h; exact hs.fits
  | succ f ih =>
    by_cases hn : s.stack = []
    · rw [Tm.climb_nil hn] at h; cases h; exact hs.fits
    · rw [Tm.climb_cons hn] at h
      rcases hp : Tm.pushInfix ts en s with ⟨s1, b⟩
      rw [hp] at h
      have h1 := Tm.pushInfix_fits hp hs
      cases b with
      | true => cases h; exact h1.1 rfl
      | false =>
        dsimp only at h
        split at h
        · cases h
        · rename_i s2 hg
          exact ih h ((Tm.give_fits hg (h1.2 rfl)).2 rfl)
        · rename_i s2 hg
          cases h
          exact (Tm.give_fits hg (h1.2 rfl)).1 rfl
theorem Tm.loop_fits {ts : List Tm.T} {en : Tm.T} (f : Nat) {s s' : Tm.S} (h : Tm.loop ts en f s = .ok s') (hs : s.fits) : s'.fits := by
  induction f generalizing s with
  | zero => cases h; exact hs
  | succ f ih =>
    by_cases hn : s.stack = []
    · rw [Tm.loop_nil hn] at h; cases h; exact hs
    · rw [Tm.loop_cons hn] at h
      split at h
      · cases h
      · rename_i s1 hb
        exact ih h ((Tm.begin_fits hb hs).1 rfl)
      · rename_i s1 hb
        have h1 := (Tm.begin_fits hb hs).2 rfl
        unfold Tm.onward at h
        split at h
        · cases h
        · rename_i s2 hc
          exact ih h (Tm.climb_fits _ hc h1)
/-- What is read is no larger than four terms for each token. -/
theorem Tm.read_siz {ts : List Tm.T} {en : Tm.T} {s s' : Tm.S} (h : Tm.read ts en s = .ok s') (h0 : s.stack = []) (hs : Tm.siz s.term ≤ 4 * s.i + 4) : Tm.siz s'.term ≤ 4 * s'.i + 4 := by
  unfold Tm.read at h
  refine (Tm.loop_fits _ h ⟨?_, ?_⟩).2
  · simp only [Tm.S.push, h0, Tm.opn, Tm.wts, Tm.O.wt, Tm.sizs, List.length_nil]; omega
  · simpa [Tm.S.push] using hs
/-! Nothing goes back. -/
theorem Tm.give_le {ts : List Tm.T} {en : Tm.T} {s s' : Tm.S} {b : Bool} (h : Tm.give ts en s = .ok (s', b)) : s.i ≤ s'.i := by
  unfold Tm.give at h
  split at h
  · cases h; exact Nat.le_refl _
  · split at h
    · cases h
    · rename_i hg; cases h; exact (Tm.goOn_wt hg).2.1
    · rename_i hg; cases h; exact (Tm.goOn_wt hg).2.1
theorem Tm.pushInfix_le {ts : List Tm.T} {en : Tm.T} {s s' : Tm.S} {b : Bool} (h : Tm.pushInfix ts en s = (s', b)) : s.i ≤ s'.i := by
  unfold Tm.pushInfix at h
  dsimp only at h
  split at h
  · cases h; exact Nat.le_refl _
  · cases h; simp only [Tm.S.push, Tm.S.next]; omega
theorem Tm.begin_le {ts : List Tm.T} {en : Tm.T} {s s' : Tm.S} {b : Bool} (h : Tm.begin_ ts en s = .ok (s', b)) : s.i ≤ s'.i := by
  unfold Tm.begin_ at h
  dsimp only at h
  repeat' split at h
  all_goals first | (cases h; done) | skip
  all_goals (try unfold Tm.beginName at h); (try unfold Tm.beginVariable at h); (try unfold Tm.beginBracket at h)
  all_goals (try dsimp only at h)
  all_goals repeat' split at h
  all_goals first | (cases h; done) | skip
  all_goals
    simp only [Except.ok.injEq, Prod.mk.injEq] at h
    obtain ⟨rfl, rfl⟩ := h
    simp only [Tm.S.have_, Tm.S.push, Tm.S.next]
    omega
theorem Tm.climb_le {ts : List Tm.T} {en : Tm.T} (f : Nat) {s s' : Tm.S} (h : Tm.climb ts en f s = .ok s') : s.i ≤ s'.i := by
  induction f generalizing s with
  | zero => cases h; exact Nat.le_refl _
  | succ f ih =>
    by_cases hn : s.stack = []
    · rw [Tm.climb_nil hn] at h; cases h; exact Nat.le_refl _
    · rw [Tm.climb_cons hn] at h
      rcases hp : Tm.pushInfix ts en s with ⟨s1, b⟩
      rw [hp] at h
      have h1 := Tm.pushInfix_le hp
      cases b with
      | true => cases h; exact h1
      | false =>
        dsimp only at h
        split at h
        · cases h
        · rename_i s2 hg
          exact Nat.le_trans h1 (Nat.le_trans (Tm.give_le hg) (ih h))
        · rename_i s2 hg
          cases h
          exact Nat.le_trans h1 (Tm.give_le hg)
theorem Tm.loop_le {ts : List Tm.T} {en : Tm.T} (f : Nat) {s s' : Tm.S} (h : Tm.loop ts en f s = .ok s') : s.i ≤ s'.i := by
  induction f generalizing s with
  | zero => cases h; exact Nat.le_refl _
  | succ f ih =>
    by_cases hn : s.stack = []
    · rw [Tm.loop_nil hn] at h; cases h; exact Nat.le_refl _
    · rw [Tm.loop_cons hn] at h
      split at h
      · cases h
      · rename_i s1 hb
        exact Nat.le_trans (Tm.begin_le hb) (ih h)
      · rename_i s1 hb
        unfold Tm.onward at h
        split at h
        · cases h
        · rename_i s2 hc
          exact Nat.le_trans (Tm.begin_le hb) (Nat.le_trans (Tm.climb_le _ hc) (ih h))
theorem Tm.read_le {ts : List Tm.T} {en : Tm.T} {s s' : Tm.S} (h : Tm.read ts en s = .ok s') : s.i ≤ s'.i := by
  unfold Tm.read at h
  have := Tm.loop_le _ h
  simpa [Tm.S.push] using this
end Go.Proofs.YtaefonagbcnmdaaGreatDoor

namespace Go.Proofs.YtaefonagbcnmdaaGreatDoor
open Go.RowKit

/-- The place of the first term that is nested too deeply. -/
def Tm.tooDeep : List Tm → Option Int
  | [] => none
  | t :: l => if 64 < Tm.depth t then some t.at_ else Tm.tooDeep l
theorem Tm.tooDeep_drop {l : List Tm} {k : Nat} {t : Tm} (h : l[k]? = some t) : Tm.tooDeep (l.drop k) = if 64 < Tm.depth t then some t.at_ else Tm.tooDeep (l.drop (k + 1)) := by
  obtain ⟨hk, rfl⟩ := List.getElem?_eq_some_iff.1 h
  rw [List.drop_eq_getElem_cons hk]
  rfl
/-- An element of a slice of terms. -/
theorem Targs.elem {w : World} {κ : Nat → Nat} {A : Option Addr} {n cap : Nat} {l : List Tm} (h : Targs w κ (.slice A n cap) l) {k : Nat} {t : Tm} (ht : l[k]? = some t) :
    ∃ g o a, A = some ⟨g, o, none⟩ ∧ l.length ≤ cap ∧ g < w.heap.size ∧ κ g = 0 ∧ Targs w κ a t.args ∧ w.cell? ⟨g, o + k * 5, none⟩ = some (.int .i64 t.kind) ∧ w.cell? ⟨g, o + k * 5 + 1, none⟩ = some (.string ⟨t.name.toArray⟩) ∧
      w.cell? ⟨g, o + k * 5 + 2, none⟩ = some (.int .i64 t.num) ∧ w.cell? ⟨g, o + k * 5 + 3, none⟩ = some a ∧ w.cell? ⟨g, o + k * 5 + 4, none⟩ = some (.int .i64 t.at_) := by
  generalize hv : Value.slice A n cap = v at h
  cases h with
  | nil => simp at ht
  | mk g o cap' _ vs hl hc hg hk cells sub =>
    rw [Value.slice.injEq] at hv
    obtain ⟨rfl, -, rfl⟩ := hv
    have hlt := (List.getElem?_eq_some_iff.1 ht).1
    obtain ⟨a, ha⟩ : ∃ a, vs[k]? = some a := ⟨_, List.getElem?_eq_getElem (by omega)⟩
    obtain ⟨f0, f1, f2, f3, f4⟩ := Tm.flat_get ht ha
    exact ⟨g, o, a, rfl, hc, hg, hk, sub k a t ha ht, cells _ _ f0, by simpa [Nat.add_assoc] using cells _ _ f1, by simpa [Nat.add_assoc] using cells _ _ f2, by simpa [Nat.add_assoc] using cells _ _ f3, by simpa [Nat.add_assoc] using cells _ _ f4⟩
/-- What checkNesting leaves. -/
def DPost (w : World) (l : List Tm) (e : Ending) (w' : World) : Prop :=
  Below w.heap.size w w' ∧ match Tm.tooDeep l with
  | some p => e = Tm.thrown p 6
  | none => e = .returned (.tuple #[])
set_option maxRecDepth 100000 in
set_option maxHeartbeats 2000000 in
theorem checkNesting_any (l : List Tm) (v : Value) {κ : Nat → Nat} (w : World) (hv : Targs w κ v l) (hsz : ∀ t ∈ l, Tm.siz t ≤ 1099511627776) (hl : l.length ≤ 1099511627776) :
    Calls Tryz.prog 49 #[v] w (DPost w l) := by
  obtain ⟨A, cap, rfl⟩ := hv.form
  have HV := Lib.hid hv
  have HSZ := Lib.hid hsz
  obtain ⟨P, hP⟩ : ∃ P, DPost w l = P := ⟨_, rfl⟩
  have HP := Lib.hid hP
  rw [hP]
  clear hP hsz hv
  go_enter Tryz.func49, Tryz.ntmps49
  go_wp2_with fail
  go_loopw [6] (fun i wr => ∃ k : Nat, i = .int .i64 k ∧ k ≤ l.length ∧ Hid (Below w.heap.size w wr) ∧ Hid (Tm.tooDeep l = Tm.tooDeep (l.drop k))) (fun i _ => l.length - (intOf i).toNat)
  case atStart => exact ⟨0, by go_num, Nat.zero_le _, Lib.hid (Below.refl _ _), Lib.hid rfl⟩
  case round =>
    obtain ⟨k, rfl, hk, HB, HD⟩ := hrel
    by_cases hkl : k < l.length
    · obtain ⟨t, ht⟩ : ∃ t, l[k]? = some t := ⟨_, List.getElem?_eq_getElem hkl⟩
      have htm : t ∈ l := List.mem_of_getElem? ht
      have HVr := Lib.hid (HV.out.kept (.below HB.out))
      obtain ⟨g, o, a, hA, hcap, hg, hkg, hta, c0, c1, c2, c3, c4⟩ := HVr.out.elem ht
      subst hA
      obtain ⟨Aa, ca, rfl⟩ := hta.form
      have hTT := Blk.new wr 32 #[.int .i64 t.kind, .string ⟨t.name.toArray⟩, .int .i64 t.num, .slice Aa t.args.length ca, .int .i64 t.at_]
      have hB6 := HB.out.alloc HB.out.size (.cells #[.int .i64 t.kind, .string ⟨t.name.toArray⟩, .int .i64 t.num, .slice Aa t.args.length ca, .int .i64 t.at_] 32)
      have hB7 := (Below.refl wr.heap.size wr).alloc (Nat.le_refl _) (.cells #[.int .i64 t.kind, .string ⟨t.name.toArray⟩, .int .i64 t.num, .slice Aa t.args.length ca, .int .i64 t.at_] 32)
      have HTA := Lib.hid (hta.kept (.below hB7))
      have HDR := Lib.hid (Tm.tooDeep_drop ht)
      have hts : Tm.siz t ≤ 1099511627776 := HSZ.out t htm
      clear hta
      have hk2 : (k : Int) < (l.length : Int) := by omega
      go_wp2_with fail
      refine (Depth_any t _ _ HTA.out hts).mono ?_
      rintro r w5 ⟨rfl, hB8⟩
      have hB9 := hB6.trans (hB8.mono hB6.size)
      have hT5 := hTT.below hB8 hTT.lt
      have d4 : w5.cell? ⟨wr.heap.size, 4, none⟩ = some (.int .i64 t.at_) := by simpa using hT5.cell 4
      obtain ⟨dd, hdd⟩ : ∃ dd, Tm.depth t = dd := ⟨_, rfl⟩
      rw [hdd]
      have HDD := Lib.hid hdd
      clear hdd
      by_cases hz : 64 < dd
      · have hfb : Tm.tooDeep l = some t.at_ := by rw [HD.out, HDR.out, HDD.out, if_pos hz]
        have HFB := Lib.hid hfb; clear hfb
        go_wp2_with fail
        rw [← HP.out]
        refine ⟨rfl, hB9, ?_⟩
        rw [HFB.out]
        rfl
      · go_wp2_with fail
        go_roundw
        case rel => exact ⟨k + 1, by go_num, by omega, Lib.hid hB9, Lib.hid (by rw [HD.out, HDR.out, HDD.out, if_neg (by omega)])⟩
        case measure => simp [intOf]; omega
    · have hfb : Tm.tooDeep l = none := by rw [HD.out, List.drop_of_length_le (by omega)]; rfl
      have HFB := Lib.hid hfb; clear hfb
      have hk3 : ¬ (k : Int) < (l.length : Int) := by omega
      go_wp2_with fail
      go_end0
      rw [← HP.out]
      refine ⟨HB.out, ?_⟩
      rw [HFB.out]
end Go.Proofs.YtaefonagbcnmdaaGreatDoor

namespace Go.Proofs.YtaefonagbcnmdaaGreatDoor
open Go.RowKit

/-! All terms of tokens. -/
theorem Tm.all_stop {ts : List Tm.T} {en : Tm.T} {f : Nat} {s : Tm.S} {acc : List Tm} (h : (Tm.peek ts en s.i).1 = 0) : Tm.all ts en (f + 1) s acc = .ok acc := by
  rw [Tm.all, if_pos (by rw [h]; rfl)]
theorem Tm.all_bad {ts : List Tm.T} {en : Tm.T} {f : Nat} {s : Tm.S} {acc : List Tm} (h : (Tm.peek ts en s.i).1 ≠ 0) {x : Tm.F} (hr : Tm.read ts en s = .error x) : Tm.all ts en (f + 1) s acc = .error x := by
  rw [Tm.all, if_neg (by simpa using h), hr]
theorem Tm.all_on {ts : List Tm.T} {en : Tm.T} {f : Nat} {s s' : Tm.S} {acc : List Tm} (h : (Tm.peek ts en s.i).1 ≠ 0) (hr : Tm.read ts en s = .ok s') (h7 : (Tm.peek ts en s'.i).1 = 7) : Tm.all ts en (f + 1) s acc = Tm.all ts en f s'.next (acc ++ [s'.term]) := by
  rw [Tm.all, if_neg (by simpa using h), hr]
  dsimp only
  rw [if_pos (by rw [h7]; rfl)]
theorem Tm.all_off {ts : List Tm.T} {en : Tm.T} {f : Nat} {s s' : Tm.S} {acc : List Tm} (h : (Tm.peek ts en s.i).1 ≠ 0) (hr : Tm.read ts en s = .ok s') (h7 : (Tm.peek ts en s'.i).1 ≠ 7) : Tm.all ts en (f + 1) s acc = .error (Tm.refusal (Tm.peek ts en s'.i)) := by
  rw [Tm.all, if_neg (by simpa using h), hr]
  dsimp only
  rw [if_neg (by simpa using h7)]
/-- The nesting is looked at last. -/
def Tm.nested : Except Tm.F (List Tm) → Except Tm.F (List Tm)
  | .error f => .error f
  | .ok l => match Tm.tooDeep l with | some p => .error (p, 6) | none => .ok l
/-- What Terms answers. -/
def Tm.terms (ts : List Tm.T) : Except Tm.F (List Tm) :=
  match Tm.firstBad (Tm.cut ts) with
  | some f => .error f
  | none => Tm.nested (Tm.all (Tm.cut ts) (Tm.endTok ts) ((Tm.cut ts).length + 2) Tm.start [])
theorem Tm.firstBad_none {l : List Tm.T} (h : Tm.firstBad l = none) : ∀ t ∈ l, Tk.check t.1 t.2.1 = 0 := by
  induction l with
  | nil => intro t ht; cases ht
  | cons a l ih =>
    rw [Tm.firstBad] at h
    split at h
    · rename_i h0
      intro t ht
      rcases List.mem_cons.1 ht with rfl | ht
      · exact h0
      · exact ih h t ht
    · cases h
theorem Tm.endTok_kind (ts : List Tm.T) : (Tm.endTok ts).1 = 0 := by
  unfold Tm.endTok; split <;> rfl

theorem Targs.stays {κ κ' : Nat → Nat} {w w' : World} {P : Nat → Prop} (h : Stays κ κ' w w' P) (h0 : P 0) (hs : w.heap.size ≤ w'.heap.size) {v : Value} {ts : List Tm} (ht : Targs w κ v ts) : Targs w' κ' v ts := by
  induction ht with
  | nil A cap => exact .nil A cap
  | mk g o cap ts vs hl hc hg hk cells sub ih =>
    obtain ⟨e1, e2⟩ := h g hg (by rw [hk]; exact h0)
    exact .mk g o cap ts vs hl hc (Nat.lt_of_lt_of_le hg hs) (by omega) (fun j u hu => (World.cell?_of_block (a := ⟨g, o + j, none⟩) e1).trans (cells j u hu)) ih
theorem TokR.stays {κ κ' : Nat → Nat} {w w' : World} {P : Nat → Prop} (h : Stays κ κ' w w' P) (h0 : P 0) (hs : w.heap.size ≤ w'.heap.size) {v : Value} {ts : List Tm.T} (ht : TokR w κ v ts) : TokR w' κ' v ts := by
  obtain ⟨A, cap, hv, hc, hi⟩ := ht
  refine ⟨A, cap, hv, hc, fun i t ht => ?_⟩
  obtain ⟨g, o, hA, hg, hk, x0, x1, x2⟩ := hi i t ht
  obtain ⟨e1, e2⟩ := h g hg (by rw [hk]; exact h0)
  exact ⟨g, o, hA, Nat.lt_of_lt_of_le hg hs, by omega, (World.cell?_of_block (a := ⟨g, _, none⟩) e1).trans x0, (World.cell?_of_block (a := ⟨g, _, none⟩) e1).trans x1, (World.cell?_of_block (a := ⟨g, _, none⟩) e1).trans x2⟩
/-- The reader between two terms, while a row of others grows. -/
theorem RInv.others {w w' : World} {κ κ' : Nat → Nat} {g : Nat} {ts : List Tm.T} {en : Tm.T} {s : Tm.S} {tv sv av : Value} (h : RInv w κ g ts en s [] tv sv av) (hS : Stays κ κ' w w' (fun x => x ≠ 1)) (hs : w.heap.size ≤ w'.heap.size) : RInv w' κ' g ts en s [] tv sv av := by
  obtain ⟨e1, e2⟩ := hS g h.blk.lt (by rw [h.kg]; decide)
  have ho := own_stays hS h.own h.ks (by decide)
  exact ⟨e1.trans h.blk, e2.trans h.kg, h.toks.stays hS (by decide) hs, ho.1, ho.2, trivial, h.term.stays hS (by decide) hs, h.stack, h.hi, h.hn, h.hes, h.hp⟩
/-- The terms that were found: a row of the function's own (colour 1), from block B on. -/
structure FoundR (w : World) (κ : Nat → Nat) (B : Nat) (fv : Value) (acc : List Tm) : Prop where
  row : ∃ vs : List Value, vs.length = acc.length ∧ w.ownsRow B 32 5 fv acc.length (Tm.flat acc vs) ∧ ∀ (j : Nat) a t, vs[j]? = some a → acc[j]? = some t → Targs w κ a t.args
  kf : ∀ k, fv.ownBlock = some k → κ k = 1
theorem FoundR.kept {κ κ' : Nat → Nat} {w w' : World} {B : Nat} {fv : Value} {acc : List Tm} (h : FoundR w κ B fv acc) (hK : Kept κ κ' w w') : FoundR w' κ' B fv acc := by
  obtain ⟨⟨vs, hl, ho, hs⟩, hk⟩ := h
  have hS : Stays κ κ' w w' (fun x => x ≤ 1) := fun b hb hP => hK.block b hb hP
  obtain ⟨o1, o2⟩ := own_stays hS ho hk (by decide)
  exact ⟨⟨vs, hl, o1, fun j a t ha ht => (hs j a t ha ht).kept hK⟩, o2⟩
theorem FoundR.push {κ : Nat → Nat} {w6 w7 : World} {B : Nat} {fv v' a : Value} {acc : List Tm} {vs : List Value} {t : Tm} (hl : vs.length = acc.length)
    (hs : ∀ (j : Nat) a t, vs[j]? = some a → acc[j]? = some t → Targs w6 κ a t.args) (hk : ∀ k, fv.ownBlock = some k → κ k = 1) (hta : Targs w6 κ a t.args)
    (hown : w7.ownsRow B 32 5 v' (acc.length + 1) (Tm.flat acc vs ++ [.int .i64 t.kind, .string ⟨t.name.toArray⟩, .int .i64 t.num, a, .int .i64 t.at_]))
    (hgr : w6.grownBy w7 fv.ownBlock) (hat : v'.ownBlock = fv.ownBlock ∨ v'.ownBlock = some w6.heap.size) :
    FoundR w7 (recol κ v' 1) B v' (acc ++ [t]) ∧ Stays κ (recol κ v' 1) w6 w7 (fun x => x ≠ 1) := by
  have hS := grown_stays hk hgr (hat.imp id fun h => ⟨_, Nat.le_refl _, h⟩)
  have hz := hgr.size
  refine ⟨⟨⟨vs ++ [a], by simp [hl], ?_, ?_⟩, recol_own κ v' 1⟩, hS⟩
  · rw [Tm.flat_snoc t a hl, List.length_append]; exact hown
  · intro j b u hb hu
    rcases Nat.lt_or_ge j acc.length with hj | hj
    · rw [List.getElem?_append_left (by omega)] at hb
      rw [List.getElem?_append_left hj] at hu
      exact (hs j b u hb hu).stays hS (by decide) hz
    · have hj2 : j = acc.length := by have := (List.getElem?_eq_some_iff.1 hu).1; simp at this; omega
      subst hj2
      rw [List.getElem?_append_right (by omega)] at hb hu
      simp [hl] at hb hu
      subst hb; subst hu
      exact hta.stays hS (by decide) hz
/-- From the function's beginning: its own row has grown. -/
theorem Kept.row {κ0 κ : Nat → Nat} {w0 w6 w7 : World} {row : Option Nat} {v' : Value} {c : Nat} (h : Kept κ0 κ w0 w6) (hgr : w6.grownBy w7 row) (hrow : ∀ k, row = some k → w0.heap.size ≤ k) (hv : ∀ k, v'.ownBlock = some k → w0.heap.size ≤ k) : Kept κ0 (recol κ v' c) w0 w7 := by
  refine ⟨hgr.os.trans h.os, hgr.tape.trans h.tape, hgr.output.trans h.output, Nat.le_trans h.size hgr.size, fun b hb hk => ?_⟩
  obtain ⟨e1, e2⟩ := h.block b hb hk
  refine ⟨(hgr.block b (Nat.lt_of_lt_of_le hb h.size) (fun e => by have := hrow b e.symm; omega)).trans e1, (recol_other fun e => by have := hv b e; omega).trans e2⟩
/-- The row is given up. -/
theorem FoundR.args {κ : Nat → Nat} {w : World} {B : Nat} {fv : Value} {acc : List Tm} (h : FoundR w κ B fv acc) : Targs w (recol κ fv 0) fv acc := by
  obtain ⟨⟨vs, hl, ho, hs⟩, hk⟩ := h
  refine Targs.of_row hl ho (recol_own κ fv 0) (fun j a t ha ht => (hs j a t ha ht).recolor (fun b hb => ?_))
  unfold recol
  split
  · rfl
  · exact hb
theorem FoundR.lt {κ : Nat → Nat} {w : World} {B : Nat} {fv : Value} {acc : List Tm} (h : FoundR w κ B fv acc) : ∀ k, fv.ownBlock = some k → B ≤ k ∧ k < w.heap.size := by
  obtain ⟨⟨vs, hl, ho, hs⟩, hk⟩ := h
  exact ho.lt
/-- But for one block of others, nothing has turned. -/
structure KeptBut (κ κ' : Nat → Nat) (w w' : World) (rB : Nat) : Prop where
  os : w'.os = w.os
  tape : w'.tape = w.tape
  output : w'.output = w.output
  size : w.heap.size ≤ w'.heap.size
  block : ∀ b, b < w.heap.size → b ≠ rB → κ b ≤ 1 → w'.heap[b]? = w.heap[b]? ∧ κ' b = κ b
/-- What the function in Terms leaves. -/
def XPost (w : World) (κ : Nat → Nat) (rB : Nat) (R : Except Tm.F (List Tm)) (e : Ending) (w' : World) : Prop :=
  match R with
  | .ok l => e = .returned (.tuple #[]) ∧ ∃ κ' v', Targs w' κ' v' l ∧ Blk w' rB 23 #[v'] ∧ KeptBut κ κ' w w' rB
  | .error f => e = Tm.thrown f.1 f.2 ∧ ∃ κ', Kept κ κ' w w'
end Go.Proofs.YtaefonagbcnmdaaGreatDoor

namespace Go.Proofs.YtaefonagbcnmdaaGreatDoor
open Go.RowKit

set_option maxRecDepth 100000 in
set_option maxHeartbeats 4000000 in
theorem found_any (v : Value) (ts : List Tm.T) {κ : Nat → Nat} (lB rB : Nat) (w : World) (hn : ts.length ≤ 1000000) (hT : TokR w κ v ts) (hsz : ∀ t ∈ ts, t.2.1.length ≤ 65536) (hG : Glob w)
    (hl : Blk w lB 43 #[v]) (hr : Blk w rB 23 #[.slice none 0 0]) (hkr : κ rB = 1) :
    Calls Tryz.prog 54 #[.pointer (some ⟨lB, 0, none⟩), .pointer (some ⟨rB, 0, none⟩)] w (XPost w κ rB (Tm.terms ts)) := by
  obtain ⟨i0, hi0, hz0, hz1, hz2⟩ := info_parts info_term
  obtain ⟨R, hR⟩ : ∃ R, Tm.terms ts = R := ⟨_, rfl⟩
  have HR := Lib.hid hR
  rw [hR]
  obtain ⟨P, hP⟩ : ∃ P, XPost w κ rB R = P := ⟨_, rfl⟩
  have HP := Lib.hid hP
  rw [hP]
  have c0 : w.cell? ⟨lB, 0, none⟩ = some v := by simpa using hl.cell 0
  have HRB := Lib.hid hr
  have hrl := hr.lt
  have HT := Lib.hid hT
  have HSZ := Lib.hid hsz
  have HG := Lib.hid hG
  obtain ⟨A, cap, hv, -⟩ := hT
  subst hv
  clear hR hP hr hsz hG hl
  go_enter Tryz.func54, Tryz.ntmps54
  go_wp2_with fail
  refine (newReader_any _ ts w hn HT.out HSZ.out HG.out).mono ?_
  rintro e w2 ⟨hB2, hq⟩
  cases hfb : Tm.firstBad (Tm.cut ts) with
  | some f =>
    rw [hfb] at hq
    dsimp only at hq
    subst hq
    have hres : R = .error f := by rw [← HR.out, Tm.terms, hfb]
    have HRES := Lib.hid hres
    have HB2 := Lib.hid hB2
    clear hfb hres hB2
    unfold Tm.thrown
    go_wp2_with fail
    rw [← HP.out, HRES.out]
    exact ⟨rfl, rfl, κ, .below HB2.out⟩
  | none =>
    rw [hfb] at hq
    dsimp only at hq
    obtain ⟨g, κ1, tv, rfl, hgl, hR0, hK0⟩ := hq
    have hgood : Tm.Good (Tm.cut ts) (Tm.endTok ts) := ⟨Tm.endTok_kind ts, fun t ht => ⟨Tm.firstBad_none hfb t ht, HSZ.out t (List.mem_of_mem_take ht)⟩⟩
    have HRR := Lib.hid (show Tm.nested (Tm.all (Tm.cut ts) (Tm.endTok ts) ((Tm.cut ts).length + 2) Tm.start []) = R by rw [← HR.out, Tm.terms, hfb])
    have HGD := Lib.hid hgood
    have hlen : (Tm.cut ts).length ≤ ts.length := by unfold Tm.cut; rw [List.length_take]; omega
    obtain ⟨c, hc⟩ : ∃ c, Tm.cut ts = c := ⟨_, rfl⟩
    obtain ⟨en, hen⟩ : ∃ en, Tm.endTok ts = en := ⟨_, rfl⟩
    rw [hc, hen] at HRR HGD hR0
    rw [hc] at hlen
    have hcn : c.length ≤ 1000000 := by omega
    have hf0 : FoundR w2 κ1 w.heap.size (.slice none 0 0) [] := ⟨⟨[], rfl, World.ownsRow_nil _ _ _ _, fun j a t h => by simp at h⟩, fun k h => by cases h⟩
    have HF0 := Lib.hid hf0
    have HR0 := Lib.hid hR0
    have HK0 := Lib.hid hK0
    clear hfb hgood hc hen hf0 hR0 hK0 HR HSZ hB2 hlen c0
    go_wp2_with fail
    go_loopw [3] (fun fv wr => ∃ (s : Tm.S) (acc : List Tm) (f : Nat) (κ' : Nat → Nat) (sv av : Value), Hid (RInv wr κ' g c en s [] tv sv av) ∧ Hid (FoundR wr κ' w.heap.size fv acc) ∧ Hid (Kept κ κ' w wr) ∧
        c.length + 2 ≤ s.i + f ∧ s.i ≤ c.length + 1 ∧ acc.length ≤ s.i ∧ Tm.siz s.term ≤ 4 * s.i + 4 ∧ Hid (∀ t ∈ acc, Tm.siz t ≤ 8000000) ∧ Hid (Tm.nested (Tm.all c en f s acc) = R)) (fun _ wr => c.length + 2 - (Tk.cellAt wr g 1).toNat)
    case atStart => exact ⟨Tm.start, [], c.length + 2, κ1, _, _, HR0, HF0, HK0, by simp [Tm.start], by simp [Tm.start], by simp, by simp [Tm.start, Tm.zero, Tm.siz_mk0], Lib.hid (by simp), HRR⟩
    case round =>
      obtain ⟨s, acc, f, κ', sv, av, HI, HF, HK, hf, hi, hal, hst, HSA, HE⟩ := hrel
      obtain ⟨f, rfl⟩ : ∃ f', f = f' + 1 := ⟨f - 1, by omega⟩
      obtain ⟨Af, cf, rfl⟩ : ∃ A c, u3 = .slice A acc.length c := by obtain ⟨vs, _, ho, _⟩ := HF.out.row; exact own_slice ho
      obtain ⟨T, hT⟩ : ∃ T, Tm.peek c en s.i = T := ⟨_, rfl⟩
      have hpk := peek_any HI.out
      rw [hT] at hpk
      have HTT := Lib.hid hT
      clear hT
      have hfk := field_kind
      have HCL := Lib.hid (RInv.atI HI.out)
      by_cases hk : T.1 = 0
      · have hkb : (T.1 != 0) = false := by rw [hk]; rfl
        have hall : Tm.nested (.ok acc) = R := by rw [← HE.out, Tm.all_stop (by rw [HTT.out]; exact hk)]
        have HALL := Lib.hid hall
        clear hk hall
        go_wp2_with fail
        refine hpk.mono ?_
        rintro e w3 ⟨rfl, hB3⟩
        have HB3 := Lib.hid hB3
        clear hpk hB3
        go_wp2_with fail
        have hF3 := HF.out.kept (.below HB3.out)
        have hK3 : Kept κ κ' w w3 := HK.out.trans (.below HB3.out)
        have hA3 := hF3.args
        refine (checkNesting_any acc _ w3 hA3 (fun t ht => by have := HSA.out t ht; omega) (by omega)).mono ?_
        rintro e w4 ⟨hB4, hq⟩
        have hK4 : Kept κ κ' w w4 := hK3.trans (.below hB4)
        have hA4 := hA3.kept (.below hB4)
        have hrb4 := HRB.out.kept hK4 hkr
        have hrc : recol κ' (.slice Af acc.length cf) 0 rB = 1 := by
          rw [recol_other, (HK.out.block rB hrl (by omega)).2, hkr]
          intro e
          have := (hF3.lt rB e).1
          omega
        have hrn : rB ≠ w4.heap.size := by have := hrb4.lt; omega
        cases htd : Tm.tooDeep acc with
        | some p =>
          rw [htd] at hq
          dsimp only at hq
          subst hq
          have HRES := Lib.hid (show R = .error (p, 6) by rw [← HALL.out, Tm.nested, htd])
          have HK4 := Lib.hid hK4
          unfold Tm.thrown
          clear hA4 hrb4 hrc hA3 hF3 hK3 hK4 htd
          go_wp2_with fail
          rw [← HP.out, HRES.out]
          exact ⟨rfl, rfl, κ', HK4.out⟩
        | none =>
          rw [htd] at hq
          dsimp only at hq
          subst hq
          have HRES := Lib.hid (show R = .ok acc by rw [← HALL.out, Tm.nested, htd])
          have b0 : w4.cell? ⟨rB, 0, none⟩ = some (.slice none 0 0) := by simpa using hrb4.cell 0
          have bf := hrb4.frozen 0
          have HB4 := Lib.hid hrb4
          have HA4 := Lib.hid hA4
          have HK4 := Lib.hid hK4
          have HRC := Lib.hid hrc
          have HF3 := Lib.hid hF3
          clear hA4 hrb4 hrc hA3 hF3 hK3 hK4 htd
          go_wp2_with fail
          go_end0
          rw [← HP.out, HRES.out]
          refine ⟨rfl, recol κ' (.slice Af acc.length cf) 0, .slice Af acc.length cf, HA4.out.firm ⟨by simp, fun b hb hb0 => Below.heap_setCell _ _ _ _ (fun e => by rw [e, HRC.out] at hb0; cases hb0)⟩, by simpa using HB4.out.put 0 (.slice Af acc.length cf), HK4.out.os, HK4.out.tape, HK4.out.output, by simpa using HK4.out.size, fun b hb hne hb1 => ?_⟩
          obtain ⟨e1, e2⟩ := HK4.out.block b hb hb1
          refine ⟨(Below.heap_setCell _ _ _ _ hne).trans e1, (recol_other fun e => ?_).trans e2⟩
          have := (HF3.out.lt b e).1
          omega
      · have hkb : (T.1 != 0) = true := by rw [bne_iff_ne]; exact hk
        have hil : s.i < c.length := (HGD.out.peek (by rw [HTT.out]; exact hk)).1
        have HKZ := Lib.hid (show (Tm.peek c en s.i).1 ≠ 0 by rw [HTT.out]; exact hk)
        clear hk
        go_wp2_with fail
        refine hpk.mono ?_
        rintro e w3 ⟨rfl, hB3⟩
        have HB3 := Lib.hid hB3
        clear hpk hB3
        go_wp2_with fail
        refine (pread_any (HI.out.below HB3.out) HGD.out (by omega)).mono ?_
        intro e w4 hq
        cases hrd : Tm.read c en s with
        | error x =>
          rw [hrd] at hq
          obtain ⟨rfl, κ2, hK2⟩ := hq
          have HRES := Lib.hid (show R = .error x by rw [← HE.out, Tm.all_bad HKZ.out hrd]; rfl)
          have HK2 := Lib.hid hK2
          unfold Tm.thrown
          clear hrd hK2
          go_wp2_with fail
          rw [← HP.out, HRES.out]
          exact ⟨rfl, rfl, κ2, (HK.out.trans (.below HB3.out)).trans HK2.out⟩
        | ok s' =>
          rw [hrd] at hq
          obtain ⟨av', rfl, κ2, sv', hI4, hK4, hi4⟩ := hq
          have hle := Tm.read_le hrd
          have hs0 : s.stack = [] := HI.out.stack
          have hs4 := Tm.read_siz hrd hs0 hst
          have HRD := Lib.hid hrd
          have hF4 := (HF.out.kept (.below HB3.out)).kept hK4
          have hKK : Kept κ κ2 w w4 := (HK.out.trans (.below HB3.out)).trans hK4
          obtain ⟨⟨vs, hvl, hown, hsub⟩, hkf⟩ := hF4
          have hta := hI4.term
          obtain ⟨Aa, ca, rfl⟩ := hta.form
          have hB6 := (Below.refl w4.heap.size w4).alloc (Nat.le_refl _) (.cells #[.int .i64 s'.term.kind, .string ⟨s'.term.name.toArray⟩, .int .i64 s'.term.num, .slice Aa s'.term.args.length ca, .int .i64 s'.term.at_] 32)
          have HO6 := Lib.hid (own_low hown hB6)
          have HN6 := Lib.hid (new_cells w4 [.int .i64 s'.term.kind, .string ⟨s'.term.name.toArray⟩, .int .i64 s'.term.num, .slice Aa s'.term.args.length ca, .int .i64 s'.term.at_] 32)
          have hwz : w.heap.size ≤ w4.heap.size := hKK.size
          have HI4 := Lib.hid hI4
          have HKK := Lib.hid hKK
          have HOW := Lib.hid hown
          have HSB := Lib.hid hsub
          have HKF := Lib.hid hkf
          have HTA := Lib.hid hta
          have HB6 := Lib.hid hB6
          have HVL := Lib.hid hvl
          clear hrd hI4 hK4 hKK hown hsub hkf hta hB6 hvl hs0
          unfold Tm.val
          have hal2 : acc.length ≤ 1000000 := by omega
          go_wp2_with (at_builtin; refine wpList_append_own_at _ rfl (.tmp 11) (.tmp 14) 23 rfl w.heap.size 32 i0 (.agg #[.int .i64 0, .string ⟨#[]⟩, .int .i64 0, .slice none 0 0, .int .i64 0]) 5 64 Tryz.underlying23 hi0 hz0 hz1 hz2 rfl (by decide) (.slice Af acc.length cf) acc.length (Tm.flat acc vs) (by simp [Act.eval, Act.put]) HO6.out ⟨w4.heap.size, 0, none⟩ 1 1 [.int .i64 s'.term.kind, .string ⟨s'.term.name.toArray⟩, .int .i64 s'.term.num, .slice Aa s'.term.args.length ca, .int .i64 s'.term.at_] (by simp [Act.eval, Act.put]) rfl (by simpa using HN6.out) (by simp [Value.oneCell']) (by unfold maxLen; omega) (by omega) (by simp; omega) ?_; intro v' w7 hown7 hgr7 hnil7 hat7; obtain ⟨g7, cap7, rfl⟩ := own_form2 hown7; have HO7 := Lib.hid hown7; have HG7 := Lib.hid hgr7; have HAT7 := Lib.hid hat7; clear hown7 hgr7 hnil7 hat7)
          have h7 := FoundR.push HVL.out (fun j a t ha ht => (HSB.out j a t ha ht).kept (.below HB6.out)) HKF.out (HTA.out.kept (.below HB6.out)) HO7.out HG7.out HAT7.out
          have HF7 := Lib.hid h7.1
          have HK7 := Lib.hid ((HKK.out.trans (.below HB6.out)).row (v' := .slice (some ⟨g7, 0, none⟩) (acc.length + 1) cap7) (c := 1) HG7.out (fun k e => (HOW.out.lt k e).1) (fun k e => (HO7.out.lt k e).1))
          have hI7 := (HI4.out.below HB6.out).others h7.2 HG7.out.size
          clear h7 HO6 HN6 HOW HSB HKF HTA
          refine (ptake_any hI7 hi4).mono ?_
          rintro e w8 ⟨rfl, hI8, hK8⟩
          obtain ⟨T4, hT4⟩ : ∃ T4, Tm.peek c en s'.i = T4 := ⟨_, rfl⟩
          rw [hT4]
          have HT4 := Lib.hid hT4
          clear hT4 hI7
          have hT9 := Blk.new w8 48 #[.int .i64 T4.1, .string ⟨T4.2.1.toArray⟩, .int .i64 T4.2.2]
          have hB9 := (Below.refl w8.heap.size w8).alloc (Nat.le_refl _) (.cells #[.int .i64 T4.1, .string ⟨T4.2.1.toArray⟩, .int .i64 T4.2.2] 48)
          have HI9 := Lib.hid (hI8.below hB9)
          have HF9 := Lib.hid ((HF7.out.kept hK8).kept (.below hB9))
          have HK9 := Lib.hid ((HK7.out.trans hK8).trans (.below hB9))
          clear hI8 hK8
          by_cases h7 : T4.1 = 7
          · have h7b : (T4.1 != 7) = false := by rw [h7]; rfl
            have hE9 : Tm.nested (Tm.all c en f s'.next (acc ++ [s'.term])) = R := by rw [← HE.out, Tm.all_on HKZ.out HRD.out (by rw [HT4.out]; exact h7)]
            have HE9 := Lib.hid hE9
            clear h7 hE9 hB9
            go_wp2_with fail
            go_roundw
            case rel =>
              refine ⟨s'.next, acc ++ [s'.term], f, _, sv', _, HI9, HF9, HK9, by simp [Tm.S.next]; omega, by simp [Tm.S.next]; omega, by simp [Tm.S.next]; omega, by simp [Tm.S.next]; omega, Lib.hid ?_, HE9⟩
              intro t ht
              rcases List.mem_append.1 ht with h | h
              · exact HSA.out t h
              · obtain rfl := List.mem_singleton.1 h
                omega
            case measure =>
              have h1 := RInv.atI HI9.out
              have h2 := HCL.out
              simp only [Tm.S.next] at h1
              rw [h1, h2]
              omega
          · have h7b : (T4.1 != 7) = true := by rw [bne_iff_ne]; exact h7
            have HRES := Lib.hid (show R = .error (Tm.refusal T4) by rw [← HE.out, Tm.all_off HKZ.out HRD.out (by rw [HT4.out]; exact h7), HT4.out]; rfl)
            clear h7 hB9
            go_wp2_with fail
            refine (refusal_any _ _ _ _).mono ?_
            rintro e w10 ⟨rfl, hB10⟩
            have HB10 := Lib.hid hB10
            clear hB10
            go_wp2_with fail
            rw [← HP.out, HRES.out]
            exact ⟨rfl, rfl, _, HK9.out.trans (.below HB10.out)⟩
end Go.Proofs.YtaefonagbcnmdaaGreatDoor

namespace Go.Proofs.YtaefonagbcnmdaaGreatDoor
open Go.RowKit

/-- What lies in the results of Terms. -/
def Tm.Out (R : Except Tm.F (List Tm)) (a c : Int) (fv : Value) (w : World) : Prop :=
  match R with
  | .ok l => a = 0 ∧ c = 0 ∧ ∃ κ, Targs w κ fv l
  | .error f => fv = .slice none 0 0 ∧ a = f.1 ∧ c = f.2
/-- What Terms and Text leave. -/
def Tm.Post (w : World) (R : Except Tm.F (List Tm)) (e : Ending) (w' : World) : Prop :=
  Below w.heap.size w w' ∧ ∃ A n cap a c, e = .returned (.tuple #[.slice A n cap, .agg #[.int .i64 a, .int .i64 c]]) ∧ Tm.Out R a c (.slice A n cap) w'
theorem TokR.recolor_lt {w : World} {κ κ' : Nat → Nat} (h : ∀ b, b < w.heap.size → κ b = 0 → κ' b = 0) {v : Value} {ts : List Tm.T} (ht : TokR w κ v ts) : TokR w κ' v ts := by
  obtain ⟨A, cap, hv, hc, hi⟩ := ht
  refine ⟨A, cap, hv, hc, fun i t ht => ?_⟩
  obtain ⟨g, o, hA, hg, hk, x0, x1, x2⟩ := hi i t ht
  exact ⟨g, o, hA, hg, h g hg hk, x0, x1, x2⟩
set_option maxRecDepth 100000 in
set_option maxHeartbeats 4000000 in
theorem Terms_any (v : Value) (ts : List Tm.T) {κ0 : Nat → Nat} (w : World) (hn : ts.length ≤ 1000000) (hT : TokR w κ0 v ts) (hsz : ∀ t ∈ ts, t.2.1.length ≤ 65536) (hG : Glob w) :
    Calls Tryz.prog 32 #[v] w (Tm.Post w (Tm.terms ts)) := by
  obtain ⟨κ, hκ⟩ : ∃ κ : Nat → Nat, κ = aged w κ0 w.heap.size := ⟨_, rfl⟩
  have hk1 : ∀ b, κ b ≤ 1 := fun b => by rw [hκ]; unfold aged; split <;> omega
  have hkn : ∀ b, w.heap.size < b → κ b = 1 := fun b hb => by rw [hκ]; unfold aged; rw [if_neg (by omega)]
  have hT1 : TokR w κ v ts := hT.recolor_lt (fun b hb hb0 => by rw [hκ]; exact if_pos (.inr ⟨hb, hb0⟩))
  obtain ⟨A, cap, hv, -⟩ := hT
  subst hv
  clear hκ
  obtain ⟨R, hR⟩ : ∃ R, Tm.terms ts = R := ⟨_, rfl⟩
  rw [hR]
  obtain ⟨w3, hw3⟩ : ∃ w3, (((w.alloc (.cells #[.slice A ts.length cap] 43)).alloc (.cells #[.int .i64 0, .int .i64 0] 26)).alloc (.cells #[.slice none 0 0] 23)) = w3 := ⟨_, rfl⟩
  have hz3 : w3.heap.size = w.heap.size + 3 := by rw [← hw3]; simp
  have hB3 : Below w.heap.size w w3 := by rw [← hw3]; exact (((Below.refl _ w).alloc (Nat.le_refl _) _).alloc (by simp) _).alloc (by simp; omega) _
  have k0 : Blk w3 w.heap.size 43 #[.slice A ts.length cap] := by rw [← hw3]; exact ((Blk.new w _ _).alloc _).alloc _
  have k1 : Blk w3 (w.heap.size + 1) 26 #[.int .i64 0, .int .i64 0] := by
    rw [← hw3]
    have := (Blk.new (w.alloc (.cells #[.slice A ts.length cap] 43)) 26 #[.int .i64 0, .int .i64 0]).alloc (.cells #[.slice none 0 0] 23)
    rwa [World.size_alloc] at this
  have k2 : Blk w3 (w.heap.size + 1 + 1) 23 #[.slice none 0 0] := by
    rw [← hw3]
    have := Blk.new ((w.alloc (.cells #[.slice A ts.length cap] 43)).alloc (.cells #[.int .i64 0, .int .i64 0] 26)) 23 #[.slice none 0 0]
    rwa [World.size_alloc, World.size_alloc] at this
  have hmf : ∀ (fn : Fn) (first cap : Array Value) (w : World), (Instr.makeFunc fn first cap).run Tryz.prog w = .ok (.func fn first cap) w := fun _ _ _ _ => rfl
  have hB4 := hB3.alloc (by omega) (.cells #[.int .i64 0, .int .i64 0] 26)
  have hf := found_any (.slice A ts.length cap) ts w.heap.size (w.heap.size + 1 + 1) (w3.alloc (.cells #[.int .i64 0, .int .i64 0] 26)) hn (hT1.kept (.below hB4)) hsz (hG.below hB4 hG.lt) (k0.alloc _) (k2.alloc _) (hkn _ (by omega))
  rw [hR] at hf
  have hcall := caught_any 54 #[.pointer (some ⟨w.heap.size, 0, none⟩), .pointer (some ⟨w.heap.size + 1 + 1, 0, none⟩)] w3
    (fun W => ∃ l, R = .ok l ∧ ∃ κ' v', Targs W κ' v' l ∧ Blk W (w.heap.size + 1 + 1) 23 #[v'] ∧ KeptBut κ κ' (w3.alloc (.cells #[.int .i64 0, .int .i64 0] 26)) W (w.heap.size + 1 + 1))
    (fun a c W => R = .error (a, c) ∧ ∃ κ', Kept κ κ' (w3.alloc (.cells #[.int .i64 0, .int .i64 0] 26)) W)
    (fun w => by kernel_rfl)
    (by
      rintro a c W ⟨_, κ', hK⟩
      exact ((hK.block w3.heap.size (by simp) (hk1 _)).1).trans (Blk.new w3 _ _))
    (by
      rintro W ⟨l, _, κ', v', _, _, hK⟩
      exact ((hK.block w3.heap.size (by simp) (by omega) (hk1 _)).1).trans (Blk.new w3 _ _))
    (hf.mono (by
      intro e W hx
      cases R with
      | ok l =>
        obtain ⟨rfl, κ', v', h1, h2, h3⟩ := hx
        exact .inl ⟨rfl, l, rfl, κ', v', h1, h2, h3⟩
      | error f =>
        obtain ⟨rfl, κ', h1⟩ := hx
        exact .inr ⟨f.1, f.2, rfl, rfl, κ', h1⟩))
  have HC := Lib.hid hcall
  clear hf hcall
  have HZ3 := Lib.hid hz3
  have HK0 := Lib.hid k0
  have HK1 := Lib.hid k1
  have HK2 := Lib.hid k2
  clear hz3 k0 k1 k2 hG hsz hT1
  go_enter Tryz.func32, Tryz.ntmps32
  go_wp2_with fail
  refine HC.out.mono ?_
  rintro e w5 ⟨a, c, w1, rfl, hg, hx⟩
  have hz3 := HZ3.out
  have key : ∃ Af n cf, Blk w1 (w.heap.size + 1 + 1) 23 #[.slice Af n cf] ∧ Blk w1 (w.heap.size + 1) 26 #[.int .i64 0, .int .i64 0] ∧ Below w.heap.size w w1 ∧ w3.heap.size < w1.heap.size ∧
      ∀ w'', w1.heap.size ≤ w''.heap.size → (∀ b, b < w1.heap.size → b ≠ w3.heap.size → b ≠ w.heap.size + 1 → w''.heap[b]? = w1.heap[b]?) → Tm.Out R a c (.slice Af n cf) w'' := by
    rcases hx with ⟨rfl, rfl, l, rfl, κ', v', h1, h2, h3⟩ | ⟨rfl, κ', hK⟩
    · obtain ⟨Af, cf, rfl⟩ := h1.form
      have hs1 := h3.size
      rw [World.size_alloc] at hs1
      have e1 := h3.block (w.heap.size + 1) (by simp; omega) (by omega) (hk1 _)
      have e2 := h3.block w3.heap.size (by simp) (by omega) (hk1 _)
      refine ⟨Af, l.length, cf, h2, e1.1.trans (HK1.out.alloc _), ⟨h3.os.trans hB4.os, h3.tape.trans hB4.tape, h3.output.trans hB4.output, by omega, fun b hb => (h3.block b (by simp; omega) (by omega) (hk1 b)).1.trans (hB4.block b hb)⟩, by omega, fun w'' hs hb => ⟨rfl, rfl, κ', h1.firm ⟨hs, fun b hb1 hb0 => hb b hb1 ?_ ?_⟩⟩⟩
      · rintro rfl
        rw [e2.2, hkn _ (by omega)] at hb0
        cases hb0
      · rintro rfl
        rw [e1.2, hkn _ (by omega)] at hb0
        cases hb0
    · have hs1 := hK.size
      rw [World.size_alloc] at hs1
      have e1 := hK.block (w.heap.size + 1) (by simp; omega) (hk1 _)
      have e2 := hK.block (w.heap.size + 1 + 1) (by simp; omega) (hk1 _)
      exact ⟨none, 0, 0, e2.1.trans (HK2.out.alloc _), e1.1.trans (HK1.out.alloc _), ⟨hK.os.trans hB4.os, hK.tape.trans hB4.tape, hK.output.trans hB4.output, by omega, fun b hb => (hK.block b (by simp; omega) (hk1 b)).1.trans (hB4.block b hb)⟩, by omega, fun w'' hs hb => ⟨rfl, rfl, rfl⟩⟩
  obtain ⟨Af, n, cf, b2, b1, hB1, hw1, hout⟩ := key
  have hgs := hg.size
  have hb2 := b2.grown hg (fun e => by rw [Option.some.injEq] at e; omega)
  have hb1 := b1.grown hg (fun e => by rw [Option.some.injEq] at e; omega)
  have hB5 : Below w.heap.size w w5 := hB1.grown hg hB1.size (fun k e => by cases e; omega)
  have hl2 := hb2.lt
  have hl1 := hb1.lt
  obtain ⟨p0, q0, q1⟩ : w5.cell? ⟨w.heap.size + 1 + 1, 0, none⟩ = some (.slice Af n cf) ∧ w5.cell? ⟨w.heap.size + 1, 0, none⟩ = some (.int .i64 0) ∧ w5.cell? ⟨w.heap.size + 1, 1, none⟩ = some (.int .i64 0) := ⟨by simpa using hb2.cell 0, by simpa using hb1.cell 0, by simpa using hb1.cell 1⟩
  have nf1 := hb1.frozen
  have hn5 : w.heap.size + 1 ≠ w5.heap.size := by omega
  have hn5' := hn5.symm
  have HB1 := Lib.hid hb1
  have HB5 := Lib.hid hB5
  have HOUT := Lib.hid hout
  have HGR := Lib.hid hg
  clear hx hz3 b2 b1 hB1 hb2 hb1 hB5 hout hB3 hB4 hg hw3
  go_wp2_with fail
  go_region
  have hBW := ((((HB1.out.put 0 (.int .i64 a)).put 1 (.int .i64 c)).alloc (.cells #[.int .i64 a, .int .i64 c] 26)).drew)
  have hWB := (((HB5.out.setCell (p := ⟨w.heap.size + 1, 0, none⟩) (by simp) (.int .i64 a)).setCell (p := ⟨w.heap.size + 1, 1, none⟩) (by simp) (.int .i64 c)).alloc (by simp; omega) (.cells #[.int .i64 a, .int .i64 c] 26)).drew
  have hWO := HOUT.out ((((w5.setCell ⟨w.heap.size + 1, 0, none⟩ (.int .i64 a)).setCell ⟨w.heap.size + 1, 1, none⟩ (.int .i64 c)).alloc (.cells #[.int .i64 a, .int .i64 c] 26)).drew) (by simp; omega) (fun b hb hne1 hne2 =>
    ((Below.heap_alloc _ _ _ (by simp; omega)).trans ((Below.heap_setCell _ _ _ _ hne2).trans (Below.heap_setCell _ _ _ _ hne2))).trans (HGR.out.block b hb (fun e => by rw [Option.some.injEq] at e; omega)))
  generalize ((((w5.setCell ⟨w.heap.size + 1, 0, none⟩ (.int .i64 a)).setCell ⟨w.heap.size + 1, 1, none⟩ (.int .i64 c)).alloc (.cells #[.int .i64 a, .int .i64 c] 26)).drew) = W at *
  obtain ⟨d0, d1⟩ : W.cell? ⟨w.heap.size + 1, 0, none⟩ = some (.int .i64 a) ∧ W.cell? ⟨w.heap.size + 1, 1, none⟩ = some (.int .i64 c) := ⟨by simpa using hBW.cell 0, by simpa using hBW.cell 1⟩
  go_wp2_with fail
  exact bodyPost_ret (v := .tuple #[.slice Af n cf, .agg #[.int .i64 a, .int .i64 c]]) (by simp [results, Tryz.results32, go_sem, d0, d1]) rfl ⟨hWB, Af, n, cf, a, c, rfl, hWO⟩
end Go.Proofs.YtaefonagbcnmdaaGreatDoor

namespace Go.Proofs.YtaefonagbcnmdaaGreatDoor
open Go.RowKit

/-! Tokens of a text (a pure part of A30, A31, A32). -/
def Tk.at_ (ts : List Tk.T) (i : Nat) : Tk.T := ts.getD i (0, [], 0)
theorem Tk.at_eq {ts : List Tk.T} {i : Nat} (h : i < ts.length) : Tk.at_ ts i = ts[i] := by simp [Tk.at_, List.getD_eq_getElem?_getD, h]
theorem Tk.flat_get : ∀ {ts : List Tk.T} {i : Nat} {t : Tk.T}, ts[i]? = some t → (Tk.flat ts)[i * 3]? = some (.int .i64 t.1) ∧ (Tk.flat ts)[i * 3 + 1]? = some (.string ⟨t.2.1.toArray⟩) ∧ (Tk.flat ts)[i * 3 + 2]? = some (.int .i64 (t.2.2 : Int))
  | [], i, t, h => by simp at h
  | a :: r, 0, t, h => by
    simp at h
    subst h
    exact ⟨rfl, rfl, rfl⟩
  | a :: r, i + 1, t, h => by
    have ih := Tk.flat_get (ts := r) (i := i) (t := t) (by simpa using h)
    have e : ∀ j, (Tk.flat (a :: r))[(i + 1) * 3 + j]? = (Tk.flat r)[i * 3 + j]? := fun j => by
      have : Tk.flat (a :: r) = [.int .i64 a.1, .string ⟨a.2.1.toArray⟩, .int .i64 (a.2.2 : Int)] ++ Tk.flat r := rfl
      rw [this, List.getElem?_append_right (by simp; omega)]
      congr 1
      simp; omega
    exact ⟨(e 0).trans ih.1, (e 1).trans ih.2.1, (e 2).trans ih.2.2⟩

theorem Tk.read_kind {l : List UInt8} {a en : Nat} {b : Bool} {k : Int} {t : List UInt8} {z : Nat} (h : Tk.read l a en b = .tok k t z) : k ≠ 0 := by
  unfold Tk.read at h
  split at h
  · simp only [Tk.R.tok.injEq] at h; omega
  split at h
  · simp only [Tk.R.tok.injEq] at h; omega
  split at h
  · have := Tk.readChar_ok h; omega
  split at h
  · simp only [Tk.R.tok.injEq] at h; omega
  split at h
  · simp only [Tk.readSigns] at h
    repeat' split at h
    all_goals (simp only [Tk.R.tok.injEq, reduceCtorEq] at h; try omega)
  split at h
  · simp only [Tk.R.tok.injEq] at h; omega
  split at h
  · simp only [Tk.R.tok.injEq] at h; omega
  split at h
  · have := Tk.enc_ok (Tk.readName_ok h).1 (by simp); omega
  split at h
  · have := Tk.enc_ok h (by simp); omega
  split at h
  · simp only [Tk.R.tok.injEq] at h; omega
  · cases h

/-- Tokens that have been read in front of an index. -/
def Tk.Good (acc : List Tk.T) (a : Nat) : Prop :=
  (∀ t ∈ acc, Tk.check t.1 t.2.1 = 0 ∧ t.1 ≠ 0 ∧ t.2.1.length ≤ 65536 ∧ t.2.2 < a) ∧ acc.Pairwise (fun x y => x.2.2 < y.2.2)
theorem Tk.Good.more {acc : List Tk.T} {a b : Nat} (h : Tk.Good acc a) (hab : a ≤ b) : Tk.Good acc b :=
  ⟨fun t ht => by have := h.1 t ht; exact ⟨this.1, this.2.1, this.2.2.1, by omega⟩, h.2⟩
theorem Tk.Good.snoc {acc : List Tk.T} {a z : Nat} {t : Tk.T} (h : Tk.Good acc a) (ha : a ≤ t.2.2) (hz : t.2.2 < z) (h1 : Tk.check t.1 t.2.1 = 0) (h2 : t.1 ≠ 0) (h3 : t.2.1.length ≤ 65536) : Tk.Good (acc ++ [t]) z := by
  refine ⟨fun x hx => ?_, ?_⟩
  · rcases List.mem_append.1 hx with hx | hx
    · have := h.1 x hx; exact ⟨this.1, this.2.1, this.2.2.1, by omega⟩
    · obtain rfl := List.mem_singleton.1 hx
      exact ⟨h1, h2, h3, hz⟩
  · rw [List.pairwise_append]
    refine ⟨h.2, by simp, fun x hx y hy => ?_⟩
    obtain rfl := List.mem_singleton.1 hy
    have := h.1 x hx
    omega
theorem Tk.toks_good {l : List UInt8} (hl : l.length ≤ 65536) : ∀ {f a en : Nat} {b : Bool} {acc ts : List Tk.T}, Tk.toks f l a en b acc = .ok ts → Tk.Good acc a → a ≤ l.length → (Tk.skipped l a).1 ≤ l.length →
    (∀ k, k ≤ l.length → (Tk.skipped l k).1 ≤ l.length) → ∃ acc', ts = acc' ++ [(0, [], l.length)] ∧ Tk.Good acc' l.length
  | 0, a, en, b, acc, ts, h, _, _, _, _ => by simp [Tk.toks] at h
  | f + 1, a, en, b, acc, ts, h, hg, ha, hs, hall => by
    have hge := Tk.skip_ge (l := l) (l.length + 1) a
    rw [show Tk.skip (l.length + 1) l a = Tk.skipped l a from rfl] at hge
    rw [Tk.toks] at h
    split at h
    · split at h
      · simp only [Except.ok.injEq] at h
        exact ⟨acc, h.symm, hg.more ha⟩
      · rename_i hne
        have hlt : (Tk.skipped l a).1 < l.length := by omega
        split at h
        · cases h
        · rename_i k t z hr
          obtain ⟨hz1, hz2, hz3⟩ := Tk.read_ok hl hlt hr
          split at h
          · rename_i hc
            exact Tk.toks_good hl h (hg.snoc hge hz1 hc (Tk.read_kind hr) hz3) hz2 (hall z hz2) hall
          · cases h
    · cases h
theorem Tk.com_le {l : List UInt8} {b : Nat} : ∀ (f k : Nat), k ≤ l.length → (Tk.com f l b k).1 ≤ l.length
  | 0, k, h => h
  | f + 1, k, h => by
    rw [Tk.com]
    split
    · split
      · rename_i hp
        have := prefix_len hp
        simp at this ⊢
        omega
      · split
        · exact Tk.com_le f (k + 1) (by omega)
        · exact h
    · exact h
theorem Tk.skip_le {l : List UInt8} : ∀ (f k : Nat), k ≤ l.length → (Tk.skip f l k).1 ≤ l.length
  | 0, k, h => h
  | f + 1, k, h => by
    rw [Tk.skip]
    split
    · split
      · exact Tk.skip_le f (k + 1) (by omega)
      · split
        · split
          · exact Tk.skip_le f _ (Tk.lineEnd_le h)
          · exact Tk.lineEnd_le h
        · split
          · rename_i hp
            have h2 : k + 2 ≤ l.length := by have := prefix_len hp; simp at this; omega
            have h3 : (Tk.comment l k).1 ≤ l.length := Tk.com_le _ _ h2
            split
            · exact Tk.skip_le f _ h3
            · exact h3
          · exact h
    · exact h
theorem Tk.tokens_good {l : List UInt8} {ts : List Tk.T} (h : Tk.tokens l = .ok ts) : ∃ acc, ts = acc ++ [(0, [], l.length)] ∧ Tk.Good acc l.length := by
  unfold Tk.tokens at h
  split at h
  · cases h
  · have hall : ∀ k, k ≤ l.length → (Tk.skipped l k).1 ≤ l.length := fun k hk => Tk.skip_le _ k hk
    exact Tk.toks_good (by omega) h ⟨by simp, by simp⟩ (by omega) (hall 0 (by omega)) hall

/-- What the statement asks of a list of tokens. -/
structure Tk.Fine (ts : List Tk.T) (n : Nat) : Prop where
  pos : 0 < ts.length
  last : (Tk.at_ ts (ts.length - 1)).2.2 = n
  check : ∀ i, i < ts.length → Tk.check (Tk.at_ ts i).1 (Tk.at_ ts i).2.1 = 0
  kind : ∀ i, i < ts.length → (((Tk.at_ ts i).1 == 0) = decide (i = ts.length - 1))
  len : ∀ i, i < ts.length → (Tk.at_ ts i).2.1.length ≤ 65536
  up : ∀ j, j + 1 < ts.length → (Tk.at_ ts j).2.2 < (Tk.at_ ts (j + 1)).2.2
theorem Tk.tokens_fine {l : List UInt8} {ts : List Tk.T} (h : Tk.tokens l = .ok ts) : Tk.Fine ts l.length := by
  obtain ⟨acc, rfl, hg⟩ := Tk.tokens_good h
  have hl : (acc ++ [((0, [], l.length) : Tk.T)]).length = acc.length + 1 := by simp
  have hin : ∀ i, i < acc.length → Tk.at_ (acc ++ [((0, [], l.length) : Tk.T)]) i ∈ acc := fun i hi => by
    rw [Tk.at_eq (by omega), List.getElem_append_left hi]
    exact List.getElem_mem hi
  have hlast : Tk.at_ (acc ++ [((0, [], l.length) : Tk.T)]) acc.length = (0, [], l.length) := by
    rw [Tk.at_eq (by omega), List.getElem_append_right (Nat.le_refl _)]
    simp
  refine ⟨by omega, by rw [hl, Nat.add_sub_cancel, hlast], fun i hi => ?_, fun i hi => ?_, fun i hi => ?_, fun j hj => ?_⟩
  · by_cases h : i < acc.length
    · exact (hg.1 _ (hin i h)).1
    · obtain rfl : i = acc.length := by omega
      rw [hlast]; rfl
  · by_cases h : i < acc.length
    · have := (hg.1 _ (hin i h)).2.1
      rw [decide_eq_false (by omega)]
      simpa using this
    · obtain rfl : i = acc.length := by omega
      rw [hlast, decide_eq_true (by omega)]; rfl
  · by_cases h : i < acc.length
    · exact (hg.1 _ (hin i h)).2.2.1
    · obtain rfl : i = acc.length := by omega
      rw [hlast]; simp
  · by_cases h : j + 1 < acc.length
    · rw [Tk.at_eq (by omega), Tk.at_eq (by omega), List.getElem_append_left (by omega), List.getElem_append_left h]
      exact List.pairwise_iff_getElem.1 hg.2 j (j + 1) (by omega) h (by omega)
    · have he : j + 1 = acc.length := by omega
      rw [he, hlast]
      exact (hg.1 _ (hin j (by omega))).2.2.2

theorem Tk.Fine.ge {ts : List Tk.T} {n : Nat} (h : Tk.Fine ts n) : ∀ i, i < ts.length → i ≤ (Tk.at_ ts i).2.2
  | 0, _ => Nat.zero_le _
  | i + 1, hi => by
    have := Tk.Fine.ge h i (by omega)
    have := h.up i hi
    omega
theorem Tk.Fine.size {ts : List Tk.T} {n : Nat} (h : Tk.Fine ts n) : ts.length ≤ n + 1 := by
  have := h.ge (ts.length - 1) (by have := h.pos; omega)
  rw [h.last] at this
  omega
theorem Tk.toks_bad {l : List UInt8} (hl : l.length ≤ 65536) : ∀ {f a en : Nat} {b : Bool} {acc : List Tk.T} {x : Nat × Int}, Tk.toks f l a en b acc = .error x → a ≤ l.length → l.length + 1 - a < f → x.2 ≠ 0
  | 0, a, en, b, acc, x, h, _, hf => by omega
  | f + 1, a, en, b, acc, x, h, ha, hf => by
    have hge := Tk.skip_ge (l := l) (l.length + 1) a
    rw [show Tk.skip (l.length + 1) l a = Tk.skipped l a from rfl] at hge
    have hle : (Tk.skipped l a).1 ≤ l.length := Tk.skip_le _ a ha
    rw [Tk.toks] at h
    split at h
    · split at h
      · cases h
      · rename_i hne
        have hlt : (Tk.skipped l a).1 < l.length := by omega
        split at h
        · rename_i p c hr
          simp only [Except.error.injEq] at h
          subst h
          exact Tk.read_bad hr
        · rename_i k t z hr
          obtain ⟨hz1, hz2, hz3⟩ := Tk.read_ok hl hlt hr
          split at h
          · exact Tk.toks_bad hl h hz2 (by omega)
          · rename_i hc
            simp only [Except.error.injEq] at h
            subst h
            exact hc
    · rename_i hc
      simp only [Except.error.injEq] at h
      subst h
      exact hc
theorem Tk.tokens_bad {l : List UInt8} {x : Nat × Int} (h : Tk.tokens l = .error x) : x.2 ≠ 0 := by
  unfold Tk.tokens at h
  split at h
  · simp only [Except.error.injEq] at h
    subst h
    decide
  · exact Tk.toks_bad (by omega) h (by omega) (by omega)

theorem tokens_all (s : ByteArray) (w : World) (hG : Glob w) :
    Calls Tryz.prog 31 #[.string s] w (Tk.TPost (Tk.tokens s.data.toList) w) := by
  unfold Tk.tokens
  rw [size_data]
  by_cases h : 65536 < s.size
  · rw [if_pos h]; exact tokens_long s w h
  · rw [if_neg h]; exact tokens_any s w (by omega) hG

end Go.Proofs.YtaefonagbcnmdaaGreatDoor

namespace Go.Proofs.YtaefonagbcnmdaaGreatDoor
open Go.RowKit

/-- A token as the reader of terms has it. -/
def Tm.tok (t : Tk.T) : Tm.T := (t.1, t.2.1, (t.2.2 : Int))
/-- What Text answers. -/
def Tm.text (l : List UInt8) : Except Tm.F (List Tm) :=
  match Tk.tokens l with
  | .error x => .error ((x.1 : Int), x.2)
  | .ok ts => Tm.terms (ts.map Tm.tok)
theorem TokR.of_own {w : World} {B : Nat} {v : Value} {ts : List Tk.T} (h : w.ownsRow B 48 3 v ts.length (Tk.flat ts)) : TokR w (fun _ => 0) v (ts.map Tm.tok) := by
  rcases h.2 with ⟨rfl, h0⟩ | ⟨g, cap, cur, rfl, hb, hh, hc, _⟩
  · have : ts = [] := List.eq_nil_of_length_eq_zero h0
    subst this
    exact ⟨none, 0, rfl, Nat.le_refl _, fun i t ht => by simp at ht⟩
  · refine ⟨some ⟨g, 0, none⟩, cap, by rw [List.length_map], by rw [List.length_map]; exact hc, fun i t ht => ⟨g, 0, rfl, Blk.lt (cs := cur) (t := 48) hh, rfl, ?_⟩⟩
    rw [List.getElem?_map] at ht
    obtain ⟨u, hu, rfl⟩ := Option.map_eq_some_iff.1 ht
    have hcell := h.cells (g := g) rfl
    have hp : ∀ j, (⟨g, 0, none⟩ : Addr).add j = ⟨g, 0 + j, none⟩ := fun j => by unfold Addr.add; split <;> simp_all
    obtain ⟨f0, f1, f2⟩ := Tk.flat_get hu
    have c0 := hcell _ _ f0
    have c1 := hcell _ _ f1
    have c2 := hcell _ _ f2
    rw [hp] at c0 c1 c2
    exact ⟨c0, by rw [Nat.add_assoc]; exact c1, by rw [Nat.add_assoc]; exact c2⟩
/-- A block of two ints holds no terms. -/
theorem Targs.apart {w : World} {κ : Nat → Nat} {v : Value} {ts : List Tm} (ht : Targs w κ v ts) {B : Nat} {tid : TypeId} {x y : Int} (hb : Blk w B tid #[.int .i64 x, .int .i64 y]) : Targs w (fun b => if b = B then 1 else κ b) v ts := by
  induction ht with
  | nil A cap => exact .nil A cap
  | mk g o cap ts vs hl hc hg hk cells sub ih =>
    cases ts with
    | nil => exact .nil _ _
    | cons t r =>
      have hne : g ≠ B := by
        rintro rfl
        cases vs with
        | nil => simp at hl
        | cons u us =>
          have h1 := cells 1 (.string ⟨t.name.toArray⟩) rfl
          rw [hb.cell] at h1
          match o, h1 with
          | 0, h1 => simp at h1
          | o + 1, h1 => simp at h1
      exact .mk g o cap _ vs hl hc hg (by simp only [if_neg hne]; exact hk) cells ih
set_option maxRecDepth 100000 in
set_option maxHeartbeats 4000000 in
theorem text_error (s : ByteArray) (w : World) (hG : Glob w) (x : Nat × Int) (hx : Tk.tokens s.data.toList = .error x) :
    Calls Tryz.prog 12 #[.string s] w (Tm.Post w (.error ((x.1 : Int), x.2))) := by
  have hne : (x.2 != 0) = true := by rw [bne_iff_ne]; exact Tk.tokens_bad hx
  have HX := Lib.hid hx
  have hgl := hG.lt
  have hBa := (Below.refl w.heap.size w).alloc (Nat.le_refl _) (.cells #[.int .i64 0, .int .i64 0] 26)
  have HB := Lib.hid hBa
  have HG := Lib.hid (hG.below hBa hgl)
  have k1 := Blk.new w 26 #[.int .i64 0, .int .i64 0]
  have HK := Lib.hid k1
  clear hx hBa k1 hG
  go_enter Tryz.func12, Tryz.ntmps12
  go_wp2_with fail
  refine (tokens_all s _ HG.out).mono ?_
  intro e w1 hp
  rw [HX.out] at hp
  obtain ⟨rfl, hB1⟩ := hp
  unfold Tk.fauV
  have hb1 := HK.out.below hB1 (by simp)
  obtain ⟨q0, q1⟩ : w1.cell? ⟨w.heap.size, 0, none⟩ = some (.int .i64 0) ∧ w1.cell? ⟨w.heap.size, 1, none⟩ = some (.int .i64 0) := ⟨by simpa using hb1.cell 0, by simpa using hb1.cell 1⟩
  have nf := hb1.frozen
  have hl := hb1.lt
  have hn5 : w.heap.size ≠ w1.heap.size := by omega
  have hn5' := hn5.symm
  have HB1 := Lib.hid (HB.out.trans (hB1.mono (by simp)))
  have HKB := Lib.hid hb1
  clear hb1 hB1
  go_wp2_with fail
  go_region
  have hBW := ((((HKB.out.put 0 (.int .i64 x.1)).put 1 (.int .i64 x.2)).alloc (.cells #[.int .i64 x.1, .int .i64 x.2] 26)).drew)
  have hWB := (((HB1.out.setCell (p := ⟨w.heap.size, 0, none⟩) (Nat.le_refl _) (.int .i64 x.1)).setCell (p := ⟨w.heap.size, 1, none⟩) (Nat.le_refl _) (.int .i64 x.2)).alloc (by simp; omega) (.cells #[.int .i64 x.1, .int .i64 x.2] 26)).drew
  generalize ((((w1.setCell ⟨w.heap.size, 0, none⟩ (.int .i64 x.1)).setCell ⟨w.heap.size, 1, none⟩ (.int .i64 x.2)).alloc (.cells #[.int .i64 x.1, .int .i64 x.2] 26)).drew) = W at *
  obtain ⟨d0, d1⟩ : W.cell? ⟨w.heap.size, 0, none⟩ = some (.int .i64 x.1) ∧ W.cell? ⟨w.heap.size, 1, none⟩ = some (.int .i64 x.2) := ⟨by simpa using hBW.cell 0, by simpa using hBW.cell 1⟩
  go_wp2_with fail
  exact bodyPost_ret (v := .tuple #[.slice none 0 0, .agg #[.int .i64 x.1, .int .i64 x.2]]) (by simp [results, Tryz.results12, go_sem, d0, d1]) rfl ⟨hWB, none, 0, 0, x.1, x.2, rfl, rfl, rfl, rfl⟩
set_option maxRecDepth 100000 in
set_option maxHeartbeats 4000000 in
theorem text_ok (s : ByteArray) (w : World) (hG : Glob w) (ts : List Tk.T) (hx : Tk.tokens s.data.toList = .ok ts) (hs : s.size ≤ 65536) :
    Calls Tryz.prog 12 #[.string s] w (Tm.Post w (Tm.terms (ts.map Tm.tok))) := by
  have hfine := Tk.tokens_fine hx
  have hlen : ts.length ≤ 1000000 := by
    have := hfine.size
    have h2 := size_data s
    omega
  have hsz : ∀ t ∈ ts.map Tm.tok, t.2.1.length ≤ 65536 := by
    intro t ht
    obtain ⟨u, hu, rfl⟩ := List.mem_map.1 ht
    obtain ⟨i, hi, rfl⟩ := List.getElem_of_mem hu
    have := hfine.len i hi
    rw [Tk.at_eq hi] at this
    exact this
  have HSZ := Lib.hid hsz
  have HX := Lib.hid hx
  have hgl := hG.lt
  have hBa := (Below.refl w.heap.size w).alloc (Nat.le_refl _) (.cells #[.int .i64 0, .int .i64 0] 26)
  have HB := Lib.hid hBa
  have HG := Lib.hid hG
  have HG1 := Lib.hid (hG.below hBa hgl)
  have k1 := Blk.new w 26 #[.int .i64 0, .int .i64 0]
  have HK := Lib.hid k1
  obtain ⟨R, hR⟩ : ∃ R, Tm.terms (ts.map Tm.tok) = R := ⟨_, rfl⟩
  have HR := Lib.hid hR
  rw [hR]
  clear hx hBa k1 hG hfine hsz hR
  go_enter Tryz.func12, Tryz.ntmps12
  go_wp2_with fail
  refine (tokens_all s _ HG1.out).mono ?_
  intro e w1 hp
  rw [HX.out] at hp
  obtain ⟨v, rfl, hown, hB1⟩ := hp
  unfold Tk.fauV
  have hT := TokR.of_own hown
  have hb1 := HK.out.below hB1 (by simp)
  have hB2 := HB.out.trans (hB1.mono (by simp))
  have hB3 := hB2.alloc hB2.size (.cells #[.int .i64 0, .int .i64 0] 26)
  have hb3 := hb1.alloc (.cells #[.int .i64 0, .int .i64 0] 26)
  have HT := Lib.hid (hT.kept (.below ((Below.refl w1.heap.size w1).alloc (Nat.le_refl _) (.cells #[.int .i64 0, .int .i64 0] 26))))
  obtain ⟨A, cap, rfl⟩ := own_slice hown
  have HB3 := Lib.hid hB3
  have HK3 := Lib.hid hb3
  clear hT hb1 hB2 hB3 hb3 hown hB1
  go_wp2_with fail
  refine (Terms_any _ (ts.map Tm.tok) _ (by rw [List.length_map]; exact hlen) HT.out HSZ.out (HG.out.below HB3.out hgl)).mono ?_
  rw [HR.out]
  rintro e w5 ⟨hB5, A5, n5, c5, a, c, rfl, hout⟩
  have hb5 := HK3.out.below hB5 (by have := HK3.out.lt; omega)
  have hB6 := HB3.out.trans (hB5.mono HB3.out.size)
  obtain ⟨q0, q1⟩ : w5.cell? ⟨w.heap.size, 0, none⟩ = some (.int .i64 0) ∧ w5.cell? ⟨w.heap.size, 1, none⟩ = some (.int .i64 0) := ⟨by simpa using hb5.cell 0, by simpa using hb5.cell 1⟩
  have nf := hb5.frozen
  have hl := hb5.lt
  have HB6 := Lib.hid hB6
  have HB5 := Lib.hid hb5
  have HOUT := Lib.hid hout
  clear hb5 hB6 hB5 hout
  go_wp2_with fail
  have hBW := ((HB5.out.put 0 (.int .i64 a)).put 1 (.int .i64 c))
  have hWB := ((HB6.out.setCell (p := ⟨w.heap.size, 0, none⟩) (Nat.le_refl _) (.int .i64 a)).setCell (p := ⟨w.heap.size, 1, none⟩) (Nat.le_refl _) (.int .i64 c))
  have hWO : Tm.Out R a c (.slice A5 n5 c5) ((w5.setCell ⟨w.heap.size, 0, none⟩ (.int .i64 a)).setCell ⟨w.heap.size, 1, none⟩ (.int .i64 c)) := by
    have ho := HOUT.out
    cases R with
    | error f => exact ho
    | ok l =>
      obtain ⟨h1, h2, κ, h3⟩ := ho
      refine ⟨h1, h2, _, (h3.apart HB5.out).firm ⟨by simp, fun b hb hb0 => ?_⟩⟩
      have hne : b ≠ w.heap.size := fun e => by
        subst e
        simp at hb0
      exact (Below.heap_setCell _ _ _ _ hne).trans (Below.heap_setCell _ _ _ _ hne)
  generalize ((w5.setCell ⟨w.heap.size, 0, none⟩ (.int .i64 a)).setCell ⟨w.heap.size, 1, none⟩ (.int .i64 c)) = W at *
  obtain ⟨d0, d1⟩ : W.cell? ⟨w.heap.size, 0, none⟩ = some (.int .i64 a) ∧ W.cell? ⟨w.heap.size, 1, none⟩ = some (.int .i64 c) := ⟨by simpa using hBW.cell 0, by simpa using hBW.cell 1⟩
  exact bodyPost_ret (v := .tuple #[.slice A5 n5 c5, .agg #[.int .i64 a, .int .i64 c]]) (by simp [results, Tryz.results12, go_sem, d0, d1]) rfl ⟨hWB, A5, n5, c5, a, c, rfl, hWO⟩
/-- What Text answers to any text. -/
theorem text_terms (s : ByteArray) (w : World) (hG : Glob w) : Calls Tryz.prog 12 #[.string s] w (Tm.Post w (Tm.text s.data.toList)) := by
  unfold Tm.text
  cases h : Tk.tokens s.data.toList with
  | error x => exact text_error s w hG x h
  | ok ts =>
    refine text_ok s w hG ts h ?_
    unfold Tk.tokens at h
    split at h
    · cases h
    · rw [size_data] at *; omega
end Go.Proofs.YtaefonagbcnmdaaGreatDoor

namespace Go.Proofs.YtaefonagbcnmdaaGreatDoor
open Go.RowKit

def Tm.law : List UInt8 := [97, 32, 58, 45, 32, 98, 44, 32, 99, 46, 32, 120, 32, 45, 32, 40, 45, 49, 41, 46]
def Tm.law0 : Tm := Tm.app [58, 45] 2 [Tm.app [97] 0 [], Tm.app [44] 6 [Tm.app [98] 5 [], Tm.app [99] 8 []]]
def Tm.law1 : Tm := Tm.app [45] 13 [Tm.app [120] 11 [], .mk 1 [] (-1) [] 16]
theorem law_terms : Tm.text Tm.law = .ok [Tm.law0, Tm.law1] := by kernel_rfl
set_option maxRecDepth 100000 in
set_option maxHeartbeats 2000000 in
theorem awake_any (w : World) (hG : Glob w) :
    Calls Tryz.prog 11 #[] w fun e w' => e = .returned (.bool true) ∧ Below w.heap.size w w' := by
  go_enter Tryz.func11, Tryz.ntmps11
  go_wp2_with fail
  refine (text_terms ⟨Tm.law.toArray⟩ _ hG).mono ?_
  intro e w1 hp
  rw [show ({ data := Tm.law.toArray } : ByteArray).data.toList = Tm.law from rfl, law_terms] at hp
  obtain ⟨hB, A, n, cap, a, c, rfl, rfl, rfl, κ, hT⟩ := hp
  obtain ⟨A', cap', hv⟩ := hT.form
  rw [Value.slice.injEq] at hv
  obtain ⟨rfl, rfl, rfl⟩ := hv
  obtain ⟨g, o, a0, rfl, hcap, hg, -, h0, c0, c1, c2, c3, c4⟩ := hT.elem (k := 0) (t := Tm.law0) rfl
  obtain ⟨g', o', a1, hA, -, -, -, h1, d0, d1, d2, d3, d4⟩ := hT.elem (k := 1) (t := Tm.law1) rfl
  rw [Option.some.injEq, Addr.mk.injEq] at hA
  obtain ⟨rfl, rfl, -⟩ := hA
  obtain ⟨A0, k0, rfl⟩ := h0.form
  obtain ⟨A1, k1, rfl⟩ := h1.form
  obtain ⟨g0, o0, b0, rfl, hcap0, hg0, -, -, -, e1, -, -, -⟩ := h0.elem (k := 1) (t := Tm.app [44] 6 [Tm.app [98] 5 [], Tm.app [99] 8 []]) rfl
  obtain ⟨g1, o1, b1, rfl, hcap1, hg1, -, -, -, -, f2, -, -⟩ := h1.elem (k := 1) (t := .mk 1 [] (-1) [] 16) rfl
  have x1 : w1.cell? ⟨g, o + 1, none⟩ = some (.string ⟨#[58, 45]⟩) := c1
  have x3 : w1.cell? ⟨g, o + 3, none⟩ = some (.slice (some ⟨g0, o0, none⟩) 2 k0) := c3
  have y3 : w1.cell? ⟨g, o + 5 + 3, none⟩ = some (.slice (some ⟨g1, o1, none⟩) 2 k1) := d3
  have z1 : w1.cell? ⟨g0, o0 + 5 + 1, none⟩ = some (.string ⟨#[44]⟩) := e1
  have z2 : w1.cell? ⟨g1, o1 + 5 + 2, none⟩ = some (.int .i64 (-1)) := f2
  have hc2 : 2 ≤ cap := hcap
  have hc0 : 2 ≤ k0 := hcap0
  have hc1 : 2 ≤ k1 := hcap1
  have HB := Lib.hid hB
  clear c0 c1 c2 c3 c4 d0 d1 d2 d3 d4 e1 f2 hT h0 h1 hcap hcap0 hcap1 hB
  rw [show [Tm.law0, Tm.law1].length = 2 from rfl]
  have hgn : g ≠ w1.heap.size := by omega
  have hgn0 : g0 ≠ w1.heap.size := by omega
  have hgn1 : g1 ≠ w1.heap.size := by omega
  have HB2 := Lib.hid (HB.out.alloc HB.out.size (.cells #[.int .i64 0, .int .i64 0] 26))
  go_wp2_with fail
  exact bodyPost_ret (v := .bool true) (by simp [results, Tryz.results11, go_sem]) rfl ⟨rfl, HB2.out⟩
end Go.Proofs.YtaefonagbcnmdaaGreatDoor

