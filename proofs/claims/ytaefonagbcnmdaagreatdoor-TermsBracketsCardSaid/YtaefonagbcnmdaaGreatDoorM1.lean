import Derived.Test.YtaefonagbcnmdaaGreatDoorGA
import Derived.Maps.AppendAt
import Derived.StillTailTactics
import Derived.Deep.RegionLaw
import Derived.Deep.RegionWith
import Derived.IntWalk
set_option linter.unusedSimpArgs false
set_option linter.unusedVariables false
namespace Go.Proofs.YtaefonagbcnmdaaGreatDoor
open Go.RowKit

/-! The reader of terms, as functions on lists. -/
/-- A term: kind, name, number, arguments, place. -/
inductive Tm where
  | mk (kind : Int) (name : List UInt8) (num : Int) (args : List Tm) (at_ : Int)
def Tm.kind : Tm → Int | .mk k _ _ _ _ => k
def Tm.name : Tm → List UInt8 | .mk _ n _ _ _ => n
def Tm.num : Tm → Int | .mk _ _ m _ _ => m
def Tm.args : Tm → List Tm | .mk _ _ _ l _ => l
def Tm.at_ : Tm → Int | .mk _ _ _ _ a => a
def Tm.zero : Tm := .mk 0 [] 0 [] 0
/-- A token: kind, text, place. -/
abbrev Tm.T := Int × List UInt8 × Int
def Tm.row (n : List UInt8) : Int × Int :=
  if n ∈ ([[58, 45], [45, 45, 62]] : List (List UInt8)) then (1200, 0) else
  if n ∈ ([[45, 45, 45, 62]] : List (List UInt8)) then (1179, 0) else
  if n ∈ ([[61, 61], [119, 104, 101, 114, 101]] : List (List UInt8)) then (1175, 0) else
  if n ∈ ([[101, 108, 115, 101]] : List (List UInt8)) then (1170, 1) else
  if n ∈ ([[116, 104, 101, 110]] : List (List UInt8)) then (1150, 0) else
  if n ∈ ([[59]] : List (List UInt8)) then (1100, 1) else
  if n ∈ ([[45, 62]] : List (List UInt8)) then (1050, 1) else
  if n ∈ ([[38]] : List (List UInt8)) then (1025, 1) else
  if n ∈ ([[44]] : List (List UInt8)) then (1000, 1) else
  if n ∈ ([[60, 61]] : List (List UInt8)) then (920, 1) else
  if n ∈ ([[105, 115]] : List (List UInt8)) then (701, 0) else
  if n ∈ ([[61], [92, 61], [60], [62], [61, 60], [62, 61]] : List (List UInt8)) then (700, 0) else
  if n ∈ ([[58, 58]] : List (List UInt8)) then (680, 0) else
  if n ∈ ([[58, 61]] : List (List UInt8)) then (650, 0) else
  if n ∈ ([[43, 43]] : List (List UInt8)) then (500, 1) else
  if n ∈ ([[43], [45]] : List (List UInt8)) then (500, 2) else
  if n ∈ ([[42], [47], [47, 47], [109, 111, 100], [62, 62]] : List (List UInt8)) then (400, 2) else
  if n ∈ ([[94]] : List (List UInt8)) then (99, 1) else
  (0, 0)
def Tm.left (p k : Int) : Int := if k == 2 then p else p - 1
def Tm.right (p k : Int) : Int := if k == 1 then p else p - 1
/-- Priority, and the greatest ones of its sides. -/
def Tm.infx (n : List UInt8) : Int × Int × Int := if (Tm.row n).1 == 0 then (0, 0, 0) else ((Tm.row n).1, Tm.left (Tm.row n).1 (Tm.row n).2, Tm.right (Tm.row n).1 (Tm.row n).2)
def Tm.prefix_ (n : List UInt8) : Int × Int × Bool :=
  if n ∈ ([[58, 45]] : List (List UInt8)) then (1200, 1199, false) else
  if n ∈ ([[109, 111, 100, 117, 108, 101], [101, 110, 100, 95, 109, 111, 100, 117, 108, 101], [105, 109, 112, 111, 114, 116, 95, 109, 111, 100, 117, 108, 101], [116, 121, 112, 101], [105, 110, 115, 116], [109, 111, 100, 101], [116, 121, 112, 101, 99, 108, 97, 115, 115], [105, 110, 115, 116, 97, 110, 99, 101], [112, 114, 111, 109, 105, 115, 101]] : List (List UInt8)) then (1199, 1198, false) else
  if n ∈ ([[105, 102]] : List (List UInt8)) then (1160, 1159, false) else
  if n ∈ ([[115, 111, 109, 101]] : List (List UInt8)) then (950, 950, true) else
  if n ∈ ([[92, 43], [110, 111, 116]] : List (List UInt8)) then (900, 900, false) else
  if n ∈ ([[112, 114, 101, 100], [102, 117, 110, 99]] : List (List UInt8)) then (800, 799, false) else
  if n ∈ ([[45], [43]] : List (List UInt8)) then (500, 499, false) else
  (0, 0, false)
def Tm.punct (t : Tm.T) : List UInt8 := if t.1 == 6 then t.2.1 else []
def Tm.code (k : Int) : Int := if k == 0 then 12 else 11
/-- The fault of a token that cannot stand where it does. -/
def Tm.refusal (t : Tm.T) : Int × Int := (t.2.2, Tm.code t.1)
def Tm.infixOf (t : Tm.T) : Int × Int × Int := if Tm.punct t == [44] || (t.1 == 1 && t.2.1 != [44]) then Tm.infx t.2.1 else (0, 0, 0)
def Tm.standsFirst (t : Tm.T) : Bool := (decide (1 ≤ t.1) && decide (t.1 ≤ 5)) || (Tm.punct t == [40] || Tm.punct t == [91] || Tm.punct t == [123])
def Tm.beginsOperand (t : Tm.T) : Bool := if 0 < (Tm.infixOf t).1 then decide (0 < (Tm.prefix_ t.2.1).1) else Tm.standsFirst t
def Tm.isBang (n : List UInt8) : Bool := n == [33] || n == [33, 46] || n == [33, 58]
def Tm.isVar (t : Tm) : Bool := t.kind == 0
/-- Whether a name may have these arguments. -/
def Tm.suits (n : List UInt8) (l : List Tm) : Bool :=
  if n == [123, 125] then l.length == 1 else if n == [91, 124, 93] then l.length == 2 else if n == [91, 93] then l.length == 0
  else if n == [33, 46] then (match l with | [t] => t.isVar | _ => false) else true
def Tm.maxArgs (n : List UInt8) (l : List Tm) : Nat := if n == [99, 97, 108, 108] && (match l with | t :: _ => t.isVar | [] => false) then 33 else 32
def Tm.app (n : List UInt8) (a : Int) (l : List Tm) : Tm := .mk 4 n 0 l a
def Tm.variable_ (t : Tm.T) : Tm := .mk 0 t.2.1 0 [] t.2.2
/-- The number of a text of digits. -/
def Tm.digits (l : List UInt8) : Int := l.foldl (fun n c => 10 * n + ((c.toNat : Int) - 48)) 0
/-- An open term. -/
structure Tm.O where
  kind : Int
  most : Int
  name : List UInt8
  at_ : Int
  parts : List Tm
  places : List Int
  need : Int
  last : Int
  prio : Int
/-- The reader: the index of the next token, the open terms (the innermost one first), the term that was completed last, its priority. -/
structure Tm.S where
  i : Nat
  stack : List Tm.O
  term : Tm
  prio : Int
abbrev Tm.F := Int × Int
section
variable (ts : List Tm.T) (en : Tm.T)
def Tm.peek (i : Nat) : Tm.T := ts.getD i en
def Tm.S.push (s : Tm.S) (o : Tm.O) : Tm.S := { s with stack := o :: s.stack }
def Tm.S.have_ (s : Tm.S) (t : Tm) : Tm.S := { s with term := t, prio := 0 }
def Tm.S.next (s : Tm.S) : Tm.S := { s with i := s.i + 1 }
def Tm.S.most (s : Tm.S) : Int := match s.stack with | o :: _ => o.most | [] => 0
def Tm.opn (kind most : Int) (name : List UInt8) (at_ : Int) (parts : List Tm) (places : List Int) : Tm.O := ⟨kind, most, name, at_, parts, places, 0, 0, 0⟩
/-- t: the token of the beginning, which has been taken. -/
def Tm.beginVariable (s : Tm.S) (t : Tm.T) : Tm.S × Bool :=
  if Tm.punct (Tm.peek ts en s.i) == [40, 40] then (s.next.push (Tm.opn 2 999 [99, 97, 108, 108] t.2.2 [Tm.variable_ t] []), false) else (s.have_ (Tm.variable_ t), true)
def Tm.beginBracket (s : Tm.S) (t : Tm.T) : Tm.S × Bool :=
  if t.2.1 == [40] then (s.push (Tm.opn 3 1200 [] 0 [] []), false)
  else if t.2.1 == [123] then (s.push (Tm.opn 4 1200 [] t.2.2 [] []), false)
  else if Tm.punct (Tm.peek ts en s.i) == [93] then (s.next.have_ (Tm.app [91, 93] t.2.2 []), true)
  else (s.push (Tm.opn 5 999 [] 0 [] [(Tm.peek ts en s.i).2.2]), false)
def Tm.beginName (s : Tm.S) (t : Tm.T) : Except Tm.F (Tm.S × Bool) :=
  let n := Tm.peek ts en s.i
  if Tm.punct n == [40, 40] then .ok (s.next.push (Tm.opn 2 999 t.2.1 t.2.2 [] []), false)
  else if t.2.1 == [45] && n.1 == 3 then .ok (s.next.have_ (.mk 1 [] (- Tm.digits n.2.1) [] t.2.2), true)
  else if Tm.isBang t.2.1 && n.1 == 2 then .ok (s.next.have_ (Tm.app t.2.1 t.2.2 [Tm.variable_ n]), true)
  else
    let r := Tm.prefix_ t.2.1
    if r.1 == 0 || decide (s.most < r.1) || !Tm.beginsOperand n then
      (if Tm.suits t.2.1 [] then .ok (s.have_ (Tm.app t.2.1 t.2.2 []), true) else .error (t.2.2, 11))
    else .ok (s.push ⟨1, if r.2.2 then 0 else r.2.1, t.2.1, t.2.2, [], [], if r.2.2 then 2 else 1, r.2.1, r.1⟩, false)
def Tm.full (s : Tm.S) : Bool := match s.stack with | o :: _ => o.kind == 2 && o.parts.length == Tm.maxArgs o.name o.parts | [] => false
def Tm.begin_ (s : Tm.S) : Except Tm.F (Tm.S × Bool) :=
  let t := Tm.peek ts en s.i
  if !Tm.standsFirst t then .error (Tm.refusal t)
  else if Tm.full s then .error (t.2.2, 6)
  else if t.1 == 1 then Tm.beginName ts en s.next t
  else if t.1 == 2 then .ok (Tm.beginVariable ts en s.next t)
  else if t.1 == 3 then .ok (s.next.have_ (.mk 1 [] (Tm.digits t.2.1) [] t.2.2), true)
  else if t.1 == 4 then .ok (s.next.have_ (.mk 2 [] ((t.2.1.getD 0 0).toNat : Int) [] t.2.2), true)
  else if t.1 == 5 then .ok (s.next.have_ (.mk 3 t.2.1 0 [] t.2.2), true)
  else .ok (Tm.beginBracket ts en s.next t)
def Tm.pushInfix (s : Tm.S) : Tm.S × Bool :=
  let t := Tm.peek ts en s.i
  let r := Tm.infixOf t
  if r.1 == 0 || decide (s.most < r.1) || decide (r.2.1 < s.prio) then (s, false)
  else (s.next.push ⟨1, r.2.2, t.2.1, t.2.2, [s.term], [], 2, r.2.2, r.1⟩, true)
/-- The list of elements that begin at these places, with an end. -/
def Tm.list (l : List Tm) (places : List Int) (e : Tm) : Tm := (l.zip places).foldr (fun x e => Tm.app [91, 124, 93] x.2 [x.1, e]) e
/-- What stands behind a part of the innermost open term: the index of the next token, the open term as it goes on, and the term if it is complete. -/
def Tm.goOn (i : Nat) (o : Tm.O) : Except Tm.F (Nat × Tm.O × Option Tm) :=
  let n := Tm.peek ts en i
  let whole := o.parts.getD 0 Tm.zero
  if o.kind == 1 then .ok (i, { o with most := o.last }, if (o.parts.length : Int) == o.need then some (Tm.app o.name o.at_ o.parts) else none)
  else if o.kind == 2 then
    if Tm.punct n == [44] then .ok (i + 1, o, none)
    else if Tm.punct n == [41] then (if Tm.suits o.name o.parts then .ok (i + 1, o, some (Tm.app o.name o.at_ o.parts)) else .error (o.at_, 11))
    else .error (Tm.refusal n)
  else if o.kind == 3 then (if Tm.punct n == [41] then .ok (i + 1, o, some whole) else .error (Tm.refusal n))
  else if o.kind == 4 then (if Tm.punct n == [125] then .ok (i + 1, o, some (Tm.app [123, 125] o.at_ o.parts)) else .error (Tm.refusal n))
  else if o.kind == 5 then
    if Tm.punct n == [44] then .ok (i + 1, { o with places := o.places ++ [(Tm.peek ts en (i + 1)).2.2] }, none)
    else if Tm.punct n == [124] then .ok (i + 1, { o with kind := 6 }, none)
    else if Tm.punct n == [93] then .ok (i + 1, o, some (Tm.list o.parts o.places (Tm.app [91, 93] n.2.2 [])))
    else .error (Tm.refusal n)
  else if o.kind == 6 then
    if Tm.punct n == [93] then .ok (i + 1, o, some (Tm.list o.parts.dropLast o.places (o.parts.getLastD Tm.zero))) else .error (Tm.refusal n)
  else .ok (i, o, some whole)
def Tm.give (s : Tm.S) : Except Tm.F (Tm.S × Bool) :=
  match s.stack with
  | [] => .ok (s, false)
  | o :: r =>
    match Tm.goOn ts en s.i { o with parts := o.parts ++ [s.term] } with
    | .error f => .error f
    | .ok (i, o', none) => .ok ({ s with i := i, stack := o' :: r }, false)
    | .ok (i, o', some t) => .ok (⟨i, r, t, o'.prio⟩, true)
/-- A term is complete: it is given to those around it as long as it completes them. -/
def Tm.climb : Nat → Tm.S → Except Tm.F Tm.S
  | 0, s => .ok s
  | f + 1, s =>
    match s.stack with
    | [] => .ok s
    | _ =>
      match Tm.pushInfix ts en s with
      | (s', true) => .ok s'
      | (s', false) =>
        match Tm.give ts en s' with
        | .error x => .error x
        | .ok (s2, true) => Tm.climb f s2
        | .ok (s2, false) => .ok s2
def Tm.loop : Nat → Tm.S → Except Tm.F Tm.S
  | 0, s => .ok s
  | f + 1, s =>
    match s.stack with
    | [] => .ok s
    | _ =>
      match Tm.begin_ ts en s with
      | .error x => .error x
      | .ok (s', false) => Tm.loop f s'
      | .ok (s', true) =>
        match Tm.climb ts en (s'.stack.length + 1) s' with
        | .error x => .error x
        | .ok s2 => Tm.loop f s2
def Tm.read (s : Tm.S) : Except Tm.F Tm.S := Tm.loop ts en (ts.length + 2) (s.push (Tm.opn 0 1200 [] 0 [] []))
end
/-- The terms of tokens in front of the end, each with a stop behind it. -/
def Tm.all (ts : List Tm.T) (en : Tm.T) : Nat → Tm.S → List Tm → Except Tm.F (List Tm)
  | 0, _, acc => .ok acc
  | f + 1, s, acc =>
    if (Tm.peek ts en s.i).1 == 0 then .ok acc
    else match Tm.read ts en s with
      | .error x => .error x
      | .ok s' =>
        let t := Tm.peek ts en s'.i
        if t.1 == 7 then Tm.all ts en f s'.next (acc ++ [s'.term]) else .error (Tm.refusal t)
def Tm.start : Tm.S := ⟨0, [], Tm.zero, 0⟩
/-- The example of the law. -/
def Tm.sample : List Tm.T := [(1, [97], 0), (1, [58, 45], 2), (1, [98], 5), (6, [44], 6), (1, [99], 8), (7, [46], 9), (1, [120], 11), (1, [45], 13), (6, [40], 15), (1, [45], 16), (3, [49], 17), (6, [41], 18), (7, [46], 19)]
end Go.Proofs.YtaefonagbcnmdaaGreatDoor

namespace Go.Proofs.YtaefonagbcnmdaaGreatDoor
open Go.RowKit

/-! Terms in memory. Each block has a colour: 0: what nobody writes any more (terms, tokens); 1: what others own; 2: the reader; 3: the row of its open terms; 4 + 2 i and 5 + 2 i: the parts and the places of the open term i. -/
/-- The cells of terms; vs: the values of their arguments. -/
def Tm.flat : List Tm → List Value → List Value
  | t :: ts, a :: vs => .int .i64 t.kind :: .string ⟨t.name.toArray⟩ :: .int .i64 t.num :: a :: .int .i64 t.at_ :: Tm.flat ts vs
  | _, _ => []
theorem Tm.flat_len : ∀ {ts : List Tm} {vs : List Value}, vs.length = ts.length → (Tm.flat ts vs).length = ts.length * 5
  | [], [], _ => rfl
  | [], _ :: _, h => by simp at h
  | _ :: _, [], h => by simp at h
  | t :: ts, a :: vs, h => by
    have := Tm.flat_len (ts := ts) (vs := vs) (by simpa using h)
    simp only [Tm.flat, List.length_cons, this]; omega
theorem Tm.flat_snoc (t : Tm) (a : Value) : ∀ {ts : List Tm} {vs : List Value}, vs.length = ts.length → Tm.flat (ts ++ [t]) (vs ++ [a]) = Tm.flat ts vs ++ [.int .i64 t.kind, .string ⟨t.name.toArray⟩, .int .i64 t.num, a, .int .i64 t.at_]
  | [], [], _ => rfl
  | [], _ :: _, h => by simp at h
  | _ :: _, [], h => by simp at h
  | x :: ts, b :: vs, h => by
    have := Tm.flat_snoc t a (ts := ts) (vs := vs) (by simpa using h)
    simp only [List.cons_append, Tm.flat, this]
theorem Tm.flat_get : ∀ {ts : List Tm} {vs : List Value} {i : Nat} {t : Tm} {a : Value}, ts[i]? = some t → vs[i]? = some a →
    (Tm.flat ts vs)[i * 5]? = some (.int .i64 t.kind) ∧ (Tm.flat ts vs)[i * 5 + 1]? = some (.string ⟨t.name.toArray⟩) ∧ (Tm.flat ts vs)[i * 5 + 2]? = some (.int .i64 t.num) ∧ (Tm.flat ts vs)[i * 5 + 3]? = some a ∧ (Tm.flat ts vs)[i * 5 + 4]? = some (.int .i64 t.at_)
  | [], _, i, t, a, h, _ => by simp at h
  | _ :: _, [], i, t, a, _, h => by simp at h
  | x :: ts, b :: vs, 0, t, a, h, h' => by
    simp at h h'
    subst h; subst h'
    exact ⟨rfl, rfl, rfl, rfl, rfl⟩
  | x :: ts, b :: vs, i + 1, t, a, h, h' => by
    have ih := Tm.flat_get (ts := ts) (vs := vs) (i := i) (t := t) (a := a) (by simpa using h) (by simpa using h')
    have e : (i + 1) * 5 = i * 5 + 5 := by omega
    rw [e]
    exact ih

/-- A slice that reads vs terms, for good. -/
inductive Targs (w : World) (κ : Nat → Nat) : Value → List Tm → Prop
  | nil (A : Option Addr) (cap : Nat) : Targs w κ (.slice A 0 cap) []
  | mk (g o cap : Nat) (ts : List Tm) (vs : List Value) (hl : vs.length = ts.length) (hc : ts.length ≤ cap) (hg : g < w.heap.size) (hk : κ g = 0)
      (cells : ∀ (j : Nat) u, (Tm.flat ts vs)[j]? = some u → w.cell? ⟨g, o + j, none⟩ = some u)
      (sub : ∀ (i : Nat) a t, vs[i]? = some a → ts[i]? = some t → Targs w κ a t.args) : Targs w κ (.slice (some ⟨g, o, none⟩) ts.length cap) ts

/-- What is kept: the blocks of colours 0 and 1. -/
structure Kept (κ κ' : Nat → Nat) (w w' : World) : Prop where
  os : w'.os = w.os
  tape : w'.tape = w.tape
  output : w'.output = w.output
  size : w.heap.size ≤ w'.heap.size
  block : ∀ b, b < w.heap.size → κ b ≤ 1 → w'.heap[b]? = w.heap[b]? ∧ κ' b = κ b
theorem Kept.refl (κ : Nat → Nat) (w : World) : Kept κ κ w w := ⟨rfl, rfl, rfl, Nat.le_refl _, fun _ _ _ => ⟨rfl, rfl⟩⟩
theorem Kept.trans {κ κ1 κ2 : Nat → Nat} {w w1 w2 : World} (h : Kept κ κ1 w w1) (k : Kept κ1 κ2 w1 w2) : Kept κ κ2 w w2 :=
  ⟨k.os.trans h.os, k.tape.trans h.tape, k.output.trans h.output, Nat.le_trans h.size k.size, fun b hb hk => by
    obtain ⟨e1, e2⟩ := h.block b hb hk
    obtain ⟨e3, e4⟩ := k.block b (Nat.lt_of_lt_of_le hb h.size) (by omega)
    exact ⟨e3.trans e1, e4.trans e2⟩⟩
theorem Kept.of_grown {κ : Nat → Nat} {w w' : World} {row : Option Nat} (h : w.grownBy w' row) (hr : ∀ k, row = some k → 1 < κ k) : Kept κ κ w w' :=
  ⟨h.os, h.tape, h.output, h.size, fun b hb hk => ⟨h.block b hb (fun e => by have := hr b e.symm; omega), rfl⟩⟩
theorem Kept.below {κ : Nat → Nat} {w w' : World} (h : Below w.heap.size w w') : Kept κ κ w w' := ⟨h.os, h.tape, h.output, h.size, fun b hb _ => ⟨h.block b hb, rfl⟩⟩
/-- Seen from outside. -/
theorem Kept.toBelow {κ κ' : Nat → Nat} {w w' : World} (h : Kept κ κ' w w') {B : Nat} (hB : B ≤ w.heap.size) (hk : ∀ b, b < B → κ b ≤ 1) : Below B w w' :=
  ⟨h.os, h.tape, h.output, h.size, fun b hb => (h.block b (by omega) (hk b hb)).1⟩
theorem Targs.kept {κ κ' : Nat → Nat} {w w' : World} (h : Kept κ κ' w w') {v : Value} {ts : List Tm} (ht : Targs w κ v ts) : Targs w' κ' v ts := by
  induction ht with
  | nil A cap => exact .nil A cap
  | mk g o cap ts vs hl hc hg hk cells sub ih =>
    obtain ⟨e1, e2⟩ := h.block g hg (by omega)
    exact .mk g o cap ts vs hl hc (Nat.lt_of_lt_of_le hg h.size) (by omega) (fun j u hu => (World.cell?_of_block (a := ⟨g, o + j, none⟩) e1).trans (cells j u hu)) ih
theorem Targs.form {κ : Nat → Nat} {w : World} {v : Value} {ts : List Tm} (h : Targs w κ v ts) : ∃ A cap, v = .slice A ts.length cap := by
  cases h with
  | nil A cap => exact ⟨A, cap, rfl⟩
  | mk g o cap ts vs hl hc hg hk cells sub => exact ⟨_, cap, rfl⟩

/-- A slice that reads vs tokens, for good. -/
def TokR (w : World) (κ : Nat → Nat) (v : Value) (ts : List Tm.T) : Prop :=
  ∃ A cap, v = .slice A ts.length cap ∧ ts.length ≤ cap ∧ ∀ i t, ts[i]? = some t → ∃ g o, A = some ⟨g, o, none⟩ ∧ g < w.heap.size ∧ κ g = 0 ∧
    w.cell? ⟨g, o + i * 3, none⟩ = some (.int .i64 t.1) ∧ w.cell? ⟨g, o + i * 3 + 1, none⟩ = some (.string ⟨t.2.1.toArray⟩) ∧ w.cell? ⟨g, o + i * 3 + 2, none⟩ = some (.int .i64 t.2.2)
theorem TokR.kept {κ κ' : Nat → Nat} {w w' : World} (h : Kept κ κ' w w') {v : Value} {ts : List Tm.T} (ht : TokR w κ v ts) : TokR w' κ' v ts := by
  obtain ⟨A, cap, hv, hc, hi⟩ := ht
  refine ⟨A, cap, hv, hc, fun i t ht => ?_⟩
  obtain ⟨g, o, hA, hg, hk, h0, h1, h2⟩ := hi i t ht
  obtain ⟨e1, e2⟩ := h.block g hg (by omega)
  exact ⟨g, o, hA, Nat.lt_of_lt_of_le hg h.size, by omega, (World.cell?_of_block (a := ⟨g, _, none⟩) e1).trans h0, (World.cell?_of_block (a := ⟨g, _, none⟩) e1).trans h1, (World.cell?_of_block (a := ⟨g, _, none⟩) e1).trans h2⟩

/-- An open term with the values of its parts and places. -/
abbrev Tm.E := Tm.O × Value × Value
def Tm.cells (e : Tm.E) : List Value := [.int .i64 e.1.kind, .int .i64 e.1.most, .string ⟨e.1.name.toArray⟩, .int .i64 e.1.at_, e.2.1, e.2.2, .int .i64 e.1.need, .int .i64 e.1.last, .int .i64 e.1.prio]
/-- The cells of the stack: the outermost open term first. -/
def Tm.rows : List Tm.E → List Value
  | [] => []
  | e :: r => Tm.rows r ++ Tm.cells e
theorem Tm.rows_len : ∀ es : List Tm.E, (Tm.rows es).length = es.length * 9
  | [] => rfl
  | e :: r => by
    have := Tm.rows_len r
    simp only [Tm.rows, List.length_append, this, List.length_cons, Tm.cells, List.length_nil]; omega
structure OpenR (w : World) (κ : Nat → Nat) (B i : Nat) (e : Tm.E) : Prop where
  parts : ∃ vs : List Value, vs.length = e.1.parts.length ∧ w.ownsRow B 32 5 e.2.1 e.1.parts.length (Tm.flat e.1.parts vs) ∧ ∀ (j : Nat) a t, vs[j]? = some a → e.1.parts[j]? = some t → Targs w κ a t.args
  kp : ∀ k, e.2.1.ownBlock = some k → κ k = 4 + 2 * i
  places : w.ownsRow B 3 1 e.2.2 e.1.places.length (e.1.places.map (.int .i64))
  kq : ∀ k, e.2.2.ownBlock = some k → κ k = 5 + 2 * i
def Ents (w : World) (κ : Nat → Nat) (B : Nat) : List Tm.E → Prop
  | [] => True
  | e :: r => OpenR w κ B r.length e ∧ Ents w κ B r
/-- What has these colours is vs it was. -/
def Stays (κ κ' : Nat → Nat) (w w' : World) (P : Nat → Prop) : Prop := ∀ b, b < w.heap.size → P (κ b) → w'.heap[b]? = w.heap[b]? ∧ κ' b = κ b
theorem own_stays {κ κ' : Nat → Nat} {w w' : World} {P : Nat → Prop} (h : Stays κ κ' w w' P) {B : Nat} {e : TypeId} {size n : Nat} {v : Value} {xs : List Value} (hown : w.ownsRow B e size v n xs) {c : Nat} (hc : ∀ k, v.ownBlock = some k → κ k = c) (hP : P c) :
    w'.ownsRow B e size v n xs ∧ ∀ k, v.ownBlock = some k → κ' k = c := by
  constructor
  · refine ⟨hown.1, hown.2.imp id ?_⟩
    rintro ⟨g, cap, cur, rfl, hb, hg, hr⟩
    have hk := hc g rfl
    exact ⟨g, cap, cur, rfl, hb, ((h g (Array.getElem?_eq_some_iff.1 hg).1 (by rw [hk]; exact hP)).1).trans hg, hr⟩
  · intro k hk
    have h1 := hown.lt k hk
    have h2 := hc k hk
    have := (h k h1.2 (by rw [h2]; exact hP)).2
    omega
theorem OpenR.stays {κ κ' : Nat → Nat} {w w' : World} {P : Nat → Prop} (h : Stays κ κ' w w' P) (hK : Kept κ κ' w w') {B i : Nat} {e : Tm.E} (he : OpenR w κ B i e) (h4 : P (4 + 2 * i)) (h5 : P (5 + 2 * i)) : OpenR w' κ' B i e := by
  obtain ⟨⟨vs, hl, hown, hs⟩, hkp, hq, hkq⟩ := he
  obtain ⟨o1, o2⟩ := own_stays h hown hkp h4
  obtain ⟨o3, o4⟩ := own_stays h hq hkq h5
  exact ⟨⟨vs, hl, o1, fun j a t ha ht => (hs j a t ha ht).kept hK⟩, o2, o3, o4⟩
theorem Ents.stays {κ κ' : Nat → Nat} {w w' : World} {P : Nat → Prop} (h : Stays κ κ' w w' P) (hK : Kept κ κ' w w') {B : Nat} : ∀ {es : List Tm.E}, Ents w κ B es → (∀ i, i < es.length → P (4 + 2 * i) ∧ P (5 + 2 * i)) → Ents w' κ' B es
  | [], _, _ => trivial
  | e :: r, ⟨h1, h2⟩, hP => ⟨h1.stays h hK (hP r.length (by simp)).1 (hP r.length (by simp)).2, Ents.stays h hK h2 (fun i hi => hP i (by simp; omega))⟩

/-- The reader: block g. -/
structure RInv (w : World) (κ : Nat → Nat) (g : Nat) (ts : List Tm.T) (en : Tm.T) (s : Tm.S) (es : List Tm.E) (tv sv av : Value) : Prop where
  blk : Blk w g 106 #[tv, .int .i64 s.i, .int .i64 en.1, .string ⟨en.2.1.toArray⟩, .int .i64 en.2.2, sv, .int .i64 s.term.kind, .string ⟨s.term.name.toArray⟩, .int .i64 s.term.num, av, .int .i64 s.term.at_, .int .i64 s.prio]
  kg : κ g = 2
  toks : TokR w κ tv ts
  own : w.ownsRow (g + 1) 110 9 sv es.length (Tm.rows es)
  ks : ∀ k, sv.ownBlock = some k → κ k = 3
  ents : Ents w κ (g + 1) es
  term : Targs w κ av s.term.args
  stack : s.stack = es.map (·.1)
  hi : s.i ≤ ts.length + 1
  hn : ts.length ≤ 1000000
  hes : es.length ≤ s.i + 1
  hp : ∀ e ∈ es, e.1.parts.length ≤ s.i + 1 ∧ e.1.places.length ≤ s.i + 1
/-- New blocks alone. -/
theorem RInv.below {w w' : World} {κ : Nat → Nat} {g : Nat} {ts : List Tm.T} {en : Tm.T} {s : Tm.S} {es : List Tm.E} {tv sv av : Value} (h : RInv w κ g ts en s es tv sv av) (hb : Below w.heap.size w w') : RInv w' κ g ts en s es tv sv av := by
  have hK : Kept κ κ w w' := .below hb
  have hS : Stays κ κ w w' (fun _ => True) := fun b hb' _ => ⟨hb.block b hb', rfl⟩
  exact ⟨h.blk.below hb h.blk.lt, h.kg, h.toks.kept hK, (own_stays hS h.own h.ks trivial).1, h.ks, h.ents.stays hS hK (fun _ _ => ⟨trivial, trivial⟩), h.term.kept hK, h.stack, h.hi, h.hn, h.hes, h.hp⟩
section
variable {w w' : World} {κ κ' : Nat → Nat} {g : Nat} {ts : List Tm.T} {en : Tm.T} {s : Tm.S} {es : List Tm.E} {tv sv av : Value}
theorem Stays.of_grown {row : Option Nat} (h : w.grownBy w' row) {c : Nat} (hr : ∀ k, row = some k → κ k = c) : Stays κ κ w w' (fun x => x ≠ c) :=
  fun b hb hP => ⟨h.block b hb (fun e => hP (hr b e.symm)), rfl⟩
/-- The reader's own block has changed: all else is as it was. -/
theorem RInv.self (h : RInv w κ g ts en s es tv sv av) (hg : w.grownBy w' (some g)) : Kept κ κ w w' ∧ TokR w' κ tv ts ∧ w'.ownsRow (g + 1) 110 9 sv es.length (Tm.rows es) ∧ Ents w' κ (g + 1) es ∧ Targs w' κ av s.term.args := by
  have hK : Kept κ κ w w' := .of_grown hg (fun k e => by cases e; rw [h.kg]; decide)
  have hS : Stays κ κ w w' (fun x => x ≠ 2) := .of_grown hg (fun k e => by cases e; exact h.kg)
  exact ⟨hK, h.toks.kept hK, (own_stays hS h.own h.ks (by decide)).1, h.ents.stays hS hK (fun i _ => ⟨by omega, by omega⟩), h.term.kept hK⟩
theorem RInv.moved (h : RInv w κ g ts en s es tv sv av) (hg : w.grownBy w' (some g))
    (hb : Blk w' g 106 #[tv, .int .i64 ((s.i : Int) + 1), .int .i64 en.1, .string ⟨en.2.1.toArray⟩, .int .i64 en.2.2, sv, .int .i64 s.term.kind, .string ⟨s.term.name.toArray⟩, .int .i64 s.term.num, av, .int .i64 s.term.at_, .int .i64 s.prio])
    (hi : s.i ≤ ts.length) : RInv w' κ g ts en s.next es tv sv av ∧ Kept κ κ w w' := by
  obtain ⟨hK, h1, h2, h3, h4⟩ := h.self hg
  exact ⟨⟨by simpa [Tm.S.next] using hb, h.kg, h1, h2, h.ks, h3, h4, h.stack, by simp [Tm.S.next]; omega, h.hn, by have := h.hes; simp [Tm.S.next]; omega, fun e he => by have := h.hp e he; simp [Tm.S.next]; omega⟩, hK⟩
theorem RInv.next (h : RInv w κ g ts en s es tv sv av) (hi : s.i ≤ ts.length) : RInv (w.setCell ⟨g, 1, none⟩ (.int .i64 ((s.i : Int) + 1))) κ g ts en s.next es tv sv av := by
  obtain ⟨hK, h1, h2, h3, h4⟩ := h.self (gb_set (gb_refl w (some g)) (.inl rfl) (p := ⟨g, 1, none⟩) (.int .i64 ((s.i : Int) + 1)))
  exact ⟨by simpa [Tm.S.next] using h.blk.put 1 (.int .i64 ((s.i : Int) + 1)), h.kg, h1, h2, h.ks, h3, h4, h.stack, by simp [Tm.S.next]; omega, h.hn, by have := h.hes; simp [Tm.S.next]; omega, fun e he => by have := h.hp e he; simp [Tm.S.next]; omega⟩
end
end Go.Proofs.YtaefonagbcnmdaaGreatDoor

namespace Go.Proofs.YtaefonagbcnmdaaGreatDoor
open Go.RowKit

section
variable {w : World} {κ : Nat → Nat} {g : Nat} {ts : List Tm.T} {en : Tm.T} {s : Tm.S} {es : List Tm.E} {tv sv av : Value}
theorem RInv.facts (h : RInv w κ g ts en s es tv sv av) : g < w.heap.size ∧ w.cell? ⟨g, 0, none⟩ = some tv ∧ w.cell? ⟨g, 1, none⟩ = some (.int .i64 s.i) ∧ w.cell? ⟨g, 2, none⟩ = some (.int .i64 en.1) ∧ w.cell? ⟨g, 3, none⟩ = some (.string ⟨en.2.1.toArray⟩) ∧
    w.cell? ⟨g, 4, none⟩ = some (.int .i64 en.2.2) ∧ w.cell? ⟨g, 5, none⟩ = some sv ∧ w.cell? ⟨g, 11, none⟩ = some (.int .i64 s.prio) ∧ w.frozen? ⟨g, 1, none⟩ = false :=
  ⟨h.blk.lt, by simpa using h.blk.cell 0, by simpa using h.blk.cell 1, by simpa using h.blk.cell 2, by simpa using h.blk.cell 3, by simpa using h.blk.cell 4, by simpa using h.blk.cell 5, by simpa using h.blk.cell 11, h.blk.frozen 1⟩
end
/-- A token as a value. -/
def Tm.tokV (t : Tm.T) : Value := .agg #[.int .i64 t.1, .string ⟨t.2.1.toArray⟩, .int .i64 t.2.2]
theorem Tm.peek_at {ts : List Tm.T} {en : Tm.T} {i : Nat} (h : i < ts.length) : Tm.peek ts en i = ts[i] := getD_at h
theorem Tm.peek_end {ts : List Tm.T} {en : Tm.T} {i : Nat} (h : ts.length ≤ i) : Tm.peek ts en i = en := by simp [Tm.peek, List.getD_eq_getElem?_getD, h]

theorem drewN_below {B : Nat} {a w : World} (h : Below B a w) (n : Nat) : Below B a (w.drewN n) := ⟨h.os, h.tape, h.output, h.size, h.block⟩
set_option maxRecDepth 100000 in
set_option maxHeartbeats 1000000 in
theorem peek_any {w : World} {κ : Nat → Nat} {g : Nat} {ts : List Tm.T} {en : Tm.T} {s : Tm.S} {es : List Tm.E} {tv sv av : Value} (h : RInv w κ g ts en s es tv sv av) :
    Calls Tryz.prog 55 #[.pointer (some ⟨g, 0, none⟩)] w fun e w' => e = .returned (.agg #[.int .i64 (Tm.peek ts en s.i).1, .string ⟨(Tm.peek ts en s.i).2.1.toArray⟩, .int .i64 (Tm.peek ts en s.i).2.2]) ∧ Below w.heap.size w w' := by
  obtain ⟨hgl, c0, c1, c2, c3, c4, _, _, _⟩ := h.facts
  have hn := h.hn
  obtain ⟨A, cap, rfl, hcap, hT⟩ := h.toks
  by_cases hlt : s.i < ts.length
  · have hpk : Tm.peek ts en s.i = ts[s.i] := Tm.peek_at hlt
    rw [hpk]
    obtain ⟨tg, o, rfl, htg, _, d0, d1, d2⟩ := hT s.i ts[s.i] (List.getElem?_eq_getElem hlt)
    clear hT hpk h
    have hix : (s.i : Int) < (ts.length : Int) := by omega
    have hi0 : (0 : Int) ≤ (s.i : Int) := by omega
    go_enter Tryz.func55, Tryz.ntmps55
    go_wp2_with fail
    go_quiet (fail)
    go_wp2_with fail
    have hB : Below w.heap.size w ((w.alloc (.cells #[.int .i64 0, .string ⟨#[]⟩, .int .i64 0] 48)).drewN nq) := drewN_below ((Below.refl _ _).alloc (Nat.le_refl _) _) nq
    have hN : Blk ((w.alloc (.cells #[.int .i64 0, .string ⟨#[]⟩, .int .i64 0] 48)).drewN nq) w.heap.size 48 #[.int .i64 0, .string ⟨#[]⟩, .int .i64 0] := (Blk.new _ _ _).drewN _
    have hs : w.heap.size < ((w.alloc (.cells #[.int .i64 0, .string ⟨#[]⟩, .int .i64 0] 48)).drewN nq).heap.size := hN.lt
    generalize (w.alloc (.cells #[.int .i64 0, .string ⟨#[]⟩, .int .i64 0] 48)).drewN nq = w2 at *
    replace c0 := (hB.cell (p := ⟨g, 0, none⟩) hgl).trans c0
    replace c1 := (hB.cell (p := ⟨g, 1, none⟩) hgl).trans c1
    replace d0 := (hB.cell (p := ⟨tg, _, none⟩) htg).trans d0
    replace d1 := (hB.cell (p := ⟨tg, _, none⟩) htg).trans d1
    replace d2 := (hB.cell (p := ⟨tg, _, none⟩) htg).trans d2
    obtain ⟨n0, n1, n2, nf⟩ : w2.cell? ⟨w.heap.size, 0, none⟩ = some (.int .i64 0) ∧ w2.cell? ⟨w.heap.size, 1, none⟩ = some (.string ⟨#[]⟩) ∧ w2.cell? ⟨w.heap.size, 2, none⟩ = some (.int .i64 0) ∧ ∀ i, w2.frozen? ⟨w.heap.size, i, none⟩ = false := ⟨by simpa using hN.cell 0, by simpa using hN.cell 1, by simpa using hN.cell 2, hN.frozen⟩
    go_still_tail 10, (by kernel_rfl)
    go_wp2_with fail
    have hE := ((hN.put 0 (.int .i64 ts[s.i].1)).put 1 (.string ⟨ts[s.i].2.1.toArray⟩)).put 2 (.int .i64 ts[s.i].2.2)
    have hB3 := ((hB.setCell (p := ⟨w.heap.size, 0, none⟩) (Nat.le_refl _) (.int .i64 ts[s.i].1)).setCell (p := ⟨w.heap.size, 1, none⟩) (Nat.le_refl _) (.string ⟨ts[s.i].2.1.toArray⟩)).setCell (p := ⟨w.heap.size, 2, none⟩) (Nat.le_refl _) (.int .i64 ts[s.i].2.2)
    generalize ((w2.setCell ⟨w.heap.size, 0, none⟩ (.int .i64 ts[s.i].1)).setCell ⟨w.heap.size, 1, none⟩ (.string ⟨ts[s.i].2.1.toArray⟩)).setCell ⟨w.heap.size, 2, none⟩ (.int .i64 ts[s.i].2.2) = w3 at *
    obtain ⟨q0, q1, q2⟩ : w3.cell? ⟨w.heap.size, 0, none⟩ = some (.int .i64 ts[s.i].1) ∧ w3.cell? ⟨w.heap.size, 1, none⟩ = some (.string ⟨ts[s.i].2.1.toArray⟩) ∧ w3.cell? ⟨w.heap.size, 2, none⟩ = some (.int .i64 ts[s.i].2.2) := ⟨by simpa using hE.cell 0, by simpa using hE.cell 1, by simpa using hE.cell 2⟩
    exact bodyPost_ret (v := .agg #[.int .i64 ts[s.i].1, .string ⟨ts[s.i].2.1.toArray⟩, .int .i64 ts[s.i].2.2]) (by simp [results, Tryz.results55, go_sem, q0, q1, q2]) rfl ⟨rfl, hB3.drew⟩
  · have hpk : Tm.peek ts en s.i = en := Tm.peek_end (by omega)
    rw [hpk]
    clear hT hpk h
    go_enter Tryz.func55, Tryz.ntmps55
    go_wp2_with fail
    go_quiet (fail)
    go_wp2_with fail
    exact bodyPost_ret (v := .agg #[.int .i64 en.1, .string ⟨en.2.1.toArray⟩, .int .i64 en.2.2]) (by simp [results, Tryz.results55, go_sem]) rfl ⟨rfl, (((drewN_below ((Below.refl _ _).alloc (Nat.le_refl _) _) _).setCell (p := ⟨w.heap.size, 0, none⟩) (Nat.le_refl _) _).setCell (p := ⟨w.heap.size, 1, none⟩) (Nat.le_refl _) _).setCell (p := ⟨w.heap.size, 2, none⟩) (Nat.le_refl _) _⟩

theorem punct_any (k : Int) (s : ByteArray) (a : Int) (w : World) :
    Calls Tryz.prog 161 #[.agg #[.int .i64 k, .string s, .int .i64 a]] w fun e w' => e = .returned (.string (if k == 6 then s else ⟨#[]⟩)) ∧ Below w.heap.size w w' := by
  by_cases h : k = 6
  · have h6 : (k == 6) = true := by rw [beq_iff_eq]; exact h
    rw [if_pos h6]
    clear h
    go_enter Tryz.func161, Tryz.ntmps161
    go_wp2
    go_ret
    exact ⟨rfl, (Below.refl _ _).alloc (Nat.le_refl _) _⟩
  · have h6 : (k == 6) = false := by rw [beq_eq_false_iff_ne]; exact h
    rw [h6, if_neg (by decide)]
    clear h
    go_enter Tryz.func161, Tryz.ntmps161
    go_wp2
    go_ret
    exact ⟨rfl, (Below.refl _ _).alloc (Nat.le_refl _) _⟩
theorem refusal_any (k : Int) (s : ByteArray) (a : Int) (w : World) :
    Calls Tryz.prog 48 #[.agg #[.int .i64 k, .string s, .int .i64 a]] w fun e w' => e = .returned (.agg #[.int .i64 a, .int .i64 (Tm.code k)]) ∧ Below w.heap.size w w' := by
  by_cases h : k = 0
  · have h6 : (k == 0) = true := by rw [beq_iff_eq]; exact h
    rw [show Tm.code k = 12 from by unfold Tm.code; rw [if_pos h6]]
    clear h
    go_enter Tryz.func48, Tryz.ntmps48
    go_wp2
    exact bodyPost_ret (v := .agg #[.int .i64 a, .int .i64 12]) (by simp [results, Tryz.results48, go_sem]) rfl ⟨rfl, ((Below.refl _ _).alloc (Nat.le_refl _) _).alloc (by simp) _⟩
  · have h6 : (k == 0) = false := by rw [beq_eq_false_iff_ne]; exact h
    rw [show Tm.code k = 11 from by unfold Tm.code; rw [h6, if_neg (by decide)]]
    clear h
    go_enter Tryz.func48, Tryz.ntmps48
    go_wp2
    exact bodyPost_ret (v := .agg #[.int .i64 a, .int .i64 11]) (by simp [results, Tryz.results48, go_sem]) rfl ⟨rfl, ((Below.refl _ _).alloc (Nat.le_refl _) _).alloc (by simp) _⟩
theorem str_list (l : List UInt8) : (⟨l.toArray⟩ : ByteArray).toList = l := by rw [Go.ByteArray.toList_eq]
theorem isBang_any (s : ByteArray) (w : World) :
    Calls Tryz.prog 163 #[.string s] w fun e w' => e = .returned (.bool (Tm.isBang s.toList)) ∧ w = w' := by
  go_enter Tryz.func163, Tryz.ntmps163
  go_wp2
  all_goals
    go_ret
    exact ⟨by simp [Tm.isBang, *], rfl⟩
end Go.Proofs.YtaefonagbcnmdaaGreatDoor

namespace Go.Proofs.YtaefonagbcnmdaaGreatDoor
open Go.RowKit

set_option maxHeartbeats 4000000 in
theorem infixRow_any (s : ByteArray) (w : World) :
    Calls Tryz.prog 40 #[.string s] w fun e w' => e = .returned (.tuple #[.int .i64 (Tm.row s.toList).1, .int .i64 (Tm.row s.toList).2]) ∧ w = w' := by
  go_enter Tryz.func40, Tryz.ntmps40
  go_wp2
  all_goals
    go_ret2
    refine ⟨?_, rfl⟩
    (try simp only [beq_iff_eq, beq_eq_false_iff_ne, ne_eq, Bool.not_eq_true] at *)
    first | contradiction | simp [Tm.row, *]
end Go.Proofs.YtaefonagbcnmdaaGreatDoor

namespace Go.Proofs.YtaefonagbcnmdaaGreatDoor
open Go.RowKit

set_option maxHeartbeats 4000000 in
theorem prefix_any (s : ByteArray) (w : World) :
    Calls Tryz.prog 24 #[.string s] w fun e w' => e = .returned (.tuple #[.int .i64 (Tm.prefix_ s.toList).1, .int .i64 (Tm.prefix_ s.toList).2.1, .bool (Tm.prefix_ s.toList).2.2]) ∧ w = w' := by
  go_enter Tryz.func24, Tryz.ntmps24
  go_wp2
  all_goals
    go_ret3
    refine ⟨?_, rfl⟩
    (try simp only [beq_iff_eq, beq_eq_false_iff_ne, ne_eq, Bool.not_eq_true] at *)
    first | contradiction | simp [Tm.prefix_, *]
end Go.Proofs.YtaefonagbcnmdaaGreatDoor

namespace Go.Proofs.YtaefonagbcnmdaaGreatDoor
open Go.RowKit

theorem sub1 (p : Int) (h0 : 0 ≤ p) (h1 : p ≤ 1200) : IntKind.i64.wrap (p - 1) = p - 1 := IntWalk.i64_in _ (by omega)
theorem ite_ind {α : Type} {Q : α → Prop} {c : Prop} [Decidable c] {x y : α} (hx : Q x) (hy : Q y) : Q (if c then x else y) := by split <;> assumption
def Tm.RowQ (r : Int × Int) : Prop := 0 ≤ r.1 ∧ r.1 ≤ 1200 ∧ 0 ≤ r.2 ∧ r.2 ≤ 2
theorem Tm.row_q (n : List UInt8) : Tm.RowQ (Tm.row n) := by
  unfold Tm.row
  repeat' (refine ite_ind (Q := Tm.RowQ) ?_ ?_)
  all_goals (unfold Tm.RowQ; decide)
theorem Tm.row_bounds (n : List UInt8) : 0 ≤ (Tm.row n).1 ∧ (Tm.row n).1 ≤ 1200 ∧ 0 ≤ (Tm.row n).2 ∧ (Tm.row n).2 ≤ 2 := Tm.row_q n
theorem infix_any (s : ByteArray) (w : World) :
    Calls Tryz.prog 22 #[.string s] w fun e w' => e = .returned (.tuple #[.int .i64 (Tm.infx s.toList).1, .int .i64 (Tm.infx s.toList).2.1, .int .i64 (Tm.infx s.toList).2.2]) ∧ w = w' := by
  obtain ⟨h0, h1, h2, h3⟩ := Tm.row_bounds s.toList
  have hI : Tm.infx s.toList = if (Tm.row s.toList).1 == 0 then (0, 0, 0) else ((Tm.row s.toList).1, Tm.left (Tm.row s.toList).1 (Tm.row s.toList).2, Tm.right (Tm.row s.toList).1 (Tm.row s.toList).2) := rfl
  obtain ⟨p, hp⟩ : ∃ p, (Tm.row s.toList).1 = p := ⟨_, rfl⟩
  obtain ⟨k, hk⟩ : ∃ k, (Tm.row s.toList).2 = k := ⟨_, rfl⟩
  rw [hp, hk] at hI
  rw [hp] at h0 h1
  rw [hk] at h2 h3
  obtain ⟨I, hJ⟩ : ∃ I, Tm.infx s.toList = I := ⟨_, rfl⟩
  rw [hJ] at hI ⊢
  clear hJ
  have HP := Lib.hid hp; clear hp
  have HK := Lib.hid hk; clear hk
  by_cases hz : p = 0
  · have hb : (p == 0) = true := by rw [beq_iff_eq]; exact hz
    rw [hb, if_pos rfl] at hI
    subst hI
    clear hz
    go_enter Tryz.func22, Tryz.ntmps22
    go_wp2_with fail
    refine (infixRow_any _ _).mono ?_; rintro e w' ⟨rfl, rfl⟩
    rw [HP.out, HK.out]
    go_wp2
    go_ret3
    exact ⟨rfl, rfl⟩
  have hb : (p == 0) = false := by rw [beq_eq_false_iff_ne]; exact hz
  have hs := sub1 p h0 h1
  have hp1 : 1 ≤ p := by omega
  rw [hb, if_neg (by decide)] at hI
  by_cases h11 : k = 1
  · subst h11
    have hI' : I = (p, p - 1, p) := hI
    subst hI'
    clear hI hz
    go_enter Tryz.func22, Tryz.ntmps22
    go_wp2_with fail
    refine (infixRow_any _ _).mono ?_; rintro e w' ⟨rfl, rfl⟩
    rw [HP.out, HK.out]
    go_wp2
    go_ret3
    exact ⟨rfl, rfl⟩
  by_cases h22 : k = 2
  · subst h22
    have hI' : I = (p, p, p - 1) := hI
    subst hI'
    clear hI hz
    go_enter Tryz.func22, Tryz.ntmps22
    go_wp2_with fail
    refine (infixRow_any _ _).mono ?_; rintro e w' ⟨rfl, rfl⟩
    rw [HP.out, HK.out]
    go_wp2
    go_ret3
    exact ⟨rfl, rfl⟩
  have hk0 : k = 0 := by omega
  subst hk0
  have hI' : I = (p, p - 1, p - 1) := hI
  subst hI'
  clear hI hz h11 h22
  go_enter Tryz.func22, Tryz.ntmps22
  go_wp2_with fail
  refine (infixRow_any _ _).mono ?_; rintro e w' ⟨rfl, rfl⟩
  rw [HP.out, HK.out]
  go_wp2
  go_ret3
  exact ⟨rfl, rfl⟩
end Go.Proofs.YtaefonagbcnmdaaGreatDoor

namespace Go.Proofs.YtaefonagbcnmdaaGreatDoor
open Go.RowKit

theorem Tm.infixOf_yes {k a : Int} {l : List UInt8} (h : (k = 6 ∧ l = [44]) ∨ (k = 1 ∧ l ≠ [44])) : Tm.infixOf (k, l, a) = Tm.infx l := by
  unfold Tm.infixOf Tm.punct
  rw [if_pos]
  rcases h with ⟨rfl, rfl⟩ | ⟨rfl, h⟩
  · rfl
  · simpa using h
theorem Tm.infixOf_no {k a : Int} {l : List UInt8} (h : ¬ ((k = 6 ∧ l = [44]) ∨ (k = 1 ∧ l ≠ [44]))) : Tm.infixOf (k, l, a) = (0, 0, 0) := by
  unfold Tm.infixOf Tm.punct
  rw [if_neg]
  intro hc
  apply h
  by_cases h6 : k = 6
  · subst h6; simp at hc; exact .inl ⟨rfl, hc⟩
  · simp [h6] at hc; exact .inr hc
theorem box_tok {w w2 : World} {x y z : Value} (h : Below (w.alloc (.cells #[x, y, z] 48)).heap.size (w.alloc (.cells #[x, y, z] 48)) w2) :
    w2.cell? ⟨w.heap.size, 0, none⟩ = some x ∧ w2.cell? ⟨w.heap.size, 1, none⟩ = some y ∧ w2.cell? ⟨w.heap.size, 2, none⟩ = some z ∧ Below w.heap.size w w2 := by
  have hb := (Blk.new w 48 #[x, y, z]).below h (by simp)
  exact ⟨by simpa using hb.cell 0, by simpa using hb.cell 1, by simpa using hb.cell 2, ((Below.refl _ _).alloc (Nat.le_refl _) _).trans (h.mono (by simp))⟩
set_option maxHeartbeats 1000000 in
theorem infixOf_any (k : Int) (s : ByteArray) (a : Int) (w : World) :
    Calls Tryz.prog 132 #[.agg #[.int .i64 k, .string s, .int .i64 a]] w fun e w' => e = .returned (.tuple #[.int .i64 (Tm.infixOf (k, s.toList, a)).1, .int .i64 (Tm.infixOf (k, s.toList, a)).2.1, .int .i64 (Tm.infixOf (k, s.toList, a)).2.2]) ∧ Below w.heap.size w w' := by
  have he : ((⟨#[]⟩ : ByteArray).toList == [44]) = false := by rw [Go.ByteArray.toList_eq]; decide
  obtain ⟨R, hR⟩ : ∃ R, Tm.infixOf (k, s.toList, a) = R := ⟨_, rfl⟩
  rw [hR]
  have HR := Lib.hid hR; clear hR
  by_cases h6 : k = 6
  · subst h6
    by_cases hs : s.toList = [44]
    · have hb : (s.toList == [44]) = true := by rw [beq_iff_eq]; exact hs
      have hr : Tm.infx s.toList = R := (Tm.infixOf_yes (k := 6) (a := a) (.inl ⟨rfl, hs⟩)).symm.trans HR.out
      have HI := Lib.hid hr; clear hr hs
      go_enter Tryz.func132, Tryz.ntmps132
      go_wp2_with fail
      refine (punct_any _ _ _ _).mono ?_; rintro e w2 ⟨rfl, hB2⟩
      obtain ⟨t0, t1, t2, hB3⟩ := box_tok hB2
      rw [if_pos (by rfl)]
      go_wp2_with fail
      refine (infix_any _ _).mono ?_; rintro e w' ⟨rfl, rfl⟩
      rw [HI.out]
      go_wp2
      go_ret3
      exact ⟨rfl, hB3⟩
    · have hb : (s.toList == [44]) = false := by rw [beq_eq_false_iff_ne]; exact hs
      have hr : R = (0, 0, 0) := HR.out.symm.trans (Tm.infixOf_no (by rintro (⟨_, h⟩ | ⟨h, _⟩) <;> first | exact hs h | exact absurd h (by decide)))
      have HZ := Lib.hid hr.symm; clear hr hs
      go_enter Tryz.func132, Tryz.ntmps132
      go_wp2_with fail
      refine (punct_any _ _ _ _).mono ?_; rintro e w2 ⟨rfl, hB2⟩
      obtain ⟨t0, t1, t2, hB3⟩ := box_tok hB2
      rw [if_pos (by rfl)]
      go_wp2_with fail
      go_ret3
      exact ⟨by rw [← HZ.out]; rfl, hB3⟩
  by_cases h1 : k = 1
  · subst h1
    by_cases hs : s.toList = [44]
    · have hb : (s.toList == [44]) = true := by rw [beq_iff_eq]; exact hs
      have hr : R = (0, 0, 0) := HR.out.symm.trans (Tm.infixOf_no (by rintro (⟨h, _⟩ | ⟨_, h⟩) <;> first | exact absurd h (by decide) | exact h hs))
      have HZ := Lib.hid hr.symm; clear hr hs
      go_enter Tryz.func132, Tryz.ntmps132
      go_wp2_with fail
      refine (punct_any _ _ _ _).mono ?_; rintro e w2 ⟨rfl, hB2⟩
      obtain ⟨t0, t1, t2, hB3⟩ := box_tok hB2
      rw [if_neg (by decide)]
      go_wp2_with fail
      go_ret3
      exact ⟨by rw [← HZ.out]; rfl, hB3⟩
    · have hb : (s.toList == [44]) = false := by rw [beq_eq_false_iff_ne]; exact hs
      have hr : Tm.infx s.toList = R := (Tm.infixOf_yes (k := 1) (a := a) (.inr ⟨rfl, hs⟩)).symm.trans HR.out
      have HI := Lib.hid hr; clear hr hs
      go_enter Tryz.func132, Tryz.ntmps132
      go_wp2_with fail
      refine (punct_any _ _ _ _).mono ?_; rintro e w2 ⟨rfl, hB2⟩
      obtain ⟨t0, t1, t2, hB3⟩ := box_tok hB2
      rw [if_neg (by decide)]
      go_wp2_with fail
      refine (infix_any _ _).mono ?_; rintro e w' ⟨rfl, rfl⟩
      rw [HI.out]
      go_wp2
      go_ret3
      exact ⟨rfl, hB3⟩
  have hr : R = (0, 0, 0) := HR.out.symm.trans (Tm.infixOf_no (by rintro (⟨h, _⟩ | ⟨h, _⟩) <;> first | exact h6 h | exact h1 h))
  have HZ := Lib.hid hr.symm; clear hr
  have hk6 : (k == 6) = false := by rw [beq_eq_false_iff_ne]; exact h6
  have hk1 : (k == 1) = false := by rw [beq_eq_false_iff_ne]; exact h1
  have HK6 := Lib.hid hk6
  clear h6 h1 hk6
  go_enter Tryz.func132, Tryz.ntmps132
  go_wp2_with fail
  refine (punct_any _ _ _ _).mono ?_; rintro e w2 ⟨rfl, hB2⟩
  obtain ⟨t0, t1, t2, hB3⟩ := box_tok hB2
  rw [HK6.out, if_neg (by decide)]
  go_wp2_with fail
  go_ret3
  exact ⟨by rw [← HZ.out]; rfl, hB3⟩
end Go.Proofs.YtaefonagbcnmdaaGreatDoor

namespace Go.Proofs.YtaefonagbcnmdaaGreatDoor
open Go.RowKit

theorem Tm.standsFirst_kind {k a : Int} {l : List UInt8} (h : 1 ≤ k ∧ k ≤ 5) : Tm.standsFirst (k, l, a) = true := by
  unfold Tm.standsFirst; simp [h]
theorem Tm.standsFirst_other {k a : Int} {l : List UInt8} (h : ¬ (1 ≤ k ∧ k ≤ 5)) : Tm.standsFirst (k, l, a) = (k == 6 && (l == [40] || l == [91] || l == [123])) := by
  unfold Tm.standsFirst Tm.punct
  have e : (decide (1 ≤ k) && decide (k ≤ 5)) = false := by
    cases h1 : decide (1 ≤ k)
    · rfl
    · have : ¬ k ≤ 5 := fun hk => h ⟨by simpa using h1, hk⟩
      simp [this]
  rw [e]
  by_cases h6 : k = 6
  · subst h6; rfl
  · have hb : (k == 6) = false := by rw [beq_eq_false_iff_ne]; exact h6
    simp only [hb]; rfl
set_option maxHeartbeats 2000000 in
theorem standsFirst_any (k : Int) (s : ByteArray) (a : Int) (w : World) :
    Calls Tryz.prog 125 #[.agg #[.int .i64 k, .string s, .int .i64 a]] w fun e w' => e = .returned (.bool (Tm.standsFirst (k, s.toList, a))) ∧ Below w.heap.size w w' := by
  by_cases hk : 1 ≤ k ∧ k ≤ 5
  · rw [Tm.standsFirst_kind hk]
    have h5 : k = 1 ∨ k = 2 ∨ k = 3 ∨ k = 4 ∨ k = 5 := by omega
    clear hk
    rcases h5 with rfl | rfl | rfl | rfl | rfl
    all_goals
      go_enter Tryz.func125, Tryz.ntmps125
      go_wp2
      go_ret
      exact ⟨rfl, (Below.refl _ _).alloc (Nat.le_refl _) _⟩
  · rw [Tm.standsFirst_other hk]
    have he : (⟨#[]⟩ : ByteArray).toList = [] := by rw [Go.ByteArray.toList_eq]
    have k1 : (k == 1) = false := by rw [beq_eq_false_iff_ne]; omega
    have k2 : (k == 2) = false := by rw [beq_eq_false_iff_ne]; omega
    have k3 : (k == 3) = false := by rw [beq_eq_false_iff_ne]; omega
    have k4 : (k == 4) = false := by rw [beq_eq_false_iff_ne]; omega
    have k5 : (k == 5) = false := by rw [beq_eq_false_iff_ne]; omega
    clear hk
    by_cases h6 : k = 6
    · subst h6
      clear k1 k2 k3 k4 k5
      go_enter Tryz.func125, Tryz.ntmps125
      go_wp2_with fail
      refine (punct_any _ _ _ _).mono ?_; rintro e w2 ⟨rfl, hB2⟩
      obtain ⟨t0, t1, t2, hB3⟩ := box_tok hB2
      rw [if_pos (by rfl)]
      go_wp2
      all_goals
        go_ret
        exact ⟨by simp [*], hB3⟩
    · have k6 : (k == 6) = false := by rw [beq_eq_false_iff_ne]; exact h6
      have K6 := Lib.hid k6
      rw [k6]
      clear h6 k6
      go_enter Tryz.func125, Tryz.ntmps125
      go_wp2_with fail
      refine (punct_any _ _ _ _).mono ?_; rintro e w2 ⟨rfl, hB2⟩
      obtain ⟨t0, t1, t2, hB3⟩ := box_tok hB2
      rw [K6.out, if_neg (by decide)]
      go_wp2
      go_ret
      exact ⟨rfl, hB3⟩
set_option maxHeartbeats 2000000 in
theorem beginsOperand_any (k : Int) (s : ByteArray) (a : Int) (w : World) :
    Calls Tryz.prog 166 #[.agg #[.int .i64 k, .string s, .int .i64 a]] w fun e w' => e = .returned (.bool (Tm.beginsOperand (k, s.toList, a))) ∧ Below w.heap.size w w' := by
  have hr : Tm.beginsOperand (k, s.toList, a) = if 0 < (Tm.infixOf (k, s.toList, a)).1 then decide (0 < (Tm.prefix_ s.toList).1) else Tm.standsFirst (k, s.toList, a) := rfl
  obtain ⟨R, hR⟩ : ∃ R, Tm.beginsOperand (k, s.toList, a) = R := ⟨_, rfl⟩
  obtain ⟨I, hI⟩ : ∃ I, Tm.infixOf (k, s.toList, a) = I := ⟨_, rfl⟩
  rw [hR, hI] at hr
  rw [hR]
  have HI := Lib.hid hI; clear hI hR
  by_cases h0 : 0 < I.1
  · rw [if_pos h0] at hr
    have HR := Lib.hid hr.symm; clear hr
    go_enter Tryz.func166, Tryz.ntmps166
    go_wp2_with fail
    refine (infixOf_any _ _ _ _).mono ?_; rintro e w2 ⟨rfl, hB2⟩
    obtain ⟨t0, t1, t2, hB3⟩ := box_tok hB2
    rw [HI.out]
    go_wp2_with fail
    refine (prefix_any _ _).mono ?_; rintro e w' ⟨rfl, rfl⟩
    go_wp2_with fail
    go_ret
    exact ⟨by rw [← HR.out]; rfl, hB3⟩
  · rw [if_neg h0] at hr
    have HR := Lib.hid hr.symm; clear hr
    have hd : decide (0 < I.1) = false := by simpa using h0
    go_enter Tryz.func166, Tryz.ntmps166
    go_wp2_with fail
    refine (infixOf_any _ _ _ _).mono ?_; rintro e w2 ⟨rfl, hB2⟩
    obtain ⟨t0, t1, t2, hB3⟩ := box_tok hB2
    rw [HI.out]
    go_wp2_with fail
    refine (standsFirst_any _ _ _ _).mono ?_; rintro e w' ⟨rfl, hB4⟩
    go_wp2_with fail
    go_ret
    exact ⟨by rw [← HR.out]; rfl, hB3.trans (hB4.mono hB3.size)⟩
end Go.Proofs.YtaefonagbcnmdaaGreatDoor

namespace Go.Proofs.YtaefonagbcnmdaaGreatDoor
open Go.RowKit

set_option maxRecDepth 100000 in
set_option maxHeartbeats 1000000 in
theorem ptake_any {w : World} {κ : Nat → Nat} {g : Nat} {ts : List Tm.T} {en : Tm.T} {s : Tm.S} {es : List Tm.E} {tv sv av : Value} (h : RInv w κ g ts en s es tv sv av) (hi : s.i ≤ ts.length) :
    Calls Tryz.prog 47 #[.pointer (some ⟨g, 0, none⟩)] w fun e w' => e = .returned (.agg #[.int .i64 (Tm.peek ts en s.i).1, .string ⟨(Tm.peek ts en s.i).2.1.toArray⟩, .int .i64 (Tm.peek ts en s.i).2.2]) ∧ RInv w' κ g ts en s.next es tv sv av ∧ Kept κ κ w w' := by
  have hn := h.hn
  have HH := Lib.hid h
  generalize hT : Tm.peek ts en s.i = T
  have HT := Lib.hid hT
  clear hT
  go_enter Tryz.func47, Tryz.ntmps47
  go_wp2_with fail
  have hx := (HH.out.below ((Below.refl _ _).alloc (Nat.le_refl _) (.cells #[.int .i64 0, .string ⟨#[]⟩, .int .i64 0] 48)))
  refine (peek_any hx).mono ?_; rintro e w2 ⟨rfl, hB2⟩
  rw [HT.out]
  have hx2 := hx.below hB2
  have hgl0 := h.facts.1
  have hz2 := hB2.size
  simp only [World.size_alloc] at hz2
  obtain ⟨hgl, c0, c1, _, _, _, _, _, f1⟩ := hx2.facts
  have hN := (Blk.new w 48 #[.int .i64 0, .string ⟨#[]⟩, .int .i64 0]).below hB2 (by simp)
  have nf := hN.frozen
  have n0 : w2.cell? ⟨w.heap.size, 0, none⟩ = some (.int .i64 0) := by simpa using hN.cell 0
  have n1 : w2.cell? ⟨w.heap.size, 1, none⟩ = some (.string ⟨#[]⟩) := by simpa using hN.cell 1
  have n2 : w2.cell? ⟨w.heap.size, 2, none⟩ = some (.int .i64 0) := by simpa using hN.cell 2
  have hNl := hN.lt
  have hne : g ≠ w2.heap.size := by omega
  have hne2 : g ≠ w.heap.size := by omega
  have hsi : (s.i : Int) + 1 ≤ 1000002 := by omega
  have hG : w.grownBy w2 (some g) := gb_below (gb_alloc (gb_refl _ _) _) hB2
  have hP : Blk (w2.setCell ⟨g, 1, none⟩ (.int .i64 ((s.i : Int) + 1))) g 106 #[tv, .int .i64 ((s.i : Int) + 1), .int .i64 en.1, .string ⟨en.2.1.toArray⟩, .int .i64 en.2.2, sv, .int .i64 s.term.kind, .string ⟨s.term.name.toArray⟩, .int .i64 s.term.num, av, .int .i64 s.term.at_, .int .i64 s.prio] := by simpa using hx2.blk.put 1 (.int .i64 ((s.i : Int) + 1))
  have hQ := Lib.hid hP; clear hP
  have HG := Lib.hid hG; clear hG hx hx2
  go_wp2_with fail
  have hP2 := hQ.out
  have hG2 := HG.out
  exact bodyPost_ret (v := .agg #[.int .i64 T.1, .string ⟨T.2.1.toArray⟩, .int .i64 T.2.2]) (by simp [results, Tryz.results47, go_sem, n0, n1, n2, nf, hne, hne2, hNl]) rfl ⟨rfl, HH.out.moved (by repeat (first | with_reducible exact hG2 | with_reducible exact gb_refl _ _ | (with_reducible refine gb_set ?_ (by first | (right; dsimp only; omega) | exact .inl rfl) _) | (with_reducible refine gb_drewN ?_ _) | (with_reducible refine gb_drew ?_) | (with_reducible refine gb_alloc ?_ _))) (by first | with_reducible exact hP2 | (show Blk _ _ _ _; have hMSC : Blk _ _ _ _ := hP2; repeat (first | with_reducible exact hMSC | (with_reducible refine Blk.far ?_ (by first | (dsimp only; omega) | assumption) _) | (with_reducible refine Blk.drewN ?_ _) | (with_reducible refine Blk.drew ?_) | (with_reducible refine Blk.alloc ?_ _)))) hi⟩

theorem Tm.punct_str (T : Tm.T) : (if (T.1 == 6) = true then (⟨T.2.1.toArray⟩ : ByteArray) else ⟨#[]⟩).toList = Tm.punct T := by
  unfold Tm.punct
  split
  · rw [str_list]
  · rw [Go.ByteArray.toList_eq]
set_option maxRecDepth 100000 in
set_option maxHeartbeats 1000000 in
theorem pskip_no {w : World} {κ : Nat → Nat} {g : Nat} {ts : List Tm.T} {en : Tm.T} {s : Tm.S} {es : List Tm.E} {tv sv av : Value} (h : RInv w κ g ts en s es tv sv av) (x : ByteArray) (hx : Tm.punct (Tm.peek ts en s.i) ≠ x.toList) :
    Calls Tryz.prog 162 #[.pointer (some ⟨g, 0, none⟩), .string x] w fun e w' => e = .returned (.bool false) ∧ Below w.heap.size w w' := by
  generalize hT : Tm.peek ts en s.i = T at hx
  have HT := Lib.hid hT
  clear hT
  have hX := Tm.punct_str T
  obtain ⟨X, hXX⟩ : ∃ X, (if (T.1 == 6) = true then (⟨T.2.1.toArray⟩ : ByteArray) else ⟨#[]⟩) = X := ⟨_, rfl⟩
  rw [hXX] at hX
  have HX := Lib.hid hXX; clear hXX
  have hne : (X.toList == x.toList) = false := by rw [beq_eq_false_iff_ne, hX]; exact hx
  clear hx hX
  have HH := Lib.hid h
  go_enter Tryz.func162, Tryz.ntmps162
  go_wp2_with fail
  refine (peek_any HH.out).mono ?_; rintro e w2 ⟨rfl, hB2⟩
  rw [HT.out]
  go_wp2_with fail
  refine (punct_any _ _ _ _).mono ?_; rintro e w3 ⟨rfl, hB3⟩
  rw [HX.out]
  go_wp2_with fail
  go_ret
  exact ⟨rfl, hB2.trans (hB3.mono hB2.size)⟩
set_option maxRecDepth 100000 in
set_option maxHeartbeats 1000000 in
theorem pskip_yes {w : World} {κ : Nat → Nat} {g : Nat} {ts : List Tm.T} {en : Tm.T} {s : Tm.S} {es : List Tm.E} {tv sv av : Value} (h : RInv w κ g ts en s es tv sv av) (hi : s.i ≤ ts.length) (x : ByteArray) (hx : Tm.punct (Tm.peek ts en s.i) = x.toList) :
    Calls Tryz.prog 162 #[.pointer (some ⟨g, 0, none⟩), .string x] w fun e w' => e = .returned (.bool true) ∧ RInv w' κ g ts en s.next es tv sv av ∧ Kept κ κ w w' := by
  have hn := h.hn
  generalize hT : Tm.peek ts en s.i = T at hx
  have HT := Lib.hid hT
  clear hT
  have hX := Tm.punct_str T
  obtain ⟨X, hXX⟩ : ∃ X, (if (T.1 == 6) = true then (⟨T.2.1.toArray⟩ : ByteArray) else ⟨#[]⟩) = X := ⟨_, rfl⟩
  rw [hXX] at hX
  have HX := Lib.hid hXX; clear hXX
  have hne : (X.toList == x.toList) = true := by rw [beq_iff_eq, hX]; exact hx
  clear hx hX
  have HH := Lib.hid h
  go_enter Tryz.func162, Tryz.ntmps162
  go_wp2_with fail
  refine (peek_any HH.out).mono ?_; rintro e w2 ⟨rfl, hB2⟩
  rw [HT.out]
  go_wp2_with fail
  refine (punct_any _ _ _ _).mono ?_; rintro e w3 ⟨rfl, hB3⟩
  rw [HX.out]
  have hB4 := hB2.trans (hB3.mono hB2.size)
  have hx2 := HH.out.below hB4
  obtain ⟨hgl, c0, c1, _, _, _, _, _, f1⟩ := hx2.facts
  have hsi : (s.i : Int) + 1 ≤ 1000002 := by omega
  have hP : Blk (w3.setCell ⟨g, 1, none⟩ (.int .i64 ((s.i : Int) + 1))) g 106 #[tv, .int .i64 ((s.i : Int) + 1), .int .i64 en.1, .string ⟨en.2.1.toArray⟩, .int .i64 en.2.2, sv, .int .i64 s.term.kind, .string ⟨s.term.name.toArray⟩, .int .i64 s.term.num, av, .int .i64 s.term.at_, .int .i64 s.prio] := by simpa using hx2.blk.put 1 (.int .i64 ((s.i : Int) + 1))
  have hQ := Lib.hid hP; clear hP hx2
  go_wp2_with fail
  go_ret
  have hG2 : w.grownBy w3 (some g) := gb_below (gb_refl _ _) hB4
  have hP2 := hQ.out
  exact ⟨rfl, HH.out.moved (by repeat (first | with_reducible exact hG2 | with_reducible exact gb_refl _ _ | (with_reducible refine gb_set ?_ (by first | (right; dsimp only; omega) | exact .inl rfl) _) | (with_reducible refine gb_drewN ?_ _) | (with_reducible refine gb_drew ?_) | (with_reducible refine gb_alloc ?_ _))) (by first | with_reducible exact hP2 | (show Blk _ _ _ _; have hMSC : Blk _ _ _ _ := hP2; repeat (first | with_reducible exact hMSC | (with_reducible refine Blk.far ?_ (by first | (dsimp only; omega) | assumption) _) | (with_reducible refine Blk.drewN ?_ _) | (with_reducible refine Blk.drew ?_) | (with_reducible refine Blk.alloc ?_ _)))) hi⟩
end Go.Proofs.YtaefonagbcnmdaaGreatDoor

namespace Go.Proofs.YtaefonagbcnmdaaGreatDoor
open Go.RowKit

theorem RInv.had {w w' : World} {κ : Nat → Nat} {g : Nat} {ts : List Tm.T} {en : Tm.T} {s : Tm.S} {es : List Tm.E} {tv sv av : Value} (h : RInv w κ g ts en s es tv sv av) (hg : w.grownBy w' (some g)) {t : Tm} {v : Value} (hv : Targs w κ v t.args)
    (hb : Blk w' g 106 #[tv, .int .i64 s.i, .int .i64 en.1, .string ⟨en.2.1.toArray⟩, .int .i64 en.2.2, sv, .int .i64 t.kind, .string ⟨t.name.toArray⟩, .int .i64 t.num, v, .int .i64 t.at_, .int .i64 0]) :
    RInv w' κ g ts en (s.have_ t) es tv sv v ∧ Kept κ κ w w' := by
  obtain ⟨hK, h1, h2, h3, _⟩ := h.self hg
  exact ⟨⟨hb, h.kg, h1, h2, h.ks, h3, hv.kept hK, h.stack, h.hi, h.hn, h.hes, h.hp⟩, hK⟩
theorem application_any (n : ByteArray) (a : Int) (A : Option Addr) (m c : Nat) (w : World) :
    Calls Tryz.prog 164 #[.string n, .int .i64 a, .slice A m c] w fun e w' => e = .returned (.agg #[.int .i64 4, .string n, .int .i64 0, .slice A m c, .int .i64 a]) ∧ Below w.heap.size w w' := by
  go_enter Tryz.func164, Tryz.ntmps164
  go_wp2
  exact bodyPost_ret (v := .agg #[.int .i64 4, .string n, .int .i64 0, .slice A m c, .int .i64 a]) (by simp [results, Tryz.results164, go_sem]) rfl ⟨rfl, (Below.refl _ _).alloc (Nat.le_refl _) _⟩
theorem variable_any (k : Int) (s : ByteArray) (a : Int) (w : World) :
    Calls Tryz.prog 165 #[.agg #[.int .i64 k, .string s, .int .i64 a]] w fun e w' => e = .returned (.agg #[.int .i64 0, .string s, .int .i64 0, .slice none 0 0, .int .i64 a]) ∧ Below w.heap.size w w' := by
  go_enter Tryz.func165, Tryz.ntmps165
  go_wp2
  exact bodyPost_ret (v := .agg #[.int .i64 0, .string s, .int .i64 0, .slice none 0 0, .int .i64 a]) (by simp [results, Tryz.results165, go_sem]) rfl ⟨rfl, ((Below.refl _ _).alloc (Nat.le_refl _) _).alloc (by simp) _⟩
set_option maxRecDepth 100000 in
set_option maxHeartbeats 1000000 in
theorem phave_any {w : World} {κ : Nat → Nat} {g : Nat} {ts : List Tm.T} {en : Tm.T} {s : Tm.S} {es : List Tm.E} {tv sv av : Value} (h : RInv w κ g ts en s es tv sv av) (t : Tm) (v : Value) (hv : Targs w κ v t.args) :
    Calls Tryz.prog 129 #[.pointer (some ⟨g, 0, none⟩), .agg #[.int .i64 t.kind, .string ⟨t.name.toArray⟩, .int .i64 t.num, v, .int .i64 t.at_]] w fun e w' => e = .returned (.bool true) ∧ RInv w' κ g ts en (s.have_ t) es tv sv v ∧ Kept κ κ w w' := by
  have HH := Lib.hid h
  have hgl := h.blk.lt
  obtain ⟨c4, c5, c6, c7, c8, c9, nf⟩ : w.cell? ⟨g, 6, none⟩ = some (.int .i64 s.term.kind) ∧ w.cell? ⟨g, 7, none⟩ = some (.string ⟨s.term.name.toArray⟩) ∧ w.cell? ⟨g, 8, none⟩ = some (.int .i64 s.term.num) ∧ w.cell? ⟨g, 9, none⟩ = some av ∧ w.cell? ⟨g, 10, none⟩ = some (.int .i64 s.term.at_) ∧ w.cell? ⟨g, 11, none⟩ = some (.int .i64 s.prio) ∧ ∀ i, w.frozen? ⟨g, i, none⟩ = false :=
    ⟨by simpa using h.blk.cell 6, by simpa using h.blk.cell 7, by simpa using h.blk.cell 8, by simpa using h.blk.cell 9, by simpa using h.blk.cell 10, by simpa using h.blk.cell 11, h.blk.frozen⟩
  have hgn : g ≠ w.heap.size := by omega
  obtain ⟨A, c, rfl⟩ := hv.form
  have HV := Lib.hid hv; clear hv h
  go_enter Tryz.func129, Tryz.ntmps129
  go_wp2_with fail
  go_ret
  have hb := HH.out.blk
  have hP : Blk ((((((w.setCell ⟨g, 6, none⟩ (.int .i64 t.kind)).setCell ⟨g, 7, none⟩ (.string ⟨t.name.toArray⟩)).setCell ⟨g, 8, none⟩ (.int .i64 t.num)).setCell ⟨g, 9, none⟩ (.slice A t.args.length c)).setCell ⟨g, 10, none⟩ (.int .i64 t.at_)).setCell ⟨g, 11, none⟩ (.int .i64 0)) g 106
      #[tv, .int .i64 s.i, .int .i64 en.1, .string ⟨en.2.1.toArray⟩, .int .i64 en.2.2, sv, .int .i64 t.kind, .string ⟨t.name.toArray⟩, .int .i64 t.num, .slice A t.args.length c, .int .i64 t.at_, .int .i64 0] := by
    simpa using (((((hb.put 6 (.int .i64 t.kind)).put 7 (.string ⟨t.name.toArray⟩)).put 8 (.int .i64 t.num)).put 9 (.slice A t.args.length c)).put 10 (.int .i64 t.at_)).put 11 (.int .i64 0)
  have hG2 := gb_refl w (some g)
  exact ⟨rfl, HH.out.had (by repeat (first | with_reducible exact hG2 | with_reducible exact gb_refl _ _ | (with_reducible refine gb_set ?_ (by first | (right; dsimp only; omega) | exact .inl rfl) _) | (with_reducible refine gb_drewN ?_ _) | (with_reducible refine gb_drew ?_) | (with_reducible refine gb_alloc ?_ _))) HV.out (by first | with_reducible exact hP | (show Blk _ _ _ _; have hMSC : Blk _ _ _ _ := hP; repeat (first | with_reducible exact hMSC | (with_reducible refine Blk.far ?_ (by first | (dsimp only; omega) | assumption) _) | (with_reducible refine Blk.drewN ?_ _) | (with_reducible refine Blk.drew ?_) | (with_reducible refine Blk.alloc ?_ _))))⟩
end Go.Proofs.YtaefonagbcnmdaaGreatDoor

namespace Go.Proofs.YtaefonagbcnmdaaGreatDoor
open Go.RowKit

/-- The block of a value takes a colour. -/
def recol (κ : Nat → Nat) (v : Value) (c : Nat) : Nat → Nat := fun b => if v.ownBlock = some b then c else κ b
theorem recol_own (κ : Nat → Nat) (v : Value) (c : Nat) : ∀ k, v.ownBlock = some k → recol κ v c k = c := fun k hk => if_pos hk
theorem recol_other {κ : Nat → Nat} {v : Value} {c : Nat} {b : Nat} (h : v.ownBlock ≠ some b) : recol κ v c b = κ b := if_neg h
/-- A row has grown: where it lay, or in a new block. -/
theorem grown_stays {w w5 : World} {κ : Nat → Nat} {sv sv' : Value} {c : Nat} (hks : ∀ k, sv.ownBlock = some k → κ k = c) (hgr : w.grownBy w5 sv.ownBlock) (hat : sv'.ownBlock = sv.ownBlock ∨ ∃ k, w.heap.size ≤ k ∧ sv'.ownBlock = some k) :
    Stays κ (recol κ sv' c) w w5 (fun x => x ≠ c) := by
  intro b hb hP
  refine ⟨hgr.block b hb (fun e => hP (hks b e.symm)), recol_other ?_⟩
  intro e
  rcases hat with h | ⟨k, hk, h⟩
  · exact hP (hks b (h.symm.trans e))
  · rw [h] at e
    cases e
    omega
theorem Stays.keeps {w w5 : World} {κ κ' : Nat → Nat} {c : Nat} {row : Option Nat} (h : Stays κ κ' w w5 (fun x => x ≠ c)) (hc : 1 < c) (hgr : w.grownBy w5 row) : Kept κ κ' w w5 :=
  ⟨hgr.os, hgr.tape, hgr.output, hgr.size, fun b hb hk => h b hb (by omega)⟩
theorem RInv.pushed {w w5 w' : World} {κ : Nat → Nat} {g : Nat} {ts : List Tm.T} {en : Tm.T} {s : Tm.S} {es : List Tm.E} {tv sv av : Value} (h : RInv w κ g ts en s es tv sv av) {e : Tm.E} {sv' : Value}
    (he : OpenR w κ (g + 1) es.length e) (hl : es.length ≤ s.i) (hpe : e.1.parts.length ≤ s.i + 1 ∧ e.1.places.length ≤ s.i + 1)
    (hgr : w.grownBy w5 sv.ownBlock) (hat : sv'.ownBlock = sv.ownBlock ∨ ∃ k, w.heap.size ≤ k ∧ sv'.ownBlock = some k) (hown : w5.ownsRow (g + 1) 110 9 sv' (es.length + 1) (Tm.rows es ++ Tm.cells e))
    (hg : w5.grownBy w' (some g))
    (hb : Blk w' g 106 #[tv, .int .i64 s.i, .int .i64 en.1, .string ⟨en.2.1.toArray⟩, .int .i64 en.2.2, sv', .int .i64 s.term.kind, .string ⟨s.term.name.toArray⟩, .int .i64 s.term.num, av, .int .i64 s.term.at_, .int .i64 s.prio]) :
    RInv w' (recol κ sv' 3) g ts en (s.push e.1) (e :: es) tv sv' av ∧ Kept κ (recol κ sv' 3) w w' := by
  have hS := grown_stays h.ks hgr hat
  have hK := hS.keeps (by decide) hgr
  obtain ⟨hgS, hgc⟩ := hS g h.blk.lt (by rw [h.kg]; decide)
  have hg2 : recol κ sv' 3 g = 2 := hgc.trans h.kg
  have hS2 : Stays (recol κ sv' 3) (recol κ sv' 3) w5 w' (fun x => x ≠ 2) := .of_grown hg (fun k e => by cases e; exact hg2)
  have hK2 : Kept (recol κ sv' 3) (recol κ sv' 3) w5 w' := .of_grown hg (fun k e => by cases e; rw [hg2]; decide)
  have hK3 := hK.trans hK2
  refine ⟨⟨by simpa [Tm.S.push] using hb, hg2, h.toks.kept hK3, (own_stays hS2 hown (recol_own κ sv' 3) (by decide)).1, recol_own κ sv' 3, ⟨?_, ?_⟩, h.term.kept hK3, by simp [Tm.S.push, h.stack], h.hi, h.hn, by simp [Tm.S.push]; omega, ?_⟩, hK3⟩
  · exact (he.stays hS hK (by omega) (by omega)).stays hS2 hK2 (by omega) (by omega)
  · exact (h.ents.stays hS hK (fun i _ => ⟨by omega, by omega⟩)).stays hS2 hK2 (fun i _ => ⟨by omega, by omega⟩)
  · intro x hx
    rcases List.mem_cons.1 hx with rfl | hx
    · exact hpe
    · exact h.hp x hx
theorem step_append_at {w : World} {ops : Array Oper} {o : Oper} {a : Act} {K : Act → World → Prop} {Q : Exit → Act → World → Prop} {E : Prop} (hgd : o.guard = none) (s x : Operand) (t : TypeId)
    (ho : o.op = .call { callee := .builtin .append, args := #[s, x], argTypes := #[t, t] })
    (base : Nat) (e : TypeId) (i : TypeInfo) (z : Value) (size bytes : Nat) (ht : Tryz.prog.underlying t = some (.slice e)) (hi : Tryz.prog.info? e = some i) (hz : i.zero = some z)
    (hsize : i.size = size) (hby : i.bytes = bytes) (hzs : z.cells.size = size) (hsz : 0 < size)
    (v : Value) (n : Nat) (xs : List Value) (hs : a.eval s = v) (hown : w.ownsRow base e size v n xs)
    (ad : Addr) (m c : Nat) (news : List Value) (hx : a.eval x = .slice (some ad) m c) (hl : news.length = m * size) (hnews : ∀ j u, news[j]? = some u → w.cell? (ad.add j) = some u) (h1 : ∀ u ∈ news, u.oneCell' = true)
    (h63 : n + m ≤ maxLen) (hbytes : (n + m) * bytes ≤ 140737488355328) (hbase : base ≤ w.heap.size)
    (h : ∀ v' w', w'.ownsRow base e size v' (n + m) (xs ++ news) → w.grownBy w' v.ownBlock → (v'.ownBlock = v.ownBlock ∨ v'.ownBlock = some w.heap.size) → K (a.put o.dst v') w') : if Region.wanted o (yielded ops a.tmps) = true then Oper.wp Tryz.prog o a w K Q else E := by
  rw [if_pos (by simp [Region.wanted, hgd])]
  obtain ⟨v', w', hr, h2, h3, _, h5⟩ := run_append_own_at (P := Tryz.prog) w base t o.type e i z size bytes ht hi hz hsize hby hzs hsz v n xs hown ad m c news hl hnews h1 h63 hbytes hbase
  unfold Oper.wp execOp
  simp only [ho, resolve, invoke, builtin, Sem.run_bind, Sem.run_pure, Result.andThen_ok, List.map_toArray, List.map_cons, List.map_nil, hs, hx, hr]
  exact h v' w' h2 h3 h5
theorem info_open : (Tryz.prog.info? 110).map (fun i => (i.zero, i.size, i.bytes)) = some (some (.agg #[.int .i64 0, .int .i64 0, .string ⟨#[]⟩, .int .i64 0, .slice none 0 0, .slice none 0 0, .int .i64 0, .int .i64 0, .int .i64 0]), 9, 112) := by kernel_rfl
end Go.Proofs.YtaefonagbcnmdaaGreatDoor

namespace Go.Proofs.YtaefonagbcnmdaaGreatDoor
open Go.RowKit

/-- An open term as a value. -/
def Tm.openV (e : Tm.E) : Value := .agg #[.int .i64 e.1.kind, .int .i64 e.1.most, .string ⟨e.1.name.toArray⟩, .int .i64 e.1.at_, e.2.1, e.2.2, .int .i64 e.1.need, .int .i64 e.1.last, .int .i64 e.1.prio]
theorem new_cells (w : World) (xs : List Value) (t : TypeId) : ∀ j u, xs[j]? = some u → (w.alloc (.cells xs.toArray t)).cell? ((⟨w.heap.size, 0, none⟩ : Addr).add j) = some u := by
  intro j u hj
  have hp : (⟨w.heap.size, 0, none⟩ : Addr).add j = ⟨w.heap.size, 0 + j, none⟩ := by unfold Addr.add; split <;> simp_all
  rw [hp, (Blk.new w t xs.toArray).cell]
  simpa using hj
theorem own_form2 {w : World} {B : Nat} {e : TypeId} {size n : Nat} {v : Value} {xs : List Value} (h : w.ownsRow B e size v (n + 1) xs) : ∃ q cap, v = .slice (some ⟨q, 0, none⟩) (n + 1) cap := by
  rcases h.2 with ⟨_, h⟩ | ⟨q, cap, _, h, _⟩
  · omega
  · exact ⟨q, cap, h⟩
theorem own_slice {w : World} {B : Nat} {e : TypeId} {size n : Nat} {v : Value} {xs : List Value} (h : w.ownsRow B e size v n xs) : ∃ A c, v = .slice A n c := by
  rcases h.2 with ⟨rfl, rfl⟩ | ⟨g, cap, _, rfl, _⟩
  · exact ⟨none, 0, rfl⟩
  · exact ⟨_, cap, rfl⟩
set_option maxRecDepth 100000 in
set_option maxHeartbeats 4000000 in
theorem ppush_any {w : World} {κ : Nat → Nat} {g : Nat} {ts : List Tm.T} {en : Tm.T} {s : Tm.S} {es : List Tm.E} {tv sv av : Value} (h : RInv w κ g ts en s es tv sv av) (o : Tm.O) (p q : Value)
    (he : OpenR w κ (g + 1) es.length (o, p, q)) (hl : es.length ≤ s.i) (hpe : o.parts.length ≤ s.i + 1 ∧ o.places.length ≤ s.i + 1) :
    Calls Tryz.prog 72 #[.pointer (some ⟨g, 0, none⟩), .agg #[.int .i64 o.kind, .int .i64 o.most, .string ⟨o.name.toArray⟩, .int .i64 o.at_, p, q, .int .i64 o.need, .int .i64 o.last, .int .i64 o.prio]] w fun e w' => e = .returned (.bool false) ∧
      ∃ κ' sv', RInv w' κ' g ts en (s.push o) ((o, p, q) :: es) tv sv' av ∧ Kept κ κ' w w' := by
  obtain ⟨i0, hi, hz0, hz1, hz2⟩ := info_parts info_open
  have hn := h.hn
  have hesl := h.hes
  have hil := h.hi
  obtain ⟨Ap, cp, hp⟩ : ∃ A c, p = .slice A o.parts.length c := by obtain ⟨_, _, ho, _⟩ := he.parts; exact own_slice ho
  obtain ⟨Aq, cq, hq⟩ : ∃ A c, q = .slice A o.places.length c := own_slice he.places
  subst hp
  subst hq
  obtain ⟨As, cs, hs⟩ : ∃ A c, sv = .slice A es.length c := own_slice h.own
  subst hs
  have HH := Lib.hid h
  have HE := Lib.hid he
  obtain ⟨hgl, _, _, _, _, _, c5, _, _⟩ := h.facts
  have nf := h.blk.frozen
  have hgn : g ≠ w.heap.size := by omega
  clear h he
  go_enter Tryz.func72, Tryz.ntmps72
  go_wp2_with fail
  have hmx : es.length + 1 ≤ maxLen := by unfold maxLen; omega
  have hgs : some g ≠ (Value.slice As es.length cs).ownBlock := fun e => by
    have h1 := HH.out.ks g e.symm
    have h2 := HH.out.kg
    omega
  have hO1 := HH.out.own
  have hb0 := HH.out.blk
  have HG := Lib.hid (gb_alloc (gb_alloc (gb_refl w (Value.slice As es.length cs).ownBlock) (.cells #[.int .i64 o.kind, .int .i64 o.most, .string ⟨o.name.toArray⟩, .int .i64 o.at_, .slice Ap o.parts.length cp, .slice Aq o.places.length cq, .int .i64 o.need, .int .i64 o.last, .int .i64 o.prio] 110)) (.cells #[.int .i64 o.kind, .int .i64 o.most, .string ⟨o.name.toArray⟩, .int .i64 o.at_, .slice Ap o.parts.length cp, .slice Aq o.places.length cq, .int .i64 o.need, .int .i64 o.last, .int .i64 o.prio] 110))
  have HN := Lib.hid (new_cells (w.alloc (.cells #[.int .i64 o.kind, .int .i64 o.most, .string ⟨o.name.toArray⟩, .int .i64 o.at_, .slice Ap o.parts.length cp, .slice Aq o.places.length cq, .int .i64 o.need, .int .i64 o.last, .int .i64 o.prio] 110)) [.int .i64 o.kind, .int .i64 o.most, .string ⟨o.name.toArray⟩, .int .i64 o.at_, .slice Ap o.parts.length cp, .slice Aq o.places.length cq, .int .i64 o.need, .int .i64 o.last, .int .i64 o.prio] 110)
  have HO := Lib.hid (World.ownsRow.kept ((hO1.alloc (.cells #[.int .i64 o.kind, .int .i64 o.most, .string ⟨o.name.toArray⟩, .int .i64 o.at_, .slice Ap o.parts.length cp, .slice Aq o.places.length cq, .int .i64 o.need, .int .i64 o.last, .int .i64 o.prio] 110)).alloc (.cells #[.int .i64 o.kind, .int .i64 o.most, .string ⟨o.name.toArray⟩, .int .i64 o.at_, .slice Ap o.parts.length cp, .slice Aq o.places.length cq, .int .i64 o.need, .int .i64 o.last, .int .i64 o.prio] 110)) (gb_drew (gb_refl _ none)) (by cases (Value.slice As es.length cs).ownBlock <;> simp))
  clear hO1
  go_region_law (refine step_append_at rfl (.tmp 9) (.tmp 11) 104 rfl (g + 1) 110 i0 (.agg #[.int .i64 0, .int .i64 0, .string ⟨#[]⟩, .int .i64 0, .slice none 0 0, .slice none 0 0, .int .i64 0, .int .i64 0, .int .i64 0]) 9 112 Tryz.underlying104 hi hz0 hz1 hz2 rfl (by decide) (.slice As es.length cs) es.length (Tm.rows es) (by simp [Act.eval, Act.put]) HO.out ⟨w.heap.size + 1, 0, none⟩ 1 1 [.int .i64 o.kind, .int .i64 o.most, .string ⟨o.name.toArray⟩, .int .i64 o.at_, .slice Ap o.parts.length cp, .slice Aq o.places.length cq, .int .i64 o.need, .int .i64 o.last, .int .i64 o.prio] (by simp [Act.eval, Act.put]) rfl (by simpa using HN.out) (by simp [Value.oneCell']) hmx (by omega) (by have := hgl; simp; try omega) ?_; intro v' w5 hown5 hgr5 hat5; obtain ⟨q, cap, rfl⟩ := own_form2 hown5; have hb5 := (((hb0.alloc (.cells #[.int .i64 o.kind, .int .i64 o.most, .string ⟨o.name.toArray⟩, .int .i64 o.at_, .slice Ap o.parts.length cp, .slice Aq o.places.length cq, .int .i64 o.need, .int .i64 o.last, .int .i64 o.prio] 110)).alloc (.cells #[.int .i64 o.kind, .int .i64 o.most, .string ⟨o.name.toArray⟩, .int .i64 o.at_, .slice Ap o.parts.length cp, .slice Aq o.places.length cq, .int .i64 o.need, .int .i64 o.last, .int .i64 o.prio] 110)).drew).grown hgr5 hgs; have hgl5 := hb5.lt; have c55 : w5.cell? ⟨g, 5, none⟩ = some (.slice As es.length cs) := (by simpa using hb5.cell 5); have nf5 := hb5.frozen 5)
  all_goals
    go_wp2_with fail
    go_ret
    refine ⟨rfl, _, _, HH.out.pushed (sv' := .slice (some ⟨q, 0, none⟩) (es.length + 1) cap) HE.out hl hpe (gb_trans (gb_drew HG.out) hgr5) (hat5.imp id (fun h => ⟨_, by simp; omega, h⟩)) hown5 (gb_set (gb_refl _ _) (p := ⟨g, 5, none⟩) (.inl rfl) _) (by simpa using hb5.put 5 (.slice (some ⟨q, 0, none⟩) (es.length + 1) cap))⟩
end Go.Proofs.YtaefonagbcnmdaaGreatDoor

namespace Go.Proofs.YtaefonagbcnmdaaGreatDoor
open Go.RowKit

/-- A slice of terms whose first one's kind can be read. -/
def HeadR (w : World) (v : Value) (l : List Tm) : Prop := ∃ A cap, v = .slice A l.length cap ∧ ∀ t r, l = t :: r → ∃ g o, A = some ⟨g, o, none⟩ ∧ w.cell? ⟨g, o, none⟩ = some (.int .i64 t.kind)
theorem Targs.head {w : World} {κ : Nat → Nat} {v : Value} {l : List Tm} (h : Targs w κ v l) : HeadR w v l := by
  cases h with
  | nil A cap => exact ⟨A, cap, rfl, fun t r e => by cases e⟩
  | mk g o cap ts vs hl hc hg hk cells sub =>
    refine ⟨_, cap, rfl, fun t r e => ⟨g, o, rfl, ?_⟩⟩
    subst e
    cases vs with
    | nil => simp at hl
    | cons a vs => exact cells 0 _ (by simp [Tm.flat])
theorem own_head {w : World} {B : Nat} {v : Value} {l : List Tm} {vs : List Value} (hl : vs.length = l.length) (h : w.ownsRow B 32 5 v l.length (Tm.flat l vs)) : HeadR w v l := by
  obtain ⟨A, c, hv⟩ := own_slice h
  refine ⟨A, c, hv, fun t r e => ?_⟩
  subst e
  cases vs with
  | nil => simp at hl
  | cons a vs =>
    obtain ⟨q, cap, rfl⟩ := own_form2 h
    cases hv
    refine ⟨q, 0, rfl, ?_⟩
    have := h.cells (g := q) rfl 0 (.int .i64 t.kind) (by simp [Tm.flat])
    rwa [show (⟨q, 0, none⟩ : Addr).add 0 = ⟨q, 0, none⟩ from rfl] at this
set_option maxRecDepth 100000 in
set_option maxHeartbeats 4000000 in
theorem suits_any (n : ByteArray) (v : Value) (l : List Tm) (w : World) (hv : HeadR w v l) :
    Calls Tryz.prog 121 #[.string n, v] w fun e w' => e = .returned (.bool (Tm.suits n.toList l)) ∧ w = w' := by
  obtain ⟨A, cap, rfl, hh⟩ := hv
  match l, hh with
  | [], hh =>
    clear hh
    go_enter Tryz.func121, Tryz.ntmps121
    go_wp2
    all_goals
      go_ret
      refine ⟨?_, rfl⟩
      (try simp only [beq_iff_eq, beq_eq_false_iff_ne, ne_eq, Bool.not_eq_true] at *)
      first | contradiction | simp [Tm.suits, *]
  | [t], hh =>
    obtain ⟨g, o, rfl, hc⟩ := hh t [] rfl
    clear hh
    go_enter Tryz.func121, Tryz.ntmps121
    go_wp2
    all_goals
      go_ret
      refine ⟨?_, rfl⟩
      (try simp only [beq_iff_eq, beq_eq_false_iff_ne, ne_eq, Bool.not_eq_true] at *)
      first | contradiction | simp [Tm.suits, Tm.isVar, *]
  | t :: u :: r, hh =>
    have h2 : ((r.length : Int) + 1 + 1 == 1) = false := by rw [beq_eq_false_iff_ne]; omega
    have h0 : ((r.length : Int) + 1 + 1 == 0) = false := by rw [beq_eq_false_iff_ne]; omega
    obtain ⟨g, o, rfl, hc⟩ := hh t (u :: r) rfl
    clear hh
    go_enter Tryz.func121, Tryz.ntmps121
    go_wp2
    all_goals
      go_ret
      refine ⟨?_, rfl⟩
      (try simp only [beq_iff_eq, beq_eq_false_iff_ne, ne_eq, Bool.not_eq_true] at *)
      first | contradiction | (simp [Tm.suits, *]; done) | (simp [Tm.suits, *]; rw [Bool.eq_iff_iff, beq_iff_eq, beq_iff_eq]; omega)
set_option maxRecDepth 100000 in
set_option maxHeartbeats 4000000 in
theorem maxArgs_any (n : ByteArray) (v : Value) (l : List Tm) (w : World) (hv : HeadR w v l) :
    Calls Tryz.prog 122 #[.string n, v] w fun e w' => e = .returned (.int .i64 (Tm.maxArgs n.toList l)) ∧ w = w' := by
  obtain ⟨A, cap, rfl, hh⟩ := hv
  by_cases hn : n.toList = [99, 97, 108, 108]
  · have hb : (n.toList == [99, 97, 108, 108]) = true := by rw [beq_iff_eq]; exact hn
    match l, hh with
    | [], hh =>
      have hr : Tm.maxArgs n.toList [] = 32 := by unfold Tm.maxArgs; simp
      rw [hr]
      clear hh hn hr
      go_enter Tryz.func122, Tryz.ntmps122
      go_wp2
      go_ret
      exact ⟨rfl, rfl⟩
    | t :: r, hh =>
      obtain ⟨g, o, rfl, hc⟩ := hh t r rfl
      by_cases hk : t.kind = 0
      · have hr : Tm.maxArgs n.toList (t :: r) = 33 := by unfold Tm.maxArgs; simp [hb, Tm.isVar, hk]
        rw [hr]
        have hkb : (t.kind == 0) = true := by rw [beq_iff_eq]; exact hk
        clear hh hn hr hk
        go_enter Tryz.func122, Tryz.ntmps122
        go_wp2
        go_ret
        exact ⟨rfl, rfl⟩
      · have hr : Tm.maxArgs n.toList (t :: r) = 32 := by unfold Tm.maxArgs; simp [Tm.isVar, hk]
        rw [hr]
        have hkb : (t.kind == 0) = false := by rw [beq_eq_false_iff_ne]; exact hk
        clear hh hn hr hk
        go_enter Tryz.func122, Tryz.ntmps122
        go_wp2
        go_ret
        exact ⟨rfl, rfl⟩
  · have hb : (n.toList == [99, 97, 108, 108]) = false := by rw [beq_eq_false_iff_ne]; exact hn
    have hr : Tm.maxArgs n.toList l = 32 := by unfold Tm.maxArgs; simp [hn]
    rw [hr]
    clear hh hn hr
    go_enter Tryz.func122, Tryz.ntmps122
    go_wp2
    go_ret
    exact ⟨rfl, rfl⟩
end Go.Proofs.YtaefonagbcnmdaaGreatDoor

namespace Go.Proofs.YtaefonagbcnmdaaGreatDoor
open Go.RowKit

theorem HeadR.below {w w' : World} {v : Value} {l : List Tm} (h : HeadR w v l) (hb : Below w.heap.size w w') : HeadR w' v l := by
  obtain ⟨A, cap, hv, hh⟩ := h
  refine ⟨A, cap, hv, fun t r e => ?_⟩
  obtain ⟨g, o, hA, hc⟩ := hh t r e
  exact ⟨g, o, hA, (hb.cell (p := ⟨g, o, none⟩) (World.block_lt_of_cell? w _ hc)).trans hc⟩
/-- A fault, as it leaves a method. -/
def Tm.thrown (a c : Int) : Ending := .panicked [{ v := .iface 26 (.agg #[.int .i64 a, .int .i64 c]), recovered := false }]
set_option maxRecDepth 100000 in
set_option maxHeartbeats 1000000 in
theorem checked_ok (t : Tm) (v : Value) (w : World) (hv : HeadR w v t.args) (hs : Tm.suits t.name t.args = true) :
    Calls Tryz.prog 167 #[.agg #[.int .i64 t.kind, .string ⟨t.name.toArray⟩, .int .i64 t.num, v, .int .i64 t.at_]] w fun e w' => e = .returned (.agg #[.int .i64 t.kind, .string ⟨t.name.toArray⟩, .int .i64 t.num, v, .int .i64 t.at_]) ∧ Below w.heap.size w w' := by
  have HV := Lib.hid hv
  obtain ⟨A, cap, rfl, _⟩ := hv
  have HS := Lib.hid hs; clear hs
  go_enter Tryz.func167, Tryz.ntmps167
  go_wp2_with fail
  refine (suits_any _ _ t.args _ ?_).mono ?_
  · exact HV.out.below (((Below.refl _ _).alloc (Nat.le_refl _) _).alloc (by simp) _)
  rintro e w' ⟨rfl, rfl⟩
  rw [str_list, HS.out]
  go_wp2_with fail
  exact bodyPost_ret (v := .agg #[.int .i64 t.kind, .string ⟨t.name.toArray⟩, .int .i64 t.num, .slice A t.args.length cap, .int .i64 t.at_]) (by simp [results, Tryz.results167, go_sem]) rfl ⟨rfl, ((Below.refl _ _).alloc (Nat.le_refl _) _).alloc (by simp) _⟩
set_option maxRecDepth 100000 in
set_option maxHeartbeats 1000000 in
theorem checked_bad (t : Tm) (v : Value) (w : World) (hv : HeadR w v t.args) (hs : Tm.suits t.name t.args = false) :
    Calls Tryz.prog 167 #[.agg #[.int .i64 t.kind, .string ⟨t.name.toArray⟩, .int .i64 t.num, v, .int .i64 t.at_]] w fun e w' => e = Tm.thrown t.at_ 11 ∧ Below w.heap.size w w' := by
  have HV := Lib.hid hv
  obtain ⟨A, cap, rfl, _⟩ := hv
  have HS := Lib.hid hs; clear hs
  go_enter Tryz.func167, Tryz.ntmps167
  go_wp2_with fail
  refine (suits_any _ _ t.args _ ?_).mono ?_
  · exact HV.out.below (((Below.refl _ _).alloc (Nat.le_refl _) _).alloc (by simp) _)
  rintro e w' ⟨rfl, rfl⟩
  rw [str_list, HS.out]
  go_wp2_with fail
  exact ⟨rfl, rfl, ((Below.refl _ _).alloc (Nat.le_refl _) _).alloc (by simp) _⟩
set_option maxRecDepth 100000 in
set_option maxHeartbeats 1000000 in
theorem expect_ok {w : World} {κ : Nat → Nat} {g : Nat} {ts : List Tm.T} {en : Tm.T} {s : Tm.S} {es : List Tm.E} {tv sv av : Value} (h : RInv w κ g ts en s es tv sv av) (hi : s.i ≤ ts.length) (x : ByteArray) (hx : Tm.punct (Tm.peek ts en s.i) = x.toList) :
    Calls Tryz.prog 170 #[.pointer (some ⟨g, 0, none⟩), .string x] w fun e w' => e = .returned (.tuple #[]) ∧ RInv w' κ g ts en s.next es tv sv av ∧ Kept κ κ w w' := by
  have HH := Lib.hid h
  have HX := Lib.hid hx; clear hx
  go_enter Tryz.func170, Tryz.ntmps170
  go_wp2_with fail
  refine (pskip_yes HH.out hi x HX.out).mono ?_
  rintro e w2 ⟨rfl, hR, hK⟩
  go_wp2_with fail
  go_end0
  exact ⟨rfl, hR, hK⟩
set_option maxRecDepth 100000 in
set_option maxHeartbeats 1000000 in
theorem expect_bad {w : World} {κ : Nat → Nat} {g : Nat} {ts : List Tm.T} {en : Tm.T} {s : Tm.S} {es : List Tm.E} {tv sv av : Value} (h : RInv w κ g ts en s es tv sv av) (x : ByteArray) (hx : Tm.punct (Tm.peek ts en s.i) ≠ x.toList) :
    Calls Tryz.prog 170 #[.pointer (some ⟨g, 0, none⟩), .string x] w fun e w' => e = Tm.thrown (Tm.refusal (Tm.peek ts en s.i)).1 (Tm.refusal (Tm.peek ts en s.i)).2 ∧ Below w.heap.size w w' := by
  have HH := Lib.hid h
  have HX := Lib.hid hx; clear hx
  go_enter Tryz.func170, Tryz.ntmps170
  go_wp2_with fail
  refine (pskip_no HH.out x HX.out).mono ?_
  rintro e w2 ⟨rfl, hB2⟩
  go_wp2_with fail
  refine (peek_any (HH.out.below hB2)).mono ?_
  rintro e w3 ⟨rfl, hB3⟩
  have hB4 := hB2.trans (hB3.mono hB2.size)
  go_wp2_with fail
  refine (refusal_any _ _ _ _).mono ?_
  rintro e w4 ⟨rfl, hB5⟩
  go_wp2_with fail
  exact ⟨rfl, rfl, hB4.trans (hB5.mono hB4.size)⟩
end Go.Proofs.YtaefonagbcnmdaaGreatDoor

namespace Go.Proofs.YtaefonagbcnmdaaGreatDoor
open Go.RowKit

/-- The innermost open term lies behind the others. -/
theorem RInv.topCells {w : World} {κ : Nat → Nat} {g : Nat} {ts : List Tm.T} {en : Tm.T} {s : Tm.S} {e : Tm.E} {es : List Tm.E} {tv sv av : Value} (h : RInv w κ g ts en s (e :: es) tv sv av) :
    ∃ q cap, sv = .slice (some ⟨q, 0, none⟩) (es.length + 1) cap ∧ κ q = 3 ∧ q < w.heap.size ∧ ∀ j u, (Tm.cells e)[j]? = some u → w.cell? ⟨q, es.length * 9 + j, none⟩ = some u := by
  obtain ⟨q, cap, hv⟩ := own_form2 (n := es.length) h.own
  subst hv
  refine ⟨q, cap, rfl, h.ks q rfl, (h.own.lt q rfl).2, fun j u hu => ?_⟩
  have := h.own.cells (g := q) rfl (es.length * 9 + j) u (by
    simp only [Tm.rows]
    rw [List.getElem?_append_right (by rw [Tm.rows_len]; omega), Tm.rows_len, Nat.add_sub_cancel_left]
    exact hu)
  rwa [show (⟨q, 0, none⟩ : Addr).add (es.length * 9 + j) = ⟨q, es.length * 9 + j, none⟩ from by unfold Addr.add; split <;> simp_all] at this
set_option maxRecDepth 100000 in
set_option maxHeartbeats 1000000 in
theorem top_any {w : World} {κ : Nat → Nat} {g : Nat} {ts : List Tm.T} {en : Tm.T} {s : Tm.S} {e : Tm.E} {es : List Tm.E} {tv av : Value} {q cap : Nat} (h : RInv w κ g ts en s (e :: es) tv (.slice (some ⟨q, 0, none⟩) (es.length + 1) cap) av) :
    Calls Tryz.prog 126 #[.pointer (some ⟨g, 0, none⟩)] w fun e w' => e = .returned (.pointer (some ⟨q, es.length * 9, none⟩)) ∧ ∃ n, w' = w.drewN n := by
  have hn := h.hn
  have hes := h.hes
  have hi := h.hi
  obtain ⟨hgl, _, _, _, _, _, c5, _, _⟩ := h.facts
  simp only [List.length_cons] at hes
  have hlt : ((es.length : Int) + 1 - 1) < (es.length : Int) + 1 := by omega
  have hl0 : (0 : Int) ≤ (es.length : Int) + 1 - 1 := by omega
  have hw1 : IntKind.i64.wrap ((es.length : Int) + 1 - 1) = (es.length : Int) := by rw [IntWalk.i64_in _ (by omega)]; omega
  clear h
  go_enter Tryz.func126, Tryz.ntmps126
  go_wp2_with fail
  go_quiet (fail)
  go_wp2_with fail
  go_ret
  exact ⟨rfl, _, rfl⟩
end Go.Proofs.YtaefonagbcnmdaaGreatDoor

namespace Go.Proofs.YtaefonagbcnmdaaGreatDoor
open Go.RowKit

theorem drawn_below {w w' : World} {B : Nat} (h : ∃ n, w' = w.drewN n) : Below B w w' := by obtain ⟨n, rfl⟩ := h; exact ⟨rfl, rfl, rfl, Nat.le_refl _, fun _ _ => rfl⟩
set_option maxRecDepth 100000 in
set_option maxHeartbeats 2000000 in
theorem pushInfix_zero {w : World} {κ : Nat → Nat} {g : Nat} {ts : List Tm.T} {en : Tm.T} {s : Tm.S} {e : Tm.E} {es : List Tm.E} {tv sv av : Value} (h : RInv w κ g ts en s (e :: es) tv sv av) (T : Tm.T) (hT : Tm.peek ts en s.i = T) (I : Int × Int × Int) (hI : Tm.infixOf T = I)
    (h0 : (I.1 == 0) = true) :
    Calls Tryz.prog 74 #[.pointer (some ⟨g, 0, none⟩)] w fun e w' => e = .returned (.bool false) ∧ Below w.heap.size w w' := by
  obtain ⟨q, cap, hsv, hq, hql, hcells⟩ := h.topCells
  subst hsv
  have hm : w.cell? ⟨q, es.length * 9 + 1, none⟩ = some (.int .i64 e.1.most) := hcells 1 _ rfl
  have hgl := h.facts.1
  have HT := Lib.hid hT; clear hT
  have HI := Lib.hid hI; clear hI hcells hq
  have HH := Lib.hid h; clear h
  have hsi : ({ data := T.2.1.toArray } : ByteArray).toList = T.2.1 := str_list _
  have HS := Lib.hid hsi; clear hsi
  go_enter Tryz.func74, Tryz.ntmps74
  go_wp2_with fail
  refine (peek_any HH.out).mono ?_; rintro e w2 ⟨rfl, hB2⟩
  rw [HT.out]
  go_wp2_with fail
  refine (infixOf_any _ _ _ _).mono ?_; rintro e w3 ⟨rfl, hB3⟩
  rw [HS.out, show (T.1, T.2.1, T.2.2) = T from rfl, HI.out]
  obtain ⟨_, _, _, hB4⟩ := box_tok hB3
  have hB5 := hB2.trans (hB4.mono hB2.size)
  go_wp2_with fail
  go_ret
  exact ⟨rfl, hB5⟩
set_option maxRecDepth 100000 in
set_option maxHeartbeats 2000000 in
theorem pushInfix_most {w : World} {κ : Nat → Nat} {g : Nat} {ts : List Tm.T} {en : Tm.T} {s : Tm.S} {e : Tm.E} {es : List Tm.E} {tv sv av : Value} (h : RInv w κ g ts en s (e :: es) tv sv av) (T : Tm.T) (hT : Tm.peek ts en s.i = T) (I : Int × Int × Int) (hI : Tm.infixOf T = I)
    (h0 : (I.1 == 0) = false) (h1 : decide (e.1.most < I.1) = true) :
    Calls Tryz.prog 74 #[.pointer (some ⟨g, 0, none⟩)] w fun e w' => e = .returned (.bool false) ∧ Below w.heap.size w w' := by
  obtain ⟨q, cap, hsv, hq, hql, hcells⟩ := h.topCells
  subst hsv
  have hm : w.cell? ⟨q, es.length * 9 + 1, none⟩ = some (.int .i64 e.1.most) := hcells 1 _ rfl
  have hgl := h.facts.1
  have HT := Lib.hid hT; clear hT
  have HI := Lib.hid hI; clear hI hcells hq
  have HH := Lib.hid h; clear h
  have hsi : ({ data := T.2.1.toArray } : ByteArray).toList = T.2.1 := str_list _
  have HS := Lib.hid hsi; clear hsi
  go_enter Tryz.func74, Tryz.ntmps74
  go_wp2_with fail
  refine (peek_any HH.out).mono ?_; rintro e w2 ⟨rfl, hB2⟩
  rw [HT.out]
  go_wp2_with fail
  refine (infixOf_any _ _ _ _).mono ?_; rintro e w3 ⟨rfl, hB3⟩
  rw [HS.out, show (T.1, T.2.1, T.2.2) = T from rfl, HI.out]
  obtain ⟨_, _, _, hB4⟩ := box_tok hB3
  have hB5 := hB2.trans (hB4.mono hB2.size)
  have hR3 := HH.out.below hB5
  replace hm := (hB5.cell (p := ⟨q, _, none⟩) hql).trans hm
  clear hB2 hB3 hB4
  go_wp2_with fail
  refine (top_any hR3).mono ?_; rintro e w4 ⟨rfl, n, rfl⟩
  go_wp2_with fail
  go_ret
  exact ⟨rfl, drewN_below hB5 _⟩
set_option maxRecDepth 100000 in
set_option maxHeartbeats 2000000 in
theorem pushInfix_left {w : World} {κ : Nat → Nat} {g : Nat} {ts : List Tm.T} {en : Tm.T} {s : Tm.S} {e : Tm.E} {es : List Tm.E} {tv sv av : Value} (h : RInv w κ g ts en s (e :: es) tv sv av) (T : Tm.T) (hT : Tm.peek ts en s.i = T) (I : Int × Int × Int) (hI : Tm.infixOf T = I)
    (h0 : (I.1 == 0) = false) (h1 : decide (e.1.most < I.1) = false) (h2 : decide (I.2.1 < s.prio) = true) :
    Calls Tryz.prog 74 #[.pointer (some ⟨g, 0, none⟩)] w fun e w' => e = .returned (.bool false) ∧ Below w.heap.size w w' := by
  obtain ⟨q, cap, hsv, hq, hql, hcells⟩ := h.topCells
  subst hsv
  have hm : w.cell? ⟨q, es.length * 9 + 1, none⟩ = some (.int .i64 e.1.most) := hcells 1 _ rfl
  have hgl := h.facts.1
  have HT := Lib.hid hT; clear hT
  have HI := Lib.hid hI; clear hI hcells hq
  have HH := Lib.hid h; clear h
  have hsi : ({ data := T.2.1.toArray } : ByteArray).toList = T.2.1 := str_list _
  have HS := Lib.hid hsi; clear hsi
  go_enter Tryz.func74, Tryz.ntmps74
  go_wp2_with fail
  refine (peek_any HH.out).mono ?_; rintro e w2 ⟨rfl, hB2⟩
  rw [HT.out]
  go_wp2_with fail
  refine (infixOf_any _ _ _ _).mono ?_; rintro e w3 ⟨rfl, hB3⟩
  rw [HS.out, show (T.1, T.2.1, T.2.2) = T from rfl, HI.out]
  obtain ⟨_, _, _, hB4⟩ := box_tok hB3
  have hB5 := hB2.trans (hB4.mono hB2.size)
  have hR3 := HH.out.below hB5
  replace hm := (hB5.cell (p := ⟨q, _, none⟩) hql).trans hm
  obtain ⟨hgl3, _, _, _, _, _, _, c11, _⟩ := hR3.facts
  clear hB2 hB3 hB4
  go_wp2_with fail
  refine (top_any hR3).mono ?_; rintro e w4 ⟨rfl, n, rfl⟩
  go_wp2_with fail
  go_ret
  exact ⟨rfl, drewN_below hB5 _⟩
end Go.Proofs.YtaefonagbcnmdaaGreatDoor

namespace Go.Proofs.YtaefonagbcnmdaaGreatDoor
open Go.RowKit

/-- A new block takes a colour. -/
theorem RInv.recolor {w : World} {κ : Nat → Nat} {g : Nat} {ts : List Tm.T} {en : Tm.T} {s : Tm.S} {es : List Tm.E} {tv sv av : Value} (h : RInv w κ g ts en s es tv sv av) (v : Value) (c : Nat) (hf : ∀ k, v.ownBlock = some k → w.heap.size ≤ k) :
    RInv w (recol κ v c) g ts en s es tv sv av ∧ Kept κ (recol κ v c) w w := by
  have hS : Stays κ (recol κ v c) w w (fun _ => True) := fun b hb _ => ⟨rfl, recol_other (fun e => by have := hf b e; omega)⟩
  have hK : Kept κ (recol κ v c) w w := ⟨rfl, rfl, rfl, Nat.le_refl _, fun b hb _ => hS b hb trivial⟩
  obtain ⟨h1, h2⟩ := own_stays hS h.own h.ks trivial
  exact ⟨⟨h.blk, (hS g h.blk.lt trivial).2.trans h.kg, h.toks.kept hK, h1, h2, h.ents.stays hS hK (fun _ _ => ⟨trivial, trivial⟩), h.term.kept hK, h.stack, h.hi, h.hn, h.hes, h.hp⟩, hK⟩
theorem own_new (w : World) (B : Nat) (e : TypeId) (size n : Nat) (xs : List Value) (hl : xs.length = n * size) (hB : B ≤ w.heap.size) (hn : n ≤ maxLen) :
    (w.alloc (.cells xs.toArray e)).ownsRow B e size (.slice (some ⟨w.heap.size, 0, none⟩) n n) n xs :=
  ⟨hl, .inr ⟨w.heap.size, n, xs.toArray, rfl, hB, heap_alloc_new w _, Nat.le_refl _, hn, by simpa using hl, by rw [← hl]; simp⟩⟩
/-- An open term of one part, in a new block. -/
theorem open_one {w W : World} {κ : Nat → Nat} {B i : Nat} {o : Tm.O} {t : Tm} {A : Option Addr} {n c : Nat} (hv : Targs w κ (.slice A n c) t.args) (hB : Below w.heap.size w W)
    (hW : W.heap = (w.alloc (.cells #[.int .i64 t.kind, .string ⟨t.name.toArray⟩, .int .i64 t.num, .slice A n c, .int .i64 t.at_] 32)).heap) (hκ : κ w.heap.size = 4 + 2 * i) (hg : B ≤ w.heap.size) (hp : o.parts = [t]) (hq : o.places = []) :
    OpenR W κ B i (o, .slice (some ⟨w.heap.size, 0, none⟩) 1 1, .slice none 0 0) := by
  have hown := own_new w B 32 5 1 [.int .i64 t.kind, .string ⟨t.name.toArray⟩, .int .i64 t.num, .slice A n c, .int .i64 t.at_] rfl hg (by unfold maxLen; omega)
  refine ⟨⟨[.slice A n c], by rw [hp]; rfl, ?_, ?_⟩, fun k e => by cases e; exact hκ, ?_, fun k e => by cases e⟩
  · rw [hp]
    unfold World.ownsRow at hown ⊢
    rw [hW]
    exact hown
  · intro j a t' ha ht'
    rw [hp] at ht'
    match j, ha, ht' with
    | 0, ha, ht' =>
      simp at ha ht'
      subst ha; subst ht'
      exact hv.kept (.below hB)
  · rw [hq]
    exact World.ownsRow_nil _ _ _ _
/-- An infix operator is opened: the complete term is its first part. -/
theorem push_one {w : World} {κ : Nat → Nat} {g : Nat} {ts : List Tm.T} {en : Tm.T} {s : Tm.S} {es : List Tm.E} {tv sv : Value} {A : Option Addr} {c : Nat} (h : RInv w κ g ts en s es tv sv (.slice A s.term.args.length c)) (hes : es.length ≤ s.i) (k m nd ls pr a : Int) (nm : List UInt8) (t : Tm) {A' : Option Addr} {c' : Nat}
    (ht : Targs w κ (.slice A' t.args.length c') t.args) :
    Calls Tryz.prog 72 #[.pointer (some ⟨g, 0, none⟩), .agg #[.int .i64 k, .int .i64 m, .string ⟨nm.toArray⟩, .int .i64 a, .slice (some ⟨w.heap.size, 0, none⟩) 1 1, .slice none 0 0, .int .i64 nd, .int .i64 ls, .int .i64 pr]]
      (w.alloc (.cells #[.int .i64 t.kind, .string ⟨t.name.toArray⟩, .int .i64 t.num, .slice A' t.args.length c', .int .i64 t.at_] 32)).drew fun r w' => r = .returned (.bool false) ∧
      ∃ κ' e' sv', RInv w' κ' g ts en (s.push e'.1) (e' :: es) tv sv' (.slice A s.term.args.length c) ∧ Kept κ κ' w w' ∧ e'.1 = ⟨k, m, nm, a, [t], [], nd, ls, pr⟩ := by
  have hV : ∀ k, (Value.slice (some ⟨w.heap.size, 0, none⟩) 1 1).ownBlock = some k → w.heap.size ≤ k := fun k e => by cases e; exact Nat.le_refl _
  obtain ⟨h6, k6⟩ := h.recolor (.slice (some ⟨w.heap.size, 0, none⟩) 1 1) (4 + 2 * es.length) hV
  have hB : Below w.heap.size w (w.alloc (.cells #[.int .i64 t.kind, .string ⟨t.name.toArray⟩, .int .i64 t.num, .slice A' t.args.length c', .int .i64 t.at_] 32)).drew := ((Below.refl _ _).alloc (Nat.le_refl _) _).drew
  refine (ppush_any (h6.below hB) ⟨k, m, nm, a, [t], [], nd, ls, pr⟩ (.slice (some ⟨w.heap.size, 0, none⟩) 1 1) (.slice none 0 0) (open_one (ht.kept k6) hB rfl (recol_own _ _ _ _ rfl) h.blk.lt rfl rfl) hes (by simp)).mono ?_
  rintro r w' ⟨rfl, κ', sv', h7, k7⟩
  exact ⟨rfl, κ', (⟨k, m, nm, a, [t], [], nd, ls, pr⟩, .slice (some ⟨w.heap.size, 0, none⟩) 1 1, .slice none 0 0), sv', h7, k6.trans ((Kept.below hB).trans k7), rfl⟩
set_option maxRecDepth 100000 in
set_option maxHeartbeats 2000000 in
theorem pushInfix_yes {w : World} {κ : Nat → Nat} {g : Nat} {ts : List Tm.T} {en : Tm.T} {s : Tm.S} {e : Tm.E} {es : List Tm.E} {tv sv av : Value} (h : RInv w κ g ts en s (e :: es) tv sv av) (T : Tm.T) (hT : Tm.peek ts en s.i = T) (I : Int × Int × Int) (hI : Tm.infixOf T = I)
    (h0 : (I.1 == 0) = false) (h1 : decide (e.1.most < I.1) = false) (h2 : decide (I.2.1 < s.prio) = false) (hi : s.i < ts.length) :
    Calls Tryz.prog 74 #[.pointer (some ⟨g, 0, none⟩)] w fun r w' => r = .returned (.bool true) ∧ ∃ κ' e' sv', RInv w' κ' g ts en (s.next.push e'.1) (e' :: e :: es) tv sv' av ∧ Kept κ κ' w w' ∧ e'.1 = ⟨1, I.2.2, T.2.1, T.2.2, [s.term], [], 2, I.2.2, I.1⟩ := by
  obtain ⟨q, cap, hsv, hq, hql, hcells⟩ := h.topCells
  subst hsv
  have hm : w.cell? ⟨q, es.length * 9 + 1, none⟩ = some (.int .i64 e.1.most) := hcells 1 _ rfl
  have hgl := h.facts.1
  have HT := Lib.hid hT; clear hT
  have HI := Lib.hid hI; clear hI hcells hq
  have HH := Lib.hid h; clear h
  have hsi : ({ data := T.2.1.toArray } : ByteArray).toList = T.2.1 := str_list _
  have HS := Lib.hid hsi; clear hsi
  go_enter Tryz.func74, Tryz.ntmps74
  go_wp2_with fail
  refine (peek_any HH.out).mono ?_; rintro e w2 ⟨rfl, hB2⟩
  rw [HT.out]
  go_wp2_with fail
  refine (infixOf_any _ _ _ _).mono ?_; rintro e w3 ⟨rfl, hB3⟩
  rw [HS.out, show (T.1, T.2.1, T.2.2) = T from rfl, HI.out]
  obtain ⟨d0, d1, d2, hB4⟩ := box_tok hB3
  have hdl : w2.heap.size < w3.heap.size := World.block_lt_of_cell? w3 _ d0
  have hB5 := hB2.trans (hB4.mono hB2.size)
  have hgd : w2.heap.size ≠ g := by have := hB2.size; omega
  have hR3 := HH.out.below hB5
  replace hm := (hB5.cell (p := ⟨q, _, none⟩) hql).trans hm
  obtain ⟨hgl3, _, _, _, _, _, _, c11, _⟩ := hR3.facts
  clear hB2 hB3 hB4
  go_wp2_with fail
  refine (top_any hR3).mono ?_; rintro e w4 ⟨rfl, n, rfl⟩
  have hn := HH.out.hn
  have f1 := hR3.blk.frozen 1
  have c1 := hR3.facts.2.2.1
  have hsi : (s.i : Int) + 1 ≤ 1000002 := by omega
  go_wp2_with fail
  have hBn : Below w3.heap.size w3 (w3.drewN n) := drewN_below (Below.refl _ _) n
  have hRn := hR3.below hBn
  have hR5 := hRn.next (by omega)
  have hK5 : Kept κ κ w ((w3.drewN n).setCell ⟨g, 1, none⟩ (.int .i64 ((s.i : Int) + 1))) := (Kept.below (drewN_below hB5 n)).trans (Kept.of_grown (gb_set (gb_refl _ (some g)) (.inl rfl) (p := ⟨g, 1, none⟩) _) (fun k e => by cases e; rw [hR3.kg]; decide))
  have d1' : ((w3.drewN n).setCell ⟨g, 1, none⟩ (.int .i64 ((s.i : Int) + 1))).cell? ⟨w2.heap.size, 1, none⟩ = some (.string ⟨T.2.1.toArray⟩) := (World.cell?_of_block (a := ⟨w2.heap.size, 1, none⟩) (Below.heap_setCell (w3.drewN n) ⟨g, 1, none⟩ _ w2.heap.size hgd)).trans d1
  have d2' : ((w3.drewN n).setCell ⟨g, 1, none⟩ (.int .i64 ((s.i : Int) + 1))).cell? ⟨w2.heap.size, 2, none⟩ = some (.int .i64 T.2.2) := (World.cell?_of_block (a := ⟨w2.heap.size, 2, none⟩) (Below.heap_setCell (w3.drewN n) ⟨g, 1, none⟩ _ w2.heap.size hgd)).trans d2
  clear d0 d1 d2 hm c11 f1 c1 hBn hRn hR3 hB5
  generalize (w3.drewN n).setCell ⟨g, 1, none⟩ (.int .i64 ((s.i : Int) + 1)) = w5 at *
  obtain ⟨Av, cv, hav⟩ := hR5.term.form
  subst hav
  have hb5 := hR5.blk
  obtain ⟨e6, e7, e8, e9, e10⟩ : w5.cell? ⟨g, 6, none⟩ = some (.int .i64 s.term.kind) ∧ w5.cell? ⟨g, 7, none⟩ = some (.string ⟨s.term.name.toArray⟩) ∧ w5.cell? ⟨g, 8, none⟩ = some (.int .i64 s.term.num) ∧ w5.cell? ⟨g, 9, none⟩ = some (.slice Av s.term.args.length cv) ∧ w5.cell? ⟨g, 10, none⟩ = some (.int .i64 s.term.at_) :=
    ⟨by simpa [Tm.S.next] using hb5.cell 6, by simpa [Tm.S.next] using hb5.cell 7, by simpa [Tm.S.next] using hb5.cell 8, by simpa [Tm.S.next] using hb5.cell 9, by simpa [Tm.S.next] using hb5.cell 10⟩
  have HR5 := Lib.hid hR5
  have HK5 := Lib.hid hK5
  clear hb5 hR5 hK5
  have HES := Lib.hid (show (e :: es).length ≤ s.next.i from HH.out.hes)
  have hgl5 := HR5.out.blk.lt
  have hdl5 : w2.heap.size < w5.heap.size := World.block_lt_of_cell? w5 _ d1'
  clear h0 h1 h2 hql hgl hdl hgl3 hsi hn hi HT HI HS HH hgd
  go_region_with (go_at_call 72; refine (push_one HR5.out HES.out 1 I.2.2 2 I.2.2 I.1 T.2.2 T.2.1 s.term HR5.out.term).mono ?_; (rintro r w7 ⟨rfl, κ', e', sv', hR7, hK7, he'⟩); have HR7 := Lib.hid hR7; have HK7 := Lib.hid hK7; have HE7 := Lib.hid he'; clear hR7 hK7 he')
  all_goals
    go_wp2_with fail
    go_ret
    exact ⟨rfl, κ', e', sv', HR7.out, HK5.out.trans HK7.out, HE7.out⟩
end Go.Proofs.YtaefonagbcnmdaaGreatDoor

namespace Go.Proofs.YtaefonagbcnmdaaGreatDoor
open Go.RowKit

/-- What a method leaves that reads the beginning of a term. -/
def BPost (w : World) (κ : Nat → Nat) (g : Nat) (ts : List Tm.T) (en : Tm.T) (tv : Value) (r : Tm.S × Bool) (e : Ending) (w' : World) : Prop :=
  e = .returned (.bool r.2) ∧ ∃ κ' es' sv' av', RInv w' κ' g ts en r.1 es' tv sv' av' ∧ Kept κ κ' w w'
/-- An open term without parts and places. -/
theorem open_none {w : World} {κ : Nat → Nat} {B i : Nat} {o : Tm.O} (hp : o.parts = []) (hq : o.places = []) : OpenR w κ B i (o, .slice none 0 0, .slice none 0 0) := by
  refine ⟨⟨[], (by simp [hp]), ?_, (fun j a t ha => by simp at ha)⟩, (fun k e => by cases e), ?_, (fun k e => by cases e)⟩
  · simp only [hp]; exact World.ownsRow_nil _ _ _ _
  · simp only [hq]; exact World.ownsRow_nil _ _ _ _
/-- A token's own variable: its block has colour 1, and is kept. -/
theorem RInv.boxed {w : World} {κ : Nat → Nat} {g : Nat} {ts : List Tm.T} {en : Tm.T} {s : Tm.S} {es : List Tm.E} {tv sv av : Value} (h : RInv w κ g ts en s es tv sv av) (o : Obj) :
    ∃ κ1, RInv (w.alloc o) κ1 g ts en s es tv sv av ∧ Kept κ κ1 w (w.alloc o) ∧ κ1 w.heap.size = 1 := by
  obtain ⟨h1, k1⟩ := h.recolor (.slice (some ⟨w.heap.size, 0, none⟩) 0 0) 1 (fun k e => by cases e; exact Nat.le_refl _)
  have hB : Below w.heap.size w (w.alloc o) := (Below.refl _ _).alloc (Nat.le_refl _) _
  exact ⟨_, h1.below hB, k1.trans (.below hB), recol_own _ _ _ _ rfl⟩
set_option maxRecDepth 100000 in
set_option maxHeartbeats 1000000 in
theorem beginVariable_no {w : World} {κ : Nat → Nat} {g : Nat} {ts : List Tm.T} {en : Tm.T} {s : Tm.S} {es : List Tm.E} {tv sv av : Value} (h : RInv w κ g ts en s es tv sv av) (T : Tm.T) (hx : Tm.punct (Tm.peek ts en s.i) ≠ [40, 40]) :
    Calls Tryz.prog 128 #[.pointer (some ⟨g, 0, none⟩), .agg #[.int .i64 T.1, .string ⟨T.2.1.toArray⟩, .int .i64 T.2.2]] w (BPost w κ g ts en tv (s.have_ (Tm.variable_ T), true)) := by
  have hx' : Tm.punct (Tm.peek ts en s.i) ≠ (⟨#[40, 40]⟩ : ByteArray).toList := by rw [Go.ByteArray.toList_eq]; exact hx
  have HX := Lib.hid hx'; clear hx hx'
  have HH := Lib.hid h; clear h
  go_enter Tryz.func128, Tryz.ntmps128
  go_wp2_with fail
  refine (pskip_no (HH.out.below ((Below.refl _ _).alloc (Nat.le_refl _) _)) _ HX.out).mono ?_
  rintro e w2 ⟨rfl, hB2⟩
  obtain ⟨t0, t1, t2, hB3⟩ := box_tok hB2
  go_wp2_with fail
  refine (variable_any _ _ _ _).mono ?_
  rintro e w3 ⟨rfl, hB4⟩
  have hB5 := hB3.trans (hB4.mono hB3.size)
  go_wp2_with fail
  refine (phave_any (HH.out.below hB5) (Tm.variable_ T) (.slice none 0 0) (.nil none 0)).mono ?_
  rintro e w4 ⟨rfl, hR, hK⟩
  go_wp2_with fail
  go_ret
  exact ⟨rfl, κ, es, sv, _, hR, (Kept.below hB5).trans hK⟩
set_option maxRecDepth 100000 in
set_option maxHeartbeats 1000000 in
theorem beginBracket_round {w : World} {κ : Nat → Nat} {g : Nat} {ts : List Tm.T} {en : Tm.T} {s : Tm.S} {es : List Tm.E} {tv sv av : Value} (h : RInv w κ g ts en s es tv sv av) (hes : es.length ≤ s.i) (k a : Int) (x : ByteArray) (hx : x.toList = [40]) :
    Calls Tryz.prog 131 #[.pointer (some ⟨g, 0, none⟩), .agg #[.int .i64 k, .string x, .int .i64 a]] w (BPost w κ g ts en tv (s.push (Tm.opn 3 1200 [] 0 [] []), false)) := by
  have hb : (x.toList == [40]) = true := by rw [beq_iff_eq]; exact hx
  have HH := Lib.hid h; clear h hx
  go_enter Tryz.func131, Tryz.ntmps131
  go_wp2_with fail
  have hB : Below w.heap.size w (w.alloc (.cells #[.int .i64 k, .string x, .int .i64 a] 48)) := (Below.refl _ _).alloc (Nat.le_refl _) _
  refine (ppush_any (HH.out.below hB) (Tm.opn 3 1200 [] 0 [] []) (.slice none 0 0) (.slice none 0 0) (open_none rfl rfl) hes (by simp [Tm.opn])).mono ?_
  rintro e w4 ⟨rfl, κ', sv', hR, hK⟩
  go_wp2_with fail
  go_ret
  exact ⟨rfl, κ', _, sv', _, hR, (Kept.below hB).trans hK⟩
set_option maxRecDepth 100000 in
set_option maxHeartbeats 1000000 in
theorem beginBracket_curly {w : World} {κ : Nat → Nat} {g : Nat} {ts : List Tm.T} {en : Tm.T} {s : Tm.S} {es : List Tm.E} {tv sv av : Value} (h : RInv w κ g ts en s es tv sv av) (hes : es.length ≤ s.i) (k a : Int) (x : ByteArray) (hx : x.toList = [123]) :
    Calls Tryz.prog 131 #[.pointer (some ⟨g, 0, none⟩), .agg #[.int .i64 k, .string x, .int .i64 a]] w (BPost w κ g ts en tv (s.push (Tm.opn 4 1200 [] a [] []), false)) := by
  have hb : (x.toList == [40]) = false := by rw [hx]; decide
  have hb2 : (x.toList == [123]) = true := by rw [beq_iff_eq]; exact hx
  have HH := Lib.hid h; clear h hx
  go_enter Tryz.func131, Tryz.ntmps131
  go_wp2_with fail
  have hB : Below w.heap.size w (w.alloc (.cells #[.int .i64 k, .string x, .int .i64 a] 48)) := (Below.refl _ _).alloc (Nat.le_refl _) _
  refine (ppush_any (HH.out.below hB) (Tm.opn 4 1200 [] a [] []) (.slice none 0 0) (.slice none 0 0) (open_none rfl rfl) hes (by simp [Tm.opn])).mono ?_
  rintro e w4 ⟨rfl, κ', sv', hR, hK⟩
  go_wp2_with fail
  go_ret
  exact ⟨rfl, κ', _, sv', _, hR, (Kept.below hB).trans hK⟩
end Go.Proofs.YtaefonagbcnmdaaGreatDoor

namespace Go.Proofs.YtaefonagbcnmdaaGreatDoor
open Go.RowKit

/-- A token's own variable behind a method. -/
theorem kept_tok {w w2 : World} {κ1 κ2 : Nat → Nat} {x y z : Value} (hK : Kept κ1 κ2 (w.alloc (.cells #[x, y, z] 48)) w2) (h1 : κ1 w.heap.size = 1) :
    w2.cell? ⟨w.heap.size, 0, none⟩ = some x ∧ w2.cell? ⟨w.heap.size, 1, none⟩ = some y ∧ w2.cell? ⟨w.heap.size, 2, none⟩ = some z ∧ w.heap.size < w2.heap.size := by
  have hb := Blk.new w 48 #[x, y, z]
  have h := (hK.block w.heap.size (by simp) (by omega)).1
  have hb2 : Blk w2 w.heap.size 48 #[x, y, z] := h.trans hb
  exact ⟨by simpa using hb2.cell 0, by simpa using hb2.cell 1, by simpa using hb2.cell 2, hb2.lt⟩
set_option maxRecDepth 100000 in
set_option maxHeartbeats 1000000 in
theorem beginBracket_close {w : World} {κ : Nat → Nat} {g : Nat} {ts : List Tm.T} {en : Tm.T} {s : Tm.S} {es : List Tm.E} {tv sv av : Value} (h : RInv w κ g ts en s es tv sv av) (hi : s.i ≤ ts.length) (k a : Int) (x : ByteArray) (h1 : (x.toList == [40]) = false) (h2 : (x.toList == [123]) = false)
    (hx : Tm.punct (Tm.peek ts en s.i) = [93]) :
    Calls Tryz.prog 131 #[.pointer (some ⟨g, 0, none⟩), .agg #[.int .i64 k, .string x, .int .i64 a]] w (BPost w κ g ts en tv (s.next.have_ (Tm.app [91, 93] a []), true)) := by
  have hx' : Tm.punct (Tm.peek ts en s.i) = (⟨#[93]⟩ : ByteArray).toList := by rw [Go.ByteArray.toList_eq]; exact hx
  have HX := Lib.hid hx'; clear hx hx'
  obtain ⟨κ1, hR1, hK1, hc⟩ := h.boxed (.cells #[.int .i64 k, .string x, .int .i64 a] 48)
  have HR1 := Lib.hid hR1
  have HK1 := Lib.hid hK1
  have HC := Lib.hid hc
  clear h hR1 hK1 hc
  go_enter Tryz.func131, Tryz.ntmps131
  go_wp2_with fail
  refine (pskip_yes HR1.out hi _ HX.out).mono ?_
  rintro e w2 ⟨rfl, hR2, hK2⟩
  obtain ⟨t0, t1, t2, htl⟩ := kept_tok hK2 HC.out
  have HR2 := Lib.hid hR2
  have HK2 := Lib.hid hK2
  clear hR2 hK2
  go_wp2_with fail
  refine (application_any _ _ none 0 0 _).mono ?_
  rintro e w3 ⟨rfl, hB3⟩
  go_wp2_with fail
  refine (phave_any (HR2.out.below hB3) (Tm.app [91, 93] a []) (.slice none 0 0) (.nil none 0)).mono ?_
  rintro e w4 ⟨rfl, hR, hK⟩
  go_wp2_with fail
  go_ret
  exact ⟨rfl, κ1, es, sv, _, hR, (HK1.out.trans HK2.out).trans ((Kept.below hB3).trans hK)⟩
theorem field_tok (k : Int) (s : ByteArray) (a : Int) (w : World) : (Instr.field 48 (.agg #[.int .i64 k, .string s, .int .i64 a]) 2).run Tryz.prog w = .ok (.int .i64 a) w := by kernel_rfl
theorem field_kind (k : Int) (s : ByteArray) (a : Int) (w : World) : (Instr.field 48 (.agg #[.int .i64 k, .string s, .int .i64 a]) 0).run Tryz.prog w = .ok (.int .i64 k) w := by kernel_rfl
/-- An open term with one place, in a new block. -/
theorem push_place {w W : World} {κ : Nat → Nat} {g : Nat} {ts : List Tm.T} {en : Tm.T} {s : Tm.S} {es : List Tm.E} {tv sv av : Value} (h : RInv w κ g ts en s es tv sv av) (hes : es.length ≤ s.i) (k m nd ls pr a p : Int) (nm : List UInt8)
    (hB : Below w.heap.size w W) (hW : W.heap = (w.alloc (.cells #[.int .i64 p] 3)).heap) :
    Calls Tryz.prog 72 #[.pointer (some ⟨g, 0, none⟩), .agg #[.int .i64 k, .int .i64 m, .string ⟨nm.toArray⟩, .int .i64 a, .slice none 0 0, .slice (some ⟨w.heap.size, 0, none⟩) 1 1, .int .i64 nd, .int .i64 ls, .int .i64 pr]]
      W fun r w' => r = .returned (.bool false) ∧
      ∃ κ' e' sv', RInv w' κ' g ts en (s.push e'.1) (e' :: es) tv sv' av ∧ Kept κ κ' w w' ∧ e'.1 = ⟨k, m, nm, a, [], [p], nd, ls, pr⟩ := by
  obtain ⟨h6, k6⟩ := h.recolor (.slice (some ⟨w.heap.size, 0, none⟩) 1 1) (5 + 2 * es.length) (fun k e => by cases e; exact Nat.le_refl _)
  have hown := own_new w (g + 1) 3 1 1 [.int .i64 p] rfl h.blk.lt (by unfold maxLen; omega)
  have hown2 : W.ownsRow (g + 1) 3 1 (.slice (some ⟨w.heap.size, 0, none⟩) 1 1) 1 [.int .i64 p] := by
    unfold World.ownsRow at hown ⊢
    rw [hW]
    exact hown
  refine (ppush_any (h6.below hB) ⟨k, m, nm, a, [], [p], nd, ls, pr⟩ (.slice none 0 0) (.slice (some ⟨w.heap.size, 0, none⟩) 1 1)
    ⟨⟨[], rfl, World.ownsRow_nil _ _ _ _, (fun j a t ha => by simp at ha)⟩, (fun k e => by cases e), hown2, recol_own _ _ _⟩ hes (by simp)).mono ?_
  rintro r w' ⟨rfl, κ', sv', h7, k7⟩
  exact ⟨rfl, κ', (⟨k, m, nm, a, [], [p], nd, ls, pr⟩, .slice none 0 0, .slice (some ⟨w.heap.size, 0, none⟩) 1 1), sv', h7, k6.trans ((Kept.below hB).trans k7), rfl⟩
set_option maxRecDepth 100000 in
set_option maxHeartbeats 1000000 in
theorem beginBracket_open {w : World} {κ : Nat → Nat} {g : Nat} {ts : List Tm.T} {en : Tm.T} {s : Tm.S} {es : List Tm.E} {tv sv av : Value} (h : RInv w κ g ts en s es tv sv av) (hes : es.length ≤ s.i) (k a : Int) (x : ByteArray) (h1 : (x.toList == [40]) = false) (h2 : (x.toList == [123]) = false)
    (hx : Tm.punct (Tm.peek ts en s.i) ≠ [93]) :
    Calls Tryz.prog 131 #[.pointer (some ⟨g, 0, none⟩), .agg #[.int .i64 k, .string x, .int .i64 a]] w (BPost w κ g ts en tv (s.push (Tm.opn 5 999 [] 0 [] [(Tm.peek ts en s.i).2.2]), false)) := by
  have hx' : Tm.punct (Tm.peek ts en s.i) ≠ (⟨#[93]⟩ : ByteArray).toList := by rw [Go.ByteArray.toList_eq]; exact hx
  have HX := Lib.hid hx'; clear hx hx'
  have HH := Lib.hid h
  clear h
  generalize hT : Tm.peek ts en s.i = T
  have HT := Lib.hid hT; clear hT
  have hf := field_tok
  go_enter Tryz.func131, Tryz.ntmps131
  go_wp2_with fail
  refine (pskip_no (HH.out.below ((Below.refl _ _).alloc (Nat.le_refl _) _)) _ HX.out).mono ?_
  rintro e w2 ⟨rfl, hB2⟩
  obtain ⟨t0, t1, t2, hB3⟩ := box_tok hB2
  have HR2 := Lib.hid (HH.out.below hB3)
  go_wp2_with fail
  refine (peek_any HR2.out).mono ?_
  rintro e w3 ⟨rfl, hB4⟩
  rw [HT.out]
  have HR3 := Lib.hid (HR2.out.below hB4)
  have hB5 := hB3.trans (hB4.mono hB3.size)
  go_wp2_with fail
  refine (push_place HR3.out hes 5 999 0 0 0 0 T.2.2 [] ((Below.refl _ _).alloc (Nat.le_refl _) _) rfl).mono ?_
  rintro e w4 ⟨rfl, κ', e', sv', hR, hK, he⟩
  have HR := Lib.hid hR
  have HE := Lib.hid he
  clear hR he
  go_wp2_with fail
  go_ret
  have hfin := HR.out
  rw [HE.out] at hfin
  exact ⟨rfl, κ', e' :: es, sv', av, hfin, (Kept.below hB5).trans hK⟩
end Go.Proofs.YtaefonagbcnmdaaGreatDoor

namespace Go.Proofs.YtaefonagbcnmdaaGreatDoor
open Go.RowKit

/-- An open term of one part, in whatever world its block has just been made. -/
theorem push_part {w W : World} {κ : Nat → Nat} {g : Nat} {ts : List Tm.T} {en : Tm.T} {s : Tm.S} {es : List Tm.E} {tv sv av : Value} (h : RInv w κ g ts en s es tv sv av) (hes : es.length ≤ s.i) (k m nd ls pr a : Int) (nm : List UInt8) (t : Tm) {A' : Option Addr} {c' : Nat}
    (ht : Targs w κ (.slice A' t.args.length c') t.args) (hB : Below w.heap.size w W) (hW : W.heap = (w.alloc (.cells #[.int .i64 t.kind, .string ⟨t.name.toArray⟩, .int .i64 t.num, .slice A' t.args.length c', .int .i64 t.at_] 32)).heap) :
    Calls Tryz.prog 72 #[.pointer (some ⟨g, 0, none⟩), .agg #[.int .i64 k, .int .i64 m, .string ⟨nm.toArray⟩, .int .i64 a, .slice (some ⟨w.heap.size, 0, none⟩) 1 1, .slice none 0 0, .int .i64 nd, .int .i64 ls, .int .i64 pr]] W fun r w' => r = .returned (.bool false) ∧
      ∃ κ' e' sv', RInv w' κ' g ts en (s.push e'.1) (e' :: es) tv sv' av ∧ Kept κ κ' w w' ∧ e'.1 = ⟨k, m, nm, a, [t], [], nd, ls, pr⟩ := by
  obtain ⟨h6, k6⟩ := h.recolor (.slice (some ⟨w.heap.size, 0, none⟩) 1 1) (4 + 2 * es.length) (fun k e => by cases e; exact Nat.le_refl _)
  refine (ppush_any (h6.below hB) ⟨k, m, nm, a, [t], [], nd, ls, pr⟩ (.slice (some ⟨w.heap.size, 0, none⟩) 1 1) (.slice none 0 0) (open_one (ht.kept k6) hB hW (recol_own _ _ _ _ rfl) h.blk.lt rfl rfl) hes (by simp)).mono ?_
  rintro r w' ⟨rfl, κ', sv', h7, k7⟩
  exact ⟨rfl, κ', (⟨k, m, nm, a, [t], [], nd, ls, pr⟩, .slice (some ⟨w.heap.size, 0, none⟩) 1 1, .slice none 0 0), sv', h7, k6.trans ((Kept.below hB).trans k7), rfl⟩
set_option maxRecDepth 100000 in
set_option maxHeartbeats 2000000 in
theorem beginVariable_yes {w : World} {κ : Nat → Nat} {g : Nat} {ts : List Tm.T} {en : Tm.T} {s : Tm.S} {es : List Tm.E} {tv sv av : Value} (h : RInv w κ g ts en s es tv sv av) (hi : s.i ≤ ts.length) (hes : es.length ≤ s.i + 1) (k a : Int) (x : List UInt8)
    (hx : Tm.punct (Tm.peek ts en s.i) = [40, 40]) :
    Calls Tryz.prog 128 #[.pointer (some ⟨g, 0, none⟩), .agg #[.int .i64 k, .string ⟨x.toArray⟩, .int .i64 a]] w (BPost w κ g ts en tv (s.next.push (Tm.opn 2 999 [99, 97, 108, 108] a [Tm.variable_ (k, x, a)] []), false)) := by
  have hx' : Tm.punct (Tm.peek ts en s.i) = (⟨#[40, 40]⟩ : ByteArray).toList := by rw [Go.ByteArray.toList_eq]; exact hx
  have HX := Lib.hid hx'; clear hx hx'
  obtain ⟨κ1, hR1, hK1, hc⟩ := h.boxed (.cells #[.int .i64 k, .string ⟨x.toArray⟩, .int .i64 a] 48)
  have HR1 := Lib.hid hR1
  have HK1 := Lib.hid hK1
  have HC := Lib.hid hc
  clear h hR1 hK1 hc
  go_enter Tryz.func128, Tryz.ntmps128
  go_wp2_with fail
  refine (pskip_yes HR1.out hi _ HX.out).mono ?_
  rintro e w2 ⟨rfl, hR2, hK2⟩
  obtain ⟨t0, t1, t2, htl⟩ := kept_tok hK2 HC.out
  have HR2 := Lib.hid hR2
  have HK2 := Lib.hid hK2
  have hgl2 := hR2.blk.lt
  have HES := Lib.hid (show es.length ≤ s.next.i from hes)
  clear hR2 hK2 hes hi
  go_wp2_with fail
  go_region_with (first
    | (go_at_call 165; refine (variable_any _ _ _ _).mono ?_; (rintro e w3 ⟨rfl, hB3⟩); have hB4 : Below w2.heap.size w2 w3 := ((Below.refl w2.heap.size w2).drew).trans hB3; have t2' : w3.cell? ⟨w.heap.size, 2, none⟩ = some (.int .i64 a) := (hB4.cell (p := ⟨w.heap.size, 2, none⟩) htl).trans t2; have htl3 : w.heap.size < w3.heap.size := World.block_lt_of_cell? w3 _ t2'; have HB := Lib.hid hB4; clear hB3 hB4)
    | (go_at_call 72; refine (push_part (HR2.out.below HB.out) HES.out 2 999 0 0 0 a [99, 97, 108, 108] (Tm.variable_ (k, x, a)) (.nil none 0) ((Below.refl _ _).alloc (Nat.le_refl _) _) rfl).mono ?_; (rintro r w7 ⟨rfl, κ', e', sv', hR7, hK7, he'⟩); have HR7 := Lib.hid hR7; have HK7 := Lib.hid hK7; have HE7 := Lib.hid he'; clear hR7 hK7 he'))
  all_goals
    go_wp2_with fail
    go_ret
    have hfin := HR7.out
    rw [HE7.out] at hfin
    exact ⟨rfl, κ', e' :: es, sv', av, hfin, (HK1.out.trans HK2.out).trans ((Kept.below HB.out).trans HK7.out)⟩
end Go.Proofs.YtaefonagbcnmdaaGreatDoor

namespace Go.Proofs.YtaefonagbcnmdaaGreatDoor
open Go.RowKit

theorem Blk.kept {w w2 : World} {κ1 κ2 : Nat → Nat} {g : Nat} {t : TypeId} {cs : Array Value} (h : Blk w g t cs) (hK : Kept κ1 κ2 w w2) (h1 : κ1 g = 1) : Blk w2 g t cs := (hK.block g h.lt (by omega)).1.trans h
set_option maxRecDepth 100000 in
set_option maxHeartbeats 2000000 in
/-- A name in front of arguments. -/
theorem beginName_args {w : World} {κ : Nat → Nat} {g : Nat} {ts : List Tm.T} {en : Tm.T} {s : Tm.S} {es : List Tm.E} {tv sv av : Value} (h : RInv w κ g ts en s es tv sv av) (hi : s.i ≤ ts.length) (hes : es.length ≤ s.i + 1) (k a : Int) (x : List UInt8)
    (hx : Tm.punct (Tm.peek ts en s.i) = [40, 40]) :
    Calls Tryz.prog 127 #[.pointer (some ⟨g, 0, none⟩), .agg #[.int .i64 k, .string ⟨x.toArray⟩, .int .i64 a]] w (BPost w κ g ts en tv (s.next.push (Tm.opn 2 999 x a [] []), false)) := by
  have hx' : Tm.punct (Tm.peek ts en s.i) = (⟨#[40, 40]⟩ : ByteArray).toList := by rw [Go.ByteArray.toList_eq]; exact hx
  have HX := Lib.hid hx'; clear hx hx'
  obtain ⟨κ1, hR1, hK1, hc⟩ := h.boxed (.cells #[.int .i64 k, .string ⟨x.toArray⟩, .int .i64 a] 48)
  have HR1 := Lib.hid hR1
  have HK1 := Lib.hid hK1
  have HC := Lib.hid hc
  clear h hR1 hK1 hc
  generalize hT : Tm.peek ts en s.i = T
  have HT := Lib.hid hT; clear hT
  go_enter Tryz.func127, Tryz.ntmps127
  go_wp2_with fail
  refine (peek_any HR1.out).mono ?_
  rintro e w2 ⟨rfl, hB2⟩
  rw [HT.out]
  have hbx := (Blk.new w 48 #[.int .i64 k, .string ⟨x.toArray⟩, .int .i64 a]).below hB2 (by simp)
  have HBX := Lib.hid (hbx.alloc (.cells #[.int .i64 T.1, .string ⟨T.2.1.toArray⟩, .int .i64 T.2.2] 48))
  have hB3 : Below (w.alloc (.cells #[.int .i64 k, .string ⟨x.toArray⟩, .int .i64 a] 48)).heap.size (w.alloc (.cells #[.int .i64 k, .string ⟨x.toArray⟩, .int .i64 a] 48)) (w2.alloc (.cells #[.int .i64 T.1, .string ⟨T.2.1.toArray⟩, .int .i64 T.2.2] 48)) := hB2.alloc hB2.size _
  have HB3 := Lib.hid hB3
  have hgl2 := (HR1.out.below hB2).blk.lt
  clear hB2 hB3 hbx
  go_wp2_with fail
  refine (pskip_yes (HR1.out.below HB3.out) hi _ HX.out).mono ?_
  rintro e w3 ⟨rfl, hR3, hK3⟩
  have hb3 := HBX.out.kept hK3 HC.out
  have t1 : w3.cell? ⟨w.heap.size, 1, none⟩ = some (.string ⟨x.toArray⟩) := by simpa using hb3.cell 1
  have t2 : w3.cell? ⟨w.heap.size, 2, none⟩ = some (.int .i64 a) := by simpa using hb3.cell 2
  have HR3 := Lib.hid hR3
  have HK3 := Lib.hid hK3
  have HES := Lib.hid (show es.length ≤ s.next.i from hes)
  clear hR3 hK3 hb3 hes hi
  go_wp2_with fail
  refine (ppush_any HR3.out (Tm.opn 2 999 x a [] []) (.slice none 0 0) (.slice none 0 0) (open_none rfl rfl) HES.out (by simp [Tm.opn])).mono ?_
  rintro e w4 ⟨rfl, κ', sv', hR, hK⟩
  go_wp2_with fail
  go_ret
  exact ⟨rfl, κ', _, sv', _, hR, (HK1.out.trans (Kept.below HB3.out)).trans (HK3.out.trans hK)⟩
end Go.Proofs.YtaefonagbcnmdaaGreatDoor

namespace Go.Proofs.YtaefonagbcnmdaaGreatDoor
open Go.RowKit

set_option maxRecDepth 100000 in
set_option maxHeartbeats 4000000 in
/-- A name that is no prefix operator: an atom. -/
theorem beginName_atom {w : World} {κ : Nat → Nat} {g : Nat} {ts : List Tm.T} {en : Tm.T} {s : Tm.S} {es : List Tm.E} {tv sv av : Value} (h : RInv w κ g ts en s es tv sv av) (k a : Int) (x : List UInt8) (T : Tm.T) (hT : Tm.peek ts en s.i = T)
    (hx : Tm.punct T ≠ [40, 40]) (h2 : (x == [45] && T.1 == 3) = false) (h3 : (Tm.isBang x && T.1 == 2) = false) (h4 : (Tm.prefix_ x).1 = 0) (h5 : Tm.suits x [] = true) :
    Calls Tryz.prog 127 #[.pointer (some ⟨g, 0, none⟩), .agg #[.int .i64 k, .string ⟨x.toArray⟩, .int .i64 a]] w (BPost w κ g ts en tv (s.have_ (Tm.app x a []), true)) := by
  have hx' : Tm.punct (Tm.peek ts en s.i) ≠ (⟨#[40, 40]⟩ : ByteArray).toList := by rw [Go.ByteArray.toList_eq, hT]; exact hx
  have HX := Lib.hid hx'; clear hx hx'
  have HH := Lib.hid h; clear h
  have HT := Lib.hid hT; clear hT
  have hck := checked_ok (Tm.app x a []) (.slice none 0 0)
  obtain ⟨S, hS⟩ : ∃ S : ByteArray, ⟨x.toArray⟩ = S := ⟨_, rfl⟩
  have hSx : S.toList = x := by rw [← hS, str_list]
  rw [hS]
  obtain ⟨P, hP⟩ : ∃ P, Tm.prefix_ x = P := ⟨_, rfl⟩
  rw [hP] at h4
  have HP := Lib.hid (show Tm.prefix_ S.toList = P by rw [hSx]; exact hP)
  obtain ⟨Bg, hBg⟩ : ∃ b, Tm.isBang x = b := ⟨_, rfl⟩
  rw [hBg] at h3
  have HBG := Lib.hid (show Tm.isBang S.toList = Bg by rw [hSx]; exact hBg)
  have h4b : (P.1 == 0) = true := by rw [beq_iff_eq]; exact h4
  have HS := Lib.hid hS
  have H5 := Lib.hid h5
  have h2' : (S.toList == [45]) = false ∨ ((S.toList == [45]) = true ∧ (T.1 == 3) = false) := by
    rw [hSx]
    cases hq : (x == [45])
    · exact .inl rfl
    · rw [hq, Bool.true_and] at h2; exact .inr ⟨rfl, h2⟩
  have h3' : Bg = false ∨ (Bg = true ∧ (T.1 == 2) = false) := by
    cases Bg
    · exact .inl rfl
    · rw [Bool.true_and] at h3; exact .inr ⟨rfl, h3⟩
  clear h2 h3 hP hBg hS hSx h4 h5 hck
  rcases h2' with h2 | ⟨h2, h2b⟩ <;> rcases h3' with rfl | ⟨rfl, h3b⟩
  all_goals
    go_enter Tryz.func127, Tryz.ntmps127
    go_wp2_with fail
    refine (peek_any (HH.out.below ((Below.refl _ _).alloc (Nat.le_refl _) _))).mono ?_
    rintro e w2 ⟨rfl, hB2⟩
    rw [HT.out]
    have hbx := (Blk.new w 48 #[.int .i64 k, .string S, .int .i64 a]).below hB2 (by simp)
    have hbx2 := hbx.alloc (.cells #[.int .i64 T.1, .string ⟨T.2.1.toArray⟩, .int .i64 T.2.2] 48)
    have hby := Blk.new w2 48 #[.int .i64 T.1, .string ⟨T.2.1.toArray⟩, .int .i64 T.2.2]
    have hB3 : Below w.heap.size w (w2.alloc (.cells #[.int .i64 T.1, .string ⟨T.2.1.toArray⟩, .int .i64 T.2.2] 48)) := (((Below.refl w.heap.size w).alloc (Nat.le_refl _) _).trans (hB2.mono (by simp))).alloc (by have := hB2.size; simp at this; omega) _
    have HB3 := Lib.hid hB3
    have HBX := Lib.hid hbx2
    have HBY := Lib.hid hby
    have hz2 := hbx.lt
    clear hB2 hB3 hbx hbx2 hby
    go_wp2_with fail
    refine (pskip_no (HH.out.below HB3.out) _ HX.out).mono ?_
    rintro e w3 ⟨rfl, hB4⟩
    have hb3 := HBX.out.below hB4 HBX.out.lt
    have hc3 := HBY.out.below hB4 HBY.out.lt
    have t1 : w3.cell? ⟨w.heap.size, 1, none⟩ = some (.string S) := by simpa using hb3.cell 1
    have t2 : w3.cell? ⟨w.heap.size, 2, none⟩ = some (.int .i64 a) := by simpa using hb3.cell 2
    have u0 : w3.cell? ⟨w2.heap.size, 0, none⟩ = some (.int .i64 T.1) := by simpa using hc3.cell 0
    have HB5 := Lib.hid (HB3.out.trans (hB4.mono HB3.out.size))
    clear hb3 hc3 hB4
    go_wp2_with fail
    refine (isBang_any _ _).mono ?_
    rintro e w' ⟨rfl, rfl⟩
    rw [HBG.out]
    go_wp2_with fail
    refine (prefix_any _ _).mono ?_
    rintro e w' ⟨rfl, rfl⟩
    rw [HP.out]
    go_wp2_with fail
    refine (application_any _ _ none 0 0 _).mono ?_
    rintro e w4 ⟨rfl, hB6⟩
    rw [← HS.out]
    go_wp2_with fail
    refine (checked_ok (Tm.app x a []) (.slice none 0 0) _ ⟨none, 0, rfl, fun t r e => by cases e⟩ H5.out).mono ?_
    rintro e w5 ⟨rfl, hB7⟩
    have HB8 := Lib.hid ((HB5.out.trans (hB6.mono HB5.out.size)).trans (hB7.mono (HB5.out.trans (hB6.mono HB5.out.size)).size))
    clear hB6 hB7
    go_wp2_with fail
    refine (phave_any (HH.out.below HB8.out) (Tm.app x a []) (.slice none 0 0) (.nil none 0)).mono ?_
    rintro e w6 ⟨rfl, hR, hK⟩
    go_wp2_with fail
    go_ret
    exact ⟨rfl, κ, es, sv, _, hR, (Kept.below HB8.out).trans hK⟩
end Go.Proofs.YtaefonagbcnmdaaGreatDoor

