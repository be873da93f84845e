import Derived.Test.YtnkmefnbhfghgaaGreatDoorP2
import Derived.Test.YtnkmefnbhfghgaaGreatDoorA23
set_option linter.unusedSimpArgs false
set_option linter.unusedVariables false
namespace Go.Proofs.YtnkmefnbhfghgaaGreatDoor
open Go.RowKit

/-! The reference's reader, as a function on lists of bytes. -/
/-- What one step of the reference comes to: it stands elsewhere, it has a token, or it has met its first error. -/
inductive Tk.Q where
  | move (z : Nat)
  | tok (kind : Int) (text : List UInt8) (z : Nat)
  | bad (p : Nat) (c : Int)
def Tk.qadd (k : Int) (t : List UInt8) (z p : Nat) : Tk.Q := if Tk.check k t = 0 then .tok k t z else .bad p (Tk.check k t)
def Tk.qline (l : List UInt8) (p : Nat) : Tk.Q :=
  if Tk.run Tk.inLine l (p + 1) < l.length then (if Tk.bt l (Tk.run Tk.inLine l (p + 1)) = 10 then .move (Tk.run Tk.inLine l (p + 1)) else .bad (Tk.run Tk.inLine l (p + 1)) 2) else .move l.length
def Tk.qcom (l : List UInt8) (p : Nat) : Nat → Nat → Tk.Q
  | 0, _ => .bad p 12
  | f + 1, i =>
    if i < l.length then
      if Tk.inText (Tk.bt l i) then
        if p + 2 < i then
          if Tk.bt l i = 47 then
            if Tk.bt l (i - 1) = 42 then .move (i + 1) else Tk.qcom l p f (i + 1)
          else Tk.qcom l p f (i + 1)
        else Tk.qcom l p f (i + 1)
      else .bad i 2
    else .bad p 12
def Tk.qname (t : List UInt8) (z p : Nat) : Tk.Q := if Tk.badName t then .bad p 11 else Tk.qadd 1 t z p
def Tk.qclose (m : Int) (t : List UInt8) (z p : Nat) : Tk.Q := if m = 39 then Tk.qname t z p else Tk.qadd 5 t z p
def Tk.qq (l : List UInt8) (p : Nat) (m : Int) : Nat → Nat → List UInt8 → Tk.Q
  | 0, _, _ => .bad p 12
  | f + 1, i, acc =>
    if i < l.length then
      if Tk.bt l i = m then Tk.qclose m acc (i + 1) p
      else if Tk.inText (Tk.bt l i) then
        if Tk.shown (Tk.bt l i) then
          if Tk.bt l i = 92 then
            if i + 1 < l.length then
              if Tk.inText (Tk.bt l (i + 1)) then
                if Tk.meant (Tk.bt l (i + 1)) m = 0 then .bad i 11
                else Tk.qq l p m f (i + 2) (acc ++ [UInt8.ofNat (Tk.meant (Tk.bt l (i + 1)) m).toNat])
              else .bad (i + 1) 2
            else Tk.qq l p m f (i + 1) (acc ++ [92])
          else Tk.qq l p m f (i + 1) (acc ++ [UInt8.ofNat (Tk.bt l i).toNat])
        else .bad i 11
      else .bad i 2
    else .bad p 12
def Tk.qquoted (l : List UInt8) (p : Nat) : Tk.Q := Tk.qq l p (Tk.bt l p) (l.length + 1) (p + 1) []
def Tk.qchar (l : List UInt8) (p : Nat) : Tk.Q :=
  if p + 2 < l.length then
    if Tk.inText (Tk.bt l (p + 2)) then
      if Tk.bt l (p + 2) = 92 then
        if p + 3 < l.length then
          if Tk.inText (Tk.bt l (p + 3)) then
            if Tk.meant (Tk.bt l (p + 3)) 92 = 0 then .bad p 11
            else Tk.qadd 4 [UInt8.ofNat (Tk.meant (Tk.bt l (p + 3)) 92).toNat] (p + 4) p
          else .bad (p + 3) 2
        else .bad p 11
      else if Tk.bt l (p + 2) < 32 then .bad p 11
      else Tk.qadd 4 [UInt8.ofNat (Tk.bt l (p + 2)).toNat] (p + 3) p
    else .bad (p + 2) 2
  else .bad p 11
def Tk.qnum (l : List UInt8) (p : Nat) : Tk.Q :=
  if Tk.bt l p = 48 ∧ Tk.bt l (p + 1) = 39 then Tk.qchar l p else Tk.qadd 3 (Tk.sub l p (Tk.run Tk.digit l p)) (Tk.run Tk.digit l p) p
def Tk.qsigns (l : List UInt8) (p : Nat) : Tk.Q :=
  if Tk.sub l p (Tk.run Tk.sign l p) = [46] then
    if Tk.run Tk.sign l p = l.length then Tk.qadd 7 [46] (Tk.run Tk.sign l p) p
    else if Tk.blank (Tk.bt l (Tk.run Tk.sign l p)) then Tk.qadd 7 [46] (Tk.run Tk.sign l p) p
    else if Tk.bt l (Tk.run Tk.sign l p) = 37 then Tk.qadd 7 [46] (Tk.run Tk.sign l p) p
    else .bad p 11
  else Tk.qadd 1 (Tk.sub l p (Tk.run Tk.sign l p)) (Tk.run Tk.sign l p) p
/-- One step; b: a name or a variable stands directly in front. -/
def Tk.qnext (l : List UInt8) (p : Nat) (b : Bool) : Tk.Q :=
  if Tk.inText (Tk.bt l p) then
    if Tk.blank (Tk.bt l p) then .move (p + 1)
    else if Tk.bt l p = 37 then Tk.qline l p
    else if Tk.bt l p = 47 ∧ Tk.bt l (p + 1) = 42 then Tk.qcom l p (l.length + 1) (p + 1)
    else if Tk.small (Tk.bt l p) then Tk.qadd 1 (Tk.sub l p (Tk.dottedEnd l p)) (Tk.dottedEnd l p) p
    else if Tk.capital (Tk.bt l p) then Tk.qadd 2 (Tk.sub l p (Tk.run Tk.inWord l p)) (Tk.run Tk.inWord l p) p
    else if Tk.digit (Tk.bt l p) then Tk.qnum l p
    else if Tk.bt l p = 39 ∨ Tk.bt l p = 34 then Tk.qquoted l p
    else if Tk.bt l p = 59 then Tk.qadd 1 [59] (p + 1) p
    else if Tk.bt l p = 33 then Tk.qadd 1 (Tk.sub l p (Tk.bangEnd l p)) (Tk.bangEnd l p) p
    else if Tk.sign (Tk.bt l p) then Tk.qsigns l p
    else if Tk.bt l p = 40 ∧ b = true then Tk.qadd 6 [40, 40] (p + 1) p
    else if Tk.punct (Tk.bt l p) then Tk.qadd 6 (Tk.sub l p (p + 1)) (p + 1) p
    else .bad p 2
  else .bad p 2
/-- Does a name or a variable end at an index. -/
def Tk.qcalled (out : List Tk.T) (to p : Nat) : Bool :=
  match out.getLast? with
  | none => false
  | some t => (t.1 == 1 || t.1 == 2) && decide (to = p)
def Tk.qtoks : Nat → List UInt8 → Nat → List Tk.T → Nat → Except (Nat × Int) (List Tk.T)
  | 0, _, _, _, _ => .error (0, 0)
  | f + 1, l, p, out, to =>
    if p < l.length then
      match Tk.qnext l p (Tk.qcalled out to p) with
      | .move z => Tk.qtoks f l z out to
      | .tok k t z => Tk.qtoks f l z (out ++ [(k, t, p)]) z
      | .bad q c => .error (q, c)
    else .ok (out ++ [(0, [], l.length)])
end Go.Proofs.YtnkmefnbhfghgaaGreatDoor
