import Derived.Test.YtgmfhcnhpkeapaaGreatDoorGR
import Derived.Test.YtgmfhcnhpkeapaaGreatDoorA23
set_option linter.unusedSimpArgs false
set_option linter.unusedVariables false
namespace Go.Proofs.YtgmfhcnhpkeapaaGreatDoor
open Go.RowKit

theorem takeWhile_len {α : Type} (p : α → Bool) : ∀ l : List α, ((l.takeWhile p).length == l.length) = l.all p
  | [] => rfl
  | a :: t => by
    rw [List.takeWhile_cons, List.all_cons]
    cases h : p a
    · simp
    · have := takeWhile_len p t
      simp only [if_true, List.length_cons, Bool.true_and, ← this]
      rw [Bool.eq_iff_iff, beq_iff_eq, beq_iff_eq]; omega
theorem Tk.every_eq (p : Int → Bool) (l : List UInt8) : Tk.every p l = (!(l == []) && Tk.allB p l) := by
  unfold Tk.every Tk.run Tk.allB
  rw [Nat.zero_add, List.drop_zero, takeWhile_len]
  cases l <;> rfl
theorem byte_all (P : Int → Bool) (h : ∀ n : Fin 256, P (n.val : Int) = true) (c : UInt8) : P (c.toNat : Int) = true :=
  h ⟨c.toNat, c.toNat_lt⟩
theorem Tk.sign_eq (c : UInt8) : Tk.sign (c.toNat : Int) = Tk.rsign (c.toNat : Int) := by
  have := byte_all (fun n => Tk.sign n == Tk.rsign n) (by decide +kernel) c
  exact eq_of_beq this
theorem Tk.punct_eq (c : UInt8) : Tk.punct (c.toNat : Int) = Tk.hasB [40, 41, 91, 93, 123, 125, 44, 124] (c.toNat : Int) := by
  have := byte_all (fun n => Tk.punct n == Tk.hasB [40, 41, 91, 93, 123, 125, 44, 124] n) (by decide +kernel) c
  exact eq_of_beq this
theorem Tk.run_congr {p q : Int → Bool} (h : ∀ c : UInt8, p (c.toNat : Int) = q (c.toNat : Int)) (l : List UInt8) (i : Nat) : Tk.run p l i = Tk.run q l i := by
  unfold Tk.run
  have : (fun c : UInt8 => p (c.toNat : Int)) = (fun c : UInt8 => q (c.toNat : Int)) := funext h
  rw [this]
theorem Tk.bt_zero (c : UInt8) (t : List UInt8) : Tk.bt (c :: t) 0 = (c.toNat : Int) := rfl

theorem Tk.small_not (c : UInt8) : (!(Tk.small (c.toNat : Int) && (Tk.rsign (c.toNat : Int) || (c.toNat : Int) == 59 || (c.toNat : Int) == 33))) = true :=
  byte_all (fun n => !(Tk.small n && (Tk.rsign n || n == 59 || n == 33))) (by decide +kernel) c
theorem Tk.sign_not (c : UInt8) : (!(Tk.rsign (c.toNat : Int) && ((c.toNat : Int) == 59 || (c.toNat : Int) == 33))) = true :=
  byte_all (fun n => !(Tk.rsign n && (n == 59 || n == 33))) (by decide +kernel) c
theorem beq_byte (c : UInt8) (n : Nat) (d : UInt8) (hd : d.toNat = n) : (c == d) = ((c.toNat : Int) == (n : Int)) := by
  rw [Bool.eq_iff_iff, beq_iff_eq, beq_iff_eq, ← UInt8.toNat_inj, hd]; omega
theorem Tk.bang_cons (c : UInt8) (t : List UInt8) : Tk.bang (c :: t) = (((c.toNat : Int) == 59 || (c.toNat : Int) == 33) && t == []) := by
  have h1 := beq_byte c 33 33 rfl
  have h2 := beq_byte c 59 59 rfl
  unfold Tk.bang
  rw [show ((c :: t) == [33]) = ((c == 33) && (t == [])) from rfl, show ((c :: t) == [59]) = ((c == 59) && (t == [])) from rfl, h1, h2]
  cases ((c.toNat : Int) == ((33 : Nat) : Int)) <;> cases ((c.toNat : Int) == ((59 : Nat) : Int)) <;> cases (t == []) <;> rfl
theorem beq_swap (a b : UInt8) : (a == b) = (b == a) := by rw [Bool.eq_iff_iff, beq_iff_eq, beq_iff_eq]; exact eq_comm
theorem if_beq (sm rs : Bool) (a b n : Nat) : ((if sm = true then a else if rs = true then b else 1) == n) = if sm = true then (a == n) else if rs = true then (b == n) else (1 == n) := by cases sm <;> cases rs <;> rfl
theorem prefix_two (l : List UInt8) : Lib.hasPrefix l [47, 42] = (decide (1 < l.length) && l.take 2 == [47, 42]) := by
  unfold Lib.hasPrefix
  match l with
  | [] => rfl
  | [c] =>
    show (((47 : UInt8) == c) && false) = _
    simp
  | c :: d :: t =>
    show ((47 : UInt8) == c && ((42 : UInt8) == d && true)) = (decide (1 < (c :: d :: t).length) && ((c == 47) && ((d == 42) && true)))
    rw [show decide (1 < (c :: d :: t).length) = true from by rw [decide_eq_true_eq, List.length_cons, List.length_cons]; omega, Bool.true_and, beq_swap, beq_swap (42 : UInt8)]

theorem Tk.plain_eq (l : List UInt8) : Tk.rplain l = Tk.bare l := by
  cases l with
  | nil => rfl
  | cons c t =>
    have hs := Tk.small_not c
    have hg := Tk.sign_not c
    unfold Tk.rplain Tk.bare Tk.rhead Tk.bareEnd
    rw [Tk.bt_zero, Tk.bang_cons, prefix_two, Tk.every_eq, Tk.dotted, Tk.starts_yes (by simp), Tk.bt_zero]
    have he : Tk.allB Tk.sign (c :: t) = (Tk.rsign (c.toNat : Int) && (Tk.run Tk.rsign (c :: t) 1 == (c :: t).length)) := by
      unfold Tk.allB
      rw [List.all_cons, Tk.sign_eq, Tk.run, List.drop_one, List.tail_cons, List.length_cons]
      congr 1
      rw [← takeWhile_len]
      have : (fun c : UInt8 => Tk.sign (c.toNat : Int)) = (fun c : UInt8 => Tk.rsign (c.toNat : Int)) := funext Tk.sign_eq
      rw [this, Bool.eq_iff_iff, beq_iff_eq, beq_iff_eq]; omega
    rw [he]
    generalize hsm : Tk.small (c.toNat : Int) = sm at hs
    generalize hrs : Tk.rsign (c.toNat : Int) = rs at hs hg
    generalize h59 : ((c.toNat : Int) == 59) = b59 at hs hg
    generalize h33 : ((c.toNat : Int) == 33) = b33 at hs hg
    have hc1 : (1 == (c :: t).length) = (t == []) := by cases t <;> simp
    have hne : ((c :: t) == []) = false := rfl
    have h46 : ((c :: t) == [46]) = true → rs = true := by
      intro h
      have : c = 46 := by simpa using (List.cons.inj (eq_of_beq h)).1
      subst this; rw [← hrs]; decide
    have h47 : (decide (1 < (c :: t).length) && (c :: t).take 2 == [47, 42]) = true → rs = true := by
      intro h
      simp only [Bool.and_eq_true] at h
      have : c = 47 := by
        have := eq_of_beq h.2
        cases t with
        | nil => simp at this
        | cons d u => simp at this; exact this.1
      subst this; rw [← hrs]; decide
    generalize ((c :: t) == [46]) = e46 at h46
    generalize (decide (1 < (c :: t).length) && (c :: t).take 2 == [47, 42]) = e47 at h47
    have hie : (c :: t).isEmpty = false := rfl
    rw [hie, hne, if_beq, hc1]
    generalize (Tk.dottedEnd (c :: t) 0 == (c :: t).length) = de
    generalize (Tk.run Tk.rsign (c :: t) 1 == (c :: t).length) = re
    generalize (t == []) = te
    clear he hc1 hne hie hsm hrs h59 h33
    revert hs hg h46 h47
    cases sm <;> cases rs <;> cases b59 <;> cases b33 <;> cases e46 <;> cases e47 <;> cases de <;> cases re <;> cases te <;> decide

theorem Tk.plain_small (l : List UInt8) : (Tk.rplain l && Tk.small (Tk.bt l 0)) = Tk.dotted l := by
  cases l with
  | nil => rfl
  | cons c t =>
    have hs := Tk.small_not c
    rw [Tk.plain_eq, Tk.bt_zero]
    unfold Tk.bare
    rw [Tk.bang_cons, Tk.every_eq, Tk.dotted, Tk.starts_yes (by simp), Tk.bt_zero]
    unfold Tk.allB
    rw [List.all_cons, Tk.sign_eq]
    generalize Tk.small (c.toNat : Int) = sm at hs
    generalize Tk.rsign (c.toNat : Int) = rs at hs
    generalize ((c.toNat : Int) == 59) = b59 at hs
    generalize ((c.toNat : Int) == 33) = b33 at hs
    generalize (Tk.dottedEnd (c :: t) 0 == (c :: t).length) = de
    generalize (t == []) = te
    generalize (t.all fun b => Tk.sign (b.toNat : Int)) = al
    generalize ((c :: t) == [46]) = e46
    generalize (Lib.hasPrefix (c :: t) [47, 42]) = e47
    generalize ((c :: t) == []) = e0
    revert hs
    cases sm <;> cases rs <;> cases b59 <;> cases b33 <;> cases de <;> cases te <;> cases al <;> cases e46 <;> cases e47 <;> cases e0 <;> decide

theorem rgo_no (l : List UInt8) : ∀ n, n ≤ 40 → Lib.indexByte l 46 < 0 → Tk.rgo n l = decide (40 < n + l.length) := by
  induction l with
  | nil => intro n hn _; rw [Tk.rgo]; symm; simp; omega
  | cons c r ih =>
    intro n hn h
    have hb : (c == 46) = ((c.toNat : Int) == 46) := beq_byte c 46 46 rfl
    have hge := Lib.indexByte_ge r 46
    rw [Lib.indexByte] at h
    cases hc : (c == 46)
    · rw [hc] at h hb
      rw [Tk.rgo, ← hb]
      simp only [Bool.false_eq_true, if_false] at h ⊢
      have hr : Lib.indexByte r 46 < 0 := by
        by_cases e : Lib.indexByte r 46 = -1
        · omega
        · rw [if_neg (by simpa using e)] at h; omega
      by_cases h40 : 40 < n + 1
      · rw [if_pos h40]; symm; simp; omega
      · rw [if_neg h40, ih (n + 1) (by omega) hr, List.length_cons]
        congr 1; apply propext; constructor <;> intro h <;> omega
    · rw [hc] at h; simp at h
theorem rgo_yes (l : List UInt8) : ∀ n io : Nat, n ≤ 40 → Lib.indexByte l 46 = io → Tk.rgo n l = if 40 < n + io then true else Tk.rgo 0 (l.drop (io + 1)) := by
  induction l with
  | nil => intro n io hn h; rw [Lib.indexByte] at h; omega
  | cons c r ih =>
    intro n io hn h
    have hb : (c == 46) = ((c.toNat : Int) == 46) := beq_byte c 46 46 rfl
    have hge := Lib.indexByte_ge r 46
    rw [Lib.indexByte] at h
    rw [Tk.rgo]
    cases hc : (c == 46)
    · rw [hc] at h hb
      rw [← hb]
      simp only [Bool.false_eq_true, if_false] at h ⊢
      by_cases e : Lib.indexByte r 46 = -1
      · rw [if_pos (by simpa using e)] at h; omega
      · rw [if_neg (by simpa using e)] at h
        obtain ⟨j, rfl⟩ : ∃ j, io = j + 1 := ⟨io - 1, by omega⟩
        have hj : Lib.indexByte r 46 = (j : Int) := by omega
        by_cases h40 : 40 < n + 1
        · rw [if_pos h40, if_pos (by omega)]
        · rw [if_neg h40, ih (n + 1) j (by omega) hj, List.drop_succ_cons]
          by_cases h2 : 40 < n + 1 + j
          · rw [if_pos h2, if_pos (by omega)]
          · rw [if_neg h2, if_neg (by omega)]
    · rw [hc] at h hb
      rw [← hb]
      simp only [if_true] at h ⊢
      obtain rfl : io = 0 := by omega
      rw [if_neg (by omega), if_neg (by omega)]
      rfl
theorem indexByte_lt' (l : List UInt8) (c : UInt8) : ∀ io : Nat, Lib.indexByte l c = io → io < l.length := by
  induction l with
  | nil => intro io h; rw [Lib.indexByte] at h; omega
  | cons b r ih =>
    intro io h
    have hge := Lib.indexByte_ge r c
    rw [Lib.indexByte] at h
    rw [List.length_cons]
    cases hc : (b == c)
    · rw [hc] at h
      simp only [Bool.false_eq_true, if_false] at h
      by_cases e : Lib.indexByte r c = -1
      · rw [if_pos (by simpa using e)] at h; omega
      · rw [if_neg (by simpa using e)] at h
        have := ih (io - 1) (by omega)
        omega
    · rw [hc] at h; simp at h; omega
theorem rgo_long (f : Nat) : ∀ l : List UInt8, l.length < f → Tk.rgo 0 l = Tk.longPart f l := by
  induction f with
  | zero => intro l h; omega
  | succ f ih =>
    intro l h
    rw [Tk.longPart]
    by_cases hn : Lib.indexByte l 46 < 0
    · rw [if_pos hn, rgo_no l 0 (by omega) hn, Nat.zero_add]
    · rw [if_neg hn]
      obtain ⟨io, hio⟩ : ∃ io : Nat, Lib.indexByte l 46 = io := ⟨(Lib.indexByte l 46).toNat, by omega⟩
      have hlt : io < l.length := indexByte_lt' l 46 io hio
      rw [hio, Int.toNat_natCast, rgo_yes l 0 io (by omega) hio, Nat.zero_add, List.length_take, Nat.min_eq_left (by omega)]
      by_cases h40 : 40 < io
      · rw [if_pos h40, if_pos h40]
      · rw [if_neg h40, if_neg h40, ih _ (by rw [List.length_drop]; omega)]
end Go.Proofs.YtgmfhcnhpkeapaaGreatDoor
