import Derived.Test.YtnkmefnbhfghgaaDoorU3
set_option linter.unusedSimpArgs false
set_option linter.unusedVariables false
namespace Go.Proofs.YtnkmefnbhfghgaaDoor
open Go.RowKit

/-! Blanks and comments, and what stands behind them. -/
def Tk.sx (l : List UInt8) : Nat × Int := ((Tk.skipped l 0).1, (Tk.skipped l 0).2.2)
theorem skip_as (l : List UInt8) (f k : Nat) (hk : k ≤ l.length) (hf : l.length - k < f) : (Tk.skip f l k).1 = k + (Tk.sx (l.drop k)).1 ∧ (Tk.skip f l k).2.2 = (Tk.sx (l.drop k)).2 := by
  rw [skip_fuel l f (l.length + 1) k hk hf (by omega)]
  exact skipped_drop l k hk
theorem sx_nil : Tk.sx [] = (0, 0) := rfl
theorem sx_blank {c : UInt8} {r : List UInt8} (h : Tk.blank (c.toNat : Int) = true) : Tk.sx (c :: r) = (1 + (Tk.sx r).1, (Tk.sx r).2) := by
  have h1 := skip_as (c :: r) (c :: r).length 1 (by simp) (by simp)
  unfold Tk.sx Tk.skipped
  rw [Tk.skip, if_pos (by simp), show Tk.bt (c :: r) 0 = (c.toNat : Int) from rfl, if_pos h]
  exact Prod.ext h1.1 h1.2
theorem sx_line {r : List UInt8} : Tk.sx (37 :: r) = if (Tk.lineFault (37 :: r) 0).2 = 0 then (Tk.lineEnd (37 :: r) 0 + (Tk.sx ((37 :: r).drop (Tk.lineEnd (37 :: r) 0))).1, (Tk.sx ((37 :: r).drop (Tk.lineEnd (37 :: r) 0))).2) else (Tk.lineEnd (37 :: r) 0, (Tk.lineFault (37 :: r) 0).2) := by
  have hle : Tk.lineEnd (37 :: r) 0 ≤ (37 :: r).length := Tk.lineEnd_le (Nat.zero_le _)
  have hgt : 0 < Tk.lineEnd (37 :: r) 0 := Tk.lineEnd_gt (by simp) rfl
  have h1 := skip_as (37 :: r) (37 :: r).length (Tk.lineEnd (37 :: r) 0) hle (by omega)
  unfold Tk.sx Tk.skipped
  rw [Tk.skip, if_pos (by simp), show Tk.bt ((37 : UInt8) :: r) 0 = 37 from rfl, if_neg (by decide), if_pos rfl]
  split
  · exact Prod.ext h1.1 h1.2
  · rfl
theorem sx_com {l : List UInt8} (h : Lib.hasPrefix l [47, 42] = true) : Tk.sx l = if (Tk.comment l 0).2.2 = 0 then ((Tk.comment l 0).1 + (Tk.sx (l.drop (Tk.comment l 0).1)).1, (Tk.sx (l.drop (Tk.comment l 0).1)).2) else ((Tk.comment l 0).1, (Tk.comment l 0).2.2) := by
  obtain ⟨r, rfl⟩ := prefix_form h
  have hle : (Tk.comment (47 :: 42 :: r) 0).1 ≤ (47 :: 42 :: r : List UInt8).length := Tk.com_le _ _ (by simp)
  unfold Tk.sx Tk.skipped
  rw [Tk.skip, if_pos (by simp), show Tk.bt ((47 : UInt8) :: 42 :: r) 0 = 47 from rfl, if_neg (by decide), if_neg (by decide), List.drop_zero, if_pos h]
  split
  · rename_i hc
    have hgt := Tk.comment_gt hc
    have h1 := skip_as (47 :: 42 :: r) (47 :: 42 :: r : List UInt8).length (Tk.comment (47 :: 42 :: r) 0).1 hle (by simp only [List.length_cons] at hle ⊢; omega)
    exact Prod.ext h1.1 h1.2
  · rfl
theorem sx_stop {l : List UInt8} (h : Tk.Begins l) : Tk.sx l = (0, 0) := by
  unfold Tk.sx Tk.skipped
  rw [Tk.skip, if_pos h.pos, h.blank, if_neg (by decide), if_neg h.line, List.drop_zero, h.com, if_neg (by decide)]
theorem com_ins (u v v' : List UInt8) (b : Nat) : ∀ (f g k : Nat), (Tk.com f (u ++ v) b k).2.2 = 0 → (Tk.com f (u ++ v) b k).1 ≤ u.length → (u ++ v').length - k < g → (Tk.com g (u ++ v') b k).1 = (Tk.com f (u ++ v) b k).1 ∧ (Tk.com g (u ++ v') b k).2.2 = 0
  | 0, g, k, h, _, _ => by rw [Tk.com] at h; cases h
  | f + 1, 0, k, h, he, hg => by omega
  | f + 1, g + 1, k, h, he, hg => by
    have hku : k < u.length := Nat.lt_of_lt_of_le (Tk.com_gt (f + 1) h) he
    have hl : (u ++ v').length = u.length + v'.length := List.length_append
    have hl0 : (u ++ v).length = u.length + v.length := List.length_append
    obtain ⟨R, hR⟩ : ∃ R, Tk.com (f + 1) (u ++ v) b k = R := ⟨_, rfl⟩
    rw [hR] at h he ⊢
    rw [Tk.com, if_pos (show k < (u ++ v).length by omega), List.drop_append_of_le_length (by omega)] at hR
    rw [Tk.com, if_pos (show k < (u ++ v').length by omega), List.drop_append_of_le_length (by omega)]
    have two : ∀ y : List UInt8, k + 1 < u.length → Lib.hasPrefix (u.drop k ++ y) [42, 47] = Lib.hasPrefix (u.drop k) [42, 47] := fun y h2 => by
      rw [List.drop_eq_getElem_cons (by omega), List.drop_eq_getElem_cons h2]
      rfl
    by_cases hp : Lib.hasPrefix (u.drop k ++ v) [42, 47] = true
    · rw [if_pos hp] at hR
      subst hR
      dsimp only at he
      rw [two v (by omega)] at hp
      rw [two v' (by omega), if_pos hp]
      exact ⟨rfl, rfl⟩
    · rw [if_neg hp] at hR
      by_cases ht : Tk.inText (Tk.bt (u ++ v) k) = true
      · rw [if_pos ht] at hR
        subst hR
        have hgt2 := Tk.com_gt f h
        rw [two v (by omega)] at hp
        rw [bt_two (r' := v') (by omega)] at ht
        rw [two v' (by omega), if_neg hp, if_pos ht]
        exact com_ins u v v' b f g (k + 1) h he (by omega)
      · rw [if_neg ht] at hR
        subst hR
        cases h

theorem skip_mid (v v' : List UInt8) (hv : Tk.Begins v) : ∀ (n : Nat) (u : List UInt8), u.length ≤ n → Tk.sx (u ++ v) = (u.length, 0) → Tk.sx (u ++ v') = (u.length + (Tk.sx v').1, (Tk.sx v').2)
  | 0, u, hn, _ => by
    obtain rfl : u = [] := List.eq_nil_of_length_eq_zero (by omega)
    simp
  | n + 1, [], _, _ => by simp
  | n + 1, c :: u, hn, h => by
    have hun : u.length ≤ n := by simpa using hn
    by_cases hb : Tk.blank (c.toNat : Int) = true
    · rw [List.cons_append, sx_blank hb] at h ⊢
      have h1 : Tk.sx (u ++ v) = (u.length, 0) := by
        have e1 := congrArg Prod.fst h
        have e2 := congrArg Prod.snd h
        simp only [List.length_cons] at e1
        exact Prod.ext (by dsimp only at e1 ⊢; omega) e2
      rw [skip_mid v v' hv n u hun h1]
      simp only [List.length_cons, Prod.mk.injEq, and_true]
      omega
    · by_cases h37 : c = 37
      · subst h37
        rw [List.cons_append, sx_line] at h
        have hj0 := Tk.lineEnd_gt (l := 37 :: (u ++ v)) (k := 0) (by simp) rfl
        obtain ⟨j, hj⟩ : ∃ j, Tk.lineEnd (37 :: (u ++ v)) 0 = j := ⟨_, rfl⟩
        rw [hj] at h hj0
        have hf : (Tk.lineFault (37 :: (u ++ v)) 0).2 = 0 := by
          apply Decidable.byContradiction
          intro hne
          rw [if_neg hne] at h
          exact hne (congrArg Prod.snd h)
        rw [if_pos hf] at h
        have e1 := congrArg Prod.fst h
        have e2 := congrArg Prod.snd h
        dsimp only at e1 e2
        have hjl : j < (37 :: u).length := by
          rcases Nat.lt_or_ge j (37 :: u).length with h1 | h1
          · exact h1
          · exfalso
            have hje : j = (37 :: u).length := by simp only [List.length_cons] at e1 h1 ⊢; omega
            unfold Tk.lineFault at hf
            dsimp only at hf
            rw [hj] at hf
            have hpos := hv.pos
            have hb2 : Tk.bt (37 :: (u ++ v)) j = Tk.bt v 0 := by
              rw [hje, ← List.cons_append]
              exact bt_app_end _ _
            by_cases h10 : Tk.bt v 0 = 10
            · have := hv.blank
              rw [h10] at this
              exact absurd this (by decide)
            · rw [if_pos ⟨by rw [hje]; simp; exact hpos, by rw [hb2]; exact h10⟩] at hf
              cases hf
        have hrun : Tk.run Tk.inLine (37 :: u ++ v) 0 = j := hj
        have hru : ((37 :: u : List UInt8).takeWhile fun c => Tk.inLine (c.toNat : Int)).length = j := by
          unfold Tk.run at hrun
          rw [List.drop_zero, Nat.zero_add] at hrun
          by_cases hall : ((37 :: u : List UInt8).takeWhile fun c => Tk.inLine (c.toNat : Int)).length = (37 :: u).length
          · rw [takeWhile_all_app _ _ _ hall, List.length_append] at hrun
            omega
          · have hle : ((37 :: u : List UInt8).takeWhile fun c => Tk.inLine (c.toNat : Int)).length ≤ (37 :: u).length := (List.takeWhile_sublist _).length_le
            rw [takeWhile_part_app _ _ _ (by omega)] at hrun
            exact hrun
        have hrun' : Tk.lineEnd (37 :: u ++ v') 0 = j := by
          unfold Tk.lineEnd Tk.run
          rw [List.drop_zero, Nat.zero_add, takeWhile_part_app _ _ _ (by omega)]
          exact hru
        have hf' : (Tk.lineFault (37 :: u ++ v') 0).2 = 0 := by
          unfold Tk.lineFault at hf ⊢
          dsimp only at hf ⊢
          rw [hj] at hf
          rw [hrun']
          have hb3 : Tk.bt (37 :: u ++ v') j = Tk.bt (37 :: (u ++ v)) j := bt_two (w := 37 :: u) hjl
          by_cases h10 : Tk.bt (37 :: (u ++ v)) j = 10
          · rw [if_neg (fun hh => hh.2 (by rw [hb3]; exact h10))]
          · rw [if_pos ⟨by simp only [List.length_cons, List.length_append] at hjl ⊢; omega, h10⟩] at hf
            cases hf
        have hd : (37 :: (u ++ v)).drop j = (37 :: u).drop j ++ v := by rw [← List.cons_append, List.drop_append_of_le_length (by omega)]
        have hd' : (37 :: (u ++ v')).drop j = (37 :: u).drop j ++ v' := by rw [← List.cons_append, List.drop_append_of_le_length (by omega)]
        rw [hd] at e1 e2
        have hlj : ((37 :: u).drop j).length = (37 :: u).length - j := List.length_drop
        have ih := skip_mid v v' hv n ((37 :: u).drop j) (by rw [hlj]; simp only [List.length_cons]; omega) (Prod.ext (by rw [hlj]; dsimp only at e1 ⊢; omega) e2)
        rw [List.cons_append, sx_line]
        rw [List.cons_append] at hrun' hf'
        rw [if_pos hf', hrun', hd', ih, hlj]
        simp only [List.length_cons, Prod.mk.injEq, and_true] at hjl ⊢
        omega
      · by_cases hp : Lib.hasPrefix (c :: u ++ v) [47, 42] = true
        · rw [sx_com hp] at h
          have hc : (Tk.comment (c :: u ++ v) 0).2.2 = 0 := by
            apply Decidable.byContradiction
            intro hne
            rw [if_neg hne] at h
            exact hne (congrArg Prod.snd h)
          rw [if_pos hc] at h
          have e1 := congrArg Prod.fst h
          have e2 := congrArg Prod.snd h
          dsimp only at e1 e2
          have hgt := Tk.comment_gt hc
          obtain ⟨e, he⟩ : ∃ e, (Tk.comment (c :: u ++ v) 0).1 = e := ⟨_, rfl⟩
          rw [he] at e1 e2 hgt
          have hel : e ≤ (c :: u).length := by omega
          have hci := com_ins (c :: u) v v' 0 _ ((c :: u ++ v').length + 1) (0 + 2) hc (by rw [show (Tk.com ((c :: u ++ v).length + 1) (c :: u ++ v) 0 (0 + 2)).1 = e from he]; exact hel) (by omega)
          have he' : (Tk.comment (c :: u ++ v') 0).1 = e := hci.1.trans he
          have hc' : (Tk.comment (c :: u ++ v') 0).2.2 = 0 := hci.2
          have hp' : Lib.hasPrefix (c :: u ++ v') [47, 42] = true := by
            have h2 : 2 < e := by
              have := Tk.com_gt _ hc
              rw [show (Tk.com ((c :: u ++ v).length + 1) (c :: u ++ v) 0 (0 + 2)).1 = e from he] at this
              omega
            cases u with
            | nil => simp at hel; omega
            | cons d y => exact hp
          have hd : (c :: u ++ v).drop e = (c :: u).drop e ++ v := List.drop_append_of_le_length hel
          have hd' : (c :: u ++ v').drop e = (c :: u).drop e ++ v' := List.drop_append_of_le_length hel
          rw [hd] at e1 e2
          have hlj : ((c :: u).drop e).length = (c :: u).length - e := List.length_drop
          have ih := skip_mid v v' hv n ((c :: u).drop e) (by rw [hlj]; simp only [List.length_cons]; omega) (Prod.ext (by rw [hlj]; dsimp only at e1 ⊢; omega) e2)
          rw [sx_com hp', if_pos hc', he', hd', ih, hlj]
          simp only [List.length_cons, Prod.mk.injEq, and_true] at hel ⊢
          omega
        · have hst := sx_stop (l := c :: u ++ v) ⟨by simp, by rw [show Tk.bt (c :: u ++ v) 0 = (c.toNat : Int) from rfl]; simpa using hb, fun e => h37 (UInt8.toNat_inj.1 (by have : (37 : UInt8).toNat = 37 := rfl; rw [show Tk.bt (c :: u ++ v) 0 = (c.toNat : Int) from rfl] at e; omega)), by simpa using hp⟩
          rw [hst] at h
          have := congrArg Prod.fst h
          simp at this
def Tk.gaps : List (List UInt8) := [[32], [10, 9], [32, 47, 42, 32, 97, 32, 37, 32, 98, 32, 10, 32, 42, 47, 32], [32, 37, 32, 99, 32, 39, 100, 32, 10]]
theorem sx_gap {g v : List UInt8} (hg : g ∈ Tk.gaps) (hv : Tk.Begins v) : Tk.sx (g ++ v) = (g.length, 0) := by
  have hs := sx_stop hv
  simp only [Tk.gaps, List.mem_cons, List.not_mem_nil, or_false] at hg
  rcases hg with rfl | rfl | rfl | rfl
  · rw [List.cons_append, sx_blank rfl, List.nil_append, hs]; rfl
  · rw [List.cons_append, sx_blank rfl, List.cons_append, sx_blank rfl, List.nil_append, hs]; rfl
  · have hc : Tk.comment ([47, 42, 32, 97, 32, 37, 32, 98, 32, 10, 32, 42, 47, 32] ++ v) 0 = (13, 0, 0) := rfl
    rw [List.cons_append, sx_blank rfl, sx_com rfl, hc, if_pos rfl, show ([47, 42, 32, 97, 32, 37, 32, 98, 32, 10, 32, 42, 47, 32] ++ v : List UInt8).drop 13 = 32 :: v from rfl, sx_blank rfl, hs]; rfl
  · have hl : Tk.lineEnd ([37, 32, 99, 32, 39, 100, 32, 10] ++ v) 0 = 7 := rfl
    have hf : (Tk.lineFault ([37, 32, 99, 32, 39, 100, 32, 10] ++ v) 0).2 = 0 := rfl
    rw [List.cons_append, sx_blank rfl, List.cons_append, sx_line]
    rw [List.cons_append] at hl hf
    rw [hl, if_pos hf, show (37 :: ([32, 99, 32, 39, 100, 32, 10] ++ v) : List UInt8).drop 7 = 10 :: v from rfl, sx_blank rfl, hs]; rfl
end Go.Proofs.YtnkmefnbhfghgaaDoor
