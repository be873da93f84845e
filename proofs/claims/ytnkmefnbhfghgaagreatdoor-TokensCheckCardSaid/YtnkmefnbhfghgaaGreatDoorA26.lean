import Derived.Test.YtnkmefnbhfghgaaGreatDoorA25
set_option linter.unusedSimpArgs false
set_option linter.unusedVariables false
namespace Go.Proofs.YtnkmefnbhfghgaaGreatDoor
open Go.RowKit

def Tk.at_ (ts : List Tk.T) (i : Nat) : Tk.T := ts.getD i (0, [], 0)
theorem Tk.at_eq {ts : List Tk.T} {i : Nat} (h : i < ts.length) : Tk.at_ ts i = ts[i] := getD_at h
/-- A slice that reads as tokens, below block B; pl: where each one is. -/
def TR (w : World) (B : Nat) (v : Value) (ts : List Tk.T) (pl : Nat → Int := fun i => ((Tk.at_ ts i).2.2 : Int)) : Prop :=
  ∃ A cap, v = .slice A ts.length cap ∧ ts.length ≤ cap ∧ ∀ i t, ts[i]? = some t → ∃ g o, A = some ⟨g, o, none⟩ ∧ g < B ∧
    w.cell? ⟨g, o + i * 3, none⟩ = some (.int .i64 t.1) ∧ w.cell? ⟨g, o + i * 3 + 1, none⟩ = some (.string ⟨t.2.1.toArray⟩) ∧ w.cell? ⟨g, o + i * 3 + 2, none⟩ = some (.int .i64 (pl i))
theorem TR.below {w w' : World} {B : Nat} {v : Value} {ts : List Tk.T} {pl : Nat → Int} (h : TR w B v ts pl) (hb : Below B w w') : TR w' B v ts pl := by
  obtain ⟨A, cap, hv, hc, hi⟩ := h
  refine ⟨A, cap, hv, hc, fun i t ht => ?_⟩
  obtain ⟨g, o, hA, hg, h0, h1, h2⟩ := hi i t ht
  exact ⟨g, o, hA, hg, (hb.cell (p := ⟨g, o + i * 3, none⟩) hg).trans h0, (hb.cell (p := ⟨g, o + i * 3 + 1, none⟩) hg).trans h1, (hb.cell (p := ⟨g, o + i * 3 + 2, none⟩) hg).trans h2⟩

theorem TR.more {w : World} {B B' : Nat} {v : Value} {ts : List Tk.T} {pl : Nat → Int} (h : TR w B v ts pl) (hB : B ≤ B') : TR w B' v ts pl := by
  obtain ⟨A, cap, hv, hc, hi⟩ := h
  refine ⟨A, cap, hv, hc, fun i t ht => ?_⟩
  obtain ⟨g, o, hA, hg, h0, h1, h2⟩ := hi i t ht
  exact ⟨g, o, hA, by omega, h0, h1, h2⟩
theorem Text1_any (k : Int) (s : ByteArray) (a : Int) (w : World) :
    Calls Tryz.prog 34 #[.agg #[.int .i64 k, .string s, .int .i64 a]] w fun e w' => e = .returned (.bool (k == 0)) ∧ Below w.heap.size w w' := by
  go_enter Tryz.func34, Tryz.ntmps34
  go_wp2
  go_ret
  exact ⟨rfl, (Below.refl _ _).alloc (Nat.le_refl _) _⟩

/-- Where the first end is. -/
def Tk.endIdx (ts : List Tk.T) : Nat := (ts.takeWhile fun t => !(t.1 == 0)).length
def Tk.endInt (ts : List Tk.T) : Int := if Tk.endIdx ts < ts.length then (Tk.endIdx ts : Int) else -1

set_option maxRecDepth 100000 in
set_option maxHeartbeats 1000000 in
theorem IndexFunc_any (v : Value) (ts : List Tk.T) {pl : Nat → Int} (w : World) (hn : ts.length ≤ 1000000) (hT : TR w w.heap.size v ts pl) :
    Calls Tryz.prog 33 #[v, .func (.func 34) #[] #[]] w fun e w' => e = .returned (.int .i64 (Tk.endInt ts)) ∧ Below w.heap.size w w' := by
  obtain ⟨A, cap, rfl, hcap, hi⟩ := hT
  go_enter Tryz.func33, Tryz.ntmps33
  go_wp2_with fail
  go_loopw [8] (fun i wr => ∃ k : Nat, i = .int .i64 k ∧ k ≤ ts.length ∧ Below w.heap.size w wr ∧ Hid (∀ t ∈ ts.take k, (t.1 == 0) = false)) (fun i _ => ts.length - (intOf i).toNat)
  case atStart => exact ⟨0, by go_num, Nat.zero_le _, Below.refl _ _, Lib.hid (by simp)⟩
  case round =>
    obtain ⟨k, rfl, hk, hB, hH⟩ := hrel
    by_cases hlt : k < ts.length
    · obtain ⟨g, o, hA, hg, h0, h1, h2⟩ := hi k ts[k] (List.getElem?_eq_getElem hlt)
      have hA' := hA
      have c0 := (hB.cell (p := ⟨g, o + k * 3, none⟩) hg).trans h0
      have c1 := (hB.cell (p := ⟨g, o + k * 3 + 1, none⟩) hg).trans h1
      have c2 := (hB.cell (p := ⟨g, o + k * 3 + 2, none⟩) hg).trans h2
      clear h0 h1 h2
      have HI := Lib.hid hi; clear hi hA'
      subst hA
      cases hz : (ts[k].1 == 0)
      · have hnx : ∀ t ∈ ts.take (k + 1), (t.1 == 0) = false := by
          intro t ht
          rw [List.take_succ_eq_append_getElem hlt] at ht
          rcases List.mem_append.1 ht with h | h
          · exact hH.out t h
          · obtain rfl := List.mem_singleton.1 h
            exact hz
        have HNX := Lib.hid hnx; clear hnx
        go_wp2_with fail
        refine (Text1_any _ _ _ _).mono ?_; rintro e w2 ⟨rfl, hB2⟩
        rw [hz]
        go_wp2_with fail
        go_roundw
        case rel => exact ⟨k + 1, by go_num, by omega, hB.trans (hB2.mono hB.size), HNX⟩
        case measure => simp [intOf]; omega
      · have hend : Tk.endInt ts = k := by
          have h1 : Tk.endIdx ts = k := by
            unfold Tk.endIdx
            have hs : ts = ts.take k ++ ts[k] :: ts.drop (k + 1) := by rw [← List.drop_eq_getElem_cons hlt, List.take_append_drop]
            rw [hs, List.takeWhile_append_of_pos (by intro t ht; rw [hH.out t ht]; rfl), List.takeWhile_cons, if_neg (by rw [hz]; decide)]
            simp; omega
          rw [Tk.endInt, h1, if_pos hlt]
        have HE := Lib.hid hend; clear hend
        go_wp2_with fail
        refine (Text1_any _ _ _ _).mono ?_; rintro e w2 ⟨rfl, hB2⟩
        rw [hz]
        go_wp2_with fail
        go_ret
        exact ⟨ret_int (by rw [HE.out]), hB.trans (hB2.mono hB.size)⟩
    · have hend : Tk.endInt ts = -1 := by
        have h1 : Tk.endIdx ts = ts.length := by
          unfold Tk.endIdx
          have hthis := List.takeWhile_append_of_pos (p := fun t : Tk.T => !(t.1 == 0)) (l₁ := ts) (l₂ := []) (fun t ht => by rw [hH.out t (by rw [List.take_of_length_le (by omega)]; exact ht)]; rfl)
          simp only [List.append_nil, List.takeWhile_nil] at hthis
          rw [hthis]
        rw [Tk.endInt, h1, if_neg (by omega)]
      have HE := Lib.hid hend; clear hend
      go_wp2_with fail
      go_ret
      exact ⟨ret_int (by rw [HE.out]), hB⟩


/-- The token at an index reads. -/
theorem TR.readp {w : World} {B : Nat} {v : Value} {ts : List Tk.T} {pl : Nat → Int} (h : TR w B v ts pl) {i : Nat} (hi : i < ts.length) :
    ∃ g o cap, v = .slice (some ⟨g, o, none⟩) ts.length cap ∧ ts.length ≤ cap ∧ g < B ∧ w.cell? ⟨g, o + i * 3, none⟩ = some (.int .i64 (Tk.at_ ts i).1) ∧ w.cell? ⟨g, o + i * 3 + 1, none⟩ = some (.string ⟨(Tk.at_ ts i).2.1.toArray⟩) ∧
      w.cell? ⟨g, o + i * 3 + 2, none⟩ = some (.int .i64 (pl i)) := by
  obtain ⟨A, cap, hv, hc, hh⟩ := h
  obtain ⟨g, o, hA, hg, h0, h1, h2⟩ := hh i ts[i] (List.getElem?_eq_getElem hi)
  rw [Tk.at_eq hi]
  exact ⟨g, o, cap, by rw [hv, hA], hc, hg, h0, h1, h2⟩
theorem TR.read {w : World} {B : Nat} {v : Value} {ts : List Tk.T} (h : TR w B v ts) {i : Nat} (hi : i < ts.length) :
    ∃ g o cap, v = .slice (some ⟨g, o, none⟩) ts.length cap ∧ ts.length ≤ cap ∧ g < B ∧ w.cell? ⟨g, o + i * 3, none⟩ = some (.int .i64 (Tk.at_ ts i).1) ∧ w.cell? ⟨g, o + i * 3 + 1, none⟩ = some (.string ⟨(Tk.at_ ts i).2.1.toArray⟩) ∧
      w.cell? ⟨g, o + i * 3 + 2, none⟩ = some (.int .i64 ((Tk.at_ ts i).2.2 : Int)) := TR.readp h hi
theorem slice_inj {A A' : Option Addr} {n n' c c' : Nat} (h : Value.slice A n c = .slice A' n' c') : A = A' ∧ n = n' ∧ c = c' := by injection h with h1 h2 h3; exact ⟨h1, h2, h3⟩

def Tk.leads (ts : List Tk.T) (i : Nat) : Bool := (Tk.at_ ts i).1 == 1 && Tk.bangPair (Tk.at_ ts i).2.1 && decide (i + 1 < ts.length) && (Tk.at_ ts (i + 1)).1 == 2
def Tk.follows (ts : List Tk.T) (i : Nat) : Bool := decide (0 < i) && ((Tk.at_ ts (i - 1)).1 == 1 || (Tk.at_ ts (i - 1)).1 == 2)

set_option maxRecDepth 100000 in
set_option maxHeartbeats 1000000 in
theorem leads_any (v : Value) (ts : List Tk.T) {pl : Nat → Int} (i : Nat) (B : Nat) (w : World) (hn : ts.length ≤ 1000000) (hi : i < ts.length) (hT : TR w B v ts pl) :
    Calls Tryz.prog 38 #[v, .int .i64 i] w fun e w' => e = .returned (.bool (Tk.leads ts i)) ∧ w = w' := by
  obtain ⟨g, o, cap, rfl, hcap, hg, c0, c1, c2⟩ := hT.readp hi
  cases h1 : ((Tk.at_ ts i).1 == 1)
  · go_enter Tryz.func38, Tryz.ntmps38
    go_wp2
    go_ret
    exact ⟨ret_bool (by simp only [Tk.leads, h1, Bool.false_and]), rfl⟩
  cases h2 : Tk.bangPair (Tk.at_ ts i).2.1
  · have H2 := Lib.hid h2; clear h2
    go_enter Tryz.func38, Tryz.ntmps38
    go_wp2_with (go_at_call 72; refine (isBangPair_any _ _).mono ?_; rintro e w' ⟨rfl, rfl⟩; rw [show ({ data := (Tk.at_ ts i).2.1.toArray } : ByteArray).data.toList = (Tk.at_ ts i).2.1 from rfl, H2.out])
    go_ret
    exact ⟨ret_bool (by simp only [Tk.leads, h1, H2.out, Bool.false_and, Bool.and_false]), rfl⟩
  have H2 := Lib.hid h2; clear h2
  by_cases h3 : i + 1 < ts.length
  · obtain ⟨g', o', cap', hv', _, _, d0, _, _⟩ := hT.readp h3
    obtain ⟨hA, _, _⟩ := slice_inj hv'
    injection hA with hA
    injection hA with hg' ho' _
    subst hg' ho'
    have d0' : w.cell? ⟨g, o + (i * 3 + 3), none⟩ = some (.int .i64 (Tk.at_ ts (i + 1)).1) := by rw [show o + (i * 3 + 3) = o + (i + 1) * 3 from by omega]; exact d0
    go_enter Tryz.func38, Tryz.ntmps38
    go_wp2_with (go_at_call 72; refine (isBangPair_any _ _).mono ?_; rintro e w' ⟨rfl, rfl⟩; rw [show ({ data := (Tk.at_ ts i).2.1.toArray } : ByteArray).data.toList = (Tk.at_ ts i).2.1 from rfl, H2.out])
    go_ret
    exact ⟨ret_bool (by simp [Tk.leads, h1, H2.out, h3]), rfl⟩
  · have e3 : decide ((i : Int) + 1 < (ts.length : Int)) = false := by simp; omega
    go_enter Tryz.func38, Tryz.ntmps38
    go_wp2_with (go_at_call 72; refine (isBangPair_any _ _).mono ?_; rintro e w' ⟨rfl, rfl⟩; rw [show ({ data := (Tk.at_ ts i).2.1.toArray } : ByteArray).data.toList = (Tk.at_ ts i).2.1 from rfl, H2.out])
    go_ret
    exact ⟨ret_bool (by simp [Tk.leads, h1, H2.out, h3]), rfl⟩

set_option maxRecDepth 100000 in
set_option maxHeartbeats 1000000 in
theorem follows_any (v : Value) (ts : List Tk.T) {pl : Nat → Int} (i : Nat) (B : Nat) (w : World) (hn : ts.length ≤ 1000000) (hi : i < ts.length) (hT : TR w B v ts pl) :
    Calls Tryz.prog 82 #[v, .int .i64 i] w fun e w' => e = .returned (.bool (Tk.follows ts i)) ∧ w = w' := by
  by_cases h0 : 0 < i
  · obtain ⟨j, rfl⟩ : ∃ j, i = j + 1 := ⟨i - 1, by omega⟩
    obtain ⟨g, o, cap, rfl, hcap, hg, c0, c1, c2⟩ := hT.readp (show j < ts.length by omega)
    cases h1 : ((Tk.at_ ts j).1 == 1)
    all_goals
      go_enter Tryz.func82, Tryz.ntmps82
      go_wp2
      go_ret
      exact ⟨ret_bool (by simp [Tk.follows, h1]), rfl⟩
  · obtain rfl : i = 0 := by omega
    go_enter Tryz.func82, Tryz.ntmps82
    go_wp2
    go_ret
    exact ⟨rfl, rfl⟩

def Tk.gap (ts : List Tk.T) (i : Nat) : List UInt8 := if i = 0 then [] else if Tk.isArg (Tk.at_ ts i).1 (Tk.at_ ts i).2.1 then [] else if Tk.leads ts (i - 1) then [] else if (Tk.at_ ts (i - 1)).1 == 7 then [] else [32]
set_option maxRecDepth 100000 in
set_option maxHeartbeats 1000000 in
theorem gap_zero (v : Value) (ts : List Tk.T) {pl : Nat → Int} (B : Nat) (w : World) (hi : 0 < ts.length) (hT : TR w B v ts pl) :
    Calls Tryz.prog 36 #[v, .int .i64 0] w fun e w' => e = .returned (.string ⟨#[]⟩) ∧ Below w.heap.size w w' := by
  go_enter Tryz.func36, Tryz.ntmps36
  go_wp2
  go_ret
  exact ⟨rfl, Below.refl _ _⟩
set_option maxRecDepth 100000 in
set_option maxHeartbeats 1000000 in
theorem gap_succ (v : Value) (ts : List Tk.T) {pl : Nat → Int} (j : Nat) (w : World) (hn : ts.length ≤ 1000000) (hi : j + 1 < ts.length) (hT : TR w w.heap.size v ts pl) :
    Calls Tryz.prog 36 #[v, .int .i64 ((j + 1 : Nat) : Int)] w fun e w' => e = .returned (.string ⟨(Tk.gap ts (j + 1)).toArray⟩) ∧ Below w.heap.size w w' := by
  obtain ⟨G, hG⟩ : ∃ G, Tk.gap ts (j + 1) = G := ⟨_, rfl⟩
  have hgp0 : Tk.gap ts (j + 1) = (if Tk.isArg (Tk.at_ ts (j + 1)).1 (Tk.at_ ts (j + 1)).2.1 then [] else if Tk.leads ts j then [] else if (Tk.at_ ts j).1 == 7 then [] else ([32] : List UInt8)) := by
    rw [Tk.gap, if_neg (by omega), Nat.add_sub_cancel]
  have hgp : (if Tk.isArg (Tk.at_ ts (j + 1)).1 (Tk.at_ ts (j + 1)).2.1 then [] else if Tk.leads ts j then [] else if (Tk.at_ ts j).1 == 7 then [] else ([32] : List UInt8)) = G := by
    rw [← hG, hgp0]
  rw [hG]
  clear hgp0
  have HG := Lib.hid hgp; clear hgp hG
  obtain ⟨g', o', cap', hv', hcap', hg', d0, _, _⟩ := hT.readp (show j < ts.length by omega)
  have hT0 := hT
  obtain ⟨g, o, cap, rfl, hcap, hg, c0, c1, c2⟩ := hT.readp hi
  obtain ⟨hA, _, _⟩ := slice_inj hv'
  injection hA with hA
  injection hA with hga hoa _
  subst hga hoa
  have ej : ((j : Int) + 1 == 0) = false := by rw [beq_eq_false_iff_ne]; omega
  cases hA2 : Tk.isArg (Tk.at_ ts (j + 1)).1 (Tk.at_ ts (j + 1)).2.1
  · have HA := Lib.hid hA2; clear hA2
    cases hL : Tk.leads ts j
    · have HL := Lib.hid hL; clear hL
      cases h7 : ((Tk.at_ ts j).1 == 7)
      case' false => obtain rfl : G = [32] := by rw [← HG.out, HA.out, HL.out, h7]; rfl
      case' true => obtain rfl : G = [] := by rw [← HG.out, HA.out, HL.out, h7]; rfl
      all_goals
        clear HG
        go_enter Tryz.func36, Tryz.ntmps36
        go_wp2_with fail
        refine (isArguments_any _ _ _ _).mono ?_; rintro e w2 ⟨rfl, hB2⟩
        rw [show ({ data := (Tk.at_ ts (j + 1)).2.1.toArray } : ByteArray).data.toList = (Tk.at_ ts (j + 1)).2.1 from rfl, HA.out]
        have d0' : w2.cell? ⟨g, o + j * 3, none⟩ = some (.int .i64 (Tk.at_ ts j).1) := (hB2.cell (p := ⟨g, o + j * 3, none⟩) hg).trans d0
        go_wp2_with fail
        refine (leads_any _ ts j w.heap.size _ hn (by omega) (hT0.below hB2)).mono ?_; rintro e w3 ⟨rfl, rfl⟩
        rw [HL.out]
        go_wp2_with fail
        go_ret
        exact ⟨rfl, hB2⟩
    · have HL := Lib.hid hL; clear hL
      obtain rfl : G = [] := by rw [← HG.out, HA.out, HL.out]; rfl
      clear HG
      go_enter Tryz.func36, Tryz.ntmps36
      go_wp2_with fail
      refine (isArguments_any _ _ _ _).mono ?_; rintro e w2 ⟨rfl, hB2⟩
      rw [show ({ data := (Tk.at_ ts (j + 1)).2.1.toArray } : ByteArray).data.toList = (Tk.at_ ts (j + 1)).2.1 from rfl, HA.out]
      go_wp2_with fail
      refine (leads_any _ ts j w.heap.size _ hn (by omega) (hT0.below hB2)).mono ?_; rintro e w3 ⟨rfl, rfl⟩
      rw [HL.out]
      go_wp2_with fail
      go_ret
      exact ⟨rfl, hB2⟩
  · have HA := Lib.hid hA2; clear hA2
    obtain rfl : G = [] := by rw [← HG.out, HA.out]; rfl
    clear HG
    go_enter Tryz.func36, Tryz.ntmps36
    go_wp2_with fail
    refine (isArguments_any _ _ _ _).mono ?_; rintro e w2 ⟨rfl, hB2⟩
    rw [show ({ data := (Tk.at_ ts (j + 1)).2.1.toArray } : ByteArray).data.toList = (Tk.at_ ts (j + 1)).2.1 from rfl, HA.out]
    go_wp2_with fail
    go_ret
    exact ⟨rfl, hB2⟩
theorem gap_any (v : Value) (ts : List Tk.T) {pl : Nat → Int} (i : Nat) (w : World) (hn : ts.length ≤ 1000000) (hi : i < ts.length) (hT : TR w w.heap.size v ts pl) :
    Calls Tryz.prog 36 #[v, .int .i64 i] w fun e w' => e = .returned (.string ⟨(Tk.gap ts i).toArray⟩) ∧ Below w.heap.size w w' := by
  cases i with
  | zero => exact gap_zero v ts _ w hi hT
  | succ j => exact gap_succ v ts j w hn hi hT
end Go.Proofs.YtnkmefnbhfghgaaGreatDoor
