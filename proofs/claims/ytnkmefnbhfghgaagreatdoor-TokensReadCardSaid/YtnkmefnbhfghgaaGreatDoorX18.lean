import Derived.Test.YtnkmefnbhfghgaaGreatDoorX17
set_option linter.unusedSimpArgs false
set_option linter.unusedVariables false
namespace Go.Proofs.YtnkmefnbhfghgaaGreatDoor
open Go.RowKit

/-- A step goes on, or is a fault. -/
def Tk.QOk (l : List UInt8) (p : Nat) (q : Tk.Q) : Prop :=
  match q with
  | .move z => p < z ∧ z ≤ l.length
  | .tok _ _ z => p < z ∧ z ≤ l.length
  | .bad _ c => c ≠ 0
theorem qok_ite {l : List UInt8} {p : Nat} {c : Prop} [Decidable c] {a b : Tk.Q} (ha : c → Tk.QOk l p a) (hb : ¬ c → Tk.QOk l p b) : Tk.QOk l p (if c then a else b) := by
  split
  · exact ha ‹_›
  · exact hb ‹_›
theorem qok_add {l : List UInt8} {p : Nat} {k : Int} {t : List UInt8} {z : Nat} (h1 : p < z) (h2 : z ≤ l.length) : Tk.QOk l p (Tk.qadd k t z p) := by
  unfold Tk.qadd
  exact qok_ite (fun _ => ⟨h1, h2⟩) (fun h => h)
theorem qok_bad {l : List UInt8} {p q : Nat} {c : Int} (h : c ≠ 0) : Tk.QOk l p (.bad q c) := h
theorem qok_com {l : List UInt8} {p : Nat} : ∀ (f i : Nat), p < i → Tk.QOk l p (Tk.qcom l p f i)
  | 0, _, _ => qok_bad (by decide)
  | f + 1, i, h => by
    have ih := qok_com (l := l) (p := p) f (i + 1) (by omega)
    rw [Tk.qcom]
    exact qok_ite (fun hi => qok_ite (fun _ => qok_ite (fun _ => qok_ite (fun _ => qok_ite (fun _ => ⟨by omega, by omega⟩) (fun _ => ih)) (fun _ => ih)) (fun _ => ih)) (fun _ => qok_bad (by decide))) (fun _ => qok_bad (by decide))
theorem qok_qq {l : List UInt8} {p : Nat} {m : Int} : ∀ (f i : Nat) (acc : List UInt8), p < i → Tk.QOk l p (Tk.qq l p m f i acc)
  | 0, _, _, _ => qok_bad (by decide)
  | f + 1, i, acc, h => by
    rw [Tk.qq]
    refine qok_ite (fun hi => qok_ite (fun _ => ?_) (fun _ => qok_ite (fun _ => qok_ite (fun _ => qok_ite (fun _ => qok_ite (fun _ => qok_ite (fun _ => qok_ite (fun _ => qok_bad (by decide)) (fun _ => qok_qq f (i + 2) _ (by omega))) (fun _ => qok_bad (by decide))) (fun _ => qok_qq f (i + 1) _ (by omega))) (fun _ => qok_qq f (i + 1) _ (by omega))) (fun _ => qok_bad (by decide))) (fun _ => qok_bad (by decide)))) (fun _ => qok_bad (by decide))
    unfold Tk.qclose Tk.qname
    exact qok_ite (fun _ => qok_ite (fun _ => qok_bad (by decide)) (fun _ => qok_add (by omega) (by omega))) (fun _ => qok_add (by omega) (by omega))
theorem qok_char {l : List UInt8} {p : Nat} : Tk.QOk l p (Tk.qchar l p) := by
  unfold Tk.qchar
  exact qok_ite (fun h => qok_ite (fun _ => qok_ite (fun _ => qok_ite (fun h3 => qok_ite (fun _ => qok_ite (fun _ => qok_bad (by decide)) (fun _ => qok_add (by omega) (by omega))) (fun _ => qok_bad (by decide))) (fun _ => qok_bad (by decide))) (fun _ => qok_ite (fun _ => qok_bad (by decide)) (fun _ => qok_add (by omega) (by omega)))) (fun _ => qok_bad (by decide))) (fun _ => qok_bad (by decide))
theorem qnext_ok {l : List UInt8} {p : Nat} {b : Bool} (hp : p < l.length) : Tk.QOk l p (Tk.qnext l p b) := by
  have hrun : ∀ P : Int → Bool, Tk.run P l p ≤ l.length := fun P => Tk.run_le (Nat.le_of_lt hp)
  unfold Tk.qnext
  refine qok_ite (fun _ => qok_ite (fun _ => ⟨by omega, by omega⟩) (fun _ => qok_ite (fun _ => ?_) (fun _ => qok_ite (fun _ => qok_com _ _ (by omega)) (fun _ => qok_ite (fun h => ?_) (fun _ => qok_ite (fun h => ?_) (fun _ => qok_ite (fun h => ?_) (fun _ => qok_ite (fun _ => ?_) (fun _ => qok_ite (fun _ => qok_add (by omega) (by omega)) (fun _ => qok_ite (fun _ => ?_) (fun _ => qok_ite (fun h => ?_) (fun _ => qok_ite (fun _ => qok_add (by omega) (by omega)) (fun _ => qok_ite (fun _ => qok_add (by omega) (by omega)) (fun _ => qok_bad (by decide))))))))))))))  (fun _ => qok_bad (by decide))
  · unfold Tk.qline
    have h1 := Tk.run_ge Tk.inLine l (p + 1)
    exact qok_ite (fun _ => qok_ite (fun _ => ⟨by omega, by omega⟩) (fun _ => qok_bad (by decide))) (fun _ => ⟨by omega, Nat.le_refl _⟩)
  · exact qok_add (Nat.lt_of_lt_of_le (Tk.run_gt hp (Tk.inWord_small h)) (Tk.dots_ge _ _ _)) (Tk.dottedEnd_le (Nat.le_of_lt hp))
  · exact qok_add (Tk.run_gt hp (Tk.inWord_capital h)) (hrun _)
  · unfold Tk.qnum
    exact qok_ite (fun _ => qok_char) (fun _ => qok_add (Tk.run_gt hp h) (hrun _))
  · exact qok_qq _ _ _ (by omega)
  · have h1 := Tk.bangEnd_le hp
    have h2 := Tk.bangEnd_ge l p
    exact qok_add (by omega) h1
  · have h1 := Tk.run_gt hp h
    have h2 := hrun Tk.sign
    unfold Tk.qsigns
    exact qok_ite (fun _ => qok_ite (fun _ => qok_add h1 h2) (fun _ => qok_ite (fun _ => qok_add h1 h2) (fun _ => qok_ite (fun _ => qok_add h1 h2) (fun _ => qok_bad (by decide))))) (fun _ => qok_add h1 h2)

theorem RIn.at1 {w0 w : World} {g : Nat} {s : ByteArray} {p : Nat} {v : Value} {out : List Tk.T} {to : Nat} {err : Int} {bad : Nat} (h : RIn w0 w g s p v out to err bad) : Tk.cellAt w g 1 = p := by
  unfold Tk.cellAt; rw [h.cells.2.1]; rfl
theorem RIn.err4 {w0 w : World} {g : Nat} {s : ByteArray} {p : Nat} {v : Value} {out : List Tk.T} {to : Nat} {err : Int} {bad : Nat} (h : RIn w0 w g s p v out to err bad) : Tk.cellAt w g 4 = err := by
  unfold Tk.cellAt; rw [h.cells.2.2.2.2.1]; rfl
/-- The loop's state: no error yet; or the first error. -/
def RLoop (w0 wr : World) (g : Nat) (s : ByteArray) (R : Except (Nat × Int) (List Tk.T)) : Prop :=
  (∃ (p f : Nat) (v : Value) (out : List Tk.T) (to : Nat), RIn w0 wr g s p v out to 0 0 ∧ p ≤ s.size ∧ out.length ≤ p ∧ s.size - p < f ∧ Tk.qtoks f s.data.toList p out to = R) ∨
  (∃ (p : Nat) (v : Value) (out : List Tk.T) (to : Nat) (c : Int) (q : Nat), c ≠ 0 ∧ RIn w0 wr g s p v out to c q ∧ R = .error (q, c))
def RMeas (wr : World) (g n : Nat) : Nat := if Tk.cellAt wr g 4 = 0 then n + 1 - (Tk.cellAt wr g 1).toNat else 0

set_option maxRecDepth 100000 in
set_option maxHeartbeats 4000000 in
theorem rtokens_any (s : ByteArray) (w : World) (hs : s.size ≤ 65536) :
    Calls Tryz.prog 8 #[.string s] w (Tk.TPost (Tk.qtoks (s.size + 1) s.data.toList 0 [] 0) w) := by
  have HZ := Lib.hid (size_data s)
  obtain ⟨i0, hi, hz0, hz1, hz2⟩ := info_parts info_token
  obtain ⟨R, hR⟩ : ∃ R, Tk.qtoks (s.size + 1) s.data.toList 0 [] 0 = R := ⟨_, rfl⟩
  rw [hR]
  have HR := Lib.hid hR; clear hR
  go_enter Tryz.func8, Tryz.ntmps8
  go_wp2_with fail
  obtain ⟨w0, hw0⟩ : ∃ w0, w.alloc (.cells #[.int .i64 0, .int .i64 0] 26) = w0 := ⟨_, rfl⟩
  have hsz0 : w0.heap.size = w.heap.size + 1 := by rw [← hw0]; simp
  have hB0 : Below w.heap.size w w0 := by rw [← hw0]; exact (Below.refl _ _).alloc (Nat.le_refl _) _
  have hF0 : Blk w0 w.heap.size 26 #[.int .i64 0, .int .i64 0] := by rw [← hw0]; exact Blk.new _ _ _
  have hI0 : RIn w0 (w0.alloc (.cells #[.string s, .int .i64 0, .slice none 0 0, .int .i64 0, .int .i64 0, .int .i64 0] 47)) (w.heap.size + 1) s 0 (.slice none 0 0) [] 0 0 0 :=
    ⟨by have := Blk.new w0 47 #[.string s, .int .i64 0, .slice none 0 0, .int .i64 0, .int .i64 0, .int .i64 0]; rw [hsz0] at this; exact this, World.ownsRow_nil _ _ _ _, (Below.refl _ _).alloc (by rw [hsz0]; exact Nat.le_refl _) _⟩
  rw [hw0]
  have HS0 := Lib.hid hsz0
  clear hw0 hsz0
  obtain ⟨N, hN⟩ : ∃ N, w.heap.size = N := ⟨_, rfl⟩
  rw [hN] at HS0 hB0 hF0 hI0 ⊢
  have HN := Lib.hid hN; clear hN
  go_loopw [] (fun wr => Hid (RLoop w0 wr (N + 1) s R)) (fun wr => RMeas wr (N + 1) s.size)
  case atStart => exact Lib.hid (.inl ⟨0, s.size + 1, _, [], 0, hI0, by omega, by simp, by omega, HR.out⟩)
  case round =>
    clear hI0 HR
    rcases hrel.out with ⟨p, f, v, out, to, hX, hp, hol, hf, hq⟩ | ⟨p, v, out, to, c, q, hc, hX, hR⟩
    · clear hrel
      obtain ⟨f', rfl⟩ : ∃ f', f = f' + 1 := ⟨f - 1, by omega⟩
      have hF := hF0.below hX.low (by omega)
      obtain ⟨c0, c1, c2, c3, c4, c5⟩ := hX.cells
      have hgl := hX.lt
      by_cases hlt : p < s.size
      · have hq' := hq
        rw [Tk.qtoks, if_pos (show p < s.data.toList.length by rw [HZ.out]; exact hlt)] at hq'
        have HQ := Lib.hid hq'; clear hq hq'
        have hlt' : (p : Int) < (s.size : Int) := by omega
        have hok := qnext_ok (l := s.data.toList) (p := p) (b := Tk.qcalled out to p) (by rw [HZ.out]; exact hlt)
        have HOK := Lib.hid hok; clear hok
        go_wp2_with fail
        refine (rnext_any (N + 1) s p v out to w0 _ hs hlt (by omega) hX).mono ?_
        intro e w2 hP
        obtain ⟨r, rfl⟩ := hP.ret
        have HP := Lib.hid hP; clear hP
        go_wp2_with fail
        go_roundw
        case rel =>
          have hP := HP.out
          have hq := HQ.out
          have hok := HOK.out
          cases hn : Tk.qnext s.data.toList p (Tk.qcalled out to p) with
          | move z =>
            rw [hn] at hP hq hok
            have hz := hok.2
            rw [HZ.out] at hz
            obtain ⟨_, v2, h2⟩ := hP
            exact Lib.hid (.inl ⟨z, f', v2, out, to, h2, hz, by have := hok.1; omega, by have := hok.1; omega, hq⟩)
          | tok k t z =>
            rw [hn] at hP hq hok
            have hz := hok.2
            rw [HZ.out] at hz
            obtain ⟨_, v2, h2⟩ := hP
            exact Lib.hid (.inl ⟨z, f', v2, _, z, h2, hz, by have := hok.1; simp; omega, by have := hok.1; omega, hq⟩)
          | bad q c =>
            rw [hn] at hP hq hok
            obtain ⟨z, o, t, _, v2, h2⟩ := hP
            exact Lib.hid (.inr ⟨z, v2, o, t, c, q, hok, h2, hq.symm⟩)
        case measure =>
          have hP := HP.out
          have hok := HOK.out
          unfold RMeas
          rw [hX.err4, if_pos rfl, hX.at1]
          cases hn : Tk.qnext s.data.toList p (Tk.qcalled out to p) with
          | move z =>
            rw [hn] at hP hok
            obtain ⟨_, v2, h2⟩ := hP
            rw [h2.err4, if_pos rfl, h2.at1]
            have := hok.1; omega
          | tok k t z =>
            rw [hn] at hP hok
            obtain ⟨_, v2, h2⟩ := hP
            rw [h2.err4, if_pos rfl, h2.at1]
            have := hok.1; omega
          | bad q c =>
            rw [hn] at hP hok
            obtain ⟨z, o, t, _, v2, h2⟩ := hP
            rw [h2.err4, if_neg hok]
            omega
      · have hpe : p = s.size := by omega
        have hq' := hq
        rw [Tk.qtoks, if_neg (by rw [HZ.out]; exact hlt), HZ.out] at hq'
        have HQ := Lib.hid hq'; clear hq hq'
        have e0 : decide ((p : Int) < (s.size : Int)) = false := by simp; omega
        have hk0 : wr.cell? ⟨N, 0, none⟩ = some (.int .i64 0) := by simpa using hF.cell 0
        have hk1 : wr.cell? ⟨N, 1, none⟩ = some (.int .i64 0) := by simpa using hF.cell 1
        have hz0' := hF.frozen 0
        have hz1' := hF.frozen 1
        have hmx : out.length + 1 ≤ maxLen := by unfold maxLen; omega
        have hb1 : N + 1 + 1 ≤ wr.heap.size := hgl
        have hO : wr.ownsRow (N + 1 + 1) 32 3 v out.length (Tk.flat out) := hX.own
        have hNs : N < wr.heap.size := by omega
        have HHX := Lib.hid hX
        have hne : some N ≠ v.ownBlock := fun e => by have := (World.ownsRow.lt hO N e.symm).1; omega
        clear hpe
        go_wp2_with (at_builtin; refine wpList_append_own _ rfl _ _ 23 rfl (N + 1 + 1) 32 i0 (.agg #[.int .i64 0, .string ⟨#[]⟩, .int .i64 0]) 3 32 Tryz.underlying23 hi hz0 hz1 hz2 rfl (by decide) _ _ _ rfl (hO.alloc _) ⟨wr.heap.size, 0, none⟩ 1 1 [.int .i64 0, .string ⟨#[]⟩, .int .i64 (s.size : Int)] rfl rfl (cells_new _ _ _) (by simp [Value.oneCell']) hmx (by omega) (by simp; omega) ?_; intro v' w9 hown' hgrow _; have hF9 := Blk.grown (Blk.alloc hF _) hgrow hne; have hk0' : w9.cell? ⟨N, 0, none⟩ = some (.int .i64 0) := (by simpa using hF9.cell 0); have hk1' : w9.cell? ⟨N, 1, none⟩ = some (.int .i64 0) := (by simpa using hF9.cell 1); have hz9 := hF9.frozen 0; have hz9' := hF9.frozen 1; have hN9 := hF9.lt)
        have hlen : (out ++ [((0, [], s.size) : Tk.T)]).length = out.length + 1 := by simp
        have hfl : Tk.flat (out ++ [((0, [], s.size) : Tk.T)]) = Tk.flat out ++ [.int .i64 0, .string ⟨#[]⟩, .int .i64 (s.size : Int)] := Tk.flat_snoc _ _
        have hB8 : Below N w (wr.alloc (.cells #[.int .i64 0, .string ⟨#[]⟩, .int .i64 (s.size : Int)] 32)) := hB0.trans ((HHX.out.low.alloc (Nat.le_of_lt hgl) _).mono (Nat.le_succ N))
        have hB9 := hB8.grown hgrow (by simp; omega) (fun q e => by have := (World.ownsRow.lt hO q e).1; omega)
        have ho9 : ((w9.setCell ⟨N, 0, none⟩ (.int .i64 0)).setCell ⟨N, 1, none⟩ (.int .i64 0)).ownsRow (N + 1 + 1) 32 3 v' (out.length + 1) (Tk.flat out ++ [.int .i64 0, .string ⟨#[]⟩, .int .i64 (s.size : Int)]) :=
          ownsRow_setCell_below (ownsRow_setCell_below hown' (show N < N + 1 + 1 by omega) _) (show N < N + 1 + 1 by omega) _
        rw [← HQ.out]
        refine bodyPost_ret (v := .tuple #[v', Tk.fauV 0 0]) (by simp [results, Tryz.results8, go_sem, Tk.fauV, hk0', hk1', hz9, hz9', hN9]) rfl ⟨v', rfl, ?_, ?_⟩
        · rw [hlen, hfl]
          exact own_less ho9 (by rw [HN.out]; omega)
        · rw [HN.out]
          exact (hB9.setCell (p := ⟨N, 0, none⟩) (Nat.le_refl _) _).setCell (p := ⟨N, 1, none⟩) (Nat.le_refl _) _
    · have hR' := Lib.hid hR
      have ec : (c == 0) = false := beq_eq_false_iff_ne.2 hc
      have ec2 : (c != 0) = true := by rw [bne_iff_ne]; exact hc
      clear hrel
      have hF := hF0.below hX.low (by omega)
      obtain ⟨c0, c1, c2, c3, c4, c5⟩ := hX.cells
      have hgl := hX.lt
      have hk0 : wr.cell? ⟨N, 0, none⟩ = some (.int .i64 0) := by simpa using hF.cell 0
      have hk1 : wr.cell? ⟨N, 1, none⟩ = some (.int .i64 0) := by simpa using hF.cell 1
      have hz0' := hF.frozen 0
      have hz1' := hF.frozen 1
      have hNs : N < wr.heap.size := by omega
      clear hR
      have hBl := hB0.trans (hX.low.mono (Nat.le_succ N))
      by_cases hlt : p < s.size
      · have e0 : decide ((p : Int) < (s.size : Int)) = true := by simp; omega
        go_wp2_with fail
        go_region
        go_wp2_with fail
        rw [hR'.out]
        exact bodyPost_ret (v := .tuple #[.slice none 0 0, Tk.fauV q c]) (by simp [results, Tryz.results8, go_sem, Tk.fauV, hz0', hz1', hNs, hk0, hk1]) rfl ⟨rfl, by rw [HN.out]; exact ((by have hMBE := Below.size hBl; repeat (first | with_reducible exact hBl | (with_reducible refine Below.drew ?_) | (with_reducible refine Below.setCell ?_ (by dsimp only; omega) _) | (with_reducible refine Below.alloc ?_ (by simp only [World.size_setCell, World.size_alloc]; omega) _))))⟩
      · have e0 : decide ((p : Int) < (s.size : Int)) = false := by simp; omega
        go_wp2_with fail
        go_region
        go_wp2_with fail
        rw [hR'.out]
        exact bodyPost_ret (v := .tuple #[.slice none 0 0, Tk.fauV q c]) (by simp [results, Tryz.results8, go_sem, Tk.fauV, hz0', hz1', hNs, hk0, hk1]) rfl ⟨rfl, by rw [HN.out]; exact ((by have hMBE := Below.size hBl; repeat (first | with_reducible exact hBl | (with_reducible refine Below.drew ?_) | (with_reducible refine Below.setCell ?_ (by dsimp only; omega) _) | (with_reducible refine Below.alloc ?_ (by simp only [World.size_setCell, World.size_alloc]; omega) _))))⟩
end Go.Proofs.YtnkmefnbhfghgaaGreatDoor
