import Derived.Test.YtaefonagbcnmdaaGreatDoorA15
set_option linter.unusedSimpArgs false
set_option linter.unusedVariables false
namespace Go.Proofs.YtaefonagbcnmdaaGreatDoor
open Go.RowKit

/-- Bytes as cells. -/
def Tk.cells (acc : List UInt8) : List Value := acc.map fun c => .int .u8 (c.toNat : Int)
/-- What stands between marks: the kind of the token, the index of the mark, the mark, where, what has been read. -/
def Tk.enc (kind : Int) (l : List UInt8) (a : Nat) (mark : Int) : Nat → Nat → List UInt8 → Tk.R
  | 0, _, _ => .fault a 12
  | f + 1, i, acc =>
    if i < l.length then
      if Tk.bt l i = mark then .tok kind acc (i + 1)
      else if Tk.inText (Tk.bt l i) then
        if Tk.shown (Tk.bt l i) then
          if Tk.bt l i = 92 then
            if i + 1 < l.length then
              if Tk.inText (Tk.bt l (i + 1)) then
                if Tk.meantOk (Tk.bt l (i + 1)) mark then Tk.enc kind l a mark f (i + 2) (acc ++ [UInt8.ofNat (Tk.meant (Tk.bt l (i + 1)) mark).toNat]) else .fault i 11
              else .fault (i + 1) 2
            else Tk.enc kind l a mark f (i + 1) acc
          else Tk.enc kind l a mark f (i + 1) (acc ++ [UInt8.ofNat (Tk.bt l i).toNat])
        else .fault i 11
      else .fault i 2
    else .fault a 12
theorem cells_snoc (acc : List UInt8) (c : UInt8) : Tk.cells (acc ++ [c]) = Tk.cells acc ++ [.int .u8 (c.toNat : Int)] := by simp [Tk.cells]
theorem meant_byte (c m : Int) (h0 : 0 ≤ c) (h1 : c < 256) : ((UInt8.ofNat (Tk.meant c m).toNat).toNat : Int) = Tk.meant c m := by
  have : 0 ≤ Tk.meant c m ∧ Tk.meant c m < 256 := by
    unfold Tk.meant
    split
    · exact ⟨h0, h1⟩
    · split
      · omega
      · split
        · omega
        · split <;> omega
  rw [UInt8.toNat_ofNat']
  omega
def Tk.readEnclosed (kind : Int) (l : List UInt8) (a : Nat) : Tk.R := Tk.enc kind l a (Tk.bt l a) (l.length + 1) (a + 1) []

theorem info_byte : (Tryz.prog.info? 5).map (fun i => (i.zero, i.size, i.bytes)) = some (some (.int .u8 0), 1, 1) := by kernel_rfl
theorem Fr.grown {w w1 w2 : World} {g : Nat} {s : ByteArray} {a en : Nat} {b : Bool} {row : Option Nat} (h : Fr w w1 g s a en b) (hg : w1.grownBy w2 row) (hr : ∀ k, row = some k → w.heap.size + 2 ≤ k) : Fr w w2 g s a en b :=
  have hn : ∀ k, k < w.heap.size + 2 → some k ≠ row := fun k hk e => by have := hr k e.symm; omega
  ⟨h.1, h.2.1.grown hg (hn _ (by have := h.1; omega)), h.2.2.1.grown hg (hn _ (by omega)), h.2.2.2.1.grown hg (hn _ (by omega)),
    ⟨hg.os.trans h.2.2.2.2.os, hg.tape.trans h.2.2.2.2.tape, hg.output.trans h.2.2.2.2.output, Nat.le_trans h.2.2.2.2.size hg.size, fun i hi hi2 => (hg.block i (Nat.lt_of_lt_of_le hi h.2.2.2.2.size) (hn i (by omega))).trans (h.2.2.2.2.block i hi hi2)⟩⟩

theorem conv_row {W : World} {B : Nat} {v : Value} {acc : List UInt8} (h : W.ownsRow B 5 1 v acc.length (Tk.cells acc)) :
    (convert 137 9 v).run Tryz.prog W = .ok (.string ⟨acc.toArray⟩) W := by
  rcases h.2 with ⟨rfl, h0⟩ | ⟨g, cap, cur, rfl, _, _, _⟩
  · rw [run_convert_bytes_nil W 137 5 Tryz.underlying137 Tryz.underlying5 0 0 _ Tryz.underlying9]
    have : acc = [] := List.eq_nil_of_length_eq_zero h0
    subst this
    rfl
  · rw [run_convert_bytes_arg W 137 5 Tryz.underlying137 Tryz.underlying5 g 0 acc.length cap (acc.map fun c => (c.toNat : Int)) (by simp) (fun i hi => by
      have hc := h.cells (g := g) rfl i (.int .u8 ((acc[i]).toNat : Int)) (by simp [Tk.cells, hi])
      have hp : (⟨g, 0, none⟩ : Addr).add i = ⟨g, 0 + i, none⟩ := by unfold Addr.add; split <;> simp_all
      rw [hp] at hc
      rw [hc]
      simp [List.getD, hi]) _ Tryz.underlying9]
    congr 2
    unfold strOfNums
    congr 2
    rw [List.map_map]
    conv => rhs; rw [← List.map_id acc]
    apply List.map_congr_left
    intro c _
    simp

set_option maxRecDepth 100000 in
set_option maxHeartbeats 4000000 in
theorem readEnclosed_any (s : ByteArray) (g a en : Nat) (b : Bool) (kind : Int) (w : World) (hs : s.size ≤ 65536) (ha : a < s.size) (hS : Scan w g s a en b) :
    Calls Tryz.prog 91 #[.pointer (some ⟨g, 0, none⟩), .int .i64 kind] w (Tk.RPost (Tk.readEnclosed kind s.data.toList a) g s a en b w) := by
  have HZ := Lib.hid (size_data s)
  obtain ⟨i0, hi, hz0, hz1, hz2⟩ := info_parts info_byte
  have hX := Fr.start hS
  have hc0 : w.cell? ⟨g, 0, none⟩ = some (.string s) := by simpa using Blk.cell hS 0
  have hc1 : w.cell? ⟨g, 1, none⟩ = some (.int .i64 a) := by simpa using Blk.cell hS 1
  have hgl := hS.lt
  obtain ⟨mk, hmk⟩ : ∃ mk, (s[a].toNat : Int) = mk := ⟨_, rfl⟩
  have hre : Tk.readEnclosed kind s.data.toList a = Tk.enc kind s.data.toList a mk (s.size + 1) (a + 1) [] := by rw [Tk.readEnclosed, HZ.out, ← Tk.bt_of s a ha, hmk]
  have HRE := Lib.hid hre; clear hre
  have HMK := Lib.hid hmk; clear hmk
  go_enter Tryz.func91, Tryz.ntmps91
  go_wp2_with fail
  generalize hw1 : (w.alloc (.cells #[.int .i64 0, .string ⟨#[]⟩, .int .i64 0] 48)).alloc (.cells #[.int .i64 0, .int .i64 0] 26) = w1 at *
  clear hw1 hgl hc0 hc1
  obtain ⟨hgl, hgl1, hc0, hc1, ht0, ht1, ht2, hu0, hu1, hv0, hv1, hv2, hv3, hv4, hv5⟩ := hX.facts
  go_quiet (fail)
  rw [HMK.out]
  go_wp2_with fail
  go_loopw [7, 8] (fun v i wr => ∃ (k f : Nat) (acc : List UInt8), i = .int .i64 k ∧ a + 1 ≤ k ∧ k ≤ s.size ∧ acc.length ≤ k ∧ Fr w wr g s a en b ∧ wr.ownsRow (w.heap.size + 2) 5 1 v acc.length (Tk.cells acc) ∧ s.size - k < f ∧
      Hid (Tk.readEnclosed kind s.data.toList a = Tk.enc kind s.data.toList a mk f k acc)) (fun _ i _ => s.size - (intOf i).toNat)
  case atStart => exact ⟨a + 1, s.size + 1, [], by go_num, by omega, by omega, by simp, hX.drewN _, World.ownsRow_nil _ _ _ _, by omega, HRE⟩
  case round =>
    clear hgl hgl1 hc0 hc1 ht0 ht1 ht2 hu0 hu1 hv0 hv1 hv2 hv3 hv4 hv5 hX HRE
    obtain ⟨k, f, acc, rfl, hak, hk, hacc, hX, hown, hf, hr⟩ := hrel
    obtain ⟨hgl, hgl1, hc0, hc1, ht0, ht1, ht2, hu0, hu1, hv0, hv1, hv2, hv3, hv4, hv5⟩ := hX.facts
    obtain ⟨f', rfl⟩ : ∃ f', f = f' + 1 := ⟨f - 1, by omega⟩
    by_cases hlt : k < s.size
    · have HB := Lib.hid (Tk.bt_of s k hlt)
      by_cases hm : (s[k].toNat : Int) = mk
      · have em : ((s[k].toNat : Int) == mk) = true := by rw [beq_iff_eq]; exact hm
        have henc : Tk.enc kind s.data.toList a mk (f' + 1) k acc = .tok kind acc (k + 1) := by
          rw [Tk.enc, if_pos (by rw [HZ.out]; exact hlt), ← HB.out, if_pos hm]
        have HENC := Lib.hid henc; clear henc hm
        go_wp2_with fail
        rw [show (k : Int) + 1 = ((k + 1 : Nat) : Int) from rfl]
        refine (take_any s g a en b kind (k + 1) _ hs (by omega) (by omega) hX.2.1).mono ?_; rintro e w2 ⟨rfl, hS2, hG2⟩
        have hX2 := hX.step hG2 hS2
        have hown2 := hown.kept hG2 (by
          rcases hob : u7.ownBlock with _ | q
          · exact .inl rfl
          · right; have := (hown.lt q hob).1; simp; omega)
        clear hgl hgl1 hc0 hc1 ht0 ht1 ht2 hu0 hu1 hv0 hv1 hv2 hv3 hv4 hv5
        obtain ⟨hgl, hgl1, hc0, hc1, ht0, ht1, ht2, hu0, hu1, hv0, hv1, hv2, hv3, hv4, hv5⟩ := hX2.facts
        rw [sub_str]
        go_wp2_with fail
        rw [conv_row (hown2.alloc _)]
        have hx1 : w.heap.size < w2.heap.size := by omega
        have hx2 : w.heap.size < w2.heap.size + 1 := by omega
        have hx3 : w.heap.size + 1 < w2.heap.size + 1 := by omega
        go_wp2_with fail
        rw [hr.out, HENC.out]
        have hfin := hX2.fin (.int .i64 kind) (.string ⟨acc.toArray⟩) (.int .i64 a) (.int .i64 0) (.int .i64 0)
        exact bodyPost_ret (v := .tuple #[Tk.tokV kind acc a, Tk.fauV 0 0]) (by simp [results, Tryz.results91, go_sem, Tk.tokV, Tk.fauV, ht0, ht1, ht2, hu0, hu1, hx1, hx2, hx3, hgl1]) rfl ⟨rfl, Blk.alloc hfin.1 _, gb_alloc hfin.2 _⟩
      have em : ((s[k].toNat : Int) == mk) = false := by rw [beq_eq_false_iff_ne]; exact hm
      cases hin : Tk.inText (s[k].toNat : Int)
      · have henc : Tk.enc kind s.data.toList a mk (f' + 1) k acc = .fault k 2 := by
          rw [Tk.enc, if_pos (by rw [HZ.out]; exact hlt), ← HB.out, if_neg hm, hin, if_neg (by decide)]
        have HENC := Lib.hid henc; clear henc hm
        have HIN := Lib.hid hin; clear hin
        go_wp2_with fail
        refine (inText_any _ _).mono ?_; rintro e w' ⟨rfl, rfl⟩
        rw [HIN.out]
        go_wp2_with fail
        refine (faultAt_any k 2 _).mono ?_; rintro e w2 ⟨rfl, hB2⟩
        have hX2 := hX.below hB2
        clear hgl hgl1 hc0 hc1 ht0 ht1 ht2 hu0 hu1 hv0 hv1 hv2 hv3 hv4 hv5
        obtain ⟨hgl, hgl1, hc0, hc1, ht0, ht1, ht2, hu0, hu1, hv0, hv1, hv2, hv3, hv4, hv5⟩ := hX2.facts
        go_wp2_with fail
        rw [hr.out, HENC.out]
        exact bodyPost_ret (v := .tuple #[Tk.tokV 0 [] 0, Tk.fauV (k) 2]) (by simp [results, Tryz.results91, go_sem, Tk.tokV, Tk.fauV, ht0, ht1, ht2, hu0, hu1]) rfl ⟨rfl, (hX2.fin _ _ _ _ _).2⟩
      cases hsh : Tk.shown (s[k].toNat : Int)
      · have henc : Tk.enc kind s.data.toList a mk (f' + 1) k acc = .fault k 11 := by
          rw [Tk.enc, if_pos (by rw [HZ.out]; exact hlt), ← HB.out, if_neg hm, hin, if_pos rfl, hsh, if_neg (by decide)]
        have HENC := Lib.hid henc; clear henc hm
        have HIN := Lib.hid hin; clear hin
        have HSH := Lib.hid hsh; clear hsh
        go_wp2_with fail
        refine (inText_any _ _).mono ?_; rintro e w' ⟨rfl, rfl⟩
        rw [HIN.out]
        go_wp2_with fail
        refine (isShown_any _ _).mono ?_; rintro e w' ⟨rfl, rfl⟩
        rw [HSH.out]
        go_wp2_with fail
        refine (faultAt_any k 11 _).mono ?_; rintro e w2 ⟨rfl, hB2⟩
        have hX2 := hX.below hB2
        clear hgl hgl1 hc0 hc1 ht0 ht1 ht2 hu0 hu1 hv0 hv1 hv2 hv3 hv4 hv5
        obtain ⟨hgl, hgl1, hc0, hc1, ht0, ht1, ht2, hu0, hu1, hv0, hv1, hv2, hv3, hv4, hv5⟩ := hX2.facts
        go_wp2_with fail
        rw [hr.out, HENC.out]
        exact bodyPost_ret (v := .tuple #[Tk.tokV 0 [] 0, Tk.fauV (k) 11]) (by simp [results, Tryz.results91, go_sem, Tk.tokV, Tk.fauV, ht0, ht1, ht2, hu0, hu1]) rfl ⟨rfl, (hX2.fin _ _ _ _ _).2⟩
      have HIN := Lib.hid hin; clear hin
      have HSH := Lib.hid hsh; clear hsh
      have HMM := Lib.hid hm; clear hm
      by_cases h92 : (s[k].toNat : Int) = 92
      · have e92 : ((s[k].toNat : Int) != 92) = false := by rw [bne_eq_false_iff_eq]; exact h92
        have H92 := Lib.hid h92; clear h92
        by_cases hl2 : k + 1 < s.size
        · have HB2 := Lib.hid (Tk.bt_of s (k + 1) hl2)
          cases hin2 : Tk.inText (s[k + 1].toNat : Int)
          · have henc : Tk.enc kind s.data.toList a mk (f' + 1) k acc = .fault (k + 1) 2 := by
              rw [Tk.enc, if_pos (by rw [HZ.out]; exact hlt), ← HB.out, if_neg HMM.out, HIN.out, if_pos rfl, HSH.out, if_pos rfl, if_pos H92.out, if_pos (by rw [HZ.out]; exact hl2), ← HB2.out, hin2, if_neg (by decide)]
            have HENC := Lib.hid henc; clear henc
            have HIN2 := Lib.hid hin2; clear hin2
            go_wp2_with fail
            refine (inText_any _ _).mono ?_; rintro e w' ⟨rfl, rfl⟩
            rw [HIN.out]
            go_wp2_with fail
            refine (isShown_any _ _).mono ?_; rintro e w' ⟨rfl, rfl⟩
            rw [HSH.out]
            go_wp2_with fail
            refine (meant_any _ _ _).mono ?_; rintro e w' ⟨rfl, rfl⟩
            go_wp2_with fail
            refine (inText_any _ _).mono ?_; rintro e w' ⟨rfl, rfl⟩
            rw [HIN2.out]
            go_wp2_with fail
            refine (faultAt_any _ 2 _).mono ?_; rintro e w2 ⟨rfl, hB2⟩
            have hX2 := hX.below hB2
            clear hgl hgl1 hc0 hc1 ht0 ht1 ht2 hu0 hu1 hv0 hv1 hv2 hv3 hv4 hv5
            obtain ⟨hgl, hgl1, hc0, hc1, ht0, ht1, ht2, hu0, hu1, hv0, hv1, hv2, hv3, hv4, hv5⟩ := hX2.facts
            go_wp2_with fail
            rw [hr.out, HENC.out]
            exact bodyPost_ret (v := .tuple #[Tk.tokV 0 [] 0, Tk.fauV (k + 1) 2]) (by simp [results, Tryz.results91, go_sem, Tk.tokV, Tk.fauV, ht0, ht1, ht2, hu0, hu1]) rfl ⟨rfl, (hX2.fin _ _ _ _ _).2⟩
          have HIN2 := Lib.hid hin2; clear hin2
          cases hok : Tk.meantOk (s[k + 1].toNat : Int) mk
          · have henc : Tk.enc kind s.data.toList a mk (f' + 1) k acc = .fault k 11 := by
              rw [Tk.enc, if_pos (by rw [HZ.out]; exact hlt), ← HB.out, if_neg HMM.out, HIN.out, if_pos rfl, HSH.out, if_pos rfl, if_pos H92.out, if_pos (by rw [HZ.out]; exact hl2), ← HB2.out, HIN2.out, if_pos rfl, hok, if_neg (by decide)]
            have HENC := Lib.hid henc; clear henc
            have HOK := Lib.hid hok; clear hok
            go_wp2_with fail
            refine (inText_any _ _).mono ?_; rintro e w' ⟨rfl, rfl⟩
            rw [HIN.out]
            go_wp2_with fail
            refine (isShown_any _ _).mono ?_; rintro e w' ⟨rfl, rfl⟩
            rw [HSH.out]
            go_wp2_with fail
            refine (meant_any _ _ _).mono ?_; rintro e w' ⟨rfl, rfl⟩
            rw [HOK.out]
            go_wp2_with fail
            refine (inText_any _ _).mono ?_; rintro e w' ⟨rfl, rfl⟩
            rw [HIN2.out]
            go_wp2_with fail
            refine (faultAt_any k 11 _).mono ?_; rintro e w2 ⟨rfl, hB2⟩
            have hX2 := hX.below hB2
            clear hgl hgl1 hc0 hc1 ht0 ht1 ht2 hu0 hu1 hv0 hv1 hv2 hv3 hv4 hv5
            obtain ⟨hgl, hgl1, hc0, hc1, ht0, ht1, ht2, hu0, hu1, hv0, hv1, hv2, hv3, hv4, hv5⟩ := hX2.facts
            go_wp2_with fail
            rw [hr.out, HENC.out]
            exact bodyPost_ret (v := .tuple #[Tk.tokV 0 [] 0, Tk.fauV (k) 11]) (by simp [results, Tryz.results91, go_sem, Tk.tokV, Tk.fauV, ht0, ht1, ht2, hu0, hu1]) rfl ⟨rfl, (hX2.fin _ _ _ _ _).2⟩
          · have henc : Tk.enc kind s.data.toList a mk (f' + 1) k acc = Tk.enc kind s.data.toList a mk f' (k + 2) (acc ++ [UInt8.ofNat (Tk.meant (s[k + 1].toNat : Int) mk).toNat]) := by
              rw [Tk.enc, if_pos (by rw [HZ.out]; exact hlt), ← HB.out, if_neg HMM.out, HIN.out, if_pos rfl, HSH.out, if_pos rfl, if_pos H92.out, if_pos (by rw [HZ.out]; exact hl2), ← HB2.out, HIN2.out, if_pos rfl, hok, if_pos rfl]
            have HENC := Lib.hid henc; clear henc
            have HOK := Lib.hid hok; clear hok
            have hmx : acc.length + 1 ≤ maxLen := by unfold maxLen; omega
            have hmb := meant_byte (s[k + 1].toNat : Int) mk (by omega) (by have := s[k + 1].toNat_lt; omega)
            go_wp2_with fail
            refine (inText_any _ _).mono ?_; rintro e w' ⟨rfl, rfl⟩
            rw [HIN.out]
            go_wp2_with fail
            refine (isShown_any _ _).mono ?_; rintro e w' ⟨rfl, rfl⟩
            rw [HSH.out]
            go_wp2_with fail
            refine (meant_any _ _ _).mono ?_; rintro e w' ⟨rfl, rfl⟩
            rw [HOK.out]
            go_wp2_with fail
            refine (inText_any _ _).mono ?_; rintro e w' ⟨rfl, rfl⟩
            rw [HIN2.out]
            go_wp2_with (at_builtin; refine wpList_append_own _ rfl _ _ 137 rfl (w.heap.size + 2) 5 i0 (.int .u8 0) 1 1 Tryz.underlying137 hi hz0 hz1 hz2 rfl (by decide) _ _ _ rfl (hown.alloc _) ⟨wr.heap.size, 0, none⟩ 1 1 [.int .u8 (Tk.meant (s[k + 1].toNat : Int) mk)] rfl rfl (cell_one_new _ _ _) (by simp [Value.oneCell']) hmx (by omega) (by simp; omega) ?_; intro v' w4 hown' hgrow _)
            have hX4 : Fr w w4 g s a en b := (hX.alloc _).grown hgrow (fun q e => (hown.lt q e).1)
            go_roundw
            case rel => exact ⟨k + 2, f', acc ++ [UInt8.ofNat (Tk.meant (s[k + 1].toNat : Int) mk).toNat], by go_num, by omega, by omega, by simp; omega, hX4, (by rw [List.length_append, cells_snoc, hmb]; exact hown'), by omega, Lib.hid (by rw [hr.out, HENC.out])⟩
            case measure => simp [intOf]; omega
        · have henc : Tk.enc kind s.data.toList a mk (f' + 1) k acc = Tk.enc kind s.data.toList a mk f' (k + 1) acc := by
            rw [Tk.enc, if_pos (by rw [HZ.out]; exact hlt), ← HB.out, if_neg HMM.out, HIN.out, if_pos rfl, HSH.out, if_pos rfl, if_pos H92.out, if_neg (by rw [HZ.out]; exact hl2)]
          have HENC := Lib.hid henc; clear henc
          have el : decide ((k : Int) + 1 < (s.size : Int)) = false := by simp; omega
          go_wp2_with fail
          refine (inText_any _ _).mono ?_; rintro e w' ⟨rfl, rfl⟩
          rw [HIN.out]
          go_wp2_with fail
          refine (isShown_any _ _).mono ?_; rintro e w' ⟨rfl, rfl⟩
          rw [HSH.out]
          go_wp2_with fail
          go_roundw
          case rel => exact ⟨k + 1, f', acc, by go_num, by omega, by omega, by omega, hX, hown, by omega, Lib.hid (by rw [hr.out, HENC.out])⟩
          case measure => simp [intOf]; omega
      have e92 : ((s[k].toNat : Int) != 92) = true := by rw [bne_iff_ne]; exact h92
      have H92 := Lib.hid h92; clear h92
      have henc : Tk.enc kind s.data.toList a mk (f' + 1) k acc = Tk.enc kind s.data.toList a mk f' (k + 1) (acc ++ [s[k]]) := by
        rw [Tk.enc, if_pos (by rw [HZ.out]; exact hlt), ← HB.out, if_neg HMM.out, HIN.out, if_pos rfl, HSH.out, if_pos rfl, if_neg H92.out]
        simp
      have HENC := Lib.hid henc; clear henc
      have hmx : acc.length + 1 ≤ maxLen := by unfold maxLen; omega
      go_wp2_with fail
      refine (inText_any _ _).mono ?_; rintro e w' ⟨rfl, rfl⟩
      rw [HIN.out]
      go_wp2_with fail
      refine (isShown_any _ _).mono ?_; rintro e w' ⟨rfl, rfl⟩
      rw [HSH.out]
      go_wp2_with (at_builtin; refine wpList_append_own _ rfl _ _ 137 rfl (w.heap.size + 2) 5 i0 (.int .u8 0) 1 1 Tryz.underlying137 hi hz0 hz1 hz2 rfl (by decide) _ _ _ rfl (hown.alloc _) ⟨wr.heap.size, 0, none⟩ 1 1 [.int .u8 (s[k].toNat : Int)] rfl rfl (cell_one_new _ _ _) (by simp [Value.oneCell']) hmx (by omega) (by simp; omega) ?_; intro v' w4 hown' hgrow _)
      have hX4 : Fr w w4 g s a en b := (hX.alloc _).grown hgrow (fun q e => (hown.lt q e).1)
      go_roundw
      case rel => exact ⟨k + 1, f', acc ++ [s[k]], by go_num, by omega, by omega, by simp; omega, hX4, (by rw [List.length_append, cells_snoc]; exact hown'), by omega, Lib.hid (by rw [hr.out, HENC.out])⟩
      case measure => simp [intOf]; omega
    · have henc : Tk.enc kind s.data.toList a mk (f' + 1) k acc = .fault a 12 := by rw [Tk.enc, if_neg (by rw [HZ.out]; exact hlt)]
      have HENC := Lib.hid henc; clear henc
      have e0 : decide ((k : Int) < (s.size : Int)) = false := by simp; omega
      go_wp2_with fail
      refine (faultAt_any a 12 _).mono ?_; rintro e w2 ⟨rfl, hB2⟩
      have hX2 := hX.below hB2
      clear hgl hgl1 hc0 hc1 ht0 ht1 ht2 hu0 hu1 hv0 hv1 hv2 hv3 hv4 hv5
      obtain ⟨hgl, hgl1, hc0, hc1, ht0, ht1, ht2, hu0, hu1, hv0, hv1, hv2, hv3, hv4, hv5⟩ := hX2.facts
      go_wp2_with fail
      rw [hr.out, HENC.out]
      exact bodyPost_ret (v := .tuple #[Tk.tokV 0 [] 0, Tk.fauV (a) 12]) (by simp [results, Tryz.results91, go_sem, Tk.tokV, Tk.fauV, ht0, ht1, ht2, hu0, hu1]) rfl ⟨rfl, (hX2.fin _ _ _ _ _).2⟩
end Go.Proofs.YtaefonagbcnmdaaGreatDoor
