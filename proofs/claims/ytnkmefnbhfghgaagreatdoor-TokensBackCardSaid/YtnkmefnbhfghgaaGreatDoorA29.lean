import Derived.Test.YtnkmefnbhfghgaaGreatDoorA28
set_option linter.unusedSimpArgs false
set_option linter.unusedVariables false
namespace Go.Proofs.YtnkmefnbhfghgaaGreatDoor
open Go.RowKit

set_option maxRecDepth 100000 in
set_option maxHeartbeats 4000000 in
theorem text_cut (A : Option Addr) (cap : Nat) (ts0 ts : List Tk.T) {pl0 pl : Nat → Int} (w : World) (hn : ts.length ≤ 1000000) (hn0 : ts0.length ≤ 1000000) (hT0 : TR w w.heap.size (.slice A ts0.length cap) ts0 pl0) (hlt0 : ts.length < ts0.length) (hc0 : ts0.length ≤ cap) (hsz : ∀ t ∈ ts, t.2.1.length ≤ 65536) (hT : TR w w.heap.size (.slice A ts.length cap) ts pl) (hG : Glob w) (hei : Tk.endInt ts0 = ts.length) (hcut : Tk.cut ts0 = ts) :
    Calls Tryz.prog 15 #[.slice A ts0.length cap] w (Tk.XPost (Tk.text ts0) w) := by
  obtain ⟨R, hR⟩ : ∃ R, Tk.text ts0 = R := ⟨_, rfl⟩
  have hR2 := hR
  rw [Tk.text, hcut] at hR2
  rw [hR]
  have HR := Lib.hid hR2; clear hR2 hR
  have HEI := Lib.hid hei; clear hei hcut
  have HT0 := Lib.hid hT0; clear hT0
  have HSZ := Lib.hid hsz
  have HT := Lib.hid hT
  have hgl := hG.lt
  go_enter Tryz.func15, Tryz.ntmps15
  go_wp2_with fail
  refine (IndexFunc_any _ ts0 _ hn0 HT0.out).mono ?_; rintro e w1 ⟨rfl, hB1⟩
  rw [HEI.out]
  go_wp2_with fail
  refine (checkAll_any _ ts _ hn HSZ.out ((TR.below HT.out hB1).more hB1.size) (hG.below hB1 hgl)).mono ?_; rintro e w2 ⟨rfl, hB2⟩
  have hB := hB1.trans (hB2.mono hB1.size)
  clear hB1 hB2
  obtain ⟨cc, hcc⟩ : ∃ cc, Tk.checkAll ts = cc := ⟨_, rfl⟩
  have HCC := Lib.hid hcc
  rw [hcc]
  clear hcc
  by_cases hz : cc = 0
  · subst hz
    have hr2 : Tk.textGo (ts.length + 1) ts 0 [] = R := by rw [← HR.out, HCC.out, if_pos rfl]
    have HR2 := Lib.hid hr2; clear hr2
    go_wp2_with fail
    go_loopw [6, 23] (fun v i wr => ∃ (k f : Nat) (acc : List UInt8), i = .int .i64 k ∧ k ≤ ts.length ∧ ts.length - k < f ∧ acc.length ≤ 65536 ∧ wr.ownsRow w.heap.size 5 1 v acc.length (Tk.cells acc) ∧ Below w.heap.size w wr ∧ Hid (Tk.textGo f ts k acc = R)) (fun _ i _ => ts.length - (intOf i).toNat)
    case atStart => exact ⟨0, ts.length + 1, [], by go_num, Nat.zero_le _, by omega, by simp, World.ownsRow_nil _ _ _ _, hB, HR2⟩
    case round =>
      clear hB HR2
      obtain ⟨k, f, acc, rfl, hk, hf, hacc, hown, hB, hH⟩ := hrel
      obtain ⟨f', rfl⟩ : ∃ f', f = f' + 1 := ⟨f - 1, by omega⟩
      have hbz := hB.size
      by_cases hlt : k < ts.length
      · have hTr := TR.below HT.out hB
        obtain ⟨g, o, cap', hv', hcap', hg, c0, c1, c2⟩ := hTr.readp hlt
        obtain ⟨rfl, _, rfl⟩ := slice_inj hv'
        have hB1 := hB.alloc hbz (.cells #[.int .i64 (Tk.at_ ts k).1, .string ⟨(Tk.at_ ts k).2.1.toArray⟩, .int .i64 (pl k)] 32)
        have hTT := Blk.new wr 32 #[.int .i64 (Tk.at_ ts k).1, .string ⟨(Tk.at_ ts k).2.1.toArray⟩, .int .i64 (pl k)]
        have hown1 := hown.alloc (.cells #[.int .i64 (Tk.at_ ts k).1, .string ⟨(Tk.at_ ts k).2.1.toArray⟩, .int .i64 (pl k)] 32)
        have htl : (Tk.at_ ts k).2.1.length ≤ 65536 := by rw [Tk.at_eq hlt]; exact HSZ.out _ (List.getElem_mem hlt)
        have hg1 := Tk.gap_len ts k
        have hg2 := Tk.written_len (Tk.at_ ts k).1 (Tk.at_ ts k).2.1 (Tk.leads ts k)
        have hg3 := Tk.step_len ts k
        have htg : Tk.textGo (f' + 1) ts k acc = if 65536 < (acc ++ Tk.gap ts k ++ Tk.written (Tk.at_ ts k).1 (Tk.at_ ts k).2.1 (Tk.leads ts k) ++ Tk.step ts k).length then .error 6 else Tk.textGo f' ts (k + 1) (acc ++ Tk.gap ts k ++ Tk.written (Tk.at_ ts k).1 (Tk.at_ ts k).2.1 (Tk.leads ts k) ++ Tk.step ts k) := by
          rw [Tk.textGo, if_pos hlt]
        rw [htg] at hH
        clear htg hv' hTr
        obtain ⟨G, hGG⟩ : ∃ G, Tk.gap ts k = G := ⟨_, rfl⟩
        have HGG := Lib.hid hGG
        rw [hGG] at hg1 hH
        clear hGG
        obtain ⟨L, hLL⟩ : ∃ L, Tk.leads ts k = L := ⟨_, rfl⟩
        have HLL := Lib.hid hLL
        rw [hLL] at hg2 hH
        clear hLL
        obtain ⟨W, hWW⟩ : ∃ W, Tk.written (Tk.at_ ts k).1 (Tk.at_ ts k).2.1 L = W := ⟨_, rfl⟩
        have HWW := Lib.hid hWW
        rw [hWW] at hg2 hH
        clear hWW
        go_wp2_with fail
        refine (gap_any _ ts k _ hn hlt ((TR.below HT.out hB1).more hB1.size)).mono ?_; rintro e w3 ⟨rfl, hB3⟩
        rw [HGG.out]
        have hT3 := hTT.below hB3 hTT.lt
        have hB4 := hB1.trans (hB3.mono hB1.size)
        have hown3 := hown1.kept (row := none) ⟨hB3.os, hB3.tape, hB3.output, hB3.size, fun q hq _ => hB3.block q hq⟩ (by
          rcases hob : u6.ownBlock with _ | q
          · exact .inl rfl
          · right; simp)
        have hbz4 := hB4.size
        have hfar : u6.ownBlock ≠ some wr.heap.size := fun e => by have := (hown.lt _ e).2; omega
        clear c0 c1 c2 hB1 hTT hown1 hB3
        go_wp2_with (at_builtin; refine app_str rfl (.tmp 28) (.tmp 31) rfl w.heap.size _ acc rfl hown3 G rfl (by omega) (by omega) ?_; intro v5 w5 hown5 hgrow5)
        have hT5 := hT3.grown hgrow5 (fun e => hfar e.symm)
        have hB5 := hB4.grown hgrow5 hbz4 (fun q e => (hown3.lt q e).1)
        have d0 : w5.cell? ⟨wr.heap.size, 0, none⟩ = some (.int .i64 (Tk.at_ ts k).1) := by simpa using hT5.cell 0
        have d1 : w5.cell? ⟨wr.heap.size, 1, none⟩ = some (.string ⟨(Tk.at_ ts k).2.1.toArray⟩) := by simpa using hT5.cell 1
        have d2 : w5.cell? ⟨wr.heap.size, 2, none⟩ = some (.int .i64 (pl k)) := by simpa using hT5.cell 2
        have hbz5 := hB5.size
        clear hgrow5 hown3 hT3 hB4 hbz4
        go_region_held3 (fun w' => w'.cell? ⟨wr.heap.size, 0, none⟩ = some (.int .i64 (Tk.at_ ts k).1) ∧ w'.cell? ⟨wr.heap.size, 1, none⟩ = some (.string ⟨(Tk.at_ ts k).2.1.toArray⟩) ∧ w'.cell? ⟨wr.heap.size, 2, none⟩ = some (.int .i64 (pl k)))
          (first
            | go_keep
            | exact ⟨by simpa using (Blk.below (Blk.drew hT5) hB7 (Blk.lt (Blk.drew hT5))).cell 0, by simpa using (Blk.below (Blk.drew hT5) hB7 (Blk.lt (Blk.drew hT5))).cell 1, by simpa using (Blk.below (Blk.drew hT5) hB7 (Blk.lt (Blk.drew hT5))).cell 2⟩
            | exact ⟨by simpa using ((Blk.below (Blk.drew hT5) hB7 (Blk.lt (Blk.drew hT5))).grown hgrow9 (fun e => own_ne hown7 (Blk.below (Blk.drew hT5) hB7 (Blk.lt (Blk.drew hT5))) (by decide) e.symm)).cell 0, by simpa using ((Blk.below (Blk.drew hT5) hB7 (Blk.lt (Blk.drew hT5))).grown hgrow9 (fun e => own_ne hown7 (Blk.below (Blk.drew hT5) hB7 (Blk.lt (Blk.drew hT5))) (by decide) e.symm)).cell 1, by simpa using ((Blk.below (Blk.drew hT5) hB7 (Blk.lt (Blk.drew hT5))).grown hgrow9 (fun e => own_ne hown7 (Blk.below (Blk.drew hT5) hB7 (Blk.lt (Blk.drew hT5))) (by decide) e.symm)).cell 2⟩)
          (first
            | (go_at_call 38; refine (leads_any (pl := pl) _ ts k w.heap.size _ hn hlt ?_).mono ?_; exact TR.below HT.out (Below.drew hB5); rintro e w' ⟨rfl, rfl⟩; rw [HLL.out])
            | (go_at_call 37; refine (written_any _ ⟨(Tk.at_ ts k).2.1.toArray⟩ _ L _ ?_).mono ?_; (simpa [ByteArray.size] using htl); rintro e w7 ⟨rfl, hB7⟩; rw [show ({ data := (Tk.at_ ts k).2.1.toArray } : ByteArray).data.toList = (Tk.at_ ts k).2.1 from rfl, HWW.out]; have hown7 := own_below (w := w5.drew) hown5 hB7)
            | (refine step_app_str rfl (.tmp 33) (.tmp 38) rfl w.heap.size _ (acc ++ G) rfl hown7 W rfl (by simp only [List.length_append]; omega) (by have := hB7.size; simp at this; omega) ?_; intro v9 w9 hown9 hgrow9))
        all_goals
          have hT7 := Blk.below (Blk.drew hT5) hB7 (Blk.lt (Blk.drew hT5))
          have hB8 := (Below.drew hB5).trans (hB7.mono (by simp; omega))
          have hbz8 := hB8.size
          have hT9 := hT7.grown hgrow9 (fun e => own_ne hown7 hT7 (by decide) e.symm)
          have hB9 := hB8.grown hgrow9 hbz8 (fun q e => (hown7.lt q e).1)
          have hbz9 := hB9.size
          have hlen9 : (acc ++ G ++ W).length ≤ 262150 := by simp only [List.length_append]; omega
          generalize hT9e : acc ++ G ++ W = T9 at hown9 hH hlen9
          obtain ⟨A9, c9, rfl⟩ := own_form hown9
          clear hT9e
          have d0 : w9.cell? ⟨wr.heap.size, 0, none⟩ = some (.int .i64 (Tk.at_ ts k).1) := by simpa using hT9.cell 0
          cases h7 : ((Tk.at_ ts k).1 == 7)
          · have hst : Tk.step ts k = [] := by rw [Tk.step, h7]; rfl
            rw [hst, List.append_nil] at hH
            clear hst hg3
            by_cases hbig : 65536 < T9.length
            · rw [if_pos hbig] at hH
              have hRR := hH.out
              subst hRR
              have ebig : decide ((65536 : Int) < (T9.length : Int)) = true := by simp only [decide_eq_true_eq]; omega
              go_wp2_with fail
              go_ret2
              exact ⟨rfl, hB9⟩
            · rw [if_neg hbig] at hH
              have ebig : decide ((65536 : Int) < (T9.length : Int)) = false := by simp only [decide_eq_false_iff_not]; omega
              go_wp2_with fail
              go_roundw
              case rel => exact ⟨k + 1, f', T9, by go_num, by omega, by omega, by omega, hown9, hB9, hH⟩
              case measure => simp [intOf]; omega
          · have hst : Tk.step ts k = [10] := by rw [Tk.step, h7]; rfl
            rw [hst] at hH
            clear hst hg3
            by_cases hbig : 65536 < (T9 ++ [10]).length
            · rw [if_pos hbig] at hH
              have hRR := hH.out
              subst hRR
              have ebig : decide ((65536 : Int) < (T9.length : Int) + 1) = true := by simp only [decide_eq_true_eq]; simp at hbig; omega
              go_wp2_with (at_builtin; refine app_bytes rfl (.tmp 43) (.tmp 44) rfl w.heap.size _ T9 rfl (hown9.alloc _) ⟨w9.heap.size, 0, none⟩ 1 [10] rfl (cell_one_new _ _ _) (by simp only [List.length_cons, List.length_nil]; omega) (by simp; omega) ?_; intro vA wA hownA hgrowA; obtain ⟨AA, cA, rfl⟩ := own_form hownA; have hBA := (hB9.alloc hbz9 (.cells #[.int .u8 10] 5)).grown hgrowA (by simp; omega) (fun q e => (hown9.lt q e).1))
              go_ret2
              exact ⟨rfl, hBA⟩
            · rw [if_neg hbig] at hH
              have hb2 : ¬ 65536 < T9.length + 1 := by simpa using hbig
              have ebig : decide ((65536 : Int) < (T9.length : Int) + 1) = false := by simp only [decide_eq_false_iff_not]; omega
              go_wp2_with (at_builtin; refine app_bytes rfl (.tmp 43) (.tmp 44) rfl w.heap.size _ T9 rfl (hown9.alloc _) ⟨w9.heap.size, 0, none⟩ 1 [10] rfl (cell_one_new _ _ _) (by simp only [List.length_cons, List.length_nil]; omega) (by simp; omega) ?_; intro vA wA hownA hgrowA; obtain ⟨AA, cA, rfl⟩ := own_form hownA; have hBA := (hB9.alloc hbz9 (.cells #[.int .u8 10] 5)).grown hgrowA (by simp; omega) (fun q e => (hown9.lt q e).1))
              go_roundw
              case rel => exact ⟨k + 1, f', T9 ++ [10], by go_num, by omega, by omega, by simp; omega, by simpa using hownA, hBA, hH⟩
              case measure => simp [intOf]; omega
      · have htg : Tk.textGo (f' + 1) ts k acc = .ok acc := by rw [Tk.textGo, if_neg hlt]
        have hRR : R = .ok acc := by rw [← hH.out, htg]
        subst hRR
        clear htg hH
        go_wp2_with fail
        rw [conv_row hown]
        go_wp2_with fail
        go_ret2
        exact ⟨rfl, hB⟩
  · have ez : (cc != 0) = true := by rw [bne_iff_ne]; exact hz
    have hr2 : R = .error cc := by rw [← HR.out, HCC.out, if_neg hz]
    subst hr2
    go_wp2_with fail
    go_ret2
    exact ⟨rfl, hB⟩

theorem TR.take {w : World} {B : Nat} {A : Option Addr} {cap m : Nat} {ts : List Tk.T} {pl : Nat → Int} (h : TR w B (.slice A ts.length cap) ts pl) (hm : m ≤ ts.length) : TR w B (.slice A (ts.take m).length cap) (ts.take m) pl := by
  obtain ⟨A', cap', hv, hc, hi⟩ := h
  obtain ⟨rfl, _, rfl⟩ := slice_inj hv
  have hl : (ts.take m).length = m := by simp; omega
  refine ⟨A, cap, rfl, by omega, fun i t ht => ?_⟩
  have him : i < m := by have := (List.getElem?_eq_some_iff.1 ht).1; omega
  rw [List.getElem?_take_of_lt him] at ht
  exact hi i t ht
theorem Tk.endIdx_le (ts : List Tk.T) : Tk.endIdx ts ≤ ts.length := (List.takeWhile_sublist _).length_le
theorem text_any (v : Value) (ts : List Tk.T) {pl : Nat → Int} (w : World) (hn : ts.length ≤ 1000000) (hsz : ∀ t ∈ ts, t.2.1.length ≤ 65536) (hT : TR w w.heap.size v ts pl) (hG : Glob w) :
    Calls Tryz.prog 15 #[v] w (Tk.XPost (Tk.text ts) w) := by
  have hT' := hT
  obtain ⟨A, cap, rfl, hcap, _⟩ := hT'
  have hle := Tk.endIdx_le ts
  by_cases hend : Tk.endIdx ts = ts.length
  · exact text_loop A cap ts w hn hsz hT hG hend
  · have hl : (ts.take (Tk.endIdx ts)).length = Tk.endIdx ts := by simp; omega
    exact text_cut A cap ts (ts.take (Tk.endIdx ts)) w (by omega) hn hT (by omega) hcap (fun t ht => hsz t (List.mem_of_mem_take ht)) (hT.take hle) hG (by rw [Tk.endInt, if_pos (by omega), hl]) rfl
end Go.Proofs.YtnkmefnbhfghgaaGreatDoor
