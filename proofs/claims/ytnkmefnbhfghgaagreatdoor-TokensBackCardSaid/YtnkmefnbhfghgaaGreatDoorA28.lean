import Derived.Test.YtnkmefnbhfghgaaGreatDoorA27
import Derived.Lib.AppendStr
import Derived.Deep.RegionHeld3
import Derived.Deep.AppendLies
set_option linter.unusedSimpArgs false
set_option linter.unusedVariables false
namespace Go.Proofs.YtnkmefnbhfghgaaGreatDoor
open Go.RowKit

theorem strCells_eq (l : List UInt8) : Lib.strCells ⟨l.toArray⟩ = Tk.cells l := rfl
/-- append of a string onto bytes of the call's own. -/
theorem app_str {w : World} {ops : Array Oper} {rest : List Oper} {o : Oper} {a : Act} {Q : Exit → Act → World → Prop} (hgd : o.guard = none) (s x : Operand)
    (ho : o.op = .call { callee := .builtin .append, args := #[s, x], argTypes := #[52, 9] })
    (B : Nat) (v : Value) (acc : List UInt8) (hs : a.eval s = v) (hown : w.ownsRow B 5 1 v acc.length (Tk.cells acc))
    (news : List UInt8) (hx : a.eval x = .string ⟨news.toArray⟩)
    (hlen : acc.length + news.length ≤ 1000000) (hbase : B ≤ w.heap.size)
    (h : ∀ v' w', w'.ownsRow B 5 1 v' (acc ++ news).length (Tk.cells (acc ++ news)) → w.grownBy w' v.ownBlock → wpList Tryz.prog ops Q rest (a.put o.dst v') w') : wpList Tryz.prog ops Q (o :: rest) a w := by
  obtain ⟨i0, hi, hz0, hz1, hz2⟩ := info_parts info_byte
  have hsz : (⟨news.toArray⟩ : ByteArray).size = news.length := by simp [ByteArray.size]
  refine Lib.wpList_append_own_string w hgd s x 52 9 ho B 5 i0 Tryz.underlying52 Tryz.underlying9 hi hz0 hz1 hz2 v acc.length (Tk.cells acc) hs hown ⟨news.toArray⟩ hx (by rw [hsz]; unfold maxLen; omega) (by rw [hsz]; omega) hbase ?_
  intro v' w' h1 h2 _
  exact h v' w' (by rw [List.length_append, cells_app]; rw [hsz] at h1; exact h1) h2

theorem own_form {w : World} {B : Nat} {e : TypeId} {size n : Nat} {v : Value} {xs : List Value} (h : w.ownsRow B e size v n xs) : ∃ A c, v = .slice A n c := by
  rcases h.2 with ⟨rfl, h0⟩ | ⟨g', cap, cur, rfl, _⟩
  · exact ⟨none, 0, by rw [h0]⟩
  · exact ⟨_, _, rfl⟩
theorem own_ne {w : World} {B : Nat} {e t : TypeId} {size n g : Nat} {v : Value} {xs : List Value} {cs : Array Value} (h : w.ownsRow B e size v n xs) (hg : Blk w g t cs) (hne : e ≠ t) : v.ownBlock ≠ some g := by
  rcases h.2 with ⟨rfl, _⟩ | ⟨g', cap, cur, rfl, _, hh, _⟩
  · simp [Value.ownBlock]
  · intro he
    have hgg : g' = g := by simpa [Value.ownBlock] using he
    subst hgg
    unfold Blk at hg
    rw [hh] at hg
    injection hg with hg
    injection hg with _ ht _
    exact hne ht
theorem own_below {w w' : World} {B : Nat} {e : TypeId} {size n : Nat} {v : Value} {xs : List Value} (h : w.ownsRow B e size v n xs) (hb : Below w.heap.size w w') : w'.ownsRow B e size v n xs :=
  h.kept (row := none) ⟨hb.os, hb.tape, hb.output, hb.size, fun q hq _ => hb.block q hq⟩ (by
    rcases hob : v.ownBlock with _ | q
    · exact .inl rfl
    · right; simp)
/-- The same at a step of a region that draws its order. -/
theorem step_app_str {w : World} {ops : Array Oper} {o : Oper} {a : Act} {K : Act → World → Prop} {Q : Exit → Act → World → Prop} {E : Prop} (hgd : o.guard = none) (s x : Operand)
    (ho : o.op = .call { callee := .builtin .append, args := #[s, x], argTypes := #[52, 9] })
    (B : Nat) (v : Value) (acc : List UInt8) (hs : a.eval s = v) (hown : w.ownsRow B 5 1 v acc.length (Tk.cells acc))
    (news : List UInt8) (hx : a.eval x = .string ⟨news.toArray⟩)
    (hlen : acc.length + news.length ≤ 1000000) (hbase : B ≤ w.heap.size)
    (h : ∀ v' w', w'.ownsRow B 5 1 v' (acc ++ news).length (Tk.cells (acc ++ news)) → w.grownBy w' v.ownBlock → K (a.put o.dst v') w') :
    if Region.wanted o (yielded ops a.tmps) = true then Oper.wp Tryz.prog o a w K Q else E := by
  have hw : Region.wanted o (yielded ops a.tmps) = true := by simp [Region.wanted, hgd]
  rw [if_pos hw]
  obtain ⟨i0, hi, hz0, hz1, hz2⟩ := info_parts info_byte
  have hsz : (⟨news.toArray⟩ : ByteArray).size = news.length := by simp [ByteArray.size]
  obtain ⟨v', w', hr, h2, h3, _⟩ := Lib.run_append_own_string (P := Tryz.prog) w B 52 9 o.type 5 i0 Tryz.underlying52 Tryz.underlying9 hi hz0 hz1 hz2 v acc.length (Tk.cells acc) hown ⟨news.toArray⟩ (by rw [hsz]; unfold maxLen; omega) (by rw [hsz]; omega) hbase
  unfold Oper.wp execOp
  simp only [ho, resolve, invoke, builtin, Sem.run_bind, Sem.run_pure, Result.andThen_ok, List.map_toArray, List.map_cons, List.map_nil, hs, hx, hr]
  exact h v' w' (by rw [List.length_append, cells_app]; rw [hsz] at h2; exact h2) h3
def Tk.step (ts : List Tk.T) (i : Nat) : List UInt8 := if (Tk.at_ ts i).1 == 7 then [10] else []
def Tk.textGo : Nat → List Tk.T → Nat → List UInt8 → Except Int (List UInt8)
  | 0, _, _, acc => .ok acc
  | f + 1, ts, i, acc =>
    if i < ts.length then
      if 65536 < (acc ++ Tk.gap ts i ++ Tk.written (Tk.at_ ts i).1 (Tk.at_ ts i).2.1 (Tk.leads ts i) ++ Tk.step ts i).length then .error 6
      else Tk.textGo f ts (i + 1) (acc ++ Tk.gap ts i ++ Tk.written (Tk.at_ ts i).1 (Tk.at_ ts i).2.1 (Tk.leads ts i) ++ Tk.step ts i)
    else .ok acc
def Tk.cut (ts : List Tk.T) : List Tk.T := ts.take (Tk.endIdx ts)
def Tk.text (ts : List Tk.T) : Except Int (List UInt8) :=
  if Tk.checkAll (Tk.cut ts) = 0 then Tk.textGo ((Tk.cut ts).length + 1) (Tk.cut ts) 0 [] else .error (Tk.checkAll (Tk.cut ts))
def Tk.XPost (r : Except Int (List UInt8)) (w : World) (e : Ending) (w' : World) : Prop :=
  match r with
  | .ok t => e = .returned (.tuple #[.string ⟨t.toArray⟩, .int .i64 0]) ∧ Below w.heap.size w w'
  | .error c => e = .returned (.tuple #[.string ⟨#[]⟩, .int .i64 c]) ∧ Below w.heap.size w w'
theorem Tk.gap_len (ts : List Tk.T) (i : Nat) : (Tk.gap ts i).length ≤ 1 := by
  unfold Tk.gap
  repeat' split
  all_goals simp
theorem Tk.name_len (l : List UInt8) : (Tk.name l).length ≤ 2 * l.length + 2 := by
  unfold Tk.name
  split
  · omega
  · have := flat_le quoteOne_le l
    simp only [List.length_append, List.length_cons, List.length_nil]
    omega
theorem Tk.written_len (k : Int) (l : List UInt8) (b : Bool) : (Tk.written k l b).length ≤ 2 * l.length + 3 := by
  have h1 := Tk.name_len l
  have h2 := esc_len l
  unfold Tk.written
  repeat' split
  all_goals first | omega | (simp only [List.length_append, List.length_cons, List.length_nil]; omega)
theorem Tk.step_len (ts : List Tk.T) (i : Nat) : (Tk.step ts i).length ≤ 1 := by
  unfold Tk.step
  split <;> simp

set_option maxRecDepth 100000 in
set_option maxHeartbeats 4000000 in
theorem text_loop (A : Option Addr) (cap : Nat) (ts : List Tk.T) {pl : Nat → Int} (w : World) (hn : ts.length ≤ 1000000) (hsz : ∀ t ∈ ts, t.2.1.length ≤ 65536) (hT : TR w w.heap.size (.slice A ts.length cap) ts pl) (hG : Glob w) (hend : Tk.endIdx ts = ts.length) :
    Calls Tryz.prog 15 #[.slice A ts.length cap] w (Tk.XPost (Tk.text ts) w) := by
  have hcut : Tk.cut ts = ts := by rw [Tk.cut, hend, List.take_length]
  have hei : Tk.endInt ts = -1 := by rw [Tk.endInt, hend, if_neg (by omega)]
  obtain ⟨R, hR⟩ : ∃ R, Tk.text ts = R := ⟨_, rfl⟩
  have hR2 := hR
  rw [Tk.text, hcut] at hR2
  rw [hR]
  have HR := Lib.hid hR2; clear hR2 hR
  have HEI := Lib.hid hei; clear hei hend hcut
  have HSZ := Lib.hid hsz
  have HT := Lib.hid hT
  have hgl := hG.lt
  go_enter Tryz.func15, Tryz.ntmps15
  go_wp2_with fail
  refine (IndexFunc_any _ ts _ hn HT.out).mono ?_; rintro e w1 ⟨rfl, hB1⟩
  rw [HEI.out]
  go_wp2_with fail
  refine (checkAll_any _ ts _ hn HSZ.out ((TR.below HT.out hB1).more hB1.size) (hG.below hB1 hgl)).mono ?_; rintro e w2 ⟨rfl, hB2⟩
  have hB := hB1.trans (hB2.mono hB1.size)
  clear hB1 hB2
  obtain ⟨cc, hcc⟩ : ∃ cc, Tk.checkAll ts = cc := ⟨_, rfl⟩
  have HCC := Lib.hid hcc
  rw [hcc]
  clear hcc
  by_cases hz : cc = 0
  · subst hz
    have hr2 : Tk.textGo (ts.length + 1) ts 0 [] = R := by rw [← HR.out, HCC.out, if_pos rfl]
    have HR2 := Lib.hid hr2; clear hr2
    go_wp2_with fail
    go_loopw [6, 23] (fun v i wr => ∃ (k f : Nat) (acc : List UInt8), i = .int .i64 k ∧ k ≤ ts.length ∧ ts.length - k < f ∧ acc.length ≤ 65536 ∧ wr.ownsRow w.heap.size 5 1 v acc.length (Tk.cells acc) ∧ Below w.heap.size w wr ∧ Hid (Tk.textGo f ts k acc = R)) (fun _ i _ => ts.length - (intOf i).toNat)
    case atStart => exact ⟨0, ts.length + 1, [], by go_num, Nat.zero_le _, by omega, by simp, World.ownsRow_nil _ _ _ _, hB, HR2⟩
    case round =>
      clear hB HR2
      obtain ⟨k, f, acc, rfl, hk, hf, hacc, hown, hB, hH⟩ := hrel
      obtain ⟨f', rfl⟩ : ∃ f', f = f' + 1 := ⟨f - 1, by omega⟩
      have hbz := hB.size
      by_cases hlt : k < ts.length
      · have hTr := TR.below HT.out hB
        obtain ⟨g, o, cap', hv', hcap', hg, c0, c1, c2⟩ := hTr.readp hlt
        obtain ⟨rfl, _, rfl⟩ := slice_inj hv'
        have hB1 := hB.alloc hbz (.cells #[.int .i64 (Tk.at_ ts k).1, .string ⟨(Tk.at_ ts k).2.1.toArray⟩, .int .i64 (pl k)] 32)
        have hTT := Blk.new wr 32 #[.int .i64 (Tk.at_ ts k).1, .string ⟨(Tk.at_ ts k).2.1.toArray⟩, .int .i64 (pl k)]
        have hown1 := hown.alloc (.cells #[.int .i64 (Tk.at_ ts k).1, .string ⟨(Tk.at_ ts k).2.1.toArray⟩, .int .i64 (pl k)] 32)
        have htl : (Tk.at_ ts k).2.1.length ≤ 65536 := by rw [Tk.at_eq hlt]; exact HSZ.out _ (List.getElem_mem hlt)
        have hg1 := Tk.gap_len ts k
        have hg2 := Tk.written_len (Tk.at_ ts k).1 (Tk.at_ ts k).2.1 (Tk.leads ts k)
        have hg3 := Tk.step_len ts k
        have htg : Tk.textGo (f' + 1) ts k acc = if 65536 < (acc ++ Tk.gap ts k ++ Tk.written (Tk.at_ ts k).1 (Tk.at_ ts k).2.1 (Tk.leads ts k) ++ Tk.step ts k).length then .error 6 else Tk.textGo f' ts (k + 1) (acc ++ Tk.gap ts k ++ Tk.written (Tk.at_ ts k).1 (Tk.at_ ts k).2.1 (Tk.leads ts k) ++ Tk.step ts k) := by
          rw [Tk.textGo, if_pos hlt]
        rw [htg] at hH
        clear htg hv' hTr
        obtain ⟨G, hGG⟩ : ∃ G, Tk.gap ts k = G := ⟨_, rfl⟩
        have HGG := Lib.hid hGG
        rw [hGG] at hg1 hH
        clear hGG
        obtain ⟨L, hLL⟩ : ∃ L, Tk.leads ts k = L := ⟨_, rfl⟩
        have HLL := Lib.hid hLL
        rw [hLL] at hg2 hH
        clear hLL
        obtain ⟨W, hWW⟩ : ∃ W, Tk.written (Tk.at_ ts k).1 (Tk.at_ ts k).2.1 L = W := ⟨_, rfl⟩
        have HWW := Lib.hid hWW
        rw [hWW] at hg2 hH
        clear hWW
        go_wp2_with fail
        refine (gap_any _ ts k _ hn hlt ((TR.below HT.out hB1).more hB1.size)).mono ?_; rintro e w3 ⟨rfl, hB3⟩
        rw [HGG.out]
        have hT3 := hTT.below hB3 hTT.lt
        have hB4 := hB1.trans (hB3.mono hB1.size)
        have hown3 := hown1.kept (row := none) ⟨hB3.os, hB3.tape, hB3.output, hB3.size, fun q hq _ => hB3.block q hq⟩ (by
          rcases hob : u6.ownBlock with _ | q
          · exact .inl rfl
          · right; simp)
        have hbz4 := hB4.size
        have hfar : u6.ownBlock ≠ some wr.heap.size := fun e => by have := (hown.lt _ e).2; omega
        clear c0 c1 c2 hB1 hTT hown1 hB3
        go_wp2_with (at_builtin; refine app_str rfl (.tmp 28) (.tmp 31) rfl w.heap.size _ acc rfl hown3 G rfl (by omega) (by omega) ?_; intro v5 w5 hown5 hgrow5)
        have hT5 := hT3.grown hgrow5 (fun e => hfar e.symm)
        have hB5 := hB4.grown hgrow5 hbz4 (fun q e => (hown3.lt q e).1)
        have d0 : w5.cell? ⟨wr.heap.size, 0, none⟩ = some (.int .i64 (Tk.at_ ts k).1) := by simpa using hT5.cell 0
        have d1 : w5.cell? ⟨wr.heap.size, 1, none⟩ = some (.string ⟨(Tk.at_ ts k).2.1.toArray⟩) := by simpa using hT5.cell 1
        have d2 : w5.cell? ⟨wr.heap.size, 2, none⟩ = some (.int .i64 (pl k)) := by simpa using hT5.cell 2
        have hbz5 := hB5.size
        clear hgrow5 hown3 hT3 hB4 hbz4
        go_region_held3 (fun w' => w'.cell? ⟨wr.heap.size, 0, none⟩ = some (.int .i64 (Tk.at_ ts k).1) ∧ w'.cell? ⟨wr.heap.size, 1, none⟩ = some (.string ⟨(Tk.at_ ts k).2.1.toArray⟩) ∧ w'.cell? ⟨wr.heap.size, 2, none⟩ = some (.int .i64 (pl k)))
          (first
            | go_keep
            | exact ⟨by simpa using (Blk.below (Blk.drew hT5) hB7 (Blk.lt (Blk.drew hT5))).cell 0, by simpa using (Blk.below (Blk.drew hT5) hB7 (Blk.lt (Blk.drew hT5))).cell 1, by simpa using (Blk.below (Blk.drew hT5) hB7 (Blk.lt (Blk.drew hT5))).cell 2⟩
            | exact ⟨by simpa using ((Blk.below (Blk.drew hT5) hB7 (Blk.lt (Blk.drew hT5))).grown hgrow9 (fun e => own_ne hown7 (Blk.below (Blk.drew hT5) hB7 (Blk.lt (Blk.drew hT5))) (by decide) e.symm)).cell 0, by simpa using ((Blk.below (Blk.drew hT5) hB7 (Blk.lt (Blk.drew hT5))).grown hgrow9 (fun e => own_ne hown7 (Blk.below (Blk.drew hT5) hB7 (Blk.lt (Blk.drew hT5))) (by decide) e.symm)).cell 1, by simpa using ((Blk.below (Blk.drew hT5) hB7 (Blk.lt (Blk.drew hT5))).grown hgrow9 (fun e => own_ne hown7 (Blk.below (Blk.drew hT5) hB7 (Blk.lt (Blk.drew hT5))) (by decide) e.symm)).cell 2⟩)
          (first
            | (go_at_call 38; refine (leads_any (pl := pl) _ ts k w.heap.size _ hn hlt ?_).mono ?_; exact TR.below HT.out (Below.drew hB5); rintro e w' ⟨rfl, rfl⟩; rw [HLL.out])
            | (go_at_call 37; refine (written_any _ ⟨(Tk.at_ ts k).2.1.toArray⟩ _ L _ ?_).mono ?_; (simpa [ByteArray.size] using htl); rintro e w7 ⟨rfl, hB7⟩; rw [show ({ data := (Tk.at_ ts k).2.1.toArray } : ByteArray).data.toList = (Tk.at_ ts k).2.1 from rfl, HWW.out]; have hown7 := own_below (w := w5.drew) hown5 hB7)
            | (refine step_app_str rfl (.tmp 33) (.tmp 38) rfl w.heap.size _ (acc ++ G) rfl hown7 W rfl (by simp only [List.length_append]; omega) (by have := hB7.size; simp at this; omega) ?_; intro v9 w9 hown9 hgrow9))
        all_goals
          have hT7 := Blk.below (Blk.drew hT5) hB7 (Blk.lt (Blk.drew hT5))
          have hB8 := (Below.drew hB5).trans (hB7.mono (by simp; omega))
          have hbz8 := hB8.size
          have hT9 := hT7.grown hgrow9 (fun e => own_ne hown7 hT7 (by decide) e.symm)
          have hB9 := hB8.grown hgrow9 hbz8 (fun q e => (hown7.lt q e).1)
          have hbz9 := hB9.size
          have hlen9 : (acc ++ G ++ W).length ≤ 262150 := by simp only [List.length_append]; omega
          generalize hT9e : acc ++ G ++ W = T9 at hown9 hH hlen9
          obtain ⟨A9, c9, rfl⟩ := own_form hown9
          clear hT9e
          have d0 : w9.cell? ⟨wr.heap.size, 0, none⟩ = some (.int .i64 (Tk.at_ ts k).1) := by simpa using hT9.cell 0
          cases h7 : ((Tk.at_ ts k).1 == 7)
          · have hst : Tk.step ts k = [] := by rw [Tk.step, h7]; rfl
            rw [hst, List.append_nil] at hH
            clear hst hg3
            by_cases hbig : 65536 < T9.length
            · rw [if_pos hbig] at hH
              have hRR := hH.out
              subst hRR
              have ebig : decide ((65536 : Int) < (T9.length : Int)) = true := by simp only [decide_eq_true_eq]; omega
              go_wp2_with fail
              go_ret2
              exact ⟨rfl, hB9⟩
            · rw [if_neg hbig] at hH
              have ebig : decide ((65536 : Int) < (T9.length : Int)) = false := by simp only [decide_eq_false_iff_not]; omega
              go_wp2_with fail
              go_roundw
              case rel => exact ⟨k + 1, f', T9, by go_num, by omega, by omega, by omega, hown9, hB9, hH⟩
              case measure => simp [intOf]; omega
          · have hst : Tk.step ts k = [10] := by rw [Tk.step, h7]; rfl
            rw [hst] at hH
            clear hst hg3
            by_cases hbig : 65536 < (T9 ++ [10]).length
            · rw [if_pos hbig] at hH
              have hRR := hH.out
              subst hRR
              have ebig : decide ((65536 : Int) < (T9.length : Int) + 1) = true := by simp only [decide_eq_true_eq]; simp at hbig; omega
              go_wp2_with (at_builtin; refine app_bytes rfl (.tmp 43) (.tmp 44) rfl w.heap.size _ T9 rfl (hown9.alloc _) ⟨w9.heap.size, 0, none⟩ 1 [10] rfl (cell_one_new _ _ _) (by simp only [List.length_cons, List.length_nil]; omega) (by simp; omega) ?_; intro vA wA hownA hgrowA; obtain ⟨AA, cA, rfl⟩ := own_form hownA; have hBA := (hB9.alloc hbz9 (.cells #[.int .u8 10] 5)).grown hgrowA (by simp; omega) (fun q e => (hown9.lt q e).1))
              go_ret2
              exact ⟨rfl, hBA⟩
            · rw [if_neg hbig] at hH
              have hb2 : ¬ 65536 < T9.length + 1 := by simpa using hbig
              have ebig : decide ((65536 : Int) < (T9.length : Int) + 1) = false := by simp only [decide_eq_false_iff_not]; omega
              go_wp2_with (at_builtin; refine app_bytes rfl (.tmp 43) (.tmp 44) rfl w.heap.size _ T9 rfl (hown9.alloc _) ⟨w9.heap.size, 0, none⟩ 1 [10] rfl (cell_one_new _ _ _) (by simp only [List.length_cons, List.length_nil]; omega) (by simp; omega) ?_; intro vA wA hownA hgrowA; obtain ⟨AA, cA, rfl⟩ := own_form hownA; have hBA := (hB9.alloc hbz9 (.cells #[.int .u8 10] 5)).grown hgrowA (by simp; omega) (fun q e => (hown9.lt q e).1))
              go_roundw
              case rel => exact ⟨k + 1, f', T9 ++ [10], by go_num, by omega, by omega, by simp; omega, by simpa using hownA, hBA, hH⟩
              case measure => simp [intOf]; omega
      · have htg : Tk.textGo (f' + 1) ts k acc = .ok acc := by rw [Tk.textGo, if_neg hlt]
        have hRR : R = .ok acc := by rw [← hH.out, htg]
        subst hRR
        clear htg hH
        go_wp2_with fail
        rw [conv_row hown]
        go_wp2_with fail
        go_ret2
        exact ⟨rfl, hB⟩
  · have ez : (cc != 0) = true := by rw [bne_iff_ne]; exact hz
    have hr2 : R = .error cc := by rw [← HR.out, HCC.out, if_neg hz]
    subst hr2
    go_wp2_with fail
    go_ret2
    exact ⟨rfl, hB⟩
end Go.Proofs.YtnkmefnbhfghgaaGreatDoor
