import Derived.Test.YtnkmefnbhfghgaaGreatDoorA26
set_option linter.unusedSimpArgs false
set_option linter.unusedVariables false
namespace Go.Proofs.YtnkmefnbhfghgaaGreatDoor
open Go.RowKit

def Tk.firstBad : List Tk.T → Int
  | [] => 0
  | t :: r => if Tk.check t.1 t.2.1 = 0 then Tk.firstBad r else Tk.check t.1 t.2.1
def Tk.badAt (ts : List Tk.T) (i : Nat) : Bool :=
  if Tk.isArg (Tk.at_ ts i).1 (Tk.at_ ts i).2.1 then !Tk.follows ts i
  else if (Tk.at_ ts i).1 == 1 then (if (Tk.at_ ts i).2.1 == [33, 46] then !Tk.leads ts i else false) else false
def Tk.formBad : Nat → List Tk.T → Nat → Int
  | 0, _, _ => 0
  | f + 1, ts, i => if i < ts.length then (if Tk.badAt ts i then 2 else Tk.formBad f ts (i + 1)) else 0
def Tk.checkAll (ts : List Tk.T) : Int := if Tk.firstBad ts = 0 then Tk.formBad (ts.length + 1) ts 0 else Tk.firstBad ts

set_option maxRecDepth 100000 in
set_option maxHeartbeats 2000000 in
theorem checkAll_any (v : Value) (ts : List Tk.T) {pl : Nat → Int} (w : World) (hn : ts.length ≤ 1000000) (hsz : ∀ t ∈ ts, t.2.1.length ≤ 65536) (hT : TR w w.heap.size v ts pl) (hG : Glob w) :
    Calls Tryz.prog 35 #[v] w fun e w' => e = .returned (.int .i64 (Tk.checkAll ts)) ∧ Below w.heap.size w w' := by
  have HSZ := Lib.hid hsz; clear hsz
  have HT := Lib.hid hT
  obtain ⟨A, cap, rfl, hcap, hi⟩ := hT
  have HI := Lib.hid hi; clear hi
  have hgl := hG.lt
  go_enter Tryz.func35, Tryz.ntmps35
  go_wp2_with fail
  go_loopw [10] (fun i wr => ∃ k : Nat, i = .int .i64 k ∧ k ≤ ts.length ∧ Below w.heap.size w wr ∧ Hid (Tk.firstBad ts = Tk.firstBad (ts.drop k))) (fun i _ => ts.length - (intOf i).toNat)
  case atStart => exact ⟨0, by go_num, Nat.zero_le _, Below.refl _ _, Lib.hid rfl⟩
  case round =>
    obtain ⟨k, rfl, hk, hB, hH⟩ := hrel
    by_cases hlt : k < ts.length
    · have hTr := TR.below HT.out hB
      obtain ⟨g, o, cap', hv', hcap', hg, c0, c1, c2⟩ := hTr.readp hlt
      obtain ⟨rfl, _, rfl⟩ := slice_inj hv'
      have hTT := Blk.new wr 32 #[.int .i64 (Tk.at_ ts k).1, .string ⟨(Tk.at_ ts k).2.1.toArray⟩, .int .i64 (pl k)]
      have hB1 := hB.alloc hB.size (.cells #[.int .i64 (Tk.at_ ts k).1, .string ⟨(Tk.at_ ts k).2.1.toArray⟩, .int .i64 (pl k)] 32)
      have hG1 := hG.below hB1 hgl
      have htl : (Tk.at_ ts k).2.1.length ≤ 65536 := by rw [Tk.at_eq hlt]; exact HSZ.out _ (List.getElem_mem hlt)
      have hdr : Tk.firstBad (ts.drop k) = if Tk.check (Tk.at_ ts k).1 (Tk.at_ ts k).2.1 = 0 then Tk.firstBad (ts.drop (k + 1)) else Tk.check (Tk.at_ ts k).1 (Tk.at_ ts k).2.1 := by
        rw [List.drop_eq_getElem_cons hlt, Tk.firstBad, Tk.at_eq hlt]
      have HDR := Lib.hid hdr; clear hdr
      clear hv'
      go_wp2_with fail
      refine (check_any _ ⟨(Tk.at_ ts k).2.1.toArray⟩ _ _ (by simpa [ByteArray.size] using htl) hG1).mono ?_; rintro e w2 ⟨rfl, hB2⟩
      rw [show ({ data := (Tk.at_ ts k).2.1.toArray } : ByteArray).data.toList = (Tk.at_ ts k).2.1 from rfl]
      have hB3 := hB1.trans (hB2.mono hB1.size)
      obtain ⟨cc, hcc⟩ : ∃ cc, Tk.check (Tk.at_ ts k).1 (Tk.at_ ts k).2.1 = cc := ⟨_, rfl⟩
      have HCC := Lib.hid hcc
      rw [hcc]
      clear hcc
      by_cases hz : cc = 0
      · subst hz
        go_wp2_with fail
        go_roundw
        case rel => exact ⟨k + 1, by go_num, by omega, hB3, Lib.hid (by rw [hH.out, HDR.out, HCC.out, if_pos rfl])⟩
        case measure => simp [intOf]; omega
      · have ez : (cc != 0) = true := by rw [bne_iff_ne]; exact hz
        have hall : Tk.checkAll ts = cc := by rw [Tk.checkAll, hH.out, HDR.out, HCC.out, if_neg hz, if_neg hz]
        have HA := Lib.hid hall; clear hall
        go_wp2_with fail
        go_ret
        exact ⟨ret_int (by rw [HA.out]), hB3⟩
    · have hall : Tk.checkAll ts = Tk.formBad (ts.length + 1) ts 0 := by rw [Tk.checkAll, hH.out, List.drop_of_length_le (by omega)]; rfl
      have HA := Lib.hid hall; clear hall
      obtain ⟨wo, rfl⟩ : ∃ wo : World, wo = wr := ⟨_, rfl⟩
      go_wp2_with fail
      go_loopw [22] (fun i wr => ∃ k f : Nat, i = .int .i64 k ∧ k ≤ ts.length ∧ ts.length - k < f ∧ Below w.heap.size w wr ∧ Hid (Tk.checkAll ts = Tk.formBad f ts k)) (fun i _ => ts.length - (intOf i).toNat)
      case atStart => exact ⟨0, ts.length + 1, by go_num, Nat.zero_le _, by omega, hB, HA⟩
      case round =>
        clear hB hH HA hlt hk
        obtain ⟨k, f, rfl, hk, hf, hB, hH⟩ := hrel
        obtain ⟨f', rfl⟩ : ∃ f', f = f' + 1 := ⟨f - 1, by omega⟩
        by_cases hlt : k < ts.length
        · have hTr := TR.below HT.out hB
          obtain ⟨g, o, cap', hv', hcap', hg, c0, c1, c2⟩ := hTr.readp hlt
          obtain ⟨rfl, _, rfl⟩ := slice_inj hv'
          have hTT := Blk.new wr 32 #[.int .i64 (Tk.at_ ts k).1, .string ⟨(Tk.at_ ts k).2.1.toArray⟩, .int .i64 (pl k)]
          have hB1 := hB.alloc hB.size (.cells #[.int .i64 (Tk.at_ ts k).1, .string ⟨(Tk.at_ ts k).2.1.toArray⟩, .int .i64 (pl k)] 32)
          have hfb : Tk.formBad (f' + 1) ts k = if Tk.badAt ts k then 2 else Tk.formBad f' ts (k + 1) := by rw [Tk.formBad, if_pos hlt]
          have HFB := Lib.hid hfb; clear hfb hv'
          go_wp2_with fail
          refine (isArguments_any _ ⟨(Tk.at_ ts k).2.1.toArray⟩ _ _).mono ?_; rintro e w2 ⟨rfl, hB2⟩
          rw [show ({ data := (Tk.at_ ts k).2.1.toArray } : ByteArray).data.toList = (Tk.at_ ts k).2.1 from rfl]
          have hT2 := hTT.below hB2 hTT.lt
          have d0 : w2.cell? ⟨wr.heap.size, 0, none⟩ = some (.int .i64 (Tk.at_ ts k).1) := by simpa using hT2.cell 0
          have d1 : w2.cell? ⟨wr.heap.size, 1, none⟩ = some (.string ⟨(Tk.at_ ts k).2.1.toArray⟩) := by simpa using hT2.cell 1
          have hB3 := hB1.trans (hB2.mono hB1.size)
          have hTr3 := TR.below HT.out hB3
          have HTR := Lib.hid hTr3; clear hTr3 hTr
          clear c0 c1 c2 hB1 hB2 hTT hT2
          cases ha : Tk.isArg (Tk.at_ ts k).1 (Tk.at_ ts k).2.1
          · have HAR := Lib.hid ha; clear ha
            cases h1 : ((Tk.at_ ts k).1 == 1)
            · have hbad : Tk.badAt ts k = false := by rw [Tk.badAt, HAR.out, h1]; rfl
              have HBAD := Lib.hid hbad; clear hbad
              go_wp2_with fail
              go_roundw
              case rel => exact ⟨k + 1, f', by go_num, by omega, by omega, hB3, Lib.hid (by rw [hH.out, HFB.out, HBAD.out]; rfl)⟩
              case measure => simp [intOf]; omega
            by_cases h2 : (Tk.at_ ts k).2.1 = [33, 46]
            · have e2 : (({ data := (Tk.at_ ts k).2.1.toArray } : ByteArray).toList == [33, 46]) = true := by rw [Go.ByteArray.toList_eq]; simpa using h2
              have H2 := Lib.hid h2; clear h2
              cases hl : Tk.leads ts k
              · have hbad : Tk.badAt ts k = true := by rw [Tk.badAt, HAR.out, h1, H2.out, hl]; rfl
                have HBAD := Lib.hid hbad; clear hbad
                have HL := Lib.hid hl; clear hl
                go_wp2_with fail
                refine (leads_any _ ts k w.heap.size _ hn hlt HTR.out).mono ?_; rintro e w3 ⟨rfl, rfl⟩
                rw [HL.out]
                go_wp2_with fail
                go_ret
                exact ⟨ret_int (by rw [hH.out, HFB.out, HBAD.out]; rfl), hB3⟩
              · have hbad : Tk.badAt ts k = false := by rw [Tk.badAt, HAR.out, h1, H2.out, hl]; rfl
                have HBAD := Lib.hid hbad; clear hbad
                have HL := Lib.hid hl; clear hl
                go_wp2_with fail
                refine (leads_any _ ts k w.heap.size _ hn hlt HTR.out).mono ?_; rintro e w3 ⟨rfl, rfl⟩
                rw [HL.out]
                go_wp2_with fail
                go_roundw
                case rel => exact ⟨k + 1, f', by go_num, by omega, by omega, hB3, Lib.hid (by rw [hH.out, HFB.out, HBAD.out]; rfl)⟩
                case measure => simp [intOf]; omega
            · have e2 : (({ data := (Tk.at_ ts k).2.1.toArray } : ByteArray).toList == [33, 46]) = false := by rw [Go.ByteArray.toList_eq]; simpa using h2
              have e3 : ((Tk.at_ ts k).2.1 == [33, 46]) = false := by simpa using h2
              have hbad : Tk.badAt ts k = false := by rw [Tk.badAt, HAR.out, h1, e3]; rfl
              have HBAD := Lib.hid hbad; clear hbad
              go_wp2_with fail
              go_roundw
              case rel => exact ⟨k + 1, f', by go_num, by omega, by omega, hB3, Lib.hid (by rw [hH.out, HFB.out, HBAD.out]; rfl)⟩
              case measure => simp [intOf]; omega
          · have HAR := Lib.hid ha
            have hk6 : (Tk.at_ ts k).1 = 6 := by simp [Tk.isArg] at ha; exact ha.1
            have h1 : ((Tk.at_ ts k).1 == 1) = false := by rw [hk6]; rfl
            clear ha hk6
            cases hfo : Tk.follows ts k
            · have hbad : Tk.badAt ts k = true := by rw [Tk.badAt, HAR.out, hfo]; rfl
              have HBAD := Lib.hid hbad; clear hbad
              have HFO := Lib.hid hfo; clear hfo
              go_wp2_with fail
              refine (follows_any _ ts k w.heap.size _ hn hlt HTR.out).mono ?_; rintro e w3 ⟨rfl, rfl⟩
              rw [HFO.out]
              go_wp2_with fail
              go_ret
              exact ⟨ret_int (by rw [hH.out, HFB.out, HBAD.out]; rfl), hB3⟩
            · have hbad : Tk.badAt ts k = false := by rw [Tk.badAt, HAR.out, hfo]; rfl
              have HBAD := Lib.hid hbad; clear hbad
              have HFO := Lib.hid hfo; clear hfo
              go_wp2_with fail
              refine (follows_any _ ts k w.heap.size _ hn hlt HTR.out).mono ?_; rintro e w3 ⟨rfl, rfl⟩
              rw [HFO.out]
              go_wp2_with fail
              go_roundw
              case rel => exact ⟨k + 1, f', by go_num, by omega, by omega, hB3, Lib.hid (by rw [hH.out, HFB.out, HBAD.out]; rfl)⟩
              case measure => simp [intOf]; omega
        · have hfb : Tk.formBad (f' + 1) ts k = 0 := by rw [Tk.formBad, if_neg hlt]
          have HFB := Lib.hid hfb; clear hfb
          go_wp2_with fail
          go_ret
          exact ⟨ret_int (by rw [hH.out, HFB.out]), hB⟩
end Go.Proofs.YtnkmefnbhfghgaaGreatDoor
