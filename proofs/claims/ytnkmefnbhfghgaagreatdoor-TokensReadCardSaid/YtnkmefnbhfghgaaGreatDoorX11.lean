import Derived.Test.YtnkmefnbhfghgaaGreatDoorGX
set_option linter.unusedSimpArgs false
set_option linter.unusedVariables false
namespace Go.Proofs.YtnkmefnbhfghgaaGreatDoor
open Go.RowKit

theorem badName_eq (acc : List UInt8) (h : acc.isEmpty = false) : Tk.badName acc = Tk.hasB acc 46 := by
  rw [Tk.badName, h, Bool.false_or, show (46 : Int) = ((46 : UInt8).toNat : Int) from rfl, hasB_index]
theorem not_shown {l : List UInt8} {i : Nat} (h1 : Tk.inText (Tk.bt l i) = true) (h2 : Tk.shown (Tk.bt l i) = false) : Tk.bt l i = 9 ∨ Tk.bt l i = 10 := by
  have := byte_all (fun n => !(Tk.inText n) || Tk.shown n || n == 9 || n == 10) (by decide +kernel) (l.getD i 0)
  rw [show (((l.getD i 0).toNat : Nat) : Int) = Tk.bt l i from rfl, h1, h2] at this
  simpa using this
theorem shown_not {l : List UInt8} {i : Nat} (h2 : Tk.shown (Tk.bt l i) = true) : (Tk.bt l i == 9) = false ∧ (Tk.bt l i == 10) = false := by
  have := byte_all (fun n => !(Tk.shown n) || (!(n == 9) && !(n == 10))) (by decide +kernel) (l.getD i 0)
  rw [show (((l.getD i 0).toNat : Nat) : Int) = Tk.bt l i from rfl, h2] at this
  simpa using this
theorem bytes_snoc (a : List UInt8) (b : UInt8) : (⟨a.toArray⟩ : ByteArray) ++ ⟨#[b]⟩ = ⟨(a ++ [b]).toArray⟩ := by
  apply Go.WideShapes.bytes_inj
  simp [ByteArray.data_append]
theorem small_list {acc : List UInt8} {i : Nat} (h : acc.length ≤ i) (hi : i ≤ 65536) : acc.length ≤ 4611686018427387904 := by omega

set_option maxRecDepth 100000 in
set_option maxHeartbeats 8000000 in
theorem rquoted_39 (g : Nat) (s : ByteArray) (p : Nat) (v : Value) (out : List Tk.T) (to : Nat) (w0 w : World) (hs : s.size ≤ 65536) (hp : p < s.size) (hout : out.length ≤ 65536) (hS : RIn w0 w g s p v out to 0 0) (hm : Tk.bt s.data.toList p = 39) :
    Calls Tryz.prog 68 #[.pointer (some ⟨g, 0, none⟩)] w (QPost w0 g s p out to (Tk.qquoted s.data.toList p)) := by
  have HZ := Lib.hid (size_data s)
  obtain ⟨c0, c1, c2, c3, c4, c5⟩ := hS.cells
  have hgl := hS.lt
  have hp1 : (0 : Int) ≤ (p : Int) := by omega
  have hp2 : (p : Int) < (s.size : Int) := by omega
  have hstart : Tk.qquoted s.data.toList p = Tk.qq s.data.toList p 39 (s.size + 1) (p + 1) [] := by unfold Tk.qquoted; rw [hm, HZ.out]
  have HST := Lib.hid hstart; clear hstart
  have hbm := Tk.bt_of s p hp
  rw [hm] at hbm
  have HBM := Lib.hid hbm; clear hbm hm
  go_enter Tryz.func68, Tryz.ntmps68
  go_wp2_with fail
  go_quiet (fail)
  rw [HBM.out]
  go_wp2_with fail
  clear c0 c1 c2 c3 c4 c5
  go_loopw [3, 4] (fun o' i' wr => ∃ (i f : Nat) (acc : List UInt8), p + 1 ≤ i ∧ i ≤ s.size ∧ s.size < i + f ∧ acc.length ≤ i ∧ o' = .string ⟨acc.toArray⟩ ∧ i' = .int .i64 i ∧ RIn w0 wr g s p v out to 0 0 ∧ Hid (Tk.qquoted s.data.toList p = Tk.qq s.data.toList p 39 f i acc)) (fun _ i' _ => s.size - (intOf i').toNat)
  case atStart => exact ⟨p + 1, s.size + 1, [], Nat.le_refl _, hp, by omega, by simp, rfl, by go_num, hS.drewN _, HST⟩
  case round =>
    obtain ⟨i, f, acc, hpi, his, hf, hacc, rfl, rfl, hR, hr⟩ := hrel
    obtain ⟨f', rfl⟩ : ∃ f', f = f' + 1 := ⟨f - 1, by omega⟩
    obtain ⟨c0, c1, c2, c3, c4, c5⟩ := hR.cells
    have f1 := hR.frozen 1
    have hgr := hR.lt
    have hal : acc.length ≤ 65536 := by omega
    by_cases hlt : i < s.size
    · have hb := Tk.bt_of s i hlt
      have hi1 : (i : Int) < (s.size : Int) := by omega
      have hq : Tk.qquoted s.data.toList p = Tk.qq s.data.toList p 39 (f' + 1) i acc := hr.out
      rw [Tk.qq, if_pos (show i < s.data.toList.length by rw [HZ.out]; exact hlt)] at hq
      by_cases hcm : Tk.bt s.data.toList i = 39
      · have ecm : (((s[i]'hlt).toNat : Int) == 39) = true := by rw [hb, hcm]; rfl
        rw [if_pos hcm] at hq
        have HQ := Lib.hid hq; clear hq hcm hb
        cases hem : acc.isEmpty
        · have hba := badName_eq acc hem
          cases hdo : Tk.hasB acc 46
          · have hq : Tk.qquoted s.data.toList p = Tk.qadd 1 acc (i + 1) p := by rw [HQ.out, Tk.qclose, if_pos rfl, Tk.qname, hba, hdo, if_neg (by decide)]
            have HQ2 := Lib.hid hq; clear hq HQ hba
            have HDO := Lib.hid hdo; clear hdo
            go_wp2_with fail
            refine (rhas_any ⟨acc.toArray⟩ 46 _ (by unfold maxLen; simp [ByteArray.size]; omega)).mono ?_; rintro e w' ⟨rfl, rfl⟩
            rw [show ({ data := acc.toArray } : ByteArray).data.toList = acc from rfl, HDO.out]
            go_wp2_with fail
            refine (radd_any g s p v out to 1 acc (i + 1) w0 _ hout (by omega) (small_list hacc (by omega)) hR).mono ?_
            intro e w5 hP
            obtain ⟨r, rfl⟩ := hP.ret
            go_wp2_with fail
            rw [HQ2.out]
            exact bodyPost_ret (v := .tuple #[]) (by simp [results, Tryz.results68, go_sem]) rfl (hP.again _)
          · have hq : Tk.qquoted s.data.toList p = .bad p 11 := by rw [HQ.out, Tk.qclose, if_pos rfl, Tk.qname, hba, hdo, if_pos rfl]
            have HQ2 := Lib.hid hq; clear hq HQ hba
            have HDO := Lib.hid hdo; clear hdo
            go_wp2_with fail
            refine (rhas_any ⟨acc.toArray⟩ 46 _ (by unfold maxLen; simp [ByteArray.size]; omega)).mono ?_; rintro e w' ⟨rfl, rfl⟩
            rw [show ({ data := acc.toArray } : ByteArray).data.toList = acc from rfl, HDO.out]
            go_wp2_with fail
            refine (rfail_any g s p v out to 0 11 p w0 _ hR).mono ?_
            rintro e w2 ⟨⟨r, rfl⟩, hR2, hGr⟩
            go_wp2_with fail
            refine (radd_rest g s p v out to p 11 1 acc (i + 1) w0 _ hout (small_list hacc (by omega)) hR2 _ rfl (by
              by_cases h0 : Tk.check 1 acc = 0
              · exact .inl (by rw [h0]; rfl)
              · exact .inr ⟨by rw [bne_iff_ne]; exact h0, rfl⟩)).mono ?_
            intro e w3 hP
            obtain ⟨r2, rfl⟩ := hP.1
            go_wp2_with fail
            rw [HQ2.out]
            exact bodyPost_ret (v := .tuple #[]) (by simp [results, Tryz.results68, go_sem]) rfl ⟨_, _, _, ⟨_, rfl⟩, hP.2⟩
        · have hnil : acc = [] := by simpa using hem
          subst hnil
          clear hem
          have hq : Tk.qquoted s.data.toList p = .bad p 11 := by rw [HQ.out]; rfl
          have HQ2 := Lib.hid hq; clear hq HQ
          go_wp2_with fail
          refine (rfail_any g s p v out to 0 11 p w0 _ hR).mono ?_
          rintro e w2 ⟨⟨r, rfl⟩, hR2, hGr⟩
          go_wp2_with fail
          refine (radd_rest g s p v out to p 11 1 [] (i + 1) w0 _ hout (small_list hacc (by omega)) hR2 _ rfl (by
            by_cases h0 : Tk.check 1 [] = 0
            · exact .inl (by rw [h0]; rfl)
            · exact .inr ⟨by rw [bne_iff_ne]; exact h0, rfl⟩)).mono ?_
          intro e w3 hP
          obtain ⟨r2, rfl⟩ := hP.1
          go_wp2_with fail
          rw [HQ2.out]
          exact bodyPost_ret (v := .tuple #[]) (by simp [results, Tryz.results68, go_sem]) rfl ⟨_, _, _, ⟨_, rfl⟩, hP.2⟩
      · have ecm : (((s[i]'hlt).toNat : Int) == 39) = false := by rw [hb, beq_eq_false_iff_ne]; exact hcm
        rw [if_neg hcm] at hq
        clear hcm
        cases hin : Tk.inText (Tk.bt s.data.toList i)
        · rw [hin, if_neg (by decide)] at hq
          have HQ := Lib.hid hq; clear hq
          rw [← hb] at hin
          have HIN := Lib.hid hin; clear hin hb
          go_wp2_with fail
          refine (rByte_any _ _).mono ?_; rintro e w' ⟨rfl, rfl⟩
          rw [HIN.out]
          go_wp2_with fail
          refine (rfail_any g s p v out to 0 2 i w0 _ hR).mono ?_
          rintro e w2 ⟨⟨r, rfl⟩, hR2, hGr⟩
          go_wp2_with fail
          rw [HQ.out]
          exact bodyPost_ret (v := .tuple #[]) (by simp [results, Tryz.results68, go_sem]) rfl ⟨_, _, _, ⟨_, rfl⟩, _, hR2⟩
        · rw [hin, if_pos (by rfl)] at hq
          have hin2 := hin
          rw [← hb] at hin2
          have HIN := Lib.hid hin2; clear hin2
          cases hsh : Tk.shown (Tk.bt s.data.toList i)
          · have h910 := not_shown hin hsh
            rw [hsh, if_neg (by decide)] at hq
            have HQ := Lib.hid hq; clear hq hin hsh
            cases h9 : (((s[i]'hlt).toNat : Int) == 9)
            · have h10 : (((s[i]'hlt).toNat : Int) == 10) = true := by
                rw [hb] at h9 ⊢
                rw [beq_eq_false_iff_ne] at h9
                rw [beq_iff_eq]
                rcases h910 with h | h
                · exact absurd h h9
                · exact h
              clear h910 hb
              go_wp2_with fail
              refine (rByte_any _ _).mono ?_; rintro e w' ⟨rfl, rfl⟩
              rw [HIN.out]
              go_wp2_with fail
              refine (rfail_any g s p v out to 0 11 i w0 _ hR).mono ?_
              rintro e w2 ⟨⟨r, rfl⟩, hR2, hGr⟩
              go_wp2_with fail
              rw [HQ.out]
              exact bodyPost_ret (v := .tuple #[]) (by simp [results, Tryz.results68, go_sem]) rfl ⟨_, _, _, ⟨_, rfl⟩, _, hR2⟩
            · clear h910 hb
              go_wp2_with fail
              refine (rByte_any _ _).mono ?_; rintro e w' ⟨rfl, rfl⟩
              rw [HIN.out]
              go_wp2_with fail
              refine (rfail_any g s p v out to 0 11 i w0 _ hR).mono ?_
              rintro e w2 ⟨⟨r, rfl⟩, hR2, hGr⟩
              go_wp2_with fail
              rw [HQ.out]
              exact bodyPost_ret (v := .tuple #[]) (by simp [results, Tryz.results68, go_sem]) rfl ⟨_, _, _, ⟨_, rfl⟩, _, hR2⟩
          · obtain ⟨n9, n10⟩ := shown_not hsh
            rw [← hb] at n9 n10
            rw [hsh, if_pos (by rfl)] at hq
            clear hin hsh
            by_cases h92 : Tk.bt s.data.toList i = 92
            · have e92 : (((s[i]'hlt).toNat : Int) == 92) = true := by rw [hb, h92]; rfl
              rw [if_pos h92] at hq
              have H92 := Lib.hid (show ((s[i]'hlt).toNat : Int) = 92 by rw [hb]; exact h92)
              clear h92 hb
              by_cases hn : i + 1 < s.size
              · have hn1 : (i : Int) + 1 < (s.size : Int) := by omega
                rw [if_pos (show i + 1 < s.data.toList.length by rw [HZ.out]; exact hn)] at hq
                have hb1 := Tk.bt_of s (i + 1) hn
                cases hin1 : Tk.inText (Tk.bt s.data.toList (i + 1))
                · rw [hin1, if_neg (by decide)] at hq
                  have HQ := Lib.hid hq; clear hq
                  rw [← hb1] at hin1
                  have HIN1 := Lib.hid hin1; clear hin1 hb1
                  go_wp2_with fail
                  refine (rByte_any _ _).mono ?_; rintro e w' ⟨rfl, rfl⟩
                  rw [HIN.out]
                  go_wp2_with fail
                  refine (rByte_any _ _).mono ?_; rintro e w' ⟨rfl, rfl⟩
                  rw [HIN1.out]
                  go_wp2_with fail
                  refine (rfail_any g s p v out to 0 2 (i + 1) w0 _ hR).mono ?_
                  rintro e w2 ⟨⟨r, rfl⟩, hR2, hGr⟩
                  go_wp2_with fail
                  rw [HQ.out]
                  exact bodyPost_ret (v := .tuple #[]) (by simp [results, Tryz.results68, go_sem]) rfl ⟨_, _, _, ⟨_, rfl⟩, _, hR2⟩
                · rw [hin1, if_pos (by rfl)] at hq
                  rw [← hb1] at hin1
                  have HIN1 := Lib.hid hin1; clear hin1
                  have HB1 := Lib.hid hb1; clear hb1
                  by_cases hmn : Tk.meant (Tk.bt s.data.toList (i + 1)) 39 = 0
                  · rw [if_pos hmn] at hq
                    have HQ := Lib.hid hq; clear hq
                    have HMN := Lib.hid hmn; clear hmn
                    go_wp2_with fail
                    refine (rByte_any _ _).mono ?_; rintro e w' ⟨rfl, rfl⟩
                    rw [HIN.out]
                    go_wp2_with fail
                    refine (rByte_any _ _).mono ?_; rintro e w' ⟨rfl, rfl⟩
                    rw [HIN1.out]
                    go_wp2_with fail
                    refine (rescaped_any _ _ _).mono ?_; rintro e w' ⟨rfl, rfl⟩
                    rw [HB1.out, HMN.out]
                    go_wp2_with fail
                    refine (rfail_any g s p v out to 0 11 i w0 _ hR).mono ?_
                    rintro e w2 ⟨⟨r, rfl⟩, hR2, hGr⟩
                    go_wp2_with fail
                    rw [HQ.out]
                    exact bodyPost_ret (v := .tuple #[]) (by simp [results, Tryz.results68, go_sem]) rfl ⟨_, _, _, ⟨_, rfl⟩, _, hR2⟩
                  · rw [if_neg hmn] at hq
                    have HQ := Lib.hid hq; clear hq
                    obtain ⟨mc, hmc⟩ : ∃ mc, Tk.meant (Tk.bt s.data.toList (i + 1)) 39 = mc := ⟨_, rfl⟩
                    rw [hmc] at hmn HQ
                    have HMC := Lib.hid hmc; clear hmc
                    have e0 : (mc == 0) = false := by rw [beq_eq_false_iff_ne]; exact hmn
                    clear hmn
                    go_wp2_with fail
                    refine (rByte_any _ _).mono ?_; rintro e w' ⟨rfl, rfl⟩
                    rw [HIN.out]
                    go_wp2_with fail
                    refine (rByte_any _ _).mono ?_; rintro e w' ⟨rfl, rfl⟩
                    rw [HIN1.out]
                    go_wp2_with fail
                    refine (rescaped_any _ _ _).mono ?_; rintro e w' ⟨rfl, rfl⟩
                    rw [HB1.out, HMC.out]
                    go_wp2_with fail
                    rw [conv_one _ wr.heap.size mc (by simp [go_sem])]
                    go_wp2_with fail
                    go_roundw
                    case rel => exact ⟨i + 2, f', acc ++ [UInt8.ofNat mc.toNat], by omega, by omega, by omega, by simp; omega, by rw [bytes_snoc], by go_num, hR.alloc _, HQ⟩
                    case measure => simp [intOf]; omega
              · have hn1 : decide ((i : Int) + 1 < (s.size : Int)) = false := by simp; omega
                rw [if_neg (show ¬ i + 1 < s.data.toList.length by rw [HZ.out]; exact hn)] at hq
                have HQ := Lib.hid hq; clear hq
                go_wp2_with fail
                refine (rByte_any _ _).mono ?_; rintro e w' ⟨rfl, rfl⟩
                rw [HIN.out]
                go_wp2_with fail
                rw [conv_one _ wr.heap.size 92 (by simp [go_sem, H92.out])]
                go_wp2_with fail
                go_roundw
                case rel => exact ⟨i + 1, f', acc ++ [92], by omega, by omega, by omega, by simp; omega, by rw [bytes_snoc], by go_num, hR.alloc _, HQ⟩
                case measure => simp [intOf]; omega
            · have e92 : (((s[i]'hlt).toNat : Int) == 92) = false := by rw [hb, beq_eq_false_iff_ne]; exact h92
              rw [if_neg h92] at hq
              have HQ := Lib.hid hq; clear hq h92
              have HB := Lib.hid hb; clear hb
              go_wp2_with fail
              refine (rByte_any _ _).mono ?_; rintro e w' ⟨rfl, rfl⟩
              rw [HIN.out]
              go_wp2_with fail
              rw [conv_one _ wr.heap.size ((s[i]'hlt).toNat : Int) (by simp [go_sem])]
              go_wp2_with fail
              go_roundw
              case rel => exact ⟨i + 1, f', acc ++ [UInt8.ofNat (Tk.bt s.data.toList i).toNat], by omega, by omega, by omega, by simp; omega, by rw [bytes_snoc, ← HB.out]; simp, by go_num, hR.alloc _, HQ⟩
              case measure => simp [intOf]; omega
    · have e0 : decide ((i : Int) < (s.size : Int)) = false := by simp; omega
      have hq : Tk.qquoted s.data.toList p = .bad p 12 := by rw [hr.out, Tk.qq, if_neg (by rw [HZ.out]; exact hlt)]
      have HQ := Lib.hid hq; clear hq
      go_wp2_with fail
      refine (rfail_any g s p v out to 0 12 p w0 _ hR).mono ?_
      rintro e w2 ⟨⟨r, rfl⟩, hR2, hGr⟩
      go_wp2_with fail
      rw [HQ.out]
      exact bodyPost_end (v := .tuple #[]) (by simp [results, Tryz.results68, go_sem]) rfl ⟨_, _, _, ⟨_, rfl⟩, _, hR2⟩

set_option maxRecDepth 100000 in
set_option maxHeartbeats 8000000 in
theorem rquoted_34 (g : Nat) (s : ByteArray) (p : Nat) (v : Value) (out : List Tk.T) (to : Nat) (w0 w : World) (hs : s.size ≤ 65536) (hp : p < s.size) (hout : out.length ≤ 65536) (hS : RIn w0 w g s p v out to 0 0) (hm : Tk.bt s.data.toList p = 34) :
    Calls Tryz.prog 68 #[.pointer (some ⟨g, 0, none⟩)] w (QPost w0 g s p out to (Tk.qquoted s.data.toList p)) := by
  have HZ := Lib.hid (size_data s)
  obtain ⟨c0, c1, c2, c3, c4, c5⟩ := hS.cells
  have hgl := hS.lt
  have hp1 : (0 : Int) ≤ (p : Int) := by omega
  have hp2 : (p : Int) < (s.size : Int) := by omega
  have hstart : Tk.qquoted s.data.toList p = Tk.qq s.data.toList p 34 (s.size + 1) (p + 1) [] := by unfold Tk.qquoted; rw [hm, HZ.out]
  have HST := Lib.hid hstart; clear hstart
  have hbm := Tk.bt_of s p hp
  rw [hm] at hbm
  have HBM := Lib.hid hbm; clear hbm hm
  go_enter Tryz.func68, Tryz.ntmps68
  go_wp2_with fail
  go_quiet (fail)
  rw [HBM.out]
  go_wp2_with fail
  clear c0 c1 c2 c3 c4 c5
  go_loopw [3, 4] (fun o' i' wr => ∃ (i f : Nat) (acc : List UInt8), p + 1 ≤ i ∧ i ≤ s.size ∧ s.size < i + f ∧ acc.length ≤ i ∧ o' = .string ⟨acc.toArray⟩ ∧ i' = .int .i64 i ∧ RIn w0 wr g s p v out to 0 0 ∧ Hid (Tk.qquoted s.data.toList p = Tk.qq s.data.toList p 34 f i acc)) (fun _ i' _ => s.size - (intOf i').toNat)
  case atStart => exact ⟨p + 1, s.size + 1, [], Nat.le_refl _, hp, by omega, by simp, rfl, by go_num, hS.drewN _, HST⟩
  case round =>
    obtain ⟨i, f, acc, hpi, his, hf, hacc, rfl, rfl, hR, hr⟩ := hrel
    obtain ⟨f', rfl⟩ : ∃ f', f = f' + 1 := ⟨f - 1, by omega⟩
    obtain ⟨c0, c1, c2, c3, c4, c5⟩ := hR.cells
    have f1 := hR.frozen 1
    have hgr := hR.lt
    have hal : acc.length ≤ 65536 := by omega
    by_cases hlt : i < s.size
    · have hb := Tk.bt_of s i hlt
      have hi1 : (i : Int) < (s.size : Int) := by omega
      have hq : Tk.qquoted s.data.toList p = Tk.qq s.data.toList p 34 (f' + 1) i acc := hr.out
      rw [Tk.qq, if_pos (show i < s.data.toList.length by rw [HZ.out]; exact hlt)] at hq
      by_cases hcm : Tk.bt s.data.toList i = 34
      · have ecm : (((s[i]'hlt).toNat : Int) == 34) = true := by rw [hb, hcm]; rfl
        rw [if_pos hcm] at hq
        have HQ := Lib.hid hq; clear hq hcm hb
        have hq : Tk.qquoted s.data.toList p = Tk.qadd 5 acc (i + 1) p := by rw [HQ.out, Tk.qclose, if_neg (by decide)]
        have HQ2 := Lib.hid hq; clear hq HQ
        go_wp2_with fail
        refine (radd_any g s p v out to 5 acc (i + 1) w0 _ hout (by omega) (small_list hacc (by omega)) hR).mono ?_
        intro e w5 hP
        obtain ⟨r, rfl⟩ := hP.ret
        go_wp2_with fail
        rw [HQ2.out]
        exact bodyPost_ret (v := .tuple #[]) (by simp [results, Tryz.results68, go_sem]) rfl (hP.again _)
      · have ecm : (((s[i]'hlt).toNat : Int) == 34) = false := by rw [hb, beq_eq_false_iff_ne]; exact hcm
        rw [if_neg hcm] at hq
        clear hcm
        cases hin : Tk.inText (Tk.bt s.data.toList i)
        · rw [hin, if_neg (by decide)] at hq
          have HQ := Lib.hid hq; clear hq
          rw [← hb] at hin
          have HIN := Lib.hid hin; clear hin hb
          go_wp2_with fail
          refine (rByte_any _ _).mono ?_; rintro e w' ⟨rfl, rfl⟩
          rw [HIN.out]
          go_wp2_with fail
          refine (rfail_any g s p v out to 0 2 i w0 _ hR).mono ?_
          rintro e w2 ⟨⟨r, rfl⟩, hR2, hGr⟩
          go_wp2_with fail
          rw [HQ.out]
          exact bodyPost_ret (v := .tuple #[]) (by simp [results, Tryz.results68, go_sem]) rfl ⟨_, _, _, ⟨_, rfl⟩, _, hR2⟩
        · rw [hin, if_pos (by rfl)] at hq
          have hin2 := hin
          rw [← hb] at hin2
          have HIN := Lib.hid hin2; clear hin2
          cases hsh : Tk.shown (Tk.bt s.data.toList i)
          · have h910 := not_shown hin hsh
            rw [hsh, if_neg (by decide)] at hq
            have HQ := Lib.hid hq; clear hq hin hsh
            cases h9 : (((s[i]'hlt).toNat : Int) == 9)
            · have h10 : (((s[i]'hlt).toNat : Int) == 10) = true := by
                rw [hb] at h9 ⊢
                rw [beq_eq_false_iff_ne] at h9
                rw [beq_iff_eq]
                rcases h910 with h | h
                · exact absurd h h9
                · exact h
              clear h910 hb
              go_wp2_with fail
              refine (rByte_any _ _).mono ?_; rintro e w' ⟨rfl, rfl⟩
              rw [HIN.out]
              go_wp2_with fail
              refine (rfail_any g s p v out to 0 11 i w0 _ hR).mono ?_
              rintro e w2 ⟨⟨r, rfl⟩, hR2, hGr⟩
              go_wp2_with fail
              rw [HQ.out]
              exact bodyPost_ret (v := .tuple #[]) (by simp [results, Tryz.results68, go_sem]) rfl ⟨_, _, _, ⟨_, rfl⟩, _, hR2⟩
            · clear h910 hb
              go_wp2_with fail
              refine (rByte_any _ _).mono ?_; rintro e w' ⟨rfl, rfl⟩
              rw [HIN.out]
              go_wp2_with fail
              refine (rfail_any g s p v out to 0 11 i w0 _ hR).mono ?_
              rintro e w2 ⟨⟨r, rfl⟩, hR2, hGr⟩
              go_wp2_with fail
              rw [HQ.out]
              exact bodyPost_ret (v := .tuple #[]) (by simp [results, Tryz.results68, go_sem]) rfl ⟨_, _, _, ⟨_, rfl⟩, _, hR2⟩
          · obtain ⟨n9, n10⟩ := shown_not hsh
            rw [← hb] at n9 n10
            rw [hsh, if_pos (by rfl)] at hq
            clear hin hsh
            by_cases h92 : Tk.bt s.data.toList i = 92
            · have e92 : (((s[i]'hlt).toNat : Int) == 92) = true := by rw [hb, h92]; rfl
              rw [if_pos h92] at hq
              have H92 := Lib.hid (show ((s[i]'hlt).toNat : Int) = 92 by rw [hb]; exact h92)
              clear h92 hb
              by_cases hn : i + 1 < s.size
              · have hn1 : (i : Int) + 1 < (s.size : Int) := by omega
                rw [if_pos (show i + 1 < s.data.toList.length by rw [HZ.out]; exact hn)] at hq
                have hb1 := Tk.bt_of s (i + 1) hn
                cases hin1 : Tk.inText (Tk.bt s.data.toList (i + 1))
                · rw [hin1, if_neg (by decide)] at hq
                  have HQ := Lib.hid hq; clear hq
                  rw [← hb1] at hin1
                  have HIN1 := Lib.hid hin1; clear hin1 hb1
                  go_wp2_with fail
                  refine (rByte_any _ _).mono ?_; rintro e w' ⟨rfl, rfl⟩
                  rw [HIN.out]
                  go_wp2_with fail
                  refine (rByte_any _ _).mono ?_; rintro e w' ⟨rfl, rfl⟩
                  rw [HIN1.out]
                  go_wp2_with fail
                  refine (rfail_any g s p v out to 0 2 (i + 1) w0 _ hR).mono ?_
                  rintro e w2 ⟨⟨r, rfl⟩, hR2, hGr⟩
                  go_wp2_with fail
                  rw [HQ.out]
                  exact bodyPost_ret (v := .tuple #[]) (by simp [results, Tryz.results68, go_sem]) rfl ⟨_, _, _, ⟨_, rfl⟩, _, hR2⟩
                · rw [hin1, if_pos (by rfl)] at hq
                  rw [← hb1] at hin1
                  have HIN1 := Lib.hid hin1; clear hin1
                  have HB1 := Lib.hid hb1; clear hb1
                  by_cases hmn : Tk.meant (Tk.bt s.data.toList (i + 1)) 34 = 0
                  · rw [if_pos hmn] at hq
                    have HQ := Lib.hid hq; clear hq
                    have HMN := Lib.hid hmn; clear hmn
                    go_wp2_with fail
                    refine (rByte_any _ _).mono ?_; rintro e w' ⟨rfl, rfl⟩
                    rw [HIN.out]
                    go_wp2_with fail
                    refine (rByte_any _ _).mono ?_; rintro e w' ⟨rfl, rfl⟩
                    rw [HIN1.out]
                    go_wp2_with fail
                    refine (rescaped_any _ _ _).mono ?_; rintro e w' ⟨rfl, rfl⟩
                    rw [HB1.out, HMN.out]
                    go_wp2_with fail
                    refine (rfail_any g s p v out to 0 11 i w0 _ hR).mono ?_
                    rintro e w2 ⟨⟨r, rfl⟩, hR2, hGr⟩
                    go_wp2_with fail
                    rw [HQ.out]
                    exact bodyPost_ret (v := .tuple #[]) (by simp [results, Tryz.results68, go_sem]) rfl ⟨_, _, _, ⟨_, rfl⟩, _, hR2⟩
                  · rw [if_neg hmn] at hq
                    have HQ := Lib.hid hq; clear hq
                    obtain ⟨mc, hmc⟩ : ∃ mc, Tk.meant (Tk.bt s.data.toList (i + 1)) 34 = mc := ⟨_, rfl⟩
                    rw [hmc] at hmn HQ
                    have HMC := Lib.hid hmc; clear hmc
                    have e0 : (mc == 0) = false := by rw [beq_eq_false_iff_ne]; exact hmn
                    clear hmn
                    go_wp2_with fail
                    refine (rByte_any _ _).mono ?_; rintro e w' ⟨rfl, rfl⟩
                    rw [HIN.out]
                    go_wp2_with fail
                    refine (rByte_any _ _).mono ?_; rintro e w' ⟨rfl, rfl⟩
                    rw [HIN1.out]
                    go_wp2_with fail
                    refine (rescaped_any _ _ _).mono ?_; rintro e w' ⟨rfl, rfl⟩
                    rw [HB1.out, HMC.out]
                    go_wp2_with fail
                    rw [conv_one _ wr.heap.size mc (by simp [go_sem])]
                    go_wp2_with fail
                    go_roundw
                    case rel => exact ⟨i + 2, f', acc ++ [UInt8.ofNat mc.toNat], by omega, by omega, by omega, by simp; omega, by rw [bytes_snoc], by go_num, hR.alloc _, HQ⟩
                    case measure => simp [intOf]; omega
              · have hn1 : decide ((i : Int) + 1 < (s.size : Int)) = false := by simp; omega
                rw [if_neg (show ¬ i + 1 < s.data.toList.length by rw [HZ.out]; exact hn)] at hq
                have HQ := Lib.hid hq; clear hq
                go_wp2_with fail
                refine (rByte_any _ _).mono ?_; rintro e w' ⟨rfl, rfl⟩
                rw [HIN.out]
                go_wp2_with fail
                rw [conv_one _ wr.heap.size 92 (by simp [go_sem, H92.out])]
                go_wp2_with fail
                go_roundw
                case rel => exact ⟨i + 1, f', acc ++ [92], by omega, by omega, by omega, by simp; omega, by rw [bytes_snoc], by go_num, hR.alloc _, HQ⟩
                case measure => simp [intOf]; omega
            · have e92 : (((s[i]'hlt).toNat : Int) == 92) = false := by rw [hb, beq_eq_false_iff_ne]; exact h92
              rw [if_neg h92] at hq
              have HQ := Lib.hid hq; clear hq h92
              have HB := Lib.hid hb; clear hb
              go_wp2_with fail
              refine (rByte_any _ _).mono ?_; rintro e w' ⟨rfl, rfl⟩
              rw [HIN.out]
              go_wp2_with fail
              rw [conv_one _ wr.heap.size ((s[i]'hlt).toNat : Int) (by simp [go_sem])]
              go_wp2_with fail
              go_roundw
              case rel => exact ⟨i + 1, f', acc ++ [UInt8.ofNat (Tk.bt s.data.toList i).toNat], by omega, by omega, by omega, by simp; omega, by rw [bytes_snoc, ← HB.out]; simp, by go_num, hR.alloc _, HQ⟩
              case measure => simp [intOf]; omega
    · have e0 : decide ((i : Int) < (s.size : Int)) = false := by simp; omega
      have hq : Tk.qquoted s.data.toList p = .bad p 12 := by rw [hr.out, Tk.qq, if_neg (by rw [HZ.out]; exact hlt)]
      have HQ := Lib.hid hq; clear hq
      go_wp2_with fail
      refine (rfail_any g s p v out to 0 12 p w0 _ hR).mono ?_
      rintro e w2 ⟨⟨r, rfl⟩, hR2, hGr⟩
      go_wp2_with fail
      rw [HQ.out]
      exact bodyPost_end (v := .tuple #[]) (by simp [results, Tryz.results68, go_sem]) rfl ⟨_, _, _, ⟨_, rfl⟩, _, hR2⟩
end Go.Proofs.YtnkmefnbhfghgaaGreatDoor
