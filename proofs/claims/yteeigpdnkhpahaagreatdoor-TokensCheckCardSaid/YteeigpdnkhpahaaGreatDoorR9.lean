import Derived.Test.YteeigpdnkhpahaaGreatDoorR8
namespace Go.Proofs.YteeigpdnkhpahaaGreatDoor
open Go.RowKit

def Tk.rnameOk (l : List UInt8) : Bool := !(l == []) && Tk.rall false l && (Tk.rplain l || l == [33, 46] || !(Tk.hasB l 46))
def Tk.rname (l : List UInt8) : Int := if Tk.rnameOk l then (if Tk.rlong l then 6 else 0) else 2

set_option maxRecDepth 100000 in
set_option maxHeartbeats 1000000 in
theorem rcheck_name (s : ByteArray) (a : Int) (w : World) (hs : s.size ≤ 4611686018427387904) :
    Calls Tryz.prog 18 #[.agg #[.int .i64 1, .string s, .int .i64 a]] w fun e w' => e = .returned (.int .i64 (Tk.rname s.data.toList)) ∧ Below w.heap.size w w' := by
  have HZ := Lib.hid (size_data s)
  have HM : Hid (s.size ≤ maxLen) := by unfold Hid maxLen; omega
  have HL := Lib.hid (Go.ByteArray.toList_eq s)
  have HT := Lib.hid (Blk.new w 32 #[.int .i64 1, .string s, .int .i64 a])
  have HTL := HT.out.lt
  have HTH := Lib.hid HTL; clear HTL
  have HBW := Lib.hid (Below.alloc (Below.refl w.heap.size w) (Nat.le_refl _) (.cells #[.int .i64 1, .string s, .int .i64 a] 32))
  cases h0 : (s.toList == [])
  · have H0 : Hid ((s.data.toList == []) = false) := by unfold Hid; rw [← HL.out]; exact h0
    cases h1 : Tk.rall false s.data.toList
    · have H1 := Lib.hid h1
      go_enter Tryz.func18, Tryz.ntmps18
      go_wp2_with (go_at_call 46; refine (rall_any s false _ hs).mono ?_; rintro e w' ⟨rfl, rfl⟩; rw [H1.out])
      go_ret
      exact ⟨ret_int (by simp [Tk.rname, Tk.rnameOk, H1.out]), HBW.out⟩
    · have H1 := Lib.hid h1
      cases h2 : Tk.rplain s.data.toList
      · have H2 := Lib.hid h2
        cases h3 : (s.toList == [33, 46])
        · have H3 : Hid ((s.data.toList == [33, 46]) = false) := by unfold Hid; rw [← HL.out]; exact h3
          cases h4 : Tk.hasB s.data.toList 46
          · have H4 := Lib.hid h4
            have hv : Tk.rname s.data.toList = if Tk.rlong s.data.toList then 6 else 0 := by simp [Tk.rname, Tk.rnameOk, H0.out, H1.out, H2.out, H3.out, H4.out]
            have HV := Lib.hid hv; clear hv
            cases h5 : Tk.rlong s.data.toList
            all_goals
              have H5 := Lib.hid h5
              go_enter Tryz.func18, Tryz.ntmps18
              go_wp2_with (go_at_call 46; refine (rall_any s false _ hs).mono ?_; rintro e w' ⟨rfl, rfl⟩; rw [H1.out])
              refine (rplain_any s _ hs).mono ?_
              rintro e w1 ⟨rfl, hB⟩
              rw [H2.out]
              have hT1 := Blk.below HT.out hB HTH.out
              have d0 : w1.cell? ⟨w.heap.size, 0, none⟩ = some (.int .i64 1) := by simpa using hT1.cell 0
              have hB1 := HBW.out.trans (hB.mono HBW.out.size)
              have HT1 := Lib.hid hT1; clear hT1
              go_wp2_with (first | (go_at_call 48; refine (rhas_any s 46 _ HM.out).mono ?_; rintro e w' ⟨rfl, rfl⟩; rw [H4.out]) | (go_at_call 52; refine (rlong_any s _ hs).mono ?_; rintro e w2 ⟨rfl, hB2⟩; rw [H5.out]; have d2 : w2.cell? ⟨w.heap.size, 0, none⟩ = some (.int .i64 1) := (hB2.cell HT1.out.lt).trans d0))
              go_ret
              exact ⟨ret_int (by rw [HV.out, H5.out]; rfl), hB1.trans (hB2.mono hB1.size)⟩
          · have H4 := Lib.hid h4
            go_enter Tryz.func18, Tryz.ntmps18
            go_wp2_with (go_at_call 46; refine (rall_any s false _ hs).mono ?_; rintro e w' ⟨rfl, rfl⟩; rw [H1.out])
            refine (rplain_any s _ hs).mono ?_
            rintro e w1 ⟨rfl, hB⟩
            rw [H2.out]
            have hT1 := Blk.below HT.out hB HTH.out
            have d0 : w1.cell? ⟨w.heap.size, 0, none⟩ = some (.int .i64 1) := by simpa using hT1.cell 0
            have hB1 := HBW.out.trans (hB.mono HBW.out.size)
            have HT1 := Lib.hid hT1; clear hT1
            go_wp2_with (first | (go_at_call 48; refine (rhas_any s 46 _ HM.out).mono ?_; rintro e w' ⟨rfl, rfl⟩; rw [H4.out]))
            go_ret
            exact ⟨ret_int (by simp [Tk.rname, Tk.rnameOk, H0.out, H1.out, H2.out, H3.out, H4.out]), hB1⟩
        · have H3 : Hid ((s.data.toList == [33, 46]) = true) := by unfold Hid; rw [← HL.out]; exact h3
          have hv : Tk.rname s.data.toList = if Tk.rlong s.data.toList then 6 else 0 := by simp [Tk.rname, Tk.rnameOk, H0.out, H1.out, H2.out, H3.out]
          have HV := Lib.hid hv; clear hv
          cases h5 : Tk.rlong s.data.toList
          all_goals
            have H5 := Lib.hid h5
            go_enter Tryz.func18, Tryz.ntmps18
            go_wp2_with (go_at_call 46; refine (rall_any s false _ hs).mono ?_; rintro e w' ⟨rfl, rfl⟩; rw [H1.out])
            refine (rplain_any s _ hs).mono ?_
            rintro e w1 ⟨rfl, hB⟩
            rw [H2.out]
            have hT1 := Blk.below HT.out hB HTH.out
            have d0 : w1.cell? ⟨w.heap.size, 0, none⟩ = some (.int .i64 1) := by simpa using hT1.cell 0
            have hB1 := HBW.out.trans (hB.mono HBW.out.size)
            have HT1 := Lib.hid hT1; clear hT1
            go_wp2_with (first | (go_at_call 52; refine (rlong_any s _ hs).mono ?_; rintro e w2 ⟨rfl, hB2⟩; rw [H5.out]; have d2 : w2.cell? ⟨w.heap.size, 0, none⟩ = some (.int .i64 1) := (hB2.cell HT1.out.lt).trans d0))
            go_ret
            exact ⟨ret_int (by rw [HV.out, H5.out]; rfl), hB1.trans (hB2.mono hB1.size)⟩
      · have H2 := Lib.hid h2
        have hv : Tk.rname s.data.toList = if Tk.rlong s.data.toList then 6 else 0 := by simp [Tk.rname, Tk.rnameOk, H0.out, H1.out, H2.out]
        have HV := Lib.hid hv; clear hv
        cases h5 : Tk.rlong s.data.toList
        all_goals
          have H5 := Lib.hid h5
          go_enter Tryz.func18, Tryz.ntmps18
          go_wp2_with (go_at_call 46; refine (rall_any s false _ hs).mono ?_; rintro e w' ⟨rfl, rfl⟩; rw [H1.out])
          refine (rplain_any s _ hs).mono ?_
          rintro e w1 ⟨rfl, hB⟩
          rw [H2.out]
          have hT1 := Blk.below HT.out hB HTH.out
          have d0 : w1.cell? ⟨w.heap.size, 0, none⟩ = some (.int .i64 1) := by simpa using hT1.cell 0
          have hB1 := HBW.out.trans (hB.mono HBW.out.size)
          have HT1 := Lib.hid hT1; clear hT1
          go_wp2_with (first | (go_at_call 52; refine (rlong_any s _ hs).mono ?_; rintro e w2 ⟨rfl, hB2⟩; rw [H5.out]; have d2 : w2.cell? ⟨w.heap.size, 0, none⟩ = some (.int .i64 1) := (hB2.cell HT1.out.lt).trans d0))
          go_ret
          exact ⟨ret_int (by rw [HV.out, H5.out]; rfl), hB1.trans (hB2.mono hB1.size)⟩
  · have H0 : Hid ((s.data.toList == []) = true) := by unfold Hid; rw [← HL.out]; exact h0
    go_enter Tryz.func18, Tryz.ntmps18
    go_wp2_with fail
    go_ret
    exact ⟨ret_int (by simp only [Tk.rname, Tk.rnameOk, H0.out]; rfl), HBW.out⟩
end Go.Proofs.YteeigpdnkhpahaaGreatDoor
