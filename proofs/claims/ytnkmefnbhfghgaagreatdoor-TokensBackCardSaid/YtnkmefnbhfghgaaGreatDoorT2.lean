import Derived.Test.YtnkmefnbhfghgaaGreatDoorT1
set_option linter.unusedSimpArgs false
set_option linter.unusedVariables false
namespace Go.Proofs.YtnkmefnbhfghgaaGreatDoor
open Go.RowKit

theorem below_drewN {B : Nat} {a w : World} (h : Below B a w) (n : Nat) : Below B a (w.drewN n) := ⟨h.os, h.tape, h.output, h.size, h.block⟩
def Tk.strip (t : Tk.T) : Int × List UInt8 := (t.1, t.2.1)
theorem strip_at {ts us : List Tk.T} (h : ts.map Tk.strip = us.map Tk.strip) {k : Nat} (hk : k < ts.length) : (Tk.at_ us k).1 = (Tk.at_ ts k).1 ∧ (Tk.at_ us k).2.1 = (Tk.at_ ts k).2.1 := by
  have hl : us.length = ts.length := by have := congrArg List.length h; simpa using this.symm
  have h1 : (ts.map Tk.strip)[k]? = (us.map Tk.strip)[k]? := by rw [h]
  rw [List.getElem?_map, List.getElem?_map, List.getElem?_eq_getElem hk, List.getElem?_eq_getElem (by omega)] at h1
  simp only [Option.map_some, Option.some.injEq, Tk.strip, Prod.mk.injEq] at h1
  rw [Tk.at_eq hk, Tk.at_eq (by omega)]
  exact ⟨h1.1.symm, h1.2.symm⟩
set_option maxRecDepth 100000 in
set_option maxHeartbeats 2000000 in
/-- Two lists with the same kinds and texts. -/
theorem same_yes (v u : Value) (ts us : List Tk.T) {pl pm : Nat → Int} (w : World) (hn : ts.length ≤ 1000000) (hT : TR w w.heap.size v ts pl) (hU : TR w w.heap.size u us pm) (hs : ts.map Tk.strip = us.map Tk.strip) :
    Calls Tryz.prog 9 #[v, u, .bool false] w fun e w' => e = .returned (.bool true) ∧ Below w.heap.size w w' := by
  have hl : us.length = ts.length := by have := congrArg List.length hs; simpa using this.symm
  have HT := Lib.hid hT
  have HU := Lib.hid hU
  have HS := Lib.hid hs; clear hs
  obtain ⟨A, cap, rfl, hcap, hi⟩ := hT
  obtain ⟨A2, cap2, rfl, hcap2, hi2⟩ := hU
  rw [hl] at hcap2 ⊢
  have HI := Lib.hid hi; clear hi
  have HI2 := Lib.hid hi2; clear hi2
  have HL := Lib.hid hl; clear hl
  go_enter Tryz.func9, Tryz.ntmps9
  go_wp2_with fail
  go_loopw [7] (fun i' wr => ∃ k : Nat, k ≤ ts.length ∧ i' = .int .i64 k ∧ Below w.heap.size w wr) (fun i' _ => ts.length - (intOf i').toNat)
  case atStart => exact ⟨0, by omega, by go_num, Below.refl _ _⟩
  case round =>
    obtain ⟨k, hk, rfl, hB⟩ := hrel
    by_cases hlt : k < ts.length
    · obtain ⟨g, o, cap', hv', _, hg, c0, c1, c2⟩ := (HT.out.below hB).readp hlt
      obtain ⟨rfl, _, rfl⟩ := slice_inj hv'
      obtain ⟨g2, o2, cap2', hv2', _, hg2, d0, d1, d2⟩ := (HU.out.below hB).readp (show k < us.length by rw [HL.out]; exact hlt)
      obtain ⟨rfl, _, rfl⟩ := slice_inj hv2'
      clear hv' hv2'
      obtain ⟨e0, e1⟩ := strip_at HS.out hlt
      rw [e0] at d0
      rw [e1] at d1
      clear e0 e1
      go_wp2_with fail
      go_quiet (fail)
      go_wp2_with fail
      go_roundw
      case rel => exact ⟨k + 1, by omega, by go_num, below_drewN hB _⟩
      case measure => simp [intOf]; omega
    · go_wp2_with fail
      go_ret
      exact ⟨rfl, hB⟩
end Go.Proofs.YtnkmefnbhfghgaaGreatDoor
