import Derived.Test.YtaefonagbcnmdaaGreatDoorA18
import Derived.RangeFuncNested
import Derived.RangeFuncBound
import Derived.RangeFuncCalls
import Derived.RangeFuncLeaves
import Derived.Shelf.Abstract
import Derived.Shelf.RegionOpen
import Derived.WalkKit
import Derived.OwnWalkIn
import Derived.TacticsInMore
import Derived.LoopNIn
import Derived.LoopIn
set_option linter.unusedSimpArgs false
set_option linter.unusedVariables false
namespace Go.Proofs.YtaefonagbcnmdaaGreatDoor
open Go.RowKit Go.Shelf
attribute [local go_sem] Oper.semAt_some

def strOf : Value → ByteArray | .string s => s | _ => ⟨#[]⟩
/-- Whether one of the parts between points has more than 40 bytes. -/
def Tk.longPart : Nat → List UInt8 → Bool
  | 0, _ => false
  | f + 1, l =>
    if Lib.indexByte l 46 < 0 then decide (40 < l.length)
    else if 40 < (l.take (Lib.indexByte l 46).toNat).length then true
    else Tk.longPart f (l.drop ((Lib.indexByte l 46).toNat + 1))

set_option maxRecDepth 100000 in
set_option maxHeartbeats 2000000 in
theorem split_in (n l sb pb vb : Nat) (hn : 1 ≤ n) (K : ByteArray → World → Prop) (Kx : World → Prop)
    (hK : ∀ r W, K r W → W.cell? ⟨sb, 0, none⟩ = some (.string r) ∧ W.frozen? ⟨sb, 0, none⟩ = false ∧ W.cell? ⟨pb, 0, none⟩ = some (.string ⟨#[46]⟩) ∧ W.cell? ⟨vb, 0, none⟩ = some (.int .i64 0))
    (hset : ∀ r r' W, K r W → K r' (W.setCell ⟨sb, 0, none⟩ (.string r')))
    (hyes : ∀ r W (x : ByteArray), K r W → x.size ≤ 40 → YieldAt Fence.wide (n - 1) Tryz.prog l #[.string x] W fun e W' => e = .returned (.bool true) ∧ K r W')
    (hno : ∀ r W (x : ByteArray), K r W → 40 < x.size → x.size ≤ 65536 → YieldAt Fence.wide (n - 1) Tryz.prog l #[.string x] W fun e W' => e = .returned (.bool false) ∧ Kx W')
    (s : ByteArray) (hs : s.size ≤ 65536) (W : World) (h0 : K s W) :
    CallsIn Fence.wide n Tryz.prog 187 #[.func (.yield l) #[] #[], .pointer (some ⟨pb, 0, none⟩), .pointer (some ⟨sb, 0, none⟩), .pointer (some ⟨vb, 0, none⟩)] W fun e W' =>
      (∃ v, e = .returned v) ∧ ((Tk.longPart (s.size + 1) s.data.toList = true ∧ Kx W') ∨ (Tk.longPart (s.size + 1) s.data.toList = false ∧ ∃ r, K r W')) := by
  obtain ⟨hc0, hf0, hp0, hv0⟩ := hK _ _ h0
  refine callsIn_of_wp Tryz.func187 rfl trivial ?_ rfl
  simp only [Tryz.ntmps187, List.size_toArray, List.length_cons, List.length_nil, Nat.reduceAdd, Nat.reduceSub, Array.replicate_succ, Array.replicate_zero, List.push_toArray, List.append_toArray, List.nil_append, List.cons_append]
  gi_wp2
  gi_loopw [] (fun wr => ∃ (r : ByteArray) (f : Nat), K r wr ∧ r.size ≤ s.size ∧ r.size < f ∧ Hid (Tk.longPart (s.size + 1) s.data.toList = Tk.longPart f r.data.toList)) (fun wr => (strOf ((wr.cell? ⟨sb, 0, none⟩).getD undef)).size)
  case atStart => exact ⟨s, s.size + 1, h0, Nat.le_refl _, by omega, Lib.hid rfl⟩
  case round =>
    obtain ⟨r, f, hKr, hrs, hrf, hH⟩ := hrel
    obtain ⟨hc, hf, hp, hv⟩ := hK _ _ hKr
    clear hc0 hf0 hp0 hv0 h0
    obtain ⟨f', rfl⟩ : ∃ f', f = f' + 1 := ⟨f - 1, by omega⟩
    by_cases hneg : Lib.indexByte r.data.toList 46 < 0
    · have hlp : Tk.longPart (f' + 1) r.data.toList = decide (40 < r.size) := by rw [Tk.longPart, if_pos hneg, size_data]
      have HLP := Lib.hid hlp; clear hlp
      obtain ⟨ii, hii⟩ : ∃ ii, Lib.indexByte r.data.toList 46 = ii := ⟨_, rfl⟩
      have HII := Lib.hid hii
      rw [hii] at hneg
      clear hii
      by_cases h40 : 40 < r.size
      · obtain ⟨fn, tmps, assign, body, hy, hR⟩ := hno r wr r hKr h40 (by omega)
        gi_wp2_with (refine ⟨trivial, ?_⟩; gi_at_call 175; refine (callsIn_wide.2 (Tryz.strings_Index_one _ 46 _)).mono ?_; rintro e w' ⟨rfl, rfl⟩; rw [HII.out])
        refine hR.mono ?_
        rintro e W' ⟨rfl, hk⟩
        gi_wp2
        go_end0
        exact ⟨⟨_, rfl⟩, .inl ⟨by rw [hH.out, HLP.out]; simpa using h40, hk⟩⟩
      · obtain ⟨fn, tmps, assign, body, hy, hR⟩ := hyes r wr r hKr (by omega)
        gi_wp2_with (refine ⟨trivial, ?_⟩; gi_at_call 175; refine (callsIn_wide.2 (Tryz.strings_Index_one _ 46 _)).mono ?_; rintro e w' ⟨rfl, rfl⟩; rw [HII.out])
        refine hR.mono ?_
        rintro e W' ⟨rfl, hk⟩
        gi_wp2
        go_end0
        exact ⟨⟨_, rfl⟩, .inr ⟨by rw [hH.out, HLP.out]; simpa using h40, r, hk⟩⟩
    · obtain ⟨io, hio⟩ : ∃ io : Nat, Lib.indexByte r.data.toList 46 = io := ⟨(Lib.indexByte r.data.toList 46).toNat, by omega⟩
      have hlt : io < r.size := by
        have := (Lib.indexByte_some hio).1
        rw [← size_data]
        exact (List.getElem?_eq_some_iff.1 this).1
      have hsz : (r.extract 0 io).size = io := by simp; omega
      have hlp : Tk.longPart (f' + 1) r.data.toList = if 40 < io then true else Tk.longPart f' (r.data.toList.drop (io + 1)) := by
        rw [Tk.longPart, if_neg hneg, hio, Int.toNat_natCast, List.length_take, size_data, Nat.min_eq_left (by omega)]
      have HLP := Lib.hid hlp; clear hlp
      have HIO := Lib.hid hio
      have HSZ := Lib.hid hsz
      clear hneg hio hsz
      by_cases h40 : 40 < io
      · obtain ⟨fn, tmps, assign, body, hy, hR⟩ := hno r wr (r.extract 0 io) hKr (by rw [HSZ.out]; exact h40) (by rw [HSZ.out]; omega)
        gi_wp2_with (refine ⟨trivial, ?_⟩; gi_at_call 175; refine (callsIn_wide.2 (Tryz.strings_Index_one _ 46 _)).mono ?_; rintro e w' ⟨rfl, rfl⟩; rw [HIO.out])
        refine hR.mono ?_
        rintro e W' ⟨rfl, hk⟩
        gi_wp2
        refine bodyPost_ret (results_none rfl _ _ _) rfl ?_
        exact ⟨⟨_, rfl⟩, .inl ⟨by rw [hH.out, HLP.out, if_pos h40], hk⟩⟩
      · obtain ⟨fn, tmps, assign, body, hy, hR⟩ := hyes r wr (r.extract 0 io) hKr (by rw [HSZ.out]; omega)
        gi_wp2_with (refine ⟨trivial, ?_⟩; gi_at_call 175; refine (callsIn_wide.2 (Tryz.strings_Index_one _ 46 _)).mono ?_; rintro e w' ⟨rfl, rfl⟩; rw [HIO.out])
        refine hR.mono ?_
        rintro e W' ⟨rfl, hk⟩
        obtain ⟨kc, kf, kp, kv⟩ := hK _ _ hk
        gi_wp2
        go_roundw
        case rel => exact ⟨r.extract (io + 1) r.size, f', hset _ _ _ hk, by simp; omega, by simp; omega, Lib.hid (by rw [hH.out, HLP.out, if_neg h40, cut_end])⟩
        case measure =>
          have e1 := (hK _ _ (hset _ (r.extract (io + 1) r.size) _ hk)).1
          rw [e1, hc]
          simp [strOf]
          omega
end Go.Proofs.YtaefonagbcnmdaaGreatDoor
