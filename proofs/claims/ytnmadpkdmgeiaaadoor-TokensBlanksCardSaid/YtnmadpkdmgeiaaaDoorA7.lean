import Derived.Test.YtnmadpkdmgeiaaaDoorA6
import Derived.Lib.SmallJoins
namespace Go.Proofs.YtnmadpkdmgeiaaaDoor
open Go.RowKit

/-- The library's variable for 'out of range' is laid. -/
def Glob (w : World) : Prop := ∃ ev, w.cell? { block := 2, off := 0 } = some ev ∧ (ev = .nilIface ∨ ∃ te pe, ev = .iface te pe)
theorem cell_lt {w : World} {a : Addr} {v : Value} (h : w.cell? a = some v) : a.block < w.heap.size := by
  rcases Nat.lt_or_ge a.block w.heap.size with hlt | hge
  · exact hlt
  · unfold World.cell? at h; rw [Array.getElem?_eq_none hge] at h; cases h
theorem Glob.lt {w : World} (h : Glob w) : 2 < w.heap.size := by
  obtain ⟨ev, h1, _⟩ := h
  exact cell_lt h1
theorem Glob.below {B : Nat} {w w' : World} (h : Glob w) (hb : Below B w w') (hB : 2 < B) : Glob w' := by
  obtain ⟨ev, h1, h2⟩ := h
  exact ⟨ev, (hb.cell (p := { block := 2, off := 0 }) hB).trans h1, h2⟩
theorem Glob.grown {row : Option Nat} {w w' : World} (h : Glob w) (hg : w.grownBy w' row) (hr : some 2 ≠ row) : Glob w' := by
  obtain ⟨ev, h1, h2⟩ := h
  exact ⟨ev, hg.cell h1 hr, h2⟩

def Tk.digits (l : List UInt8) : Int :=
  match Lib.parseUintB 64 l with
  | .ok u => if 4611686018427387903 < u then 5 else 0
  | _ => 5
theorem digits_end {M : Nat} : ∀ {l : List UInt8} {acc : Nat}, (∀ c ∈ l, Tk.digit (c.toNat : Int) = true) → (∃ u, Lib.parseUintM M acc l = .ok u) ∨ Lib.parseUintM M acc l = .range
  | [], acc, _ => .inl ⟨acc, by simp [Lib.parseUintM]⟩
  | c :: r, acc, h => by
    have hc := h c (by simp)
    simp only [Tk.digit, Bool.and_eq_true, decide_eq_true_eq] at hc
    rw [Lib.parseUintM, if_pos (by omega)]
    split
    · exact .inr rfl
    · split
      · exact .inr rfl
      · exact digits_end (fun c' h' => h c' (by simp [h']))
theorem takeWhile_all {α : Type} {p : α → Bool} : ∀ {l : List α}, (l.takeWhile p).length = l.length → ∀ c ∈ l, p c = true
  | [], _ => by simp
  | a :: t, h => by
    rw [List.takeWhile_cons] at h
    split at h
    · rename_i ha
      intro c hc
      rcases List.mem_cons.1 hc with rfl | hc
      · exact ha
      · exact takeWhile_all (by simpa using h) c hc
    · simp at h
theorem every_all {p : Int → Bool} {l : List UInt8} (h : Tk.every p l = true) : ∀ c ∈ l, p (c.toNat : Int) = true := by
  simp only [Tk.every, Bool.and_eq_true, Tk.run, beq_iff_eq, Nat.zero_add, List.drop_zero] at h
  exact takeWhile_all (p := fun c : UInt8 => p (c.toNat : Int)) h.2

set_option maxRecDepth 100000 in
set_option maxHeartbeats 400000 in
theorem checkDigits_any (s : ByteArray) (w : World) (hs : s.size ≤ 65536) (hd : Tk.every Tk.digit s.data.toList = true) (hG : Glob w) :
    Calls Tryd.prog 35 #[.string s] w fun e w' => e = .returned (.int .i64 (Tk.digits s.data.toList)) ∧ Below w.heap.size w w' := by
  have hns : (∃ u, Lib.parseUintB 64 s.data.toList = .ok u) ∨ Lib.parseUintB 64 s.data.toList = .range := by
    unfold Lib.parseUintB
    rw [if_neg (by intro h; rw [h] at hd; simp [Tk.every] at hd)]
    exact digits_end (every_all hd)
  obtain ⟨ev, hev, hk⟩ := hG
  have HEV := Lib.hid hev; clear hev
  have HS := Lib.hid hs; clear hs
  clear hd
  rcases hns with ⟨u, hp⟩ | hp
  · have HP := Lib.hid hp; clear hp
    by_cases hu : 4611686018427387903 < u
    all_goals
      go_enter Tryd.func35, Tryd.ntmps35
      go_wp2_with (go_at_call 58; refine (Tryd.strconv_ParseUint_10_at64_ok s (by have := HS.out; omega) u HP.out w).mono ?_; rintro e w' ⟨rfl, rfl | rfl⟩)
      all_goals
        go_ret
        first
        | exact ⟨ret_int (by simp [Tk.digits, HP.out, hu]), Below.refl _ _⟩
        | exact ⟨ret_int (by simp [Tk.digits, HP.out, hu]), Joins.below_bytesWorld _ _ _ _ (Nat.le_refl _)⟩
  · have HP := Lib.hid hp; clear hp
    go_enter Tryd.func35, Tryd.ntmps35
    go_wp2_with (go_at_call 58; refine (Tryd.strconv_ParseUint_10_at64_range s (by have := HS.out; omega) HP.out ev w HEV.out hk).mono ?_; rintro e w' ⟨N, rfl, hN, hN2, hB⟩)
    go_ret
    exact ⟨ret_int (by simp [Tk.digits, HP.out]), hB⟩
end Go.Proofs.YtnmadpkdmgeiaaaDoor
