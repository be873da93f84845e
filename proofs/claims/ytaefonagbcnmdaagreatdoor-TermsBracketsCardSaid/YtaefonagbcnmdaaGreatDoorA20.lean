import Derived.Test.YtaefonagbcnmdaaGreatDoorA19
set_option linter.unusedSimpArgs false
set_option linter.unusedVariables false
namespace Go.Proofs.YtaefonagbcnmdaaGreatDoor
open Go.RowKit Go.Shelf
attribute [local go_sem] Oper.semAt_some

def Tk.nameCode (l : List UInt8) : Int := if Tk.dotted l then (if Tk.longPart (l.length + 1) l then 6 else 0) else Tk.part l

set_option maxRecDepth 100000 in
set_option maxHeartbeats 1000000 in
theorem checkName_plain (s : ByteArray) (w : World) (hs : s.size ≤ 65536) (hd : Tk.dotted s.data.toList = false) :
    Calls Tryz.prog 96 #[.string s] w fun e w' => e = .returned (.int .i64 (Tk.nameCode s.data.toList)) ∧ Below w.heap.size w w' := by
  have hn : Tk.nameCode s.data.toList = Tk.part s.data.toList := by rw [Tk.nameCode, hd]; rfl
  rw [hn]
  have HD := Lib.hid hd; clear hd hn
  go_enter Tryz.func96, Tryz.ntmps96
  go_wp2_with (first | (go_at_call 148; refine (isDotted_any s _ (by omega)).mono ?_; rintro e w' ⟨rfl, rfl⟩; rw [HD.out]) | (go_at_call 97; refine (checkPart_any s _ (by unfold maxLen; omega)).mono ?_; rintro e w' ⟨rfl, rfl⟩))
  exact bodyPost_ret (v := .int .i64 (Tk.part s.data.toList)) (by simp [results, Tryz.results96, go_sem]) rfl ⟨rfl, (Below.refl _ _).alloc (Nat.le_refl _) _⟩

theorem splitSeq_any (s p : ByteArray) (n : Int) (w : World) :
    Calls Tryz.prog 176 #[.string s, .string p, .int .i64 n] w fun e w' => e = .returned (.func (.func 187) #[] #[.pointer (some ⟨w.heap.size + 1, 0, none⟩), .pointer (some ⟨w.heap.size, 0, none⟩), .pointer (some ⟨w.heap.size + 2, 0, none⟩)]) ∧
      w' = ((w.alloc (.cells #[.string s] 9)).alloc (.cells #[.string p] 9)).alloc (.cells #[.int .i64 n] 3) := by
  go_enter Tryz.func176, Tryz.ntmps176
  go_wp2
  go_ret
  exact ⟨rfl, rfl⟩
theorem SplitSeq_any (s p : ByteArray) (w : World) :
    Calls Tryz.prog 149 #[.string s, .string p] w fun e w' => e = .returned (.func (.func 187) #[] #[.pointer (some ⟨w.heap.size + 1, 0, none⟩), .pointer (some ⟨w.heap.size, 0, none⟩), .pointer (some ⟨w.heap.size + 2, 0, none⟩)]) ∧
      w' = ((w.alloc (.cells #[.string s] 9)).alloc (.cells #[.string p] 9)).alloc (.cells #[.int .i64 0] 3) := by
  go_enter Tryz.func149, Tryz.ntmps149
  go_wp2_with (go_at_call 176; refine (splitSeq_any _ _ _ _).mono ?_; rintro e w' ⟨rfl, rfl⟩)
  go_ret
  exact ⟨rfl, rfl⟩

/-- Between two rounds: the result's variable (block N), the three captured ones, the loop's record (block L), its deferred calls (block D). -/
def KIn (w : World) (D : Nat) (o : Obj) (r : ByteArray) (W : World) : Prop :=
  Blk W w.heap.size 24 #[.int .i64 0] ∧ Blk W (w.heap.size + 1) 9 #[.string r] ∧ Blk W (w.heap.size + 1 + 1) 9 #[.string ⟨#[46]⟩] ∧ Blk W (w.heap.size + 1 + 2) 3 #[.int .i64 0] ∧
    W.heap[D + 1]? = some o ∧ W.heap[D]? = some (.deferred (some [])) ∧ Below w.heap.size w W
def KOut (w : World) (D : Nat) (o : Obj) (W : World) : Prop :=
  Blk W w.heap.size 24 #[.int .i64 6] ∧ W.heap[D + 1]? = some o ∧ W.heap[D]? = some (.deferred (some [])) ∧ Below w.heap.size w W
theorem Blk.putObj {w : World} {g l : Nat} {t : TypeId} {cs : Array Value} (h : Blk w g t cs) (o : Obj) (hl : g ≠ l) : Blk (w.putObj l o) g t cs := (World.putObj_heap_other hl).trans h
theorem below_putObj {B : Nat} {a w : World} (h : Below B a w) (l : Nat) (o : Obj) (hl : B ≤ l) : Below B a (w.putObj l o) :=
  h.trans ⟨rfl, rfl, rfl, by simp, fun k hk => World.putObj_heap_other (by omega)⟩
theorem KIn.turn {w W : World} {D : Nat} {o : Obj} {r : ByteArray} (h : KIn w D o r W) (o' : Obj) (hD : D = w.heap.size + 4) : KIn w D o' r (W.putObj (D + 1) o') := by
  obtain ⟨a0, a1, a2, a3, a4, a5, a6⟩ := h
  exact ⟨a0.putObj _ (by omega), a1.putObj _ (by omega), a2.putObj _ (by omega), a3.putObj _ (by omega), World.putObj_heap_same (Array.getElem?_eq_some_iff.1 a4).1, (World.putObj_heap_other (by omega)).trans a5, below_putObj a6 _ _ (by omega)⟩
theorem KIn.set_ {w W : World} {D : Nat} {o : Obj} {r : ByteArray} (h : KIn w D o r W) (r' : ByteArray) (hD : D = w.heap.size + 4) : KIn w D o r' (W.setCell ⟨w.heap.size + 1, 0, none⟩ (.string r')) := by
  obtain ⟨a0, a1, a2, a3, a4, a5, a6⟩ := h
  exact ⟨a0.far (by simp) _, a1.put 0 (.string r'), a2.far (by simp) _, a3.far (by simp) _, (Below.heap_setCell _ _ _ _ (by simp; omega)).trans a4, (Below.heap_setCell _ _ _ _ (by simp; omega)).trans a5, a6.setCell (by simp) _⟩
theorem KIn.leave {w W : World} {D : Nat} {o : Obj} {r : ByteArray} (h : KIn w D o r W) (o' : Obj) (hD : D = w.heap.size + 4) : KOut w D o' ((W.setCell ⟨w.heap.size, 0, none⟩ (.int .i64 6)).putObj (D + 1) o') := by
  obtain ⟨a0, a1, a2, a3, a4, a5, a6⟩ := h
  have hl := (Array.getElem?_eq_some_iff.1 a4).1
  exact ⟨(a0.put 0 (.int .i64 6)).putObj _ (by omega), World.putObj_heap_same (by rw [World.size_setCell]; exact hl), (World.putObj_heap_other (by omega)).trans ((Below.heap_setCell _ _ _ _ (by simp; omega)).trans a5), below_putObj (a6.setCell (Nat.le_refl _) _) _ _ (by omega)⟩

/-- The loop over the parts of a name, whatever code assigns the part and stands in the body: a part of at most 40 bytes leaves the world as it is, a longer one sets the result to 6 and returns. -/
theorem range_split {g : Operand} {ps : Array Tmp} {assign body : Code} {Q : Exit → Act → World → Prop} {a : Act} (s : ByteArray) (hs : s.size ≤ 65536) (w w3 : World)
    (hg : a.eval g = .func (.func 187) #[] #[.pointer (some ⟨w.heap.size + 1 + 1, 0, none⟩), .pointer (some ⟨w.heap.size + 1, 0, none⟩), .pointer (some ⟨w.heap.size + 1 + 2, 0, none⟩)])
    (k0 : Blk w3 w.heap.size 24 #[.int .i64 0]) (k1 : Blk w3 (w.heap.size + 1) 9 #[.string s]) (k2 : Blk w3 (w.heap.size + 1 + 1) 9 #[.string ⟨#[46]⟩]) (k3 : Blk w3 (w.heap.size + 1 + 2) 3 #[.int .i64 0])
    (kB : Below w.heap.size w w3) (kz : w3.heap.size = w.heap.size + 4) (hps : ps.size = 1) (a₁ : ByteArray → Act)
    (hassign : ∀ (l : Nat) (x : ByteArray) (W : World) (Kc : Act → World → Prop), Kc (a₁ x) W →
      assign.wpIn (Fence.wide.inRound l) 1 Tryz.prog (Exit.then Kc (fun _ _ _ => False)) { tmps := (ps.zip #[.string x]).foldl (fun t (p, v) => t.setIfInBounds p v) a.tmps, defers := [] } W)
    (hyes : ∀ (l : Nat) (x : ByteArray) (W : World), x.size ≤ 40 → body.wpIn (Fence.wide.inRound l) 1 Tryz.prog (fun e _ W' => match e with | .normal => W' = W | _ => False) (a₁ x) W)
    (hno : ∀ (l : Nat) (x : ByteArray) (W : World), 40 < x.size → x.size ≤ 65536 → Blk W w.heap.size 24 #[.int .i64 0] → body.wpIn (Fence.wide.inRound l) 1 Tryz.prog (fun e _ W' => match e with | .ret => W' = W.setCell ⟨w.heap.size, 0, none⟩ (.int .i64 6) | _ => False) (a₁ x) W)
    (hdone : ∀ (W : World), Tk.longPart (s.size + 1) s.data.toList = false → Blk W w.heap.size 24 #[.int .i64 0] → Below w.heap.size w W → W.heap[w.heap.size + 4]? = some (.deferred (some [])) →
      Q .normal { a with defers := { target := .collected (w.heap.size + 4), args := #[] } :: a.defers } W)
    (hstop : ∀ (W : World), Tk.longPart (s.size + 1) s.data.toList = true → Blk W w.heap.size 24 #[.int .i64 6] → Below w.heap.size w W → W.heap[w.heap.size + 4]? = some (.deferred (some [])) →
      Code.ret.wpIn Fence.wide 3 Tryz.prog Q { a with defers := { target := .collected (w.heap.size + 4), args := #[] } :: a.defers } W) :
    (Code.rangeFunc g ps assign body).wpIn Fence.wide 3 Tryz.prog Q a w3 := by
  refine wpIn_rangeFunc ?_
  intro fn hfn
  obtain ⟨rec, hrec⟩ : ∃ rec : LoopState → Option Code → Loop, rec = fun st pe => { state := st, pending := pe, fn, tmps := a.tmps, params := ps, assign, body, defers := w3.heap.size } := ⟨_, rfl⟩
  have hD : w3.heap.size = w.heap.size + 4 := kz
  have hsw := World.alloc_heap_new (w3.alloc (.deferred (some []))) (.loop (rec .ready none))
  rw [World.size_alloc] at hsw
  have h0 : KIn w w3.heap.size (.loop (rec .ready none)) s ((w3.alloc (.deferred (some []))).alloc (.loop (rec .ready none))) :=
    ⟨(k0.alloc _).alloc _, (k1.alloc _).alloc _, (k2.alloc _).alloc _, (k3.alloc _).alloc _, hsw, (Below.heap_alloc _ _ _ (by simp)).trans (World.alloc_heap_new w3 _), (kB.alloc (by omega) _).alloc (by simp; omega) _⟩
  refine ⟨w3.heap.size + 1, [{ target := .collected w3.heap.size, args := #[] }], (w3.alloc (.deferred (some []))).alloc (.loop (rec .ready none)), { target := .fn (.func 187) #[.pointer (some ⟨w.heap.size + 1 + 1, 0, none⟩), .pointer (some ⟨w.heap.size + 1, 0, none⟩), .pointer (some ⟨w.heap.size + 1 + 2, 0, none⟩)], args := #[.func (.yield (w3.heap.size + 1)) #[] #[]] },
    (w3.alloc (.deferred (some []))).alloc (.loop (rec .ready none)), 187, #[.func (.yield (w3.heap.size + 1)) #[] #[], .pointer (some ⟨w.heap.size + 1 + 1, 0, none⟩), .pointer (some ⟨w.heap.size + 1, 0, none⟩), .pointer (some ⟨w.heap.size + 1 + 2, 0, none⟩)], (w3.alloc (.deferred (some []))).alloc (.loop (rec .ready none)), ?_, ?_, ?_, ?_, fun _ => by omega, ?_⟩
  · rw [hrec]; exact run_enterLoop_outer _ _ _ _ _
  · simp only [resolve, hg]
    simp [go_sem]
  · intro f' _; trivial
  · simp [invoke, go_sem, enters_of Tryz.func187 (by kernel_rfl) rfl]
  · refine (split_in 2 (w3.heap.size + 1) (w.heap.size + 1) (w.heap.size + 1 + 1) (w.heap.size + 1 + 2) (by omega) (KIn w w3.heap.size (.loop (rec .ready none))) (KOut w w3.heap.size (.loop (rec .done (some .ret)))) ?_ (fun r r' W h => h.set_ r' hD) ?_ ?_ s hs _ h0).mono ?_
    · intro r W h
      exact ⟨by simpa using h.2.1.cell 0, h.2.1.frozen 0, by simpa using h.2.2.1.cell 0, by simpa using h.2.2.2.1.cell 0⟩
    · intro r W x hk hx
      have hl := hk.2.2.2.2.1
      have hy := run_yield (P := Tryz.prog) (args := #[.string x]) hl (by rw [hrec]; simp [hps])
      rw [hrec] at hy
      refine ⟨fn, _, assign, body, hy, roundIn_of_wpIn hfn (hassign _ x W _ ⟨_, run_beginRound hl (by rw [hrec]), ?_⟩)⟩
      have hk2 := hk.turn (.loop { rec .ready none with state := .busy }) hD
      refine wpIn_mono (hyes _ x _ hx) ?_
      rintro e a3 W3 hp
      cases e with
      | normal =>
        subst hp
        have he := run_endRound (P := Tryz.prog) none hk2.2.2.2.2.1
        refine ⟨_, _, he, rfl, ?_⟩
        have hk3 := hk2.turn (.loop (rec .ready none)) hD
        rw [hrec] at hk3 ⊢
        exact hk3
      | ret => exact hp.elim
      | exit id => exact hp.elim
      | goto t => exact hp.elim
      | panic ch => exact hp.elim
      | outgrown => exact hp.elim
    · intro r W x hk hx hx2
      have hl := hk.2.2.2.2.1
      have hy := run_yield (P := Tryz.prog) (args := #[.string x]) hl (by rw [hrec]; simp [hps])
      rw [hrec] at hy
      refine ⟨fn, _, assign, body, hy, roundIn_of_wpIn hfn (hassign _ x W _ ⟨_, run_beginRound hl (by rw [hrec]), ?_⟩)⟩
      have hk2 := hk.turn (.loop { rec .ready none with state := .busy }) hD
      refine wpIn_mono (hno _ x _ hx hx2 hk2.1) ?_
      rintro e a3 W3 hp
      cases e with
      | ret =>
        subst hp
        have hl3 := (Below.heap_setCell _ ⟨w.heap.size, 0, none⟩ (.int .i64 6) (w3.heap.size + 1) (by simp; omega)).trans hk2.2.2.2.2.1
        have he := run_endRound (P := Tryz.prog) (some .ret) hl3
        refine ⟨_, _, he, rfl, ?_⟩
        have hk3 := hk2.leave (.loop (rec .done (some .ret))) hD
        rw [hrec] at hk3 ⊢
        exact hk3
      | normal => exact hp.elim
      | exit id => exact hp.elim
      | goto t => exact hp.elim
      | panic ch => exact hp.elim
      | outgrown => exact hp.elim
    · rintro e W2 ⟨⟨v, rfl⟩, (⟨hlp, hk⟩ | ⟨hlp, r, hk⟩)⟩
      · have hend := run_endLoop (P := Tryz.prog) hk.2.1 (by rw [hrec]; simp)
        refine ⟨some .ret, _, by rw [hrec] at hend; exact hend, ?_⟩
        have hb := hk.1.putObj (.loop { rec .done (some .ret) with state := .exhausted }) (show w.heap.size ≠ w3.heap.size + 1 by omega)
        have := hstop _ hlp hb (below_putObj hk.2.2.2 _ _ (by omega)) (by rw [← kz]; exact (World.putObj_heap_other (by omega)).trans hk.2.2.1)
        rw [← kz, hrec] at this
        exact this
      · have hend := run_endLoop (P := Tryz.prog) hk.2.2.2.2.1 (by rw [hrec]; simp)
        refine ⟨none, _, by rw [hrec] at hend; exact hend, ?_⟩
        have hb := hk.1.putObj (.loop { rec .ready none with state := .exhausted }) (show w.heap.size ≠ w3.heap.size + 1 by omega)
        have := hdone _ hlp hb (below_putObj hk.2.2.2.2.2.2 _ _ (by omega)) (by rw [← kz]; exact (World.putObj_heap_other (by omega)).trans hk.2.2.2.2.2.1)
        rw [← kz, hrec] at this
        exact this

set_option maxRecDepth 100000 in
set_option maxHeartbeats 1000000 in
theorem checkName_dotted (s : ByteArray) (w : World) (hs : s.size ≤ 65536) (hd : Tk.dotted s.data.toList = true) :
    Calls Tryz.prog 96 #[.string s] w fun e w' => e = .returned (.int .i64 (Tk.nameCode s.data.toList)) ∧ Below w.heap.size w w' := by
  have hn : Tk.nameCode s.data.toList = if Tk.longPart (s.size + 1) s.data.toList then 6 else 0 := by rw [Tk.nameCode, hd, size_data]; rfl
  rw [hn]
  have HD := Lib.hid hd; clear hd hn
  obtain ⟨LP, hlp⟩ : ∃ b, Tk.longPart (s.size + 1) s.data.toList = b := ⟨_, rfl⟩
  have HLP := Lib.hid hlp
  rw [hlp]; clear hlp
  obtain ⟨res, hres⟩ : ∃ r : Int, (if LP = true then 6 else 0) = r := ⟨_, rfl⟩
  have HRES := Lib.hid hres
  rw [hres]; clear hres
  refine (callsIn_wide (n := 3)).1 ?_
  refine callsIn_of_wp_marks Tryz.func96 rfl trivial ?_ rfl
  simp only [Tryz.ntmps96, List.size_toArray, List.length_cons, List.length_nil, Nat.reduceAdd, Nat.reduceSub, Array.replicate_succ, Array.replicate_zero, List.push_toArray, List.append_toArray, List.nil_append, List.cons_append]
  gi_wp2_with (first | (refine ⟨trivial, ?_⟩; gi_at_call 148; refine (callsIn_wide.2 (isDotted_any s _ (by omega))).mono ?_; rintro e w' ⟨rfl, rfl⟩; rw [HD.out]) | (refine ⟨trivial, ?_⟩; gi_at_call 149; refine (callsIn_wide.2 (SplitSeq_any _ _ _)).mono ?_; rintro e w' ⟨rfl, rfl⟩))
  have k0 : Blk ((((w.alloc (.cells #[.int .i64 0] 24)).alloc (.cells #[.string s] 9)).alloc (.cells #[.string ⟨#[46]⟩] 9)).alloc (.cells #[.int .i64 0] 3)) w.heap.size 24 #[.int .i64 0] := (((Blk.new w 24 _).alloc _).alloc _).alloc _
  have k1 : Blk ((((w.alloc (.cells #[.int .i64 0] 24)).alloc (.cells #[.string s] 9)).alloc (.cells #[.string ⟨#[46]⟩] 9)).alloc (.cells #[.int .i64 0] 3)) (w.heap.size + 1) 9 #[.string s] := by
    have := Blk.new (w.alloc (.cells #[.int .i64 0] 24)) 9 #[.string s]
    rw [World.size_alloc] at this
    exact (this.alloc _).alloc _
  have k2 : Blk ((((w.alloc (.cells #[.int .i64 0] 24)).alloc (.cells #[.string s] 9)).alloc (.cells #[.string ⟨#[46]⟩] 9)).alloc (.cells #[.int .i64 0] 3)) (w.heap.size + 1 + 1) 9 #[.string ⟨#[46]⟩] := by
    have := Blk.new ((w.alloc (.cells #[.int .i64 0] 24)).alloc (.cells #[.string s] 9)) 9 #[.string ⟨#[46]⟩]
    rw [World.size_alloc, World.size_alloc] at this
    exact this.alloc _
  have k3 : Blk ((((w.alloc (.cells #[.int .i64 0] 24)).alloc (.cells #[.string s] 9)).alloc (.cells #[.string ⟨#[46]⟩] 9)).alloc (.cells #[.int .i64 0] 3)) (w.heap.size + 1 + 2) 3 #[.int .i64 0] := by
    have := Blk.new (((w.alloc (.cells #[.int .i64 0] 24)).alloc (.cells #[.string s] 9)).alloc (.cells #[.string ⟨#[46]⟩] 9)) 3 #[.int .i64 0]
    rw [World.size_alloc, World.size_alloc, World.size_alloc] at this
    exact this
  have kB : Below w.heap.size w ((((w.alloc (.cells #[.int .i64 0] 24)).alloc (.cells #[.string s] 9)).alloc (.cells #[.string ⟨#[46]⟩] 9)).alloc (.cells #[.int .i64 0] 3)) :=
    ((((Below.refl _ w).alloc (Nat.le_refl _) _).alloc (by simp) _).alloc (by simp; omega) _).alloc (by simp; omega) _
  have kz : ((((w.alloc (.cells #[.int .i64 0] 24)).alloc (.cells #[.string s] 9)).alloc (.cells #[.string ⟨#[46]⟩] 9)).alloc (.cells #[.int .i64 0] 3)).heap.size = w.heap.size + 4 := by simp
  generalize hw3 : ((((w.alloc (.cells #[.int .i64 0] 24)).alloc (.cells #[.string s] 9)).alloc (.cells #[.string ⟨#[46]⟩] 9)).alloc (.cells #[.int .i64 0] 3)) = w3 at *
  clear hw3
  refine range_split s hs w w3 rfl k0 k1 k2 k3 kB kz rfl
    (fun x => { tmps := #[.string s, undef, .pointer (some ⟨w.heap.size, 0, none⟩), .string x, undef, .string s, .bool true, .bool false, undef, undef, .string s, .func (.func 187) #[] #[.pointer (some ⟨w.heap.size + 1 + 1, 0, none⟩), .pointer (some ⟨w.heap.size + 1, 0, none⟩), .pointer (some ⟨w.heap.size + 1 + 2, 0, none⟩)], .string x, undef, undef, undef, undef, undef], defers := [] }) ?assign ?yes ?no ?done ?stop
  case assign =>
    clear k0 k1 k2 k3 kB kz
    intro l x W Kc hK
    gi_wp2
    exact hK
  case yes =>
    clear k0 k1 k2 k3 kB kz
    intro l x W hx
    have hp : Tk.part x.data.toList = 0 := by rw [Tk.part, if_neg (by rw [size_data]; omega)]
    have HP := Lib.hid hp; clear hp
    gi_wp2_with (refine ⟨trivial, ?_⟩; gi_at_call 97; refine (CallsIn.inRound l (callsIn_wide.2 (checkPart_any x _ (by unfold maxLen; omega)))).mono ?_; rintro e w' ⟨rfl, rfl⟩; rw [HP.out])
    rfl
  case no =>
    clear k0 k1 k2 k3 kB kz
    intro l x W hx hx2 hb
    have hp : Tk.part x.data.toList = 6 := by rw [Tk.part, if_pos (by rw [size_data]; omega)]
    have HP := Lib.hid hp; clear hp
    have hc := hb.cell 0
    have hf := hb.frozen 0
    simp at hc
    gi_wp2_with (refine ⟨trivial, ?_⟩; gi_at_call 97; refine (CallsIn.inRound l (callsIn_wide.2 (checkPart_any x _ (by unfold maxLen; omega)))).mono ?_; rintro e w' ⟨rfl, rfl⟩; rw [HP.out])
    rfl
  case done =>
    clear k0 k1 k2 k3 kB kz
    intro W hlp hb hB hD
    have hc := hb.cell 0
    have hf := hb.frozen 0
    simp at hc
    have hr : res = 0 := by rw [← HRES.out, ← HLP.out, hlp]; rfl
    subst hr
    gi_wp2
    have hD' := (Below.heap_setCell W ⟨w.heap.size, 0, none⟩ (.int .i64 0) (w.heap.size + 4) (by simp)).trans hD
    have hb' := (hb.put 0 (.int .i64 0)).putObj (.deferred none) (show w.heap.size ≠ w.heap.size + 4 by omega)
    have hc5 : (World.putObj (W.setCell ⟨w.heap.size, 0, none⟩ (.int .i64 0)) (w.heap.size + 4) (.deferred none)).cell? ⟨w.heap.size, 0, none⟩ = some (.int .i64 0) := by simpa using hb'.cell 0
    refine ⟨by simp, .inl ⟨_, _, rfl, run_takeDeferred hD', ?_⟩⟩
    refine ⟨.int .i64 0, ?_, rfl, below_putObj (hB.setCell (Nat.le_refl _) _) _ _ (by omega)⟩
    simp [results, Tryz.results96, go_sem, hc5]
  case stop =>
    clear k0 k1 k2 k3 kB kz
    intro W hlp hb hB hD
    have hr : res = 6 := by rw [← HRES.out, ← HLP.out, hlp]; rfl
    subst hr
    gi_wp2
    have hb' := hb.putObj (.deferred none) (show w.heap.size ≠ w.heap.size + 4 by omega)
    have hc5 : (World.putObj W (w.heap.size + 4) (.deferred none)).cell? ⟨w.heap.size, 0, none⟩ = some (.int .i64 6) := by simpa using hb'.cell 0
    refine ⟨by simp, .inl ⟨_, _, rfl, run_takeDeferred hD, ?_⟩⟩
    refine ⟨.int .i64 6, ?_, rfl, below_putObj hB _ _ (by omega)⟩
    simp [results, Tryz.results96, go_sem, hc5]

theorem checkName_any (s : ByteArray) (w : World) (hs : s.size ≤ 65536) :
    Calls Tryz.prog 96 #[.string s] w fun e w' => e = .returned (.int .i64 (Tk.nameCode s.data.toList)) ∧ Below w.heap.size w w' := by
  cases hd : Tk.dotted s.data.toList
  · exact checkName_plain s w hs hd
  · exact checkName_dotted s w hs hd
end Go.Proofs.YtaefonagbcnmdaaGreatDoor
