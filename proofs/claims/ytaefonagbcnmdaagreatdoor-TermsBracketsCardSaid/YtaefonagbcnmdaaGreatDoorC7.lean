/-
  PROVED: for every list of tokens (of any kinds, texts and places, nil too), law TermsBrackets of package cinnabarlaw02 returns true and leaves its argument as it read (the tied card of the statement TermsBrackets).
  CONDITIONS: those of the row and of its card: the seven package-level variables of Go's library that the row lists hold what the card's tie says that the program's text lays. Of these the proof uses one: strconv.ErrRange holds an interface value.
-/
import Derived.Test.YtaefonagbcnmdaaGreatDoorMB
import Derived.Test.YtaefonagbcnmdaaGreatDoorCards
import Derived.Test.YtaefonagbcnmdaaGreatDoorTie
import Derived.WalkKit
import Derived.ProofKit
import Derived.OpenShut
import Derived.Carry
import Derived.Lay
import Derived.LaidOnce
import Derived.SevenTiedAt
import Derived.Stop.LaidErr
set_option linter.unusedSimpArgs false
set_option linter.unusedVariables false
namespace Go.Proofs.YtaefonagbcnmdaaGreatDoor
open Go.ChangeShapes Go.WideShapes Go.ChangeAt Go.RowKit
open Go.ChangeMaps (open_string shut_string)

theorem laidOut_br : laidOutB Tryz.prog = true := by kernel_rfl
theorem own_br : ownKnob Tryz.prog.godebug = none := by kernel_rfl

/-- What the row's list gives the walks: the cell of the library's ErrRange holds an interface. -/
theorem glob_of_laid_br {n : String} {d : DataW Unit} {g : Nat} {ti : TypeId} {ms : Array (String × TypeId)} {nm : String} {r : List (String × DataW Unit)} {W : World} (h : laidMet Tryz.prog ((n, .iface nm d) :: r) W)
    (hg : Tryz.prog.globalNamed n = some g) (ht : (Tryz.prog.globals[g]?).map (·.type) = some ti) (hi : Tryz.prog.underlying ti = some (.interface ms)) :
    ∃ te pe, W.cell? ⟨g, 0, none⟩ = some (.iface te pe) := by
  obtain ⟨ps, ⟨g0, t0, cs0, f0, p0, q0, hg0, ht0, hv0, hd0, _, e0⟩, _, hrows⟩ := h
  obtain rfl := Option.some.inj (hg.symm.trans hg0)
  obtain rfl := Option.some.inj (ht.symm.trans ht0)
  obtain ⟨l0⟩ := cs0
  obtain ⟨f', u, v, hl, _, _⟩ := iface_of_trod hi hd0
  simp only at hl
  subst hl
  exact ⟨u, v, by simpa using World.var?_cell hg0 hv0 0⟩

theorem laidMet_plain_br (W : World) : laidMetH Tryz.prog Rows.termsBracketsRow.laid W = laidMet Tryz.prog Rows.termsBracketsRow.laid W := MakeChecks.laidMetH_plain _ _ _ (by kernel_rfl)

theorem glob_brackets {W : World} (h : laidMetH Tryz.prog Rows.termsBracketsRow.laid W) : Glob W := by
  rw [laidMet_plain_br] at h
  have h4 : laidMet Tryz.prog (("strconv.ErrRange", Rows.laid_strconv_ErrRange) :: _) W := h.tail.tail.tail.tail
  obtain ⟨te, pe, hc⟩ := glob_of_laid_br (g := 2) h4 (by kernel_rfl) (by kernel_rfl) Tryz.underlying145
  exact ⟨_, hc, .inr ⟨_, _, rfl⟩⟩

set_option maxRecDepth 100000 in
theorem brackets_lifted (os : Os) (started : os.Started) (H : Type) (enc : TypeId × Value → H) :
    ReturnsInHanded {} Tryz.checked os 7 .any (fun w args => (Rows.termsBracketsSpec.pre enc Tryz.prog Tryz.f7 [] false w args ∧ laidMetH Tryz.prog Rows.termsBracketsRow.laid w) ∧ sizedMet enc Tryz.prog Tryz.f7 (OpenSpec.ofChange Rows.termsBracketsSpec) false w args)
      (Rows.termsBracketsSpec.post enc Tryz.prog Tryz.f7 false true false false) := by
  refine returnsInHanded_of_change_and (C := Tryz.checked) (X := fun w _ => laidMetH Tryz.prog Rows.termsBracketsRow.laid w) (fun _ _ _ hh h => h.of_heap hh) own_br started (by kernel_rfl) Tryz.func7
    (ChangeSpec.witness_shaped (enc := enc) (C := Tryz.checked) (os := os) (X := fun w _ => laidMetH Tryz.prog Rows.termsBracketsRow.laid w) false (World.laidAll Tryz.prog os Rows.termsBracketsRow.laid) #[.slice none 0 0] 8 (World.laidAll_os _ _ _)
      (World.shaped_of_ZipB (by kernel_rfl) (by kernel_rfl)) (by kernel_rfl) (by kernel_rfl) (by kernel_rfl)
      (by rw [laidMet_plain_br]; exact laidMet_laidAll _ (by kernel_rfl) (by kernel_rfl))) ?_
  intro W base args ds gs before hval0 hW _ hz hL _
  have hval : ∀ (j : Nat) t v, Tryz.f7.params[j]? = some t → args[j]? = some v → Value.okWide Tryz.prog W .any base t v := hval0
  have hW' := hW
  obtain ⟨p, q, hA0, hV, rfl, _, _⟩ := hW
  have hA : DataW.TrodAll enc Tryz.prog W 0 (fun _ => true) true Tryz.f7.params.toList args.toList ds p := hA0
  rw [Tryz.params7] at hA hval hz
  obtain ⟨v0, d0, rfl, rfl, h0⟩ := trodAll_one hA
  obtain ⟨rfl, rfl⟩ := trodVars_none hV
  have h0k := h0
  simp only [List.append_nil] at hW'
  have hlt : ∀ x ∈ p, x.block < W.heap.size := fun x hx => by simpa using hW'.lt x hx
  obtain ⟨ts, hT, hn, hsz⟩ := open_toks (hval 0 43 v0 rfl rfl) h0
  refine (brackets_any v0 ts W (by unfold maxLen at hn; omega) (fun t ht => by
    have h1 := of_decide_eq_true (List.all_eq_true.1 hz _ (DataW.weights_mem_each (j := 0) (t := 43) (d := d0) rfl rfl _ (hsz t ht)))
    unfold reachBytes at h1
    omega) hT (glob_brackets hL)).mono fun e W' ⟨he, hb⟩ => ?_
  subst he
  exact ⟨_, rfl, _, _, _, [], p, [], hW', trodAll_mk1 (shut_bool Tryz.underlying4 _), trodAll_mk1 (Below.trod laidOut_br (by kernel_rfl) (of_decide_eq_true (by kernel_rfl)) h0k hb hlt), rfl, hb.frame _, fun h => by cases h⟩

theorem brackets_said : Rows.TermsBracketsSaid :=
  OpenClaim.holds_of_wide 7 Tryz.f7 rfl rfl rfl rfl rfl rfl rfl ⟨rfl, rfl, rfl, rfl, rfl⟩ rfl rfl rfl rfl rfl (by kernel_rfl) Tryz.func7 (by kernel_rfl)
    (of_decide_eq_true (by kernel_rfl)) (by unfold Func.isWrapper; first | (rw [if_pos (by decide +kernel)]; kernel_rfl) | (rw [if_neg (by decide +kernel)]; exact ⟨rfl, rfl⟩))
    (fun os started H enc _ => brackets_lifted os started H enc)

theorem brackets_plain (f : FuncId) (fn : Func) (hf : Tryz.pinned.checked.prog.funcNamed "cinnabar/cinnabarlaw02.TermsBrackets" = some f) (hfn : Tryz.pinned.checked.prog.funcs[f]? = some fn) :
    true = Tryz.pinned.checked.prog.looks [] ∧ ∀ (j : Nat) t, fn.params[j]? = some t → Tryz.pinned.checked.prog.wantsStandIn t = false := by
  obtain rfl : f = 7 := Option.some.inj ((show Tryz.prog.funcNamed "cinnabar/cinnabarlaw02.TermsBrackets" = some 7 by kernel_rfl).symm.trans hf) |>.symm
  obtain rfl : fn = Tryz.f7 := (Option.some.inj (Tryz.func7.symm.trans hfn)).symm
  refine ⟨by kernel_rfl, fun j t ht => ?_⟩
  rw [Tryz.params7] at ht
  obtain rfl : t = 43 := by simpa using Array.mem_of_getElem? ht
  exact (show Tryz.prog.wantsStandIn 43 = false by kernel_rfl)

theorem brackets_card : Rows.TermsBracketsCardSaid :=
  Claim7.holds_tied_plain_at .later [] _ _ _ _ brackets_said (fun _ h => by cases h) (by kernel_rfl) (fun _ h => by cases h) termsBrackets_row_tie rfl ⟨rfl, rfl⟩ (by kernel_rfl) rfl brackets_plain (by kernel_rfl)
#print axioms brackets_card
end Go.Proofs.YtaefonagbcnmdaaGreatDoor
