/-
  PROVED: for every token (any kind, text and place), law TokensCheck of package cinnabarlaw01 returns true and leaves its argument as it read (the tied card of the statement TokensCheck).
  CONDITIONS: those of the row and of its card: the seven package-level variables of Go's library that the row lists hold what the card's tie says that the program's text lays. Of these the proof uses one: strconv.ErrRange holds an interface value.
-/
import Derived.Test.YtnkmefnbhfghgaaGreatDoorR13
import Derived.Test.YtnkmefnbhfghgaaGreatDoorCards
import Derived.Test.YtnkmefnbhfghgaaGreatDoorTie
import Derived.WalkKit
import Derived.ProofKit
import Derived.OpenShut
import Derived.Lib.SmallJoins
import Derived.Lay
import Derived.LaidOnce
import Derived.SevenTiedAt
import Derived.Stop.LaidErr
set_option linter.unusedSimpArgs false
set_option linter.unusedVariables false
namespace Go.Proofs.YtnkmefnbhfghgaaGreatDoor
open Go.ChangeShapes Go.WideShapes Go.ChangeAt Go.RowKit Go.Joins
open Go.ChangeMaps (open_string shut_string)

theorem own : ownKnob Tryz.prog.godebug = none := by kernel_rfl

/-- What the row's list gives the walks: the cell of the library's ErrRange holds an interface. -/
theorem glob_of_laid {n : String} {d : DataW Unit} {g : Nat} {ti : TypeId} {ms : Array (String × TypeId)} {nm : String} {r : List (String × DataW Unit)} {W : World} (h : laidMet Tryz.prog ((n, .iface nm d) :: r) W)
    (hg : Tryz.prog.globalNamed n = some g) (ht : (Tryz.prog.globals[g]?).map (·.type) = some ti) (hi : Tryz.prog.underlying ti = some (.interface ms)) :
    ∃ te pe, W.cell? ⟨g, 0, none⟩ = some (.iface te pe) := by
  obtain ⟨ps, ⟨g0, t0, cs0, f0, p0, q0, hg0, ht0, hv0, hd0, _, e0⟩, _, hrows⟩ := h
  obtain rfl := Option.some.inj (hg.symm.trans hg0)
  obtain rfl := Option.some.inj (ht.symm.trans ht0)
  obtain ⟨l0⟩ := cs0
  obtain ⟨f', u, v, hl, _, _⟩ := iface_of_trod hi hd0
  simp only at hl
  subst hl
  exact ⟨u, v, by simpa using World.var?_cell hg0 hv0 0⟩

theorem laidMet_plain (W : World) : laidMetH Tryz.prog Rows.tokensCheckRow.laid W = laidMet Tryz.prog Rows.tokensCheckRow.laid W := MakeChecks.laidMetH_plain _ _ _ (by kernel_rfl)

theorem glob_checkc {W : World} (h : laidMetH Tryz.prog Rows.tokensCheckRow.laid W) : Glob W := by
  rw [laidMet_plain] at h
  have h4 : laidMet Tryz.prog (("strconv.ErrRange", Rows.laid_strconv_ErrRange) :: _) W := h.tail.tail.tail.tail
  obtain ⟨te, pe, hc⟩ := glob_of_laid (g := 1) h4 (by kernel_rfl) (by kernel_rfl) Tryz.underlying75
  exact ⟨_, hc, .inr ⟨_, _, rfl⟩⟩

set_option maxRecDepth 100000 in
theorem checkc_lifted (os : Os) (started : os.Started) (H : Type) (enc : TypeId × Value → H) :
    ReturnsInHanded {} Tryz.checked os 4 .any (fun w args => (Rows.tokensCheckSpec.pre enc Tryz.prog Tryz.f4 [] false w args ∧ laidMetH Tryz.prog Rows.tokensCheckRow.laid w) ∧ sizedMet enc Tryz.prog Tryz.f4 (OpenSpec.ofChange Rows.tokensCheckSpec) false w args)
      (Rows.tokensCheckSpec.post enc Tryz.prog Tryz.f4 false true false false) := by
  refine returnsInHanded_of_change_and (C := Tryz.checked) (X := fun w _ => laidMetH Tryz.prog Rows.tokensCheckRow.laid w) (fun _ _ _ hh h => h.of_heap hh) own started (by kernel_rfl) Tryz.func4
    (ChangeSpec.witness_shaped (enc := enc) (C := Tryz.checked) (os := os) (X := fun w _ => laidMetH Tryz.prog Rows.tokensCheckRow.laid w) false (World.laidAll Tryz.prog os Rows.tokensCheckRow.laid) #[.agg #[.int .i64 0, .string ⟨#[]⟩, .int .i64 0]] 8 (World.laidAll_os _ _ _)
      (World.shaped_of_ZipB (by kernel_rfl) (by kernel_rfl)) (by kernel_rfl) (by kernel_rfl) (by kernel_rfl)
      (by rw [laidMet_plain]; exact laidMet_laidAll _ (by kernel_rfl) (by kernel_rfl))) ?_
  intro W base args ds gs before hval0 hW _ _ hL _
  have hval : ∀ (j : Nat) t v, Tryz.f4.params[j]? = some t → args[j]? = some v → Value.okWide Tryz.prog W .any base t v := hval0
  have hW' := hW
  obtain ⟨p, q, hA0, hV, rfl, _, _⟩ := hW
  have hA : DataW.TrodAll enc Tryz.prog W 0 (fun _ => true) true Tryz.f4.params.toList args.toList ds p := hA0
  rw [Tryz.params4] at hA hval
  obtain ⟨v0, d0, rfl, rfl, h0⟩ := trodAll_one hA
  obtain ⟨rfl, rfl⟩ := trodVars_none hV
  obtain ⟨c0, c1, c2, y0, y1, y2, m, rfl, rfl, rfl, hy0, hy1, hy2⟩ := open_agg3 Tryz.underlying32 (by kernel_rfl) (by kernel_rfl) (hval 0 32 v0 rfl rfl) h0
  obtain ⟨k, e0, rfl, wk⟩ := DataW.trod_int Tryz.underlying3 hy0
  obtain ⟨s, e1, rfl, ws⟩ := DataW.trod_string Tryz.underlying9 hy1
  obtain ⟨a, e2, rfl, wa⟩ := DataW.trod_int Tryz.underlying3 hy2
  simp at e0 e1 e2
  subst e0 e1 e2
  simp only [List.append_nil] at hW'
  have reads : ∀ (W' : World) (sp : Nat → Bool), DataW.Trod enc Tryz.prog W' 0 sp true 32 (.agg #[.int .i64 k, .string s, .int .i64 a]) (.agg [.lit (.int .i64 k), .lit (.string s.data.toList), .lit (.int .i64 a)]) [] := fun W' sp =>
    shut_agg3 (y0 := (.lit (.int .i64 k), [])) (y1 := (.lit (.string s.data.toList), [])) (y2 := (.lit (.int .i64 a), [])) Tryz.underlying32 (by kernel_rfl) (by kernel_rfl)
      ⟨1, by simp [DataW.trod, Tryz.underlying3, wk]⟩ ⟨1, by simp [DataW.trod, Tryz.underlying9, ws]⟩ ⟨1, by simp [DataW.trod, Tryz.underlying3, wa]⟩
  refine (law_check k s a W ws (glob_checkc hL)).mono fun e W' ⟨he, hb⟩ => ?_
  subst he
  exact ⟨_, rfl, _, _, _, [], [], [], hW', trodAll_mk1 (shut_bool Tryz.underlying4 _), trodAll_mk1 (reads _ _), rfl, hb.frame _, fun h => by cases h⟩

theorem checkc_said : Rows.TokensCheckSaid :=
  OpenClaim.holds_of_wide 4 Tryz.f4 rfl rfl rfl rfl rfl rfl rfl ⟨rfl, rfl, rfl, rfl, rfl⟩ rfl rfl rfl rfl rfl (by kernel_rfl) Tryz.func4 (by kernel_rfl)
    (of_decide_eq_true (by kernel_rfl)) (by unfold Func.isWrapper; first | (rw [if_pos (by decide +kernel)]; kernel_rfl) | (rw [if_neg (by decide +kernel)]; exact ⟨rfl, rfl⟩))
    (fun os started H enc _ => checkc_lifted os started H enc)

theorem checkc_plain (f : FuncId) (fn : Func) (hf : Tryz.pinned.checked.prog.funcNamed "cinnabar/cinnabarlaw01.TokensCheck" = some f) (hfn : Tryz.pinned.checked.prog.funcs[f]? = some fn) :
    true = Tryz.pinned.checked.prog.looks [] ∧ ∀ (j : Nat) t, fn.params[j]? = some t → Tryz.pinned.checked.prog.wantsStandIn t = false := by
  obtain rfl : f = 4 := Option.some.inj ((show Tryz.prog.funcNamed "cinnabar/cinnabarlaw01.TokensCheck" = some 4 by kernel_rfl).symm.trans hf) |>.symm
  obtain rfl : fn = Tryz.f4 := (Option.some.inj (Tryz.func4.symm.trans hfn)).symm
  refine ⟨by kernel_rfl, fun j t ht => ?_⟩
  rw [Tryz.params4] at ht
  obtain rfl : t = 32 := by simpa using Array.mem_of_getElem? ht
  exact (show Tryz.prog.wantsStandIn 32 = false by kernel_rfl)

theorem checkc_card : Rows.TokensCheckCardSaid :=
  Claim7.holds_tied_plain_at .later [] _ _ _ _ checkc_said (fun _ h => by cases h) (by kernel_rfl) (fun _ h => by cases h) tokensCheck_row_tie rfl ⟨rfl, rfl⟩ (by kernel_rfl) rfl checkc_plain (by kernel_rfl)
#print axioms checkc_card
end Go.Proofs.YtnkmefnbhfghgaaGreatDoor
