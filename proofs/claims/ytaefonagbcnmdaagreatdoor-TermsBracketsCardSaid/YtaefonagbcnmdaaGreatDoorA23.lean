import Derived.Test.YtaefonagbcnmdaaGreatDoorA22
import Derived.Deep.RegionWith
set_option linter.unusedSimpArgs false
set_option linter.unusedVariables false
namespace Go.Proofs.YtaefonagbcnmdaaGreatDoor
open Go.RowKit

/-- What Tokens hands back. -/
def Tk.TPost (r : Except (Nat × Int) (List Tk.T)) (w : World) (e : Ending) (w' : World) : Prop :=
  match r with
  | .error x => e = .returned (.tuple #[.slice none 0 0, Tk.fauV x.1 x.2]) ∧ Below w.heap.size w w'
  | .ok ts => ∃ v, e = .returned (.tuple #[v, Tk.fauV 0 0]) ∧ w'.ownsRow w.heap.size 48 3 v ts.length (Tk.flat ts) ∧ Below w.heap.size w w'

theorem info_token : (Tryz.prog.info? 48).map (fun i => (i.zero, i.size, i.bytes)) = some (some (.agg #[.int .i64 0, .string ⟨#[]⟩, .int .i64 0]), 3, 32) := by kernel_rfl

set_option maxRecDepth 100000 in
set_option maxHeartbeats 1000000 in
theorem tokens_long (s : ByteArray) (w : World) (hs : 65536 < s.size) :
    Calls Tryz.prog 31 #[.string s] w (Tk.TPost (.error (0, 6)) w) := by
  go_enter Tryz.func31, Tryz.ntmps31
  go_wp2
  exact bodyPost_ret (v := .tuple #[.slice none 0 0, Tk.fauV 0 6]) (by simp [results, Tryz.results31, go_sem, Tk.fauV]) rfl ⟨rfl, (Below.refl _ _).alloc (Nat.le_refl _) _⟩

theorem cells_new (w : World) (xs : List Value) (t : TypeId) : ∀ j u, xs[j]? = some u → (w.alloc (.cells xs.toArray t)).cell? ((⟨w.heap.size, 0, none⟩ : Addr).add j) = some u := by
  intro j u hj
  have hp : (⟨w.heap.size, 0, none⟩ : Addr).add j = ⟨w.heap.size, 0 + j, none⟩ := by unfold Addr.add; split <;> simp_all
  rw [hp, (Blk.new w t xs.toArray).cell]
  simpa using hj
theorem Tk.com_ge {l : List UInt8} {b : Nat} : ∀ (f k : Nat), k ≤ (Tk.com f l b k).1
  | 0, k => Nat.le_refl _
  | f + 1, k => by
    have := Tk.com_ge (l := l) (b := b) f (k + 1)
    rw [Tk.com]
    repeat' split
    all_goals first | omega | simp
theorem Tk.skip_ge {l : List UInt8} : ∀ (f k : Nat), k ≤ (Tk.skip f l k).1
  | 0, k => Nat.le_refl _
  | f + 1, k => by
    have h1 := Tk.skip_ge (l := l) f (k + 1)
    have h2 := Tk.skip_ge (l := l) f (Tk.lineEnd l k)
    have h3 := Tk.skip_ge (l := l) f (Tk.comment l k).1
    have h4 : k ≤ Tk.lineEnd l k := Tk.run_ge _ _ _
    have h5 : k + 2 ≤ (Tk.comment l k).1 := Tk.com_ge _ _
    rw [Tk.skip]
    repeat' split
    all_goals first | omega | simp
    all_goals omega
theorem own_less {w : World} {B B' : Nat} {e : TypeId} {size n : Nat} {v : Value} {xs : List Value} (h : w.ownsRow B e size v n xs) (hB : B' ≤ B) : w.ownsRow B' e size v n xs := by
  obtain ⟨h1, h2⟩ := h
  refine ⟨h1, ?_⟩
  rcases h2 with h2 | ⟨g, cap, cur, hv, hg, r⟩
  · exact .inl h2
  · exact .inr ⟨g, cap, cur, hv, by omega, r⟩
/-- The loop's own: the scanner (block N + 1), the fault (block N). -/
def TFr (w wr : World) (s : ByteArray) (a en : Nat) (b : Bool) : Prop :=
  Scan wr (w.heap.size + 1) s a en b ∧ Blk wr w.heap.size 26 #[.int .i64 0, .int .i64 0] ∧ Below w.heap.size w wr
section
variable {w wr w2 : World} {s : ByteArray} {a en a' en' : Nat} {b b' : Bool}
theorem TFr.step (h : TFr w wr s a en b) (hg : wr.grownBy w2 (some (w.heap.size + 1))) (hs : Scan w2 (w.heap.size + 1) s a' en' b') : TFr w w2 s a' en' b' :=
  ⟨hs, h.2.1.grown hg (by simp), below_gb h.2.2 hg (h.2.2.size) (by omega)⟩
theorem TFr.alloc (h : TFr w wr s a en b) (o : Obj) : TFr w (wr.alloc o) s a en b := ⟨Blk.alloc h.1 o, h.2.1.alloc o, h.2.2.alloc h.2.2.size o⟩
theorem TFr.below (h : TFr w wr s a en b) (hb : Below wr.heap.size wr w2) : TFr w w2 s a en b := ⟨Blk.below h.1 hb (Blk.lt h.1), h.2.1.below hb h.2.1.lt, h.2.2.trans (hb.mono h.2.2.size)⟩
theorem TFr.grown {row : Option Nat} (h : TFr w wr s a en b) (hg : wr.grownBy w2 row) (hr : ∀ k, row = some k → w.heap.size + 2 ≤ k) : TFr w w2 s a en b :=
  ⟨Blk.grown h.1 hg (fun e => by have := hr _ e.symm; omega), h.2.1.grown hg (fun e => by have := hr _ e.symm; omega), h.2.2.grown hg h.2.2.size (fun k e => by have := hr _ e; omega)⟩
theorem TFr.facts (h : TFr w wr s a en b) : w.heap.size + 1 < wr.heap.size ∧ w.heap.size < wr.heap.size ∧ wr.cell? ⟨w.heap.size + 1, 0, none⟩ = some (.string s) ∧ wr.cell? ⟨w.heap.size + 1, 1, none⟩ = some (.int .i64 a) ∧ wr.cell? ⟨w.heap.size + 1, 2, none⟩ = some (.int .i64 en) ∧ wr.cell? ⟨w.heap.size + 1, 3, none⟩ = some (.bool b) ∧
    wr.cell? ⟨w.heap.size, 0, none⟩ = some (.int .i64 0) ∧ wr.cell? ⟨w.heap.size, 1, none⟩ = some (.int .i64 0) ∧ wr.frozen? ⟨w.heap.size, 0, none⟩ = false ∧ wr.frozen? ⟨w.heap.size, 1, none⟩ = false ∧
    wr.frozen? ⟨w.heap.size + 1, 2, none⟩ = false ∧ wr.frozen? ⟨w.heap.size + 1, 3, none⟩ = false :=
  ⟨Blk.lt h.1, h.2.1.lt, by simpa using Blk.cell h.1 0, by simpa using Blk.cell h.1 1, by simpa using Blk.cell h.1 2, by simpa using Blk.cell h.1 3, by simpa using h.2.1.cell 0, by simpa using h.2.1.cell 1, h.2.1.frozen 0, h.2.1.frozen 1, Blk.frozen h.1 2, Blk.frozen h.1 3⟩
end

set_option maxRecDepth 100000 in
set_option maxHeartbeats 4000000 in
theorem tokens_any (s : ByteArray) (w : World) (hs : s.size ≤ 65536) (hG : Glob w) :
    Calls Tryz.prog 31 #[.string s] w (Tk.TPost (Tk.toks (s.size + 2) s.data.toList 0 0 false []) w) := by
  have HZ := Lib.hid (size_data s)
  obtain ⟨i0, hi, hz0, hz1, hz2⟩ := info_parts info_token
  have hgl := hG.lt
  obtain ⟨R, hR⟩ : ∃ R, Tk.toks (s.size + 2) s.data.toList 0 0 false [] = R := ⟨_, rfl⟩
  rw [hR]
  have HR := Lib.hid hR; clear hR
  go_enter Tryz.func31, Tryz.ntmps31
  go_wp2_with fail
  have hT0 : TFr w ((w.alloc (.cells #[.int .i64 0, .int .i64 0] 26)).alloc (.cells #[.string s, .int .i64 0, .int .i64 0, .bool false] 78)) s 0 0 false :=
    ⟨by have := Blk.new (w.alloc (.cells #[.int .i64 0, .int .i64 0] 26)) 78 #[.string s, .int .i64 0, .int .i64 0, .bool false]; rw [World.size_alloc] at this; exact this, (Blk.new _ _ _).alloc _, ((Below.refl _ w).alloc (Nat.le_refl _) _).alloc (by simp) _⟩
  go_loopw [5] (fun v wr => ∃ (a en f : Nat) (b : Bool) (acc : List Tk.T), TFr w wr s a en b ∧ a ≤ s.size ∧ en ≤ s.size ∧ acc.length ≤ a ∧ wr.ownsRow (w.heap.size + 2) 48 3 v acc.length (Tk.flat acc) ∧ s.size + 1 - a < f ∧ Hid (Tk.toks f s.data.toList a en b acc = R))
    (fun _ wr => s.size + 1 - (Tk.cellAt wr (w.heap.size + 1) 1).toNat)
  case atStart => exact ⟨0, 0, s.size + 2, false, [], hT0, by omega, by omega, by simp, World.ownsRow_nil _ _ _ _, by omega, HR⟩
  case round =>
    clear hT0 HR
    obtain ⟨a, en, f, b, acc, hX, ha, hen, hacc, hown, hf, hr⟩ := hrel
    obtain ⟨f', rfl⟩ : ∃ f', f = f' + 1 := ⟨f - 1, by omega⟩
    obtain ⟨sa, sp, sc, hsk⟩ : ∃ sa sp sc, Tk.skipped s.data.toList a = (sa, sp, sc) := ⟨_, _, _, rfl⟩
    have hsge : a ≤ sa := by have := Tk.skip_ge (l := s.data.toList) (s.data.toList.length + 1) a; rw [show Tk.skip (s.data.toList.length + 1) s.data.toList a = (sa, sp, sc) from hsk] at this; exact this
    have HSK := Lib.hid hsk; clear hsk
    go_wp2_with fail
    refine (skip_any s (w.heap.size + 1) a en b _ hs ha hX.1).mono ?_; rintro e w2 ⟨rfl, hS2, hG2, hle2⟩
    rw [HSK.out] at hS2 hle2
    simp only [HSK.out]
    have hX2 := hX.step hG2 hS2
    have hown2 := hown.kept hG2 (by
      rcases hob : u5.ownBlock with _ | q
      · exact .inl rfl
      · right; have := (hown.lt q hob).1; simp; omega)
    obtain ⟨kl, kl2, kc0, kc1, kc2, kc3, kf0, kf1, kz0, kz1, kz2, kz3⟩ := hX2.facts
    by_cases hc : sc = 0
    · subst hc
      by_cases hend : sa = s.size
      · subst hend
        have hre : Tk.toks (f' + 1) s.data.toList a en b acc = .ok (acc ++ [(0, [], s.size)]) := by rw [Tk.toks, HSK.out, if_pos rfl, if_pos HZ.out.symm, HZ.out]
        have HRE : Hid (R = .ok (acc ++ [(0, [], s.size)])) := by rw [← hr.out]; exact hre
        clear hre
        go_wp2_with fail
        have hX3 := hX2.alloc (.cells #[.int .i64 sp, .int .i64 0] 26)
        refine (take_any s (w.heap.size + 1) s.size en b 0 s.size _ hs (Nat.le_refl _) (Nat.le_refl _) hX3.1).mono ?_; rintro e w4 ⟨rfl, hS4, hG4⟩
        have hX4 := hX3.step hG4 hS4
        have hown4 := (hown2.alloc (.cells #[.int .i64 sp, .int .i64 0] 26)).kept hG4 (by
          rcases hob : u5.ownBlock with _ | q
          · exact .inl rfl
          · right; have := (hown.lt q hob).1; simp; omega)
        clear kl kl2 kc0 kc1 kc2 kc3 kf0 kf1 kz0 kz1 kz2 kz3
        obtain ⟨kl, kl2, kc0, kc1, kc2, kc3, kf0, kf1, kz0, kz1, kz2, kz3⟩ := hX4.facts
        rw [sub_str, show Tk.sub s.data.toList s.size s.size = [] from by simp [Tk.sub]]
        have hmx : acc.length + 1 ≤ maxLen := by unfold maxLen; omega
        go_wp2_with (at_builtin; refine wpList_append_own _ rfl _ _ 43 rfl (w.heap.size + 2) 48 i0 (.agg #[.int .i64 0, .string ⟨#[]⟩, .int .i64 0]) 3 32 Tryz.underlying43 hi hz0 hz1 hz2 rfl (by decide) _ _ _ rfl (hown4.alloc _) ⟨w4.heap.size, 0, none⟩ 1 1 [.int .i64 0, .string ⟨#[]⟩, .int .i64 (s.size : Int)] rfl rfl (cells_new _ _ _) (by simp [Value.oneCell']) hmx (by omega) (by simp; omega) ?_; intro v' w9 hown' hgrow _; have hX9 := (hX4.alloc (.cells #[.int .i64 0, .string ⟨#[]⟩, .int .i64 (s.size : Int)] 48)).grown hgrow (fun q e => (hown.lt q e).1); obtain ⟨ml, ml2, mc0, mc1, mc2, mc3, mf0, mf1, mz0, mz1, mz2, mz3⟩ := hX9.facts)
        have hlen : (acc ++ [((0, [], s.size) : Tk.T)]).length = acc.length + 1 := by simp
        have hfl : Tk.flat (acc ++ [((0, [], s.size) : Tk.T)]) = Tk.flat acc ++ [.int .i64 0, .string ⟨#[]⟩, .int .i64 (s.size : Int)] := Tk.flat_snoc _ _
        have hB9 := hX9.2.2
        have ho9 : ((w9.setCell ⟨w.heap.size, 0, none⟩ (.int .i64 0)).setCell ⟨w.heap.size, 1, none⟩ (.int .i64 0)).ownsRow (w.heap.size + 2) 48 3 v' (acc.length + 1) (Tk.flat acc ++ [.int .i64 0, .string ⟨#[]⟩, .int .i64 (s.size : Int)]) :=
          ownsRow_setCell_below (ownsRow_setCell_below hown' (by simp) _) (by simp) _
        rw [HRE.out]
        refine bodyPost_ret (v := .tuple #[v', Tk.fauV 0 0]) (by simp [results, Tryz.results31, go_sem, Tk.fauV, mz0, mz1, ml, ml2, mf0, mf1]) rfl ⟨v', rfl, ?_, (hB9.setCell (p := ⟨w.heap.size, 0, none⟩) (Nat.le_refl _) _).setCell (p := ⟨w.heap.size, 1, none⟩) (Nat.le_refl _) _⟩
        rw [hlen, hfl]
        exact own_less ho9 (by omega)
      · have hlt : sa < s.size := by omega
        have e0 : ((sa : Int) == (s.size : Int)) = false := by rw [beq_eq_false_iff_ne]; omega
        have hX3 := hX2.alloc (.cells #[.int .i64 sp, .int .i64 0] 26)
        have hown3 := hown2.alloc (.cells #[.int .i64 sp, .int .i64 0] 26)
        cases hrd : Tk.read s.data.toList sa en b with
        | fault p c =>
          have hc := Tk.read_bad hrd
          have HRD := Lib.hid hrd; clear hrd
          have hre : Tk.toks (f' + 1) s.data.toList a en b acc = .error (p, c) := by rw [Tk.toks, HSK.out, if_pos rfl, if_neg (by rw [HZ.out]; exact hend), HRD.out]
          have HRE : Hid (R = .error (p, c)) := by rw [← hr.out]; exact hre
          clear hre
          have ec : (c != 0) = true := by rw [bne_iff_ne]; exact hc
          go_wp2_with fail
          refine (read_any s (w.heap.size + 1) sa en b _ hs hlt hen hX3.1).mono ?_
          intro e w4 hp
          rw [HRD.out] at hp
          obtain ⟨rfl, hG4⟩ := hp
          have hF4 := hX3.2.1.grown hG4 (by simp)
          have hB4 := below_gb hX3.2.2 hG4 hX3.2.2.size (by omega)
          clear kl kl2 kc0 kc1 kc2 kc3 kf0 kf1 kz0 kz1 kz2 kz3
          have kl2 := hF4.lt
          have kl3 : w.heap.size < w4.heap.size + 1 := by omega
          have kf0 : w4.cell? ⟨w.heap.size, 0, none⟩ = some (.int .i64 0) := by simpa using hF4.cell 0
          have kf1 : w4.cell? ⟨w.heap.size, 1, none⟩ = some (.int .i64 0) := by simpa using hF4.cell 1
          have kz0 := hF4.frozen 0
          have kz1 := hF4.frozen 1
          unfold Tk.tokV Tk.fauV
          go_wp2_with fail
          go_region
          go_wp2_with fail
          rw [HRE.out]
          exact bodyPost_ret (v := .tuple #[.slice none 0 0, Tk.fauV p c]) (by simp [results, Tryz.results31, go_sem, Tk.fauV, kz0, kz1, kl2, kl3, kf0, kf1]) rfl ⟨rfl, (by have hMBE := Below.size hB4; repeat (first | with_reducible exact hB4 | (with_reducible refine Below.drew ?_) | (with_reducible refine Below.setCell ?_ (by dsimp only; omega) _) | (with_reducible refine Below.alloc ?_ (by simp only [World.size_setCell, World.size_alloc]; omega) _)))⟩
        | tok k tx z =>
          obtain ⟨hz1', hz2', htl⟩ := Tk.read_ok (by rw [HZ.out]; exact hs) (by rw [HZ.out]; exact hlt) hrd
          rw [HZ.out] at hz2'
          have HRD := Lib.hid hrd; clear hrd
          go_wp2_with fail
          refine (read_any s (w.heap.size + 1) sa en b _ hs hlt hen hX3.1).mono ?_
          intro e w4 hp
          rw [HRD.out] at hp
          obtain ⟨rfl, hS4, hG4⟩ := hp
          have hX4 := hX3.step hG4 hS4
          have hown4 := hown3.kept hG4 (by
            rcases hob : u5.ownBlock with _ | q
            · exact .inl rfl
            · right; have := (hown.lt q hob).1; simp; omega)
          clear kl kl2 kc0 kc1 kc2 kc3 kf0 kf1 kz0 kz1 kz2 kz3
          obtain ⟨kl, kl2, kc0, kc1, kc2, kc3, kf0, kf1, kz0, kz1, kz2, kz3⟩ := hX4.facts
          unfold Tk.tokV Tk.fauV
          go_wp2_with fail
          have hX5 := (hX4.alloc (.cells #[.int .i64 k, .string ⟨tx.toArray⟩, .int .i64 sa] 48)).alloc (.cells #[.int .i64 0, .int .i64 0] 26)
          have hT5 := Blk.alloc (Blk.new w4 48 #[.int .i64 k, .string ⟨tx.toArray⟩, .int .i64 sa]) (.cells #[.int .i64 0, .int .i64 0] 26)
          have hown5 := (hown4.alloc (.cells #[.int .i64 k, .string ⟨tx.toArray⟩, .int .i64 sa] 48)).alloc (.cells #[.int .i64 0, .int .i64 0] 26)
          have hG5 := hG.below hX5.2.2 hgl
          refine (check_any k ⟨tx.toArray⟩ sa _ (by simpa [ByteArray.size] using htl) hG5).mono ?_; rintro e w6 ⟨rfl, hB6⟩
          rw [show ({ data := tx.toArray } : ByteArray).data.toList = tx from rfl]
          have hX6 := hX5.below hB6
          have hT6 := hT5.below hB6 hT5.lt
          have hown6 := hown5.kept (row := none) ⟨hB6.os, hB6.tape, hB6.output, hB6.size, fun q hq _ => hB6.block q hq⟩ (by
            rcases hob : u5.ownBlock with _ | q
            · exact .inl rfl
            · right; simp)
          clear kl kl2 kc0 kc1 kc2 kc3 kf0 kf1 kz0 kz1 kz2 kz3
          obtain ⟨kl, kl2, kc0, kc1, kc2, kc3, kf0, kf1, kz0, kz1, kz2, kz3⟩ := hX6.facts
          have hw46 : w.heap.size + 1 < w4.heap.size := Blk.lt hX4.1
          have hn0 : w6.cell? ⟨w4.heap.size, 0, none⟩ = some (.int .i64 k) := by simpa using hT6.cell 0
          have hn1 : w6.cell? ⟨w4.heap.size, 1, none⟩ = some (.string ⟨tx.toArray⟩) := by simpa using hT6.cell 1
          have hn2 : w6.cell? ⟨w4.heap.size, 2, none⟩ = some (.int .i64 sa) := by simpa using hT6.cell 2
          obtain ⟨cc, hcc⟩ : ∃ cc, Tk.check k tx = cc := ⟨_, rfl⟩
          have HCC := Lib.hid hcc
          rw [hcc]
          clear hcc
          by_cases hcz : cc = 0
          · subst hcz
            have hre : Tk.toks (f' + 1) s.data.toList a en b acc = Tk.toks f' s.data.toList z z (k == 1 || k == 2) (acc ++ [(k, tx, sa)]) := by
              rw [Tk.toks, HSK.out, if_pos rfl, if_neg (by rw [HZ.out]; exact hend), HRD.out]
              dsimp only
              rw [if_pos HCC.out]
            have HRE : Hid (Tk.toks f' s.data.toList z z (k == 1 || k == 2) (acc ++ [(k, tx, sa)]) = R) := by rw [← hre]; exact hr.out
            clear hre
            have hmx : acc.length + 1 ≤ maxLen := by unfold maxLen; omega
            obtain ⟨nb, hnb⟩ : ∃ nb, (k == 1 || k == 2) = nb := ⟨_, rfl⟩
            have HNB := Lib.hid hnb; clear hnb
            cases hk1 : (k == 1) <;> cases hk2 : (k == 2)
            · obtain rfl : nb = false := by rw [← HNB.out, hk1, hk2]; rfl
              have hX7 : TFr w ((w6.setCell ⟨w.heap.size + 1, 3, none⟩ (.bool false)).setCell ⟨w.heap.size + 1, 2, none⟩ (.int .i64 z)) s z z false :=
                ⟨Blk.put (Blk.put hX6.1 3 (.bool false)) 2 (.int .i64 z), (hX6.2.1.far (by simp) _).far (by simp) _, (hX6.2.2.setCell (by simp) _).setCell (by simp) _⟩
              have hown7 : ((w6.setCell ⟨w.heap.size + 1, 3, none⟩ (.bool false)).setCell ⟨w.heap.size + 1, 2, none⟩ (.int .i64 z)).ownsRow (w.heap.size + 2) 48 3 u5 acc.length (Tk.flat acc) :=
                ownsRow_setCell_below (ownsRow_setCell_below hown6 (by simp) _) (by simp) _
              have hnew := cells_new ((w6.setCell ⟨w.heap.size + 1, 3, none⟩ (.bool false)).setCell ⟨w.heap.size + 1, 2, none⟩ (.int .i64 z)) [.int .i64 k, .string ⟨tx.toArray⟩, .int .i64 (sa : Int)] 48
              rw [World.size_setCell, World.size_setCell] at hnew
              have HNEW := Lib.hid hnew; clear hnew
              go_wp2_with (at_builtin; refine wpList_append_own _ rfl _ _ 43 rfl (w.heap.size + 2) 48 i0 (.agg #[.int .i64 0, .string ⟨#[]⟩, .int .i64 0]) 3 32 Tryz.underlying43 hi hz0 hz1 hz2 rfl (by decide) _ _ _ rfl (hown7.alloc _) ⟨w6.heap.size, 0, none⟩ 1 1 [.int .i64 k, .string ⟨tx.toArray⟩, .int .i64 (sa : Int)] rfl rfl HNEW.out (by simp [Value.oneCell']) hmx (by omega) (by simp; omega) ?_; intro v' w9 hown' hgrow _; have hX9 := (hX7.alloc (.cells #[.int .i64 k, .string ⟨tx.toArray⟩, .int .i64 (sa : Int)] 48)).grown hgrow (fun q e => (hown.lt q e).1))
              go_roundw
              case rel => exact ⟨z, z, f', false, acc ++ [(k, tx, sa)], hX9, hz2', hz2', by simp; omega, by rw [List.length_append, Tk.flat_snoc]; exact hown', by omega, Lib.hid (by rw [← HNB.out]; exact HRE.out)⟩
              case measure => rw [Scan.at_ hX.1, Scan.at_ hX9.1]; omega
            · obtain rfl : nb = true := by rw [← HNB.out, hk1, hk2]; rfl
              have hX7 : TFr w ((w6.setCell ⟨w.heap.size + 1, 3, none⟩ (.bool true)).setCell ⟨w.heap.size + 1, 2, none⟩ (.int .i64 z)) s z z true :=
                ⟨Blk.put (Blk.put hX6.1 3 (.bool true)) 2 (.int .i64 z), (hX6.2.1.far (by simp) _).far (by simp) _, (hX6.2.2.setCell (by simp) _).setCell (by simp) _⟩
              have hown7 : ((w6.setCell ⟨w.heap.size + 1, 3, none⟩ (.bool true)).setCell ⟨w.heap.size + 1, 2, none⟩ (.int .i64 z)).ownsRow (w.heap.size + 2) 48 3 u5 acc.length (Tk.flat acc) :=
                ownsRow_setCell_below (ownsRow_setCell_below hown6 (by simp) _) (by simp) _
              have hnew := cells_new ((w6.setCell ⟨w.heap.size + 1, 3, none⟩ (.bool true)).setCell ⟨w.heap.size + 1, 2, none⟩ (.int .i64 z)) [.int .i64 k, .string ⟨tx.toArray⟩, .int .i64 (sa : Int)] 48
              rw [World.size_setCell, World.size_setCell] at hnew
              have HNEW := Lib.hid hnew; clear hnew
              go_wp2_with (at_builtin; refine wpList_append_own _ rfl _ _ 43 rfl (w.heap.size + 2) 48 i0 (.agg #[.int .i64 0, .string ⟨#[]⟩, .int .i64 0]) 3 32 Tryz.underlying43 hi hz0 hz1 hz2 rfl (by decide) _ _ _ rfl (hown7.alloc _) ⟨w6.heap.size, 0, none⟩ 1 1 [.int .i64 k, .string ⟨tx.toArray⟩, .int .i64 (sa : Int)] rfl rfl HNEW.out (by simp [Value.oneCell']) hmx (by omega) (by simp; omega) ?_; intro v' w9 hown' hgrow _; have hX9 := (hX7.alloc (.cells #[.int .i64 k, .string ⟨tx.toArray⟩, .int .i64 (sa : Int)] 48)).grown hgrow (fun q e => (hown.lt q e).1))
              go_roundw
              case rel => exact ⟨z, z, f', true, acc ++ [(k, tx, sa)], hX9, hz2', hz2', by simp; omega, by rw [List.length_append, Tk.flat_snoc]; exact hown', by omega, Lib.hid (by rw [← HNB.out]; exact HRE.out)⟩
              case measure => rw [Scan.at_ hX.1, Scan.at_ hX9.1]; omega
            · obtain rfl : nb = true := by rw [← HNB.out, hk1, hk2]; rfl
              have hX7 : TFr w ((w6.setCell ⟨w.heap.size + 1, 3, none⟩ (.bool true)).setCell ⟨w.heap.size + 1, 2, none⟩ (.int .i64 z)) s z z true :=
                ⟨Blk.put (Blk.put hX6.1 3 (.bool true)) 2 (.int .i64 z), (hX6.2.1.far (by simp) _).far (by simp) _, (hX6.2.2.setCell (by simp) _).setCell (by simp) _⟩
              have hown7 : ((w6.setCell ⟨w.heap.size + 1, 3, none⟩ (.bool true)).setCell ⟨w.heap.size + 1, 2, none⟩ (.int .i64 z)).ownsRow (w.heap.size + 2) 48 3 u5 acc.length (Tk.flat acc) :=
                ownsRow_setCell_below (ownsRow_setCell_below hown6 (by simp) _) (by simp) _
              have hnew := cells_new ((w6.setCell ⟨w.heap.size + 1, 3, none⟩ (.bool true)).setCell ⟨w.heap.size + 1, 2, none⟩ (.int .i64 z)) [.int .i64 k, .string ⟨tx.toArray⟩, .int .i64 (sa : Int)] 48
              rw [World.size_setCell, World.size_setCell] at hnew
              have HNEW := Lib.hid hnew; clear hnew
              go_wp2_with (at_builtin; refine wpList_append_own _ rfl _ _ 43 rfl (w.heap.size + 2) 48 i0 (.agg #[.int .i64 0, .string ⟨#[]⟩, .int .i64 0]) 3 32 Tryz.underlying43 hi hz0 hz1 hz2 rfl (by decide) _ _ _ rfl (hown7.alloc _) ⟨w6.heap.size, 0, none⟩ 1 1 [.int .i64 k, .string ⟨tx.toArray⟩, .int .i64 (sa : Int)] rfl rfl HNEW.out (by simp [Value.oneCell']) hmx (by omega) (by simp; omega) ?_; intro v' w9 hown' hgrow _; have hX9 := (hX7.alloc (.cells #[.int .i64 k, .string ⟨tx.toArray⟩, .int .i64 (sa : Int)] 48)).grown hgrow (fun q e => (hown.lt q e).1))
              go_roundw
              case rel => exact ⟨z, z, f', true, acc ++ [(k, tx, sa)], hX9, hz2', hz2', by simp; omega, by rw [List.length_append, Tk.flat_snoc]; exact hown', by omega, Lib.hid (by rw [← HNB.out]; exact HRE.out)⟩
              case measure => rw [Scan.at_ hX.1, Scan.at_ hX9.1]; omega
            · rw [beq_iff_eq] at hk1 hk2; omega
          · have ec : (cc != 0) = true := by rw [bne_iff_ne]; exact hcz
            have hre : Tk.toks (f' + 1) s.data.toList a en b acc = .error (sa, cc) := by
              rw [Tk.toks, HSK.out, if_pos rfl, if_neg (by rw [HZ.out]; exact hend), HRD.out]
              dsimp only
              rw [HCC.out, if_neg hcz]
            have HRE : Hid (R = .error (sa, cc)) := by rw [← hr.out]; exact hre
            clear hre
            go_wp2_with fail
            go_region
            go_wp2_with fail
            rw [HRE.out]
            have hB66 := hX6.2.2
            exact bodyPost_ret (v := .tuple #[.slice none 0 0, Tk.fauV sa cc]) (by simp [results, Tryz.results31, go_sem, Tk.fauV, kz0, kz1, kl, kl2, kf0, kf1]) rfl ⟨rfl, (by have hMBE := Below.size hB66; repeat (first | with_reducible exact hB66 | (with_reducible refine Below.drew ?_) | (with_reducible refine Below.setCell ?_ (by dsimp only; omega) _) | (with_reducible refine Below.alloc ?_ (by simp only [World.size_setCell, World.size_alloc]; omega) _)))⟩
    · have ec : (sc != 0) = true := by rw [bne_iff_ne]; exact hc
      have hre : Tk.toks (f' + 1) s.data.toList a en b acc = .error (sp, sc) := by rw [Tk.toks, HSK.out, if_neg hc]
      have HRE : Hid (R = .error (sp, sc)) := by rw [← hr.out]; exact hre
      clear hre
      go_wp2_with fail
      go_region
      go_wp2_with fail
      rw [HRE.out]
      have hB2 := hX2.2.2
      exact bodyPost_ret (v := .tuple #[.slice none 0 0, Tk.fauV sp sc]) (by simp [results, Tryz.results31, go_sem, Tk.fauV, kz0, kz1, kl, kl2, kf0, kf1]) rfl ⟨rfl, ((((hB2.setCell (p := ⟨w.heap.size, 0, none⟩) (Nat.le_refl _) _).setCell (p := ⟨w.heap.size, 1, none⟩) (Nat.le_refl _) _).alloc (by rw [World.size_setCell, World.size_setCell]; exact hB2.size) _).drew)⟩
end Go.Proofs.YtaefonagbcnmdaaGreatDoor
