/-
  Loads: for every text and configuration Load gives what the document asks: a machine, or the fault with its place. No condition but the card's own: the table of operands' letters holds what the program's text lays.
-/
import Derived.Test.YtnjiinbhbjpfkaaGreatDoorLawsB
import Derived.Test.YtnjiinbhbjpfkaaGreatDoorCards
import Derived.Test.YtnjiinbhbjpfkaaGreatDoorTie
import Derived.ProofKit
import Derived.LaidMore
import Derived.OpenShut
import Derived.Stop.Joined
import Derived.Lib.SmallJoins
/-
  The laws 'load' and 'Loads' answer true, for every text and configuration, where the variable of the operands' letters holds its table.
-/
namespace Go.Proofs.YtnjiinbhbjpfkaaGreatDoor
open Go.RowKit

theorem lnum_any (n : Int) (w : World) : Calls Tryz.prog 32 #[.int .i64 n] w fun e w' => e = .returned (.int .i64 n) ∧ w' = w := by
  go_enter Tryz.func32, Tryz.ntmps32
  go_wp2
  go_ret
  exact ⟨rfl, rfl⟩

set_option maxRecDepth 100000 in
set_option maxHeartbeats 1000000 in
theorem load_any (s : ByteArray) (c0 c1 c2 c3 : Int) (w : World) (hs : s.size ≤ maxLen) (hs2 : s.size ≤ 140737488355328) (hT : Tab w) :
    Calls Tryz.prog 14 #[.string s, .agg #[.int .i64 c0, .int .i64 c1, .int .i64 c2, .int .i64 c3]] w fun e w' => (∃ v, ptrIs v (told s c0 c1 c2 c3).2.2 ∧ e = .returned (.tuple #[v, .bool true])) ∧ Below w.heap.size w w' := by
  have HS : Hid (s.size ≤ maxLen) := hs
  have KT : Hid (Tab w) := hT
  clear hs hT
  go_enter Tryz.func14, Tryz.ntmps14
  go_wp2_with fail
  refine (loadA_any s c0 c1 c2 c3 _ HS.out (KT.out.alloc _)).mono ?_
  rintro e w1 ⟨⟨va, hva, rfl⟩, hB1⟩
  obtain ⟨hc, hf⟩ := bcell hB1
  have hz := hB1.size
  simp at hz
  have KB1 : Hid (Below w.heap.size w w1) := ((Below.refl _ _).alloc (Nat.le_refl _) _).trans (hB1.mono (by simp))
  have a0 : w1.cell? ⟨w.heap.size, 0, none⟩ = some (.int .i64 c0) := by rw [hc _ _ (by simp)]; simp [go_sem]
  have a1 : w1.cell? ⟨w.heap.size, 1, none⟩ = some (.int .i64 c1) := by rw [hc _ _ (by simp)]; simp [go_sem]
  have a2 : w1.cell? ⟨w.heap.size, 2, none⟩ = some (.int .i64 c2) := by rw [hc _ _ (by simp)]; simp [go_sem]
  have a3 : w1.cell? ⟨w.heap.size, 3, none⟩ = some (.int .i64 c3) := by rw [hc _ _ (by simp)]; simp [go_sem]
  clear hc hf hB1
  generalize hT : told s c0 c1 c2 c3 = T at *
  have HT : Hid (told s c0 c1 c2 c3 = T) := hT
  clear hT
  obtain ⟨t1, t2, t3⟩ := T
  simp only at hva
  have l0 : w.heap.size < w1.heap.size := by omega
  go_wp2_with fail
  refine (loadB_any s c0 c1 c2 c3 _ HS.out hs2).mono ?_
  rw [HT.out]
  rintro e w2 ⟨⟨vb, hvb, rfl⟩, hB2⟩
  obtain ⟨hc, hf⟩ := bcell hB2
  have hz2 := hB2.size
  simp at hz2
  have KB2 : Hid (Below w.heap.size w w2) := (KB1.out.alloc (by omega) _).trans (hB2.mono (by simp; omega))
  have f0 : w2.cell? ⟨w1.heap.size, 0, none⟩ = some (.int .i64 t1) := by rw [hc _ _ (by simp)]; simp [go_sem]
  have f1 : w2.cell? ⟨w1.heap.size, 1, none⟩ = some (.int .i64 t2) := by rw [hc _ _ (by simp)]; simp [go_sem]
  clear hc hf hB2 a0 a1 a2 a3 KB1
  have l1 : w1.heap.size < w2.heap.size := by omega
  have n1 : (t1 != t1) = false := by simp
  have n2 : (t2 != t2) = false := by simp
  simp only at hvb
  rcases hva with ⟨rfl, xa, rfl⟩ | ⟨rfl, rfl⟩
  · rcases hvb with ⟨_, xb, rfl⟩ | ⟨h, _⟩
    · go_wp2_with fail
      go_quiet ((go_at_call 32; exact Calls.quiet_of_same (lnum_any _ _)))
      go_wp2_with fail
      go_ret2
      refine ⟨⟨_, ?_, rfl⟩, ?_⟩
      · rw [HT.out]; exact Or.inl ⟨rfl, _, rfl⟩
      · repeat (first | exact KB2.out | refine Below.alloc ?_ (by first | omega | (simp; omega)) _ | refine below_drewN ?_ _)
    · cases h
  · rcases hvb with ⟨h, _⟩ | ⟨_, rfl⟩
    · cases h
    · go_wp2_with fail
      go_quiet ((go_at_call 32; exact Calls.quiet_of_same (lnum_any _ _)))
      go_wp2_with fail
      go_ret2
      refine ⟨⟨_, ?_, rfl⟩, ?_⟩
      · rw [HT.out]; exact Or.inr ⟨rfl, rfl⟩
      · repeat (first | exact KB2.out | refine Below.alloc ?_ (by first | omega | (simp; omega)) _ | refine below_drewN ?_ _)

def firstS : ByteArray := { data := #[1, 2, 3, 0, 0, 0, 5, 20, 0, 0, 0, 14, 0, 0, 0] }
def zeroS : ByteArray := { data := #[0] }
theorem first_told : (told firstS 1 2 1 1).2.2 = true := by decide +kernel
theorem zero_told : (told zeroS 1 2 1 1).2.2 = false := by decide +kernel

set_option maxRecDepth 100000 in
set_option maxHeartbeats 1000000 in
theorem loads_any (s : ByteArray) (c0 c1 c2 c3 : Int) (w : World) (hs : s.size ≤ maxLen) (hs2 : s.size ≤ 140737488355328) (hT : Tab w) :
    Calls Tryz.prog 3 #[.string s, .agg #[.int .i64 c0, .int .i64 c1, .int .i64 c2, .int .i64 c3]] w fun e w' => e = .returned (.bool true) ∧ Below w.heap.size w w' := by
  have HS : Hid (s.size ≤ maxLen) := hs
  have KT : Hid (Tab w) := hT
  clear hs hT
  go_enter Tryz.func3, Tryz.ntmps3
  go_wp2_with (go_at_call 15; go_in)
  refine (load_any firstS 1 2 1 1 _ (by decide) (by decide) (KT.out.alloc _)).mono ?_
  rintro e w1 ⟨⟨v1, hv1, rfl⟩, hB1⟩
  rw [first_told] at hv1
  have KB1 : Hid (Below w.heap.size w w1) := ((Below.refl _ _).alloc (Nat.le_refl _) _).trans (hB1.mono (by simp))
  obtain ⟨x1, rfl⟩ : ∃ x1, v1 = .pointer (some x1) := by
    rcases hv1 with ⟨_, h⟩ | ⟨h, _⟩
    · exact h
    · cases h
  clear hv1
  obtain ⟨hc, hf⟩ := bcell hB1
  have hz := hB1.size
  simp at hz
  have a0 : w1.cell? ⟨w.heap.size, 0, none⟩ = some (.int .i64 c0) := by rw [hc _ _ (by simp)]; simp [go_sem]
  have a1 : w1.cell? ⟨w.heap.size, 1, none⟩ = some (.int .i64 c1) := by rw [hc _ _ (by simp)]; simp [go_sem]
  have a2 : w1.cell? ⟨w.heap.size, 2, none⟩ = some (.int .i64 c2) := by rw [hc _ _ (by simp)]; simp [go_sem]
  have a3 : w1.cell? ⟨w.heap.size, 3, none⟩ = some (.int .i64 c3) := by rw [hc _ _ (by simp)]; simp [go_sem]
  have l0 : w.heap.size < w1.heap.size := by omega
  clear hc hf hB1
  go_wp2_with fail
  refine (load_any zeroS 1 2 1 1 _ (by decide) (by decide) (KT.out.below KB1.out)).mono ?_
  rintro e w2 ⟨⟨v2, hv2, rfl⟩, hB2⟩
  rw [zero_told] at hv2
  obtain rfl : v2 = .pointer none := by
    rcases hv2 with ⟨h, _⟩ | ⟨_, h⟩
    · cases h
    · exact h
  clear hv2
  have KB2 : Hid (Below w.heap.size w w2) := KB1.out.trans (hB2.mono (by omega))
  have b0 := (hB2.cell (p := ⟨w.heap.size, 0, none⟩) l0).trans a0
  have b1 := (hB2.cell (p := ⟨w.heap.size, 1, none⟩) l0).trans a1
  have b2 := (hB2.cell (p := ⟨w.heap.size, 2, none⟩) l0).trans a2
  have b3 := (hB2.cell (p := ⟨w.heap.size, 3, none⟩) l0).trans a3
  have hz2 := hB2.size
  clear hB2 a0 a1 a2 a3 KB1
  go_wp2_with fail
  refine (load_any s c0 c1 c2 c3 _ HS.out hs2 (KT.out.below KB2.out)).mono ?_
  rintro e w3 ⟨⟨v3, hv3, rfl⟩, hB3⟩
  have KB3 : Hid (Below w.heap.size w w3) := KB2.out.trans (hB3.mono (by omega))
  obtain ⟨o3, rfl⟩ : ∃ o3, v3 = .pointer o3 := by
    rcases hv3 with ⟨_, x, h⟩ | ⟨_, h⟩
    · exact ⟨_, h⟩
    · exact ⟨_, h⟩
  clear hv3 hB3 b0 b1 b2 b3 KB2
  go_wp2_with fail
  go_ret
  exact ⟨rfl, KB3.out⟩
end Go.Proofs.YtnjiinbhbjpfkaaGreatDoor

/-
  For every text and every configuration the law Loads returns true, and its arguments read as they did: the program's Load and the document's tell the same fault at the same byte, or both give a machine. No condition on the input; the package-level table of the operands' letters is taken as its initialiser lays it, which the card ties to the program's text.
-/
namespace Go.Proofs.YtnjiinbhbjpfkaaGreatDoor
open Go.ChangeShapes Go.WideShapes Go.ChangeAt Go.WideMaps Go.WideElems Go.RowKit Go.Joins
open Go.ChangeMaps (open_string shut_string)

theorem own : ownKnob Tryz.prog.godebug = none := by kernel_rfl
theorem gOpn : Tryz.prog.globalNamed (Rows.loadsRow.named.headD "") = some 0 := by kernel_rfl
theorem tOpn : (Tryz.prog.globals[0]?).map (·.type) = some 283 := by kernel_rfl
theorem cells9 : Tryz.prog.cellsOf 9 = 1 := by kernel_rfl
theorem cells283 : Tryz.prog.cellsOf 283 = 23 := by kernel_rfl
theorem cells23 : Tryz.prog.cellsOf 23 = 4 := by kernel_rfl

theorem laid_is : (Rows.laid_turnstile_code_operandKinds : DataW Unit) = .agg ((List.range 23).map fun i => .lit (.string (M.KS i).data.toList)) := by rfl

/-- What the row's list gives: the table. -/
theorem tab_of_laid {W : World} (h : laidMetH Tryz.prog Rows.loadsRow.laid W) : Tab W := by
  rw [MakeChecks.laidMetH_plain _ _ _ (by kernel_rfl)] at h
  obtain ⟨ps, ⟨g0, t0, cs0, f0, p0, q0, hg0, ht0, hv0, hd0, _, _⟩, _, _⟩ := h
  obtain rfl : 0 = g0 := Option.some.inj (gOpn.symm.trans hg0)
  obtain rfl : 283 = t0 := Option.some.inj (tOpn.symm.trans ht0)
  obtain ⟨xs, m1, rfl, hx1, hlen, hn3, hel⟩ := DataW.trod_array Tryz.underlying283 hd0
  simp only [Prod.mk.injEq] at hx1
  have hx := hx1.1
  have key : ∀ op, op < 23 → W.cell? ⟨0, op, none⟩ = some (.string (M.KS op)) := by
    intro op ho
    have h1 := hel op ho
    have hxo : xs[op]? = some (xs[op]'(by omega)) := List.getElem?_eq_getElem (by omega)
    rw [hxo, cells9] at h1
    obtain ⟨S, e1, e2, _⟩ := DataW.trod_string Tryz.underlying9 h1
    have hS : S = M.KS op := by
      have e3 : (.agg ((List.range 23).map fun i => .lit (.string (M.KS i).data.toList)) : DataW Unit) = .agg (xs.map (·.1)) := laid_is.symm.trans hx
      simp only [DataW.agg.injEq] at e3
      have e4 := congrArg (fun l => l[op]?) e3
      simp only [List.getElem?_map, List.getElem?_range ho, hxo, Option.map_some, Option.some.injEq] at e4
      rw [e2] at e4
      simp only [DataW.lit.injEq, Lit.string.injEq] at e4
      have e5 : (M.KS op).data = S.data := Array.toList_inj.1 e4
      cases S; cases hk : M.KS op
      rw [hk] at e5
      exact congrArg ByteArray.mk e5.symm
    have hc := World.var?_cell hg0 hv0 op
    rw [hc, ← hS]
    rw [Nat.mul_one] at e1
    have e6 := congrArg (fun l => l[0]?) e1
    simpa [List.getElem?_take, List.getElem?_drop] using e6
  refine ⟨?_, key⟩
  have := key 0 (by omega)
  exact World.block_lt_of_cell? W ⟨0, 0, none⟩ this

theorem door_met (os : Os) (args : Array Value) : laidMetH Tryz.prog Rows.loadsRow.laid ((World.doorLaid Tryz.prog 400 os).forCall (fun _ _ => 0) ⟨#[], args, []⟩).memory :=
  laidMetH_of_parts3 (fuel := 8) (laidMet_of_run' 8 (by kernel_rfl) (by kernel_rfl)) (by kernel_rfl) (by kernel_rfl)

set_option maxRecDepth 100000 in
theorem lifted (os : Os) (started : os.Started) (H : Type) (enc : TypeId × Value → H) :
    ReturnsInHanded {} Tryz.checked os 3 .any (fun w args => (Rows.loadsSpec.pre enc Tryz.prog Tryz.f3 [] false w args ∧ laidMetH Tryz.prog Rows.loadsRow.laid w) ∧ sizedMet enc Tryz.prog Tryz.f3 (OpenSpec.ofChange Rows.loadsSpec) false w args)
      (Rows.loadsSpec.post enc Tryz.prog Tryz.f3 false true false false) := by
  refine returnsInHanded_of_change_and (C := Tryz.checked) (X := fun w _ => laidMetH Tryz.prog Rows.loadsRow.laid w) (fun _ _ _ hh h => h.of_heap hh) own started (by kernel_rfl) Tryz.func3
    (ChangeSpec.witness_shaped (enc := enc) (C := Tryz.checked) (os := os) (X := fun w _ => laidMetH Tryz.prog Rows.loadsRow.laid w) false (World.doorLaid Tryz.prog 400 os) #[.string { data := #[] }, .agg #[.int .i64 0, .int .i64 0, .int .i64 0, .int .i64 0]] 8 rfl (World.shaped_of_RefB (by kernel_rfl) (by kernel_rfl)) (by kernel_rfl) (by kernel_rfl) (by kernel_rfl) (door_met os _)) ?_
  intro W base args ds gs before hval0 hW hcnd hsz0 hL _
  have hval : ∀ (j : Nat) t v, Tryz.f3.params[j]? = some t → args[j]? = some v → Value.okWide Tryz.prog W .any base t v := hval0
  have hW' := hW
  obtain ⟨p, q, hA0, hV, rfl, hfz, hnd⟩ := hW
  have hA : DataW.TrodAll enc Tryz.prog W 0 (fun _ => true) true Tryz.f3.params.toList args.toList ds p := hA0
  rw [Tryz.params3] at hA hval
  obtain ⟨v0, v1, d0, d1, p0, p1, rfl, rfl, rfl, h0, h1⟩ := trodAll_two hA
  obtain ⟨rfl, rfl⟩ := trodVars_none hV
  have hsz : ((DataW.weightsEach Tryz.prog [9, 23] [d0, d1]).all fun x => decide (x ≤ reachBytes)) = true := hsz0
  have hT : Tab W := tab_of_laid hL
  have h1k := h1
  obtain ⟨s, rfl, rfl, rfl, hs⟩ := open_string Tryz.underlying9 (hval 0 9 v0 rfl rfl) h0
  obtain ⟨u0, u1, u2, u3, y0, y1, y2, y3, m, rfl, rfl, rfl, hy0, hy1, hy2, hy3⟩ := open_agg4 Tryz.underlying23 (by kernel_rfl) cells23 (hval 1 23 v1 rfl rfl) h1
  obtain ⟨c0, e0, rfl, wc0⟩ := DataW.trod_int Tryz.underlying3 hy0
  obtain ⟨c1, e1, rfl, wc1⟩ := DataW.trod_int Tryz.underlying3 hy1
  obtain ⟨c2, e2, rfl, wc2⟩ := DataW.trod_int Tryz.underlying3 hy2
  obtain ⟨c3, e3, rfl, wc3⟩ := DataW.trod_int Tryz.underlying3 hy3
  simp at e0 e1 e2 e3
  subst e0 e1 e2 e3
  have hb := sized_string hsz (j := 0) (t := 9) rfl rfl
  have hb2 : s.size ≤ 140737488355328 := by
    have e : s.data.toList.length = s.size := by simp
    have := reachBytes_lt
    omega
  refine (loads_any s c0 c1 c2 c3 W hs hb2 hT).mono fun e W' ⟨he, hB⟩ => ?_
  subst he
  refine ⟨_, rfl, [.lit (.string s.data.toList), .agg [.lit (.int .i64 c0), .lit (.int .i64 c1), .lit (.int .i64 c2), .lit (.int .i64 c3)]], [], _, [], [], [], hW', ?_, ?_, rfl, ?_, fun h => by cases h⟩
  · exact trodAll_mk1 (shut_bool Tryz.underlying4 _)
  · exact trodAll_mk2 (shut_string Tryz.underlying9 hs) (shut_agg4 (y0 := (.lit (.int .i64 c0), [])) (y1 := (.lit (.int .i64 c1), [])) (y2 := (.lit (.int .i64 c2), [])) (y3 := (.lit (.int .i64 c3), [])) Tryz.underlying23 (by kernel_rfl) cells23 ⟨1, by simp [DataW.trod, Tryz.underlying3, wc0]⟩ ⟨1, by simp [DataW.trod, Tryz.underlying3, wc1]⟩ ⟨1, by simp [DataW.trod, Tryz.underlying3, wc2]⟩ ⟨1, by simp [DataW.trod, Tryz.underlying3, wc3]⟩)
  · exact hB.frame _

theorem loads_said : Rows.LoadsSaid :=
  OpenClaim.holds_of_wide 3 Tryz.f3 rfl rfl rfl rfl rfl rfl rfl ⟨rfl, rfl, rfl, rfl, rfl⟩ rfl rfl rfl rfl rfl (by kernel_rfl) Tryz.func3 (by kernel_rfl)
    (of_decide_eq_true (by kernel_rfl)) (by unfold Func.isWrapper; first | (rw [if_pos (by decide +kernel)]; kernel_rfl) | (rw [if_neg (by decide +kernel)]; exact ⟨rfl, rfl⟩))
    (fun os started H enc _ => lifted os started H enc)

/-- No parameter wants a stand-in; the program's own looks are off. -/
theorem plain (f : FuncId) (fn : Func) (hf : Tryz.pinned.checked.prog.funcNamed Rows.loadsRow.func = some f) (hfn : Tryz.pinned.checked.prog.funcs[f]? = some fn) :
    false = Tryz.pinned.checked.prog.looks [] ∧ ∀ (j : Nat) t, fn.params[j]? = some t → Tryz.pinned.checked.prog.wantsStandIn t = false := by
  obtain rfl : f = 3 := Option.some.inj ((show Tryz.prog.funcNamed Rows.loadsRow.func = some 3 by kernel_rfl).symm.trans hf) |>.symm
  obtain rfl : fn = Tryz.f3 := (Option.some.inj (Tryz.func3.symm.trans hfn)).symm
  refine ⟨by kernel_rfl, fun j t ht => ?_⟩
  rw [Tryz.params3] at ht
  have hm : t ∈ [9, 23] := by simpa using Array.mem_of_getElem? ht
  have hall : ([9, 23].all fun u => !Tryz.prog.wantsStandIn u) = true := by kernel_rfl
  exact (show Tryz.prog.wantsStandIn t = false by simpa using List.all_eq_true.1 hall t hm)

theorem loads_card : Rows.LoadsCardSaid :=
  Claim7.holds_tied_plain_at .later [] _ _ _ _ loads_said (fun _ h => by cases h) (by kernel_rfl) (fun _ h => by cases h) loads_row_tie rfl ⟨rfl, rfl⟩ (by kernel_rfl) rfl plain (by kernel_rfl)
#print axioms loads_card
end Go.Proofs.YtnjiinbhbjpfkaaGreatDoor


