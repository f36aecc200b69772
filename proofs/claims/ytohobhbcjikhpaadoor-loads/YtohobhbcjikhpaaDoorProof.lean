/-
  For every text and every configuration the law Loads returns true, and its arguments read as they did: the program's Load and the document's tell the same fault at the same byte, or both give a machine. No condition on the input; the package-level table of the operands' letters is taken as its initialiser lays it, which the card ties to the program's text.
-/
import Derived.Test.YtohobhbcjikhpaaDoorCards
import Derived.Test.YtohobhbcjikhpaaDoorTie
import Derived.Test.YtohobhbcjikhpaaDoorTop
import Derived.ProofKit
import Derived.LaidMore
import Derived.OpenShut
import Derived.Stop.Joined
import Derived.Lib.SmallJoins
namespace Go.Proofs.YtohobhbcjikhpaaDoor
open Go.ChangeShapes Go.WideShapes Go.ChangeAt Go.WideMaps Go.WideElems Go.RowKit Go.Joins
open Go.ChangeMaps (open_string shut_string)

theorem own : ownKnob Tryd.prog.godebug = none := by kernel_rfl
theorem gOpn : Tryd.prog.globalNamed (Rows.loadsRow.named.headD "") = some 0 := by kernel_rfl
theorem tOpn : (Tryd.prog.globals[0]?).map (·.type) = some 175 := by kernel_rfl
theorem cells9 : Tryd.prog.cellsOf 9 = 1 := by kernel_rfl
theorem cells175 : Tryd.prog.cellsOf 175 = 23 := by kernel_rfl
theorem cells23 : Tryd.prog.cellsOf 23 = 4 := by kernel_rfl

theorem laid_is : (Rows.laid_turnstile_code_operandKinds : DataW Unit) = .agg ((List.range 23).map fun i => .lit (.string (M.KS i).data.toList)) := by rfl

/-- What the row's list gives: the table. -/
theorem tab_of_laid {W : World} (h : laidMetH Tryd.prog Rows.loadsRow.laid W) : Tab W := by
  rw [MakeChecks.laidMetH_plain _ _ _ (by kernel_rfl)] at h
  obtain ⟨ps, ⟨g0, t0, cs0, f0, p0, q0, hg0, ht0, hv0, hd0, _, _⟩, _, _⟩ := h
  obtain rfl : 0 = g0 := Option.some.inj (gOpn.symm.trans hg0)
  obtain rfl : 175 = t0 := Option.some.inj (tOpn.symm.trans ht0)
  obtain ⟨xs, m1, rfl, hx1, hlen, hn3, hel⟩ := DataW.trod_array Tryd.underlying175 hd0
  simp only [Prod.mk.injEq] at hx1
  have hx := hx1.1
  have key : ∀ op, op < 23 → W.cell? ⟨0, op, none⟩ = some (.string (M.KS op)) := by
    intro op ho
    have h1 := hel op ho
    have hxo : xs[op]? = some (xs[op]'(by omega)) := List.getElem?_eq_getElem (by omega)
    rw [hxo, cells9] at h1
    obtain ⟨S, e1, e2, _⟩ := DataW.trod_string Tryd.underlying9 h1
    have hS : S = M.KS op := by
      have e3 : (.agg ((List.range 23).map fun i => .lit (.string (M.KS i).data.toList)) : DataW Unit) = .agg (xs.map (·.1)) := laid_is.symm.trans hx
      simp only [DataW.agg.injEq] at e3
      have e4 := congrArg (fun l => l[op]?) e3
      simp only [List.getElem?_map, List.getElem?_range ho, hxo, Option.map_some, Option.some.injEq] at e4
      rw [e2] at e4
      simp only [DataW.lit.injEq, Lit.string.injEq] at e4
      have e5 : (M.KS op).data = S.data := Array.toList_inj.1 e4
      cases S; cases hk : M.KS op
      rw [hk] at e5
      exact congrArg ByteArray.mk e5.symm
    have hc := World.var?_cell hg0 hv0 op
    rw [hc, ← hS]
    rw [Nat.mul_one] at e1
    have e6 := congrArg (fun l => l[0]?) e1
    simpa [List.getElem?_take, List.getElem?_drop] using e6
  refine ⟨?_, key⟩
  have := key 0 (by omega)
  exact World.block_lt_of_cell? W ⟨0, 0, none⟩ this

theorem door_met (os : Os) (args : Array Value) : laidMetH Tryd.prog Rows.loadsRow.laid ((World.doorLaid Tryd.prog 400 os).forCall (fun _ _ => 0) ⟨#[], args, []⟩).memory :=
  laidMetH_of_parts3 (fuel := 8) (laidMet_of_run' 8 (by kernel_rfl) (by kernel_rfl)) (by kernel_rfl) (by kernel_rfl)

set_option maxRecDepth 100000 in
theorem lifted (os : Os) (started : os.Started) (H : Type) (enc : TypeId × Value → H) :
    ReturnsInHanded {} Tryd.checked os 3 .any (fun w args => (Rows.loadsSpec.pre enc Tryd.prog Tryd.f3 [] false w args ∧ laidMetH Tryd.prog Rows.loadsRow.laid w) ∧ sizedMet enc Tryd.prog Tryd.f3 (OpenSpec.ofChange Rows.loadsSpec) false w args)
      (Rows.loadsSpec.post enc Tryd.prog Tryd.f3 false true false false) := by
  refine returnsInHanded_of_change_and (C := Tryd.checked) (X := fun w _ => laidMetH Tryd.prog Rows.loadsRow.laid w) (fun _ _ _ hh h => h.of_heap hh) own started (by kernel_rfl) Tryd.func3
    (ChangeSpec.witness_shaped (enc := enc) (C := Tryd.checked) (os := os) (X := fun w _ => laidMetH Tryd.prog Rows.loadsRow.laid w) false (World.doorLaid Tryd.prog 400 os) #[.string { data := #[] }, .agg #[.int .i64 0, .int .i64 0, .int .i64 0, .int .i64 0]] 8 rfl (World.shaped_of_RefB (by kernel_rfl) (by kernel_rfl)) (by kernel_rfl) (by kernel_rfl) (by kernel_rfl) (door_met os _)) ?_
  intro W base args ds gs before hval0 hW hcnd hsz0 hL _
  have hval : ∀ (j : Nat) t v, Tryd.f3.params[j]? = some t → args[j]? = some v → Value.okWide Tryd.prog W .any base t v := hval0
  have hW' := hW
  obtain ⟨p, q, hA0, hV, rfl, hfz, hnd⟩ := hW
  have hA : DataW.TrodAll enc Tryd.prog W 0 (fun _ => true) true Tryd.f3.params.toList args.toList ds p := hA0
  rw [Tryd.params3] at hA hval
  obtain ⟨v0, v1, d0, d1, p0, p1, rfl, rfl, rfl, h0, h1⟩ := trodAll_two hA
  obtain ⟨rfl, rfl⟩ := trodVars_none hV
  have hsz : ((DataW.weightsEach Tryd.prog [9, 23] [d0, d1]).all fun x => decide (x ≤ reachBytes)) = true := hsz0
  have hT : Tab W := tab_of_laid hL
  have h1k := h1
  obtain ⟨s, rfl, rfl, rfl, hs⟩ := open_string Tryd.underlying9 (hval 0 9 v0 rfl rfl) h0
  obtain ⟨u0, u1, u2, u3, y0, y1, y2, y3, m, rfl, rfl, rfl, hy0, hy1, hy2, hy3⟩ := open_agg4 Tryd.underlying23 (by kernel_rfl) cells23 (hval 1 23 v1 rfl rfl) h1
  obtain ⟨c0, e0, rfl, wc0⟩ := DataW.trod_int Tryd.underlying3 hy0
  obtain ⟨c1, e1, rfl, wc1⟩ := DataW.trod_int Tryd.underlying3 hy1
  obtain ⟨c2, e2, rfl, wc2⟩ := DataW.trod_int Tryd.underlying3 hy2
  obtain ⟨c3, e3, rfl, wc3⟩ := DataW.trod_int Tryd.underlying3 hy3
  simp at e0 e1 e2 e3
  subst e0 e1 e2 e3
  have hb := sized_string hsz (j := 0) (t := 9) rfl rfl
  have hb2 : s.size ≤ 140737488355328 := by
    have e : s.data.toList.length = s.size := by simp
    have := reachBytes_lt
    omega
  refine (loads_any s c0 c1 c2 c3 W hs hb2 hT).mono fun e W' ⟨he, hB⟩ => ?_
  subst he
  refine ⟨_, rfl, [.lit (.string s.data.toList), .agg [.lit (.int .i64 c0), .lit (.int .i64 c1), .lit (.int .i64 c2), .lit (.int .i64 c3)]], [], _, [], [], [], hW', ?_, ?_, rfl, ?_, fun h => by cases h⟩
  · exact trodAll_mk1 (shut_bool Tryd.underlying4 _)
  · exact trodAll_mk2 (shut_string Tryd.underlying9 hs) (shut_agg4 (y0 := (.lit (.int .i64 c0), [])) (y1 := (.lit (.int .i64 c1), [])) (y2 := (.lit (.int .i64 c2), [])) (y3 := (.lit (.int .i64 c3), [])) Tryd.underlying23 (by kernel_rfl) cells23 ⟨1, by simp [DataW.trod, Tryd.underlying3, wc0]⟩ ⟨1, by simp [DataW.trod, Tryd.underlying3, wc1]⟩ ⟨1, by simp [DataW.trod, Tryd.underlying3, wc2]⟩ ⟨1, by simp [DataW.trod, Tryd.underlying3, wc3]⟩)
  · exact hB.frame _

theorem loads_said : Rows.LoadsSaid :=
  OpenClaim.holds_of_wide 3 Tryd.f3 rfl rfl rfl rfl rfl rfl rfl ⟨rfl, rfl, rfl, rfl, rfl⟩ rfl rfl rfl rfl rfl (by kernel_rfl) Tryd.func3 (by kernel_rfl)
    (of_decide_eq_true (by kernel_rfl)) (by unfold Func.isWrapper; first | (rw [if_pos (by decide +kernel)]; kernel_rfl) | (rw [if_neg (by decide +kernel)]; exact ⟨rfl, rfl⟩))
    (fun os started H enc _ => lifted os started H enc)

/-- No parameter wants a stand-in; the program's own looks are off. -/
theorem plain (f : FuncId) (fn : Func) (hf : Tryd.pinned.checked.prog.funcNamed Rows.loadsRow.func = some f) (hfn : Tryd.pinned.checked.prog.funcs[f]? = some fn) :
    false = Tryd.pinned.checked.prog.looks [] ∧ ∀ (j : Nat) t, fn.params[j]? = some t → Tryd.pinned.checked.prog.wantsStandIn t = false := by
  obtain rfl : f = 3 := Option.some.inj ((show Tryd.prog.funcNamed Rows.loadsRow.func = some 3 by kernel_rfl).symm.trans hf) |>.symm
  obtain rfl : fn = Tryd.f3 := (Option.some.inj (Tryd.func3.symm.trans hfn)).symm
  refine ⟨by kernel_rfl, fun j t ht => ?_⟩
  rw [Tryd.params3] at ht
  have hm : t ∈ [9, 23] := by simpa using Array.mem_of_getElem? ht
  have hall : ([9, 23].all fun u => !Tryd.prog.wantsStandIn u) = true := by kernel_rfl
  exact (show Tryd.prog.wantsStandIn t = false by simpa using List.all_eq_true.1 hall t hm)

theorem loads_card : Rows.LoadsCardSaid :=
  Claim7.holds_tied_plain_at .later [] _ _ _ _ loads_said (fun _ h => by cases h) (by kernel_rfl) (fun _ h => by cases h) loads_row_tie rfl ⟨rfl, rfl⟩ (by kernel_rfl) rfl plain (by kernel_rfl)
#print axioms loads_card
end Go.Proofs.YtohobhbcjikhpaaDoor
