/-
  Forced: for every input collections are forced just as often as the document asks, a forced one ends the cycle that goes on, and units and cycles behind it are just the document's. No condition but the card's own: the table of operands' letters holds what the program's text lays.
-/
import Derived.Test.YtnjiinbhbjpfkaaGreatDoorRoomL
import Derived.Test.YtnjiinbhbjpfkaaGreatDoorRoomJ
import Derived.Test.YtnjiinbhbjpfkaaGreatDoorRoomN
import Derived.Test.YtnjiinbhbjpfkaaGreatDoorRoomO
import Derived.Test.YtnjiinbhbjpfkaaGreatDoorRoomE
import Derived.Test.YtnjiinbhbjpfkaaGreatDoorRoomF
import Derived.Test.YtnjiinbhbjpfkaaGreatDoorRoomI
import Derived.Test.YtnjiinbhbjpfkaaGreatDoorRoomA
import Derived.Test.YtnjiinbhbjpfkaaGreatDoorRuleA
import Derived.Deep.QuietTactic
import Derived.BigQuiet
import Derived.Deep.DeepCutAuto
import Derived.Carry
/-
  A task that slept goes to the queue.
-/
namespace Go.Proofs.YtnjiinbhbjpfkaaGreatDoor
open Go.RowKit

set_option maxRecDepth 100000 in
set_option maxHeartbeats 2000000 in
theorem insert_woke (eb tb qb cap zb zc : Nat) (E Tk : Nat → Value) (w : World) (hE : Full w eb 144 44 44 E) (hE31 : E 32 = .slice (some ⟨qb, 0, none⟩) 0 cap) (hE32 : E 33 = .slice (some ⟨zb, 0, none⟩) 1 zc) (hT : Full w tb 160 7 7 Tk) (hT3 : Tk 3 = Pt eb 33)
    (hown : w.ownsRow 0 155 1 (.slice (some ⟨qb, 0, none⟩) 0 cap) 0 []) (hz : w.ownsRow 0 155 1 (.slice (some ⟨zb, 0, none⟩) 1 zc) 1 [P0 tb]) (hne : zb ≠ qb) (hcap : 0 < cap) :
    Calls Tryz.prog 166 #[Pt eb 32, .int .i64 0, P0 tb] w fun e w' => e = .returned (.tuple #[]) ∧ w'.ownsRow 0 155 1 (.slice (some ⟨qb, 0, none⟩) 1 cap) 1 [P0 tb] ∧ w'.ownsRow 0 155 1 (.slice (some ⟨zb, 0, none⟩) 0 zc) 0 [] ∧ Full w' eb 144 44 44 (upd (upd E 33 (.slice (some ⟨zb, 0, none⟩) 0 zc)) 32 (.slice (some ⟨qb, 0, none⟩) 1 cap)) ∧ Full w' tb 160 7 7 (upd (upd (upd (upd Tk 3 (.pointer none)) 4 .nilFunc) 2 (.bool false)) 3 (Pt eb 32)) ∧ Only (fun k => k = eb ∨ k = tb ∨ k = qb ∨ k = zb) w w' := by
  have ne : eb ≠ tb := hE.ne hT (by decide)
  have hso := stepOut32_any eb tb zb zc 0 E Tk w hE hE32 hT hT3 hz
  have HSO := hid hso
  have HO0 : Hid (w.ownsRow 0 155 1 (.slice (some ⟨qb, 0, none⟩) 0 cap) 0 []) := hown
  have HQ := hid (And.intro (own_ne hown hE (by decide) qb rfl) (own_ne hown hT (by decide) qb rfl))
  have HC : Hid (0 < cap) := hcap
  have H31 := hid hE31
  clear hE hT hown hcap hE31 hT3 hE32 hz hso
  go_enter Tryz.func166, Tryz.ntmps166
  go_wp2_with fail
  refine HSO.out.mono ?_
  rintro e w1 ⟨rfl, hz1, hE1, hT1, hO1⟩
  have HO : Hid (w1.ownsRow 0 155 1 (.slice (some ⟨qb, 0, none⟩) 0 cap) 0 []) := own_of HO0.out (fun k h => hO1.same (own_ty HO0.out k h).2.1 (by
    have : qb = k := by injection h
    subst this
    rintro (h | h | h)
    · exact HQ.out.1 h
    · exact HQ.out.2 h
    · exact hne h.symm))
  have HS := hid hO1
  have HZ := hid hz1
  generalize hDE : upd E 33 (.slice (some ⟨zb, 0, none⟩) 0 zc) = E1 at *
  generalize hDT : upd (upd Tk 3 (.pointer none)) 4 .nilFunc = Tk1 at *
  have h31' : E1 32 = .slice (some ⟨qb, 0, none⟩) 0 cap := by rw [← hDE, upd_off _ _ _ _ (by omega)]; exact H31.out
  have h3' : Tk1 3 = .pointer none := by rw [← hDT, upd_off _ _ _ _ (by omega), upd_at]
  have HD := hid (And.intro hDE hDT)
  obtain ⟨c31, z31⟩ := hE1.cells 32 (by omega)
  obtain ⟨c2, z2⟩ := hT1.cells 2 (by omega)
  obtain ⟨c3, z3⟩ := hT1.cells 3 (by omega)
  rw [h31'] at c31
  rw [h3'] at c3
  generalize Tk1 2 = y2 at c2
  have le := hE1.lt
  have lt := hT1.lt
  have HE : Hid (Full w1 eb 144 44 44 E1) := hE1
  have HT : Hid (Full w1 tb 160 7 7 Tk1) := hT1
  clear hE1 hT1 hz1 hO1 h31' h3' hDE hDT HO0 HSO
  go_wp2_with fail
  have hk : ∀ k, (Value.slice (some ⟨qb, 0, none⟩) 0 cap).ownBlock = some k → k ≠ eb ∧ k ≠ tb ∧ k < w1.heap.size := fun k hk => ⟨own_ne HO.out HE.out (by decide) k hk, own_ne HO.out HT.out (by decide) k hk, (own_ty HO.out k hk).2.1⟩
  refine (sinsert_room qb cap 0 w1.heap.size (P0 tb) rfl _ (own_of HO.out (fun k h => ?_)) (by simp [go_sem]) (Nat.zero_le _) HC.out).mono ?_
  · rw [Below.heap_alloc _ _ _ (by simp [World.setCell]; exact (hk k h).2.2), Below.heap_setCell _ _ _ _ (hk k h).2.1, Below.heap_setCell _ _ _ _ (hk k h).2.1]
  rintro e w2 ⟨rfl, ho2, hg2⟩
  have hz := hg2.size
  simp [World.setCell] at hz
  have HE2 : Hid (Full w2 eb 144 44 44 E1) := (((HE.out.off ne).off ne).block (Below.heap_alloc _ _ _ (by simp [World.setCell]; omega))).block (hg2.block eb (by simp [World.setCell]; omega) (fun h => (hk eb h.symm).1 rfl))
  have HT2 : Hid (Full w2 tb 160 7 7 (upd (upd Tk1 2 (.bool false)) 3 (Pt eb 32))) := (((HT.out.upd 2 _).upd 3 _).block (Below.heap_alloc _ _ _ (by simp [World.setCell]; omega))).block (hg2.block tb (by simp [World.setCell]; omega) (fun h => (hk tb h.symm).2.1 rfl))
  have KO : Hid (Only (fun k => k = eb ∨ k = tb ∨ (Value.slice (some ⟨qb, 0, none⟩) 0 cap).ownBlock = some k) w1 w2) := by
    refine Only.trans (S1 := fun k => (Value.slice (some ⟨qb, 0, none⟩) 0 cap).ownBlock = some k) (w1 := ((w1.setCell ⟨tb, 2, none⟩ (.bool false)).setCell ⟨tb, 3, none⟩ (Pt eb 32)).alloc (.cells #[P0 tb] 155)) ?_ ⟨hg2.os, hg2.tape, hg2.output, hg2.size, fun k hk hn => hg2.block k hk (fun e => hn e.symm)⟩ (fun k h _ => Or.inr (Or.inr h))
    exact only_alloc (only_setCell (only_setCell (only_refl _ _) (Or.inl (Or.inr (Or.inl rfl))) _) (Or.inl (Or.inr (Or.inl rfl))) _) _
  have KW : Hid (w2.ownsRow 0 155 1 (.slice (some ⟨qb, 0, none⟩) 1 cap) 1 [P0 tb]) := ho2
  obtain ⟨d31, e31⟩ := HE2.out.cells 32 (by omega)
  have le2 : eb < w2.heap.size := by omega
  generalize E1 32 = y31 at d31
  clear ho2 c31 z31 c2 z2 c3 z3
  have hzq : w2.heap[zb]? = w1.heap[zb]? := by
    rw [hg2.block zb (by simp [World.setCell]; have := (own_ty HZ.out zb rfl).2.1; omega) (by intro e; injection e with e; exact hne e), Below.heap_alloc _ _ _ (by simp [World.setCell]; exact (own_ty HZ.out zb rfl).2.1), Below.heap_setCell _ _ _ _ (own_ne HZ.out HT.out (by decide) zb rfl), Below.heap_setCell _ _ _ _ (own_ne HZ.out HT.out (by decide) zb rfl)]
  have KZ : Hid (w2.ownsRow 0 155 1 (.slice (some ⟨zb, 0, none⟩) 0 zc) 0 []) := own_of HZ.out (fun k h => by injection h with h; subst h; exact hzq)
  clear hg2 hzq
  go_wp2_with fail
  go_end0
  refine ⟨rfl, own_of KW.out (fun k h => Below.heap_setCell _ _ _ _ (own_ne KW.out HE2.out (by decide) k h)), own_of KZ.out (fun k h => Below.heap_setCell _ _ _ _ (own_ne KZ.out HE2.out (by decide) k h)), ?_, ?_, ?_⟩
  · rw [HD.out.1]; exact HE2.out.upd 32 _
  · rw [HD.out.2]; exact HT2.out.off (fun e => ne e.symm)
  · refine only_setCell ((HS.out.mono (fun k h _ => ?_)).trans KO.out (fun k h _ => ?_)) (Or.inl (Or.inl rfl)) _
    · rcases h with h | h | h
      · exact Or.inl h
      · exact Or.inr (Or.inl h)
      · exact Or.inr (Or.inr (Or.inr h))
    · rcases h with h | h | h
      · exact Or.inl h
      · exact Or.inr (Or.inl h)
      · refine Or.inr (Or.inr (Or.inl ?_))
        injection h with h; exact h.symm


set_option maxRecDepth 100000 in
theorem join_woke (eb tb qb cap zb zc : Nat) (E Tk : Nat → Value) (w : World) (hE : Full w eb 144 44 44 E) (hE31 : E 32 = .slice (some ⟨qb, 0, none⟩) 0 cap) (hE32 : E 33 = .slice (some ⟨zb, 0, none⟩) 1 zc) (hT : Full w tb 160 7 7 Tk) (hT3 : Tk 3 = Pt eb 33)
    (hown : w.ownsRow 0 155 1 (.slice (some ⟨qb, 0, none⟩) 0 cap) 0 []) (hz : w.ownsRow 0 155 1 (.slice (some ⟨zb, 0, none⟩) 1 zc) 1 [P0 tb]) (hne : zb ≠ qb) (hcap : 0 < cap) :
    Calls Tryz.prog 110 #[Pt eb 32, P0 tb] w fun e w' => e = .returned (.tuple #[]) ∧ w'.ownsRow 0 155 1 (.slice (some ⟨qb, 0, none⟩) 1 cap) 1 [P0 tb] ∧ w'.ownsRow 0 155 1 (.slice (some ⟨zb, 0, none⟩) 0 zc) 0 [] ∧ Full w' eb 144 44 44 (upd (upd E 33 (.slice (some ⟨zb, 0, none⟩) 0 zc)) 32 (.slice (some ⟨qb, 0, none⟩) 1 cap)) ∧ Full w' tb 160 7 7 (upd (upd (upd (upd Tk 3 (.pointer none)) 4 .nilFunc) 2 (.bool false)) 3 (Pt eb 32)) ∧ Only (fun k => k = eb ∨ k = tb ∨ k = qb ∨ k = zb) w w' := by
  have HI := hid (insert_woke eb tb qb cap zb zc E Tk w hE hE31 hE32 hT hT3 hown hz hne hcap)
  have c31 := hE.cell 32 (by omega)
  rw [hE31] at c31
  clear hE hT hown hcap hE31 hT3 hE32 hz hne
  go_enter Tryz.func110, Tryz.ntmps110
  go_wp2_with fail
  refine HI.out.mono ?_
  rintro e w1 ⟨rfl, h⟩
  have HH := hid h
  clear h
  go_wp2_with fail
  go_end0
  exact ⟨rfl, HH.out⟩

set_option maxRecDepth 100000 in
set_option maxHeartbeats 2000000 in
/-- The time of the only task that sleeps has not come. -/
theorem wake_not (eb tb zb zc : Nat) (U clk : Int) (w : World) (h32 : w.cell? ⟨eb, 33, none⟩ = some (.slice (some ⟨zb, 0, none⟩) 1 zc)) (h27 : w.cell? ⟨eb, 28, none⟩ = some (.int .i64 clk)) (hz : w.cell? ⟨zb, 0, none⟩ = some (P0 tb)) (h5 : w.cell? ⟨tb, 5, none⟩ = some (.int .i64 U)) (hU : ¬ U ≤ clk) :
    Calls Tryz.prog 67 #[P0 eb] w fun e w' => e = .returned (.tuple #[]) ∧ w.grownBy w' none := by
  have hE := fun (w' : World) (h : w'.cell? ⟨eb, 33, none⟩ = some (.slice (some ⟨zb, 0, none⟩) 1 zc)) => empty_any eb 33 1 zc (some ⟨zb, 0, none⟩) w' h
  have hd : decide ((1 : Nat) = 0) = false := rfl
  simp only [hd] at hE
  have hF := fun (w' : World) (h : w'.cell? ⟨eb, 33, none⟩ = some (.slice (some ⟨zb, 0, none⟩) 1 zc)) (h2 : w'.cell? ⟨zb, 0, none⟩ = some (P0 tb)) => first_any eb 33 0 zc zb tb w' h h2
  have HE := hid hE
  have HFF := hid hF
  clear hE hF hd
  go_enter Tryz.func67, Tryz.ntmps67
  go_wp2_with fail
  go_loopw [] (fun wr => wr = w) (fun _ => 0)
  case atStart => rfl
  case round =>
    subst hrel
    go_wp2_with fail
    have hd2 : decide (U ≤ clk) = false := by simpa using hU
    go_quiet (first | (go_at_call 70; refine Calls.quiet_of_same (HE.out _ (by first | exact h32 | simpa using h32))) | (go_at_call 132; refine Calls.quiet_of_same (HFF.out _ (by first | exact h32 | simpa using h32) (by first | exact hz | simpa using hz))))
    go_wp2_with fail
    go_end0
    exact ⟨rfl, grown_drewN (grown_refl _ _) _⟩

set_option maxRecDepth 100000 in
set_option maxHeartbeats 4000000 in
/-- The time of the only task that sleeps has come. -/
theorem wake_yes (eb tb qb cq zb zc : Nat) (U clk : Int) (E Tk : Nat → Value) (w : World) (hE : Full w eb 144 44 44 E) (h27 : E 28 = .int .i64 clk) (hE31 : E 32 = .slice (some ⟨qb, 0, none⟩) 0 cq) (hE32 : E 33 = .slice (some ⟨zb, 0, none⟩) 1 zc) (hT : Full w tb 160 7 7 Tk) (hT3 : Tk 3 = Pt eb 33) (hT5 : Tk 5 = .int .i64 U)
    (hown : w.ownsRow 0 155 1 (.slice (some ⟨qb, 0, none⟩) 0 cq) 0 []) (hz : w.ownsRow 0 155 1 (.slice (some ⟨zb, 0, none⟩) 1 zc) 1 [P0 tb]) (hne : zb ≠ qb) (hcap : 0 < cq) (hU : U ≤ clk) :
    Calls Tryz.prog 67 #[P0 eb] w fun e w' => e = .returned (.tuple #[]) ∧ w'.ownsRow 0 155 1 (.slice (some ⟨qb, 0, none⟩) 1 cq) 1 [P0 tb] ∧ w'.ownsRow 0 155 1 (.slice (some ⟨zb, 0, none⟩) 0 zc) 0 [] ∧ Full w' eb 144 44 44 (upd (upd E 33 (.slice (some ⟨zb, 0, none⟩) 0 zc)) 32 (.slice (some ⟨qb, 0, none⟩) 1 cq)) ∧ Full w' tb 160 7 7 (upd (upd (upd (upd Tk 3 (.pointer none)) 4 .nilFunc) 2 (.bool false)) 3 (Pt eb 32)) ∧ Only (fun k => k = eb ∨ k = tb ∨ k = qb ∨ k = zb) w w' := by
  have h0 : Hid (w.cell? ⟨zb, 0, none⟩ = some (P0 tb)) := by
    show w.cell? _ = _
    rcases hz.2 with ⟨h, _⟩ | ⟨g', c', cur, h1, _, h2, _, _, h3, h4⟩
    · cases h
    · cases h1
      have : cur[0]? = some (P0 tb) := by
        have := congrArg (fun l => l[0]?) h4
        simpa using this
      simp [World.cell?, h2, this]
  have KE := hid hE
  have KT := hid hT
  have KO := hid (And.intro hown hz)
  have HF := hid (And.intro h27 (And.intro hE31 (And.intro hE32 (And.intro hT3 (And.intro hT5 (And.intro hne hcap))))))
  have HE1 := hid (fun (w' : World) (h : w'.cell? ⟨eb, 33, none⟩ = some (.slice (some ⟨zb, 0, none⟩) 1 zc)) => show Calls Tryz.prog 70 #[Pt eb 33] w' (fun e w'' => e = .returned (.bool false) ∧ w'' = w') from empty_any eb 33 1 zc (some ⟨zb, 0, none⟩) w' h)
  have HE0 := hid (fun (w' : World) (h : w'.cell? ⟨eb, 33, none⟩ = some (.slice (some ⟨zb, 0, none⟩) 0 zc)) => show Calls Tryz.prog 70 #[Pt eb 33] w' (fun e w'' => e = .returned (.bool true) ∧ w'' = w') from empty_any eb 33 0 zc (some ⟨zb, 0, none⟩) w' h)
  have HFF := hid (fun (w' : World) (h : w'.cell? ⟨eb, 33, none⟩ = some (.slice (some ⟨zb, 0, none⟩) 1 zc)) (h2 : w'.cell? ⟨zb, 0, none⟩ = some (P0 tb)) => first_any eb 33 0 zc zb tb w' h h2)
  have HU := hid hU
  clear hE hT hown hz h27 hE31 hE32 hT3 hT5 hne hcap hU
  go_enter Tryz.func67, Tryz.ntmps67
  go_wp2_with fail
  go_loopw [] (fun wr => Hid ((wr = w) ∨ (wr.ownsRow 0 155 1 (.slice (some ⟨qb, 0, none⟩) 1 cq) 1 [P0 tb] ∧ wr.ownsRow 0 155 1 (.slice (some ⟨zb, 0, none⟩) 0 zc) 0 [] ∧ Full wr eb 144 44 44 (upd (upd E 33 (.slice (some ⟨zb, 0, none⟩) 0 zc)) 32 (.slice (some ⟨qb, 0, none⟩) 1 cq)) ∧ Full wr tb 160 7 7 (upd (upd (upd (upd Tk 3 (.pointer none)) 4 .nilFunc) 2 (.bool false)) 3 (Pt eb 32)) ∧ Only (fun k => k = eb ∨ k = tb ∨ k = qb ∨ k = zb) w wr))) (fun wr => match wr.cell? ⟨eb, 33, none⟩ with | some (.slice _ n _) => n | _ => 0)
  case atStart => exact Or.inl rfl
  case round =>
    rcases hrel.out with hw | ⟨a1, a2, a3, a4, a5⟩
    · subst hw
      have c32 := KE.out.cell 33 (by omega)
      rw [HF.out.2.2.1] at c32
      have c27 := KE.out.cell 28 (by omega)
      rw [HF.out.1] at c27
      have c5 := KT.out.cell 5 (by omega)
      rw [HF.out.2.2.2.2.1] at c5
      have c31 := KE.out.cell 32 (by omega)
      rw [HF.out.2.1] at c31
      have hz0 := h0.out
      have hd2 : decide (U ≤ clk) = true := by simpa using HU.out
      have hU2 := HU.out
      go_wp2_with fail
      go_quiet (first | (go_at_call 70; refine Calls.quiet_of_same (HE1.out _ (by first | exact c32 | simpa using c32))) | (go_at_call 132; refine Calls.quiet_of_same (HFF.out _ (by first | exact c32 | simpa using c32) (by first | exact hz0 | simpa using hz0))))
      go_wp2_with fail
      go_region_with (first | (go_at_call 132; refine (first_any eb 33 0 zc zb tb _ (by first | exact c32 | simpa using c32) (by first | exact hz0 | simpa using hz0)).mono ?_; rintro e w3 ⟨rfl, rfl⟩) | (go_at_call 110; refine (join_woke eb tb qb cq zb zc E Tk _ (by first | exact KE.out | (show Full wr _ _ _ _ _; exact KE.out)) HF.out.2.1 HF.out.2.2.1 (by first | exact KT.out | (show Full wr _ _ _ _ _; exact KT.out)) HF.out.2.2.2.1 (by first | exact KO.out.1 | (show wr.ownsRow _ _ _ _ _ _; exact KO.out.1)) (by first | exact KO.out.2 | (show wr.ownsRow _ _ _ _ _ _; exact KO.out.2)) HF.out.2.2.2.2.2.1 HF.out.2.2.2.2.2.2).mono ?_; rintro e w4 ⟨rfl, b1, b2, b3, b4, b5⟩; have HB := hid (And.intro b1 (And.intro b2 (And.intro b3 (And.intro b4 (show Only _ wr w4 from b5))))); clear b1 b2 b3 b4 b5))
      all_goals
        go_wp2_with fail
        go_roundw
        case rel => exact Or.inr HB.out
        case measure =>
          have e1 := HB.out.2.2.1.cell 33 (by omega)
          rw [upd_off _ _ _ _ (by omega), upd_at] at e1
          simp only [e1, c32]
          omega
    · have c32 := a3.cell 33 (by omega)
      rw [upd_off _ _ _ _ (by omega), upd_at] at c32
      have HA := hid (And.intro a1 (And.intro a2 (And.intro a3 (And.intro a4 a5))))
      clear a1 a2 a3 a4 a5 hrel
      go_wp2_with fail
      go_quiet (first | (go_at_call 70; refine Calls.quiet_of_same (HE0.out _ (by first | exact c32 | simpa using c32))))
      go_wp2_with fail
      go_end0
      exact ⟨rfl, HA.out⟩
end Go.Proofs.YtnjiinbhbjpfkaaGreatDoor

/-
  A turn of an engine whose task sleeps; its time; its state.
-/
namespace Go.Proofs.YtnjiinbhbjpfkaaGreatDoor
open Go.RowKit

/-- The same machine, the row of those that sleep at another place. -/
def Geo.rows (g : Geo) (zb zc : Nat) : Geo := { g with sa := some ⟨zb, 0, none⟩, sc := zc }

theorem Run.rows {w : World} {g : Geo} {C : List B.In} {q : Nat} {kd : B.Kd} {vb : Vs} {s : B.St} {E Tk : Nat → Value} (zb zc : Nat) (h : Run w g C q kd vb s E Tk) : Run w (g.rows zb zc) C q kd vb s E Tk :=
  { hK := { hT := h.hK.hT, t0 := h.hK.t0, t1 := h.hK.t1, t6 := h.hK.t6, o28 := h.hK.o28, o29 := h.hK.o29, oK := h.hK.oK, hxe := h.hK.hxe, hxt := h.hK.hxt, hC := h.hK.hC, hA := h.hK.hA }
    hE := h.hE
    eE := { e1 := h.eE.e1, e2 := h.eE.e2, hwk := h.eE.hwk, eA := h.eE.eA, e26 := h.eE.e26, e27 := h.eE.e27, e28 := h.eE.e28, e29 := h.eE.e29, e30 := h.eE.e30, e41 := h.eE.e41, hck := h.eE.hck }
    hF := h.hF, hS := h.hS, hH := h.hH, ok := h.ok, hn := h.hn, hp := h.hp, hvr := h.hvr, hro := h.hro }

section
variable {w w' : World} {g : Geo} {C : List B.In} {q : Nat} {kd : B.Kd} {vb : Vs} {s : B.St} {E Tk : Nat → Value} {qb cq zb zc : Nat} {U : Int}
/-- The task has gone to the queue. -/
theorem Zzz.woke (h : Zzz w g C q kd vb s E Tk qb cq zb zc U) (hq : 1 ≤ q ∧ q ≤ 50) (h42 : E 43 = .slice none 0 0)
    (o31 : w'.ownsRow 0 155 1 (.slice (some ⟨qb, 0, none⟩) 1 cq) 1 [P0 g.tb]) (o32 : w'.ownsRow 0 155 1 (.slice (some ⟨zb, 0, none⟩) 0 zc) 0 []) (hE : Full w' g.eb 144 44 44 (upd (upd E 33 (.slice (some ⟨zb, 0, none⟩) 0 zc)) 32 (.slice (some ⟨qb, 0, none⟩) 1 cq)))
    (hT : Full w' g.tb 160 7 7 (upd (upd (upd (upd Tk 3 (.pointer none)) 4 .nilFunc) 2 (.bool false)) 3 (Pt g.eb 32))) (hO : Only (fun k => k = g.eb ∨ k = g.tb ∨ k = qb ∨ k = zb) w w') :
    Que w' (g.rows zb zc) C q kd vb s (upd (upd E 33 (.slice (some ⟨zb, 0, none⟩) 0 zc)) 32 (.slice (some ⟨qb, 0, none⟩) 1 cq)) (upd (upd (upd (upd Tk 3 (.pointer none)) 4 .nilFunc) 2 (.bool false)) 3 (Pt g.eb 32)) qb cq := by
  have hR := h.hR.lines (Z := fun k => k = qb ∨ k = zb) hO (by rintro k (rfl | rfl); exact kty_own h.o31 rfl; exact kty_own h.o32 rfl) (by rintro (e | e); exact h.nqb.1 e.symm; exact h.nzb.1 e.symm) (by rintro (e | e); exact h.nqb.2 e.symm; exact h.nzb.2.1 e.symm) hE ((h.hR.eE.upd 33 _ (Or.inr (Or.inl rfl))).upd 32 _ (Or.inl rfl)) hT rfl rfl rfl
  refine { hR := hR.rows zb zc, t2 := rfl, t3 := rfl, e31 := rfl, o31 := o31, e42 := h42, h1 := fun e => h.nqb.1 e.symm, h2 := fun e => h.nqb.2 e.symm, hq := hq, e32 := rfl, o32 := o32, h32 := fun _ => ?_, n32 := fun k hk => ?_ }
  · rcases h.o32.2 with ⟨e, _⟩ | ⟨g', c', cur, h1, _, _, h4, _⟩
    · cases e
    · cases h1; exact h4
  · have : zb = k := by injection hk
    subst this
    exact h.nzb
end

set_option maxRecDepth 100000 in
theorem runFirst_none (eb qb cq : Nat) (w : World) (c31 : w.cell? ⟨eb, 32, none⟩ = some (.slice (some ⟨qb, 0, none⟩) 0 cq)) (le : eb < w.heap.size) :
    Calls Tryz.prog 68 #[P0 eb] w fun e w' => e = .returned (.tuple #[]) ∧ w' = w := by
  have hem := empty_any eb 32 0 cq (some ⟨qb, 0, none⟩) w c31
  have hd1 : decide ((0 : Nat) = 0) = true := rfl
  rw [hd1] at hem
  have HEM := hid hem
  clear hem hd1
  go_enter Tryz.func68, Tryz.ntmps68
  go_wp2_with fail
  refine HEM.out.mono ?_
  rintro e w1 ⟨rfl, rfl⟩
  go_wp2_with fail
  refine bodyPost_ret (results_none rfl _ _ _) rfl ?_
  exact ⟨rfl, rfl⟩

set_option maxRecDepth 100000 in
set_option maxHeartbeats 4000000 in
/-- Its time has come. -/
theorem eturn_due (tk : Int) (g : Geo) (C : List B.In) (q : Nat) (kd : B.Kd) (vb : Vs) (s : B.St) (E Tk : Nat → Value) (qb cq zb zc : Nat) (U : Int) (w : World) (hZ : Zzz w g C q kd vb s E Tk qb cq zb zc U) (hq : 1 ≤ q ∧ q ≤ 50) (h42 : E 43 = .slice none 0 0) (hU : U ≤ B.aft g.clk tk) :
    Calls Tryz.prog 41 #[P0 g.eb, .int .i64 tk, .slice none 0 0] w fun e w' => ∃ v, e = .returned v ∧ Etd w w' ((g.tick (B.aft g.clk tk)).rows zb zc) C q kd vb s qb cq v := by
  have KZ := hid hZ
  obtain ⟨c27, z27⟩ := hZ.hR.hE.cells 28 (by omega)
  rw [hZ.hR.eE.e27] at c27
  have le := hZ.hR.hE.lt
  have haf := after_gen g.eb g.clk tk w c27 hZ.hR.eE.hck.1 hZ.hR.eE.hck.2
  have hin := B.aft_in (t := tk) hZ.hR.eE.hck.1 hZ.hR.eE.hck.2
  have HIN := hid hin
  have HWK : Hid (g.wk ≤ 50) := hZ.hR.eE.hwk
  generalize hc : B.aft g.clk tk = c at *
  have HAF := hid haf
  have H42 := hid h42
  have HQ := hid hq
  have HU := hid hU
  clear hZ haf hc hin h42 hq hU
  go_enter Tryz.func41, Tryz.ntmps41
  go_wp2_with fail
  refine HAF.out.mono ?_
  rintro e w1 ⟨rfl, rfl⟩
  go_wp2_with fail
  have KZ1 := hid (KZ.out.clock HIN.out)
  have KO1 : Hid (Only (FE ((g.tick c).rows zb zc) qb kd vb) w1 (w1.setCell ⟨g.eb, 28, none⟩ (.int .i64 c))) := only_setCell (only_refl _ _) (Or.inl (Or.inl (Or.inl rfl))) _
  generalize hw2 : w1.setCell ⟨g.eb, 28, none⟩ (.int .i64 c) = w2 at *
  clear hw2 c27 z27 HAF
  refine (receive_any g.eb w2).mono ?_
  rintro e w3 ⟨rfl, rfl⟩
  have c28 : w3.cell? ⟨g.eb, 29, none⟩ = some (.slice (some ⟨g.lb, 0, none⟩) 1 g.cl) := (KZ1.out.hR.hE.cell 29 (by omega)).trans (by rw [KZ1.out.hR.eE.e28]; rfl)
  have c41 : w3.cell? ⟨g.eb, 42, none⟩ = some (.bool false) := (KZ1.out.hR.hE.cell 42 (by omega)).trans (by rw [KZ1.out.hR.eE.e41])
  have le2 : g.eb < w3.heap.size := KZ1.out.hR.hE.lt
  have hlv := lives_any g.eb 1 g.cl (some ⟨g.lb, 0, none⟩) w3 c28
  have hd1 : decide (0 < 1) = true := rfl
  rw [hd1] at hlv
  have HLV := hid hlv
  clear hlv hd1 c28
  go_wp2_with fail
  refine HLV.out.mono ?_
  rintro e w4 ⟨rfl, rfl⟩
  go_wp2_with fail
  refine (wake_yes g.eb g.tb qb cq zb zc U c _ Tk w4 KZ1.out.hR.hE KZ1.out.hR.eE.e27 KZ1.out.e31 KZ1.out.e32 KZ1.out.hR.hK.hT KZ1.out.t3 KZ1.out.t5 KZ1.out.o31 KZ1.out.o32 KZ1.out.nzb.2.2 KZ1.out.hcq HU.out).mono ?_
  rintro e w5 ⟨rfl, b1, b2, b3, b4, b5⟩
  have KQ5 := hid (KZ1.out.woke HQ.out H42.out b1 b2 b3 b4 b5)
  have KO5 : Hid (Only (FE ((g.tick c).rows zb zc) qb kd vb) w1 w5) := KO1.out.trans b5 (fun k h _ => by
    rcases h with h | h | h | h
    · exact Or.inl (Or.inl h)
    · exact Or.inl (Or.inr (Or.inl h))
    · exact Or.inr (Or.inl h)
    · exact Or.inr (Or.inr (Or.inr (Or.inr (by rw [h]; rfl)))))
  clear b1 b2 b3 b4 b5 c41 HLV
  go_wp2_with fail
  refine (runFirst_any ((g.tick c).rows zb zc) C q kd vb s _ _ qb cq w5 KQ5.out).mono ?_
  rintro e w6 ⟨rfl, hT⟩
  obtain ⟨k2', k27', hwk⟩ := work_turned (g := (g.tick c).rows zb zc) HWK.out (hT.kept (grown_drew (grown_refl w6 none)))
  have k2 : w6.cell? ⟨g.eb, 2, none⟩ = some (.int .i64 g.wk) := k2'
  have k27 : w6.cell? ⟨g.eb, 27, none⟩ = some (P0 g.sb) := k27'
  have le6' : g.eb < w6.heap.size := cell_lt k2
  have HWO : Hid (Calls Tryz.prog 69 #[P0 g.sb, .int .i64 g.wk] w6.drew fun e w7 => e = .returned (.tuple #[]) ∧ TurnedW w5 w7 ((g.tick c).rows zb zc) C q kd vb s qb cq) := hwk
  clear hT k2' k27' hwk
  go_wp2_with fail
  go_cut [] from 30 to 38 (fun wx => Hid (TurnedW w5 wx ((g.tick c).rows zb zc) C q kd vb s qb cq))
  case first =>
    go_region_with (go_at_call 69; refine HWO.out.mono ?_; rintro e w7 ⟨rfl, hT7⟩; have HT7 := hid hT7; clear hT7)
    all_goals
      go_wp2_with fail
      go_meet
      case rel => exact HT7
  case rest =>
    have HT7 : Hid (TurnedW w5 wc ((g.tick c).rows zb zc) C q kd vb s qb cq) := hcut
    obtain ⟨E', v, hE6, e42, ⟨ad, ne, cap, rfl⟩, hE⟩ := etd_of (g := (g.tick c).rows zb zc) KQ5.out.h1 KQ5.out.h2 KQ5.out.hq KQ5.out.h32 KQ5.out.n32 KO5.out HT7.out
    obtain ⟨d42', z42'⟩ := hE6.cells 43 (by omega)
    rw [e42] at d42'
    have d42 : wc.cell? ⟨g.eb, 43, none⟩ = some (.slice ad ne cap) := d42'
    have z42 : wc.frozen? ⟨g.eb, 43, none⟩ = false := z42'
    clear d42' z42' k2 k27
    have le6 : g.eb < wc.heap.size := hE6.lt
    have HR := hid hE
    clear hE6 e42 hE
    go_wp2_with fail
    go_ret
    exact ⟨_, rfl, HR.out⟩

set_option maxRecDepth 100000 in
set_option maxHeartbeats 4000000 in
/-- Its time has not come. -/
theorem eturn_not (tk : Int) (g : Geo) (C : List B.In) (q : Nat) (kd : B.Kd) (vb : Vs) (s : B.St) (E Tk : Nat → Value) (qb cq zb zc : Nat) (U : Int) (w : World) (hZ : Zzz w g C q kd vb s E Tk qb cq zb zc U) (h42 : E 43 = .slice none 0 0) (hU : ¬ U ≤ B.aft g.clk tk) :
    Calls Tryz.prog 41 #[P0 g.eb, .int .i64 tk, .slice none 0 0] w fun e w' => e = .returned (.slice none 0 0) ∧ Only (fun k => k = g.eb ∨ Sbk g.sb g.pb g.n kd vb k) w w' ∧ ∃ vb' E', E' 43 = .slice none 0 0 ∧ Zzz w' (g.tick (B.aft g.clk tk)) C q (B.work s.2.1 g.nr s.2.2 g.n g.wk kd) vb' s E' Tk qb cq zb zc U ∧ Grew g.n kd vb (B.work s.2.1 g.nr s.2.2 g.n g.wk kd) vb' w.heap.size := by
  have KZ := hid hZ
  obtain ⟨c27, z27⟩ := hZ.hR.hE.cells 28 (by omega)
  rw [hZ.hR.eE.e27] at c27
  have le := hZ.hR.hE.lt
  have haf := after_gen g.eb g.clk tk w c27 hZ.hR.eE.hck.1 hZ.hR.eE.hck.2
  have hin := B.aft_in (t := tk) hZ.hR.eE.hck.1 hZ.hR.eE.hck.2
  have HIN := hid hin
  have HWK : Hid (g.wk ≤ 50) := hZ.hR.eE.hwk
  generalize hc : B.aft g.clk tk = c at *
  have HAF := hid haf
  have H42 := hid h42
  have HU := hid hU
  clear hZ haf hc hin h42 hU
  go_enter Tryz.func41, Tryz.ntmps41
  go_wp2_with fail
  refine HAF.out.mono ?_
  rintro e w1 ⟨rfl, rfl⟩
  go_wp2_with fail
  have KZ1 := hid (KZ.out.clock HIN.out)
  have KO1 : Hid (Only (fun k => k = g.eb) w1 (w1.setCell ⟨g.eb, 28, none⟩ (.int .i64 c))) := only_setCell (S := fun k => k = g.eb) (only_refl _ _) (Or.inl rfl) _
  generalize hw2 : w1.setCell ⟨g.eb, 28, none⟩ (.int .i64 c) = w2 at *
  clear hw2 c27 z27 HAF
  refine (receive_any g.eb w2).mono ?_
  rintro e w3 ⟨rfl, rfl⟩
  have c28 : w3.cell? ⟨g.eb, 29, none⟩ = some (.slice (some ⟨g.lb, 0, none⟩) 1 g.cl) := (KZ1.out.hR.hE.cell 29 (by omega)).trans (by rw [KZ1.out.hR.eE.e28]; rfl)
  have c41 : w3.cell? ⟨g.eb, 42, none⟩ = some (.bool false) := (KZ1.out.hR.hE.cell 42 (by omega)).trans (by rw [KZ1.out.hR.eE.e41])
  have c27 : w3.cell? ⟨g.eb, 28, none⟩ = some (.int .i64 c) := (KZ1.out.hR.hE.cell 28 (by omega)).trans (by rw [KZ1.out.hR.eE.e27]; rfl)
  have c32 : w3.cell? ⟨g.eb, 33, none⟩ = some (.slice (some ⟨zb, 0, none⟩) 1 zc) := (KZ1.out.hR.hE.cell 33 (by omega)).trans (by rw [KZ1.out.e32])
  have c5 : w3.cell? ⟨g.tb, 5, none⟩ = some (.int .i64 U) := (KZ1.out.hR.hK.hT.cell 5 (by omega)).trans (by rw [KZ1.out.t5])
  have cz : w3.cell? ⟨zb, 0, none⟩ = some (P0 g.tb) := own_cell KZ1.out.o32
  have le2 : g.eb < w3.heap.size := KZ1.out.hR.hE.lt
  have hlv := lives_any g.eb 1 g.cl (some ⟨g.lb, 0, none⟩) w3 c28
  have hd1 : decide (0 < 1) = true := rfl
  rw [hd1] at hlv
  have HLV := hid hlv
  have HW := hid (wake_not g.eb g.tb zb zc U c w3 c32 c27 cz c5 (Int.not_le.2 HU.out))
  clear hlv hd1 c28 c27 c32 c5 cz
  go_wp2_with fail
  refine HLV.out.mono ?_
  rintro e w4 ⟨rfl, rfl⟩
  go_wp2_with fail
  refine HW.out.mono ?_
  rintro e w5 ⟨rfl, hg5⟩
  have KZ5 := hid (KZ1.out.grown hg5)
  have KO5 := hid (KO1.out.then0 hg5)
  clear hg5 c41 HLV HW
  have c31 : w5.cell? ⟨g.eb, 32, none⟩ = some (.slice (some ⟨qb, 0, none⟩) 0 cq) := (KZ5.out.hR.hE.cell 32 (by omega)).trans (by rw [KZ5.out.e31])
  have le5 : g.eb < w5.heap.size := KZ5.out.hR.hE.lt
  go_wp2_with fail
  refine (runFirst_none g.eb qb cq w5 c31 le5).mono ?_
  rintro e w6 ⟨rfl, rfl⟩
  have KZ6 := hid (KZ5.out.grown (grown_drew (grown_refl w6 none)))
  have k2 : w6.cell? ⟨g.eb, 2, none⟩ = some (.int .i64 g.wk) := (KZ5.out.hR.hE.cell 2 (by omega)).trans (by rw [KZ5.out.hR.eE.e2]; rfl)
  have k27 : w6.cell? ⟨g.eb, 27, none⟩ = some (P0 g.sb) := (KZ5.out.hR.hE.cell 27 (by omega)).trans (by rw [KZ5.out.hR.eE.e26]; rfl)
  have HWO : Hid (Calls Tryz.prog 69 #[P0 g.sb, .int .i64 g.wk] w6.drew fun e w7 => e = .returned (.tuple #[]) ∧ Wkd w6.drew w7 g.eb g.sb g.pb g.n kd vb s g.nr (B.work s.2.1 g.nr s.2.2 g.n g.wk kd)) := work_any _ g.eb g.sb g.pb g.n g.nr g.wk kd vb s w6.drew KZ6.out.hR.rts HWK.out
  clear c31
  go_wp2_with fail
  go_cut [] from 30 to 38 (fun wx => Hid (Wkd w6.drew wx g.eb g.sb g.pb g.n kd vb s g.nr (B.work s.2.1 g.nr s.2.2 g.n g.wk kd)))
  case first =>
    go_region_with (go_at_call 69; refine HWO.out.mono ?_; rintro e w7 ⟨rfl, hT7⟩; have HT7 := hid hT7; clear hT7)
    all_goals
      go_wp2_with fail
      go_meet
      case rel => exact HT7
  case rest =>
    have HT7 : Hid (Wkd w6.drew wc g.eb g.sb g.pb g.n kd vb s g.nr (B.work s.2.1 g.nr s.2.2 g.n g.wk kd)) := hcut
    obtain ⟨vb', hZ7, hG7, hO7⟩ := KZ6.out.worked HT7.out
    have KZ7 := hid hZ7
    obtain ⟨d42', z42'⟩ := hZ7.hR.hE.cells 43 (by omega)
    have d42 : wc.cell? ⟨g.eb, 43, none⟩ = some (.slice none 0 0) := d42'.trans (by rw [upd_off _ _ _ _ (by omega), H42.out])
    have z42 : wc.frozen? ⟨g.eb, 43, none⟩ = false := z42'
    have le7 : g.eb < wc.heap.size := hZ7.hR.hE.lt
    have HR := hid (KZ7.out.told (v := .slice none 0 0))
    have HGR := hid hG7
    have KO7 : Hid (Only (fun k => k = g.eb ∨ Sbk g.sb g.pb g.n kd vb k) w1 wc) := ((KO5.out.mono (fun k h _ => Or.inl h)).trans hO7 (fun k h _ => Or.inr h))
    have HO : Hid (Only (fun k => k = g.eb ∨ Sbk g.sb g.pb g.n kd vb k) w1 (wc.setCell ⟨g.eb, 43, none⟩ (.slice none 0 0))) := only_setCell KO7.out (Or.inl (Or.inl rfl)) _
    have hz5 := KO5.out.size
    clear d42' z42' k2 k27 hZ7 hG7 hO7
    go_wp2_with fail
    go_ret
    exact ⟨rfl, HO.out, vb', _, upd_at _ _ _, HR.out, fun k hk => (HGR.out k hk).imp id (fun h => by have h' : w6.heap.size ≤ k := h; omega)⟩
end Go.Proofs.YtnjiinbhbjpfkaaGreatDoor

/-
  The state and the time of a machine whose task sleeps.
-/
namespace Go.Proofs.YtnjiinbhbjpfkaaGreatDoor
open Go.RowKit

set_option maxRecDepth 100000 in
set_option maxHeartbeats 2000000 in
theorem waits_yes (eb zb zc : Nat) (w : World) (h32 : w.cell? ⟨eb, 33, none⟩ = some (.slice (some ⟨zb, 0, none⟩) 1 zc)) (le : eb < w.heap.size) :
    Calls Tryz.prog 71 #[P0 eb] w fun e w' => e = .returned (.bool true) ∧ w' = w := by
  have HE1 := hid (fun (w' : World) (h : w'.cell? ⟨eb, 33, none⟩ = some (.slice (some ⟨zb, 0, none⟩) 1 zc)) => show Calls Tryz.prog 70 #[Pt eb 33] w' (fun e w'' => e = .returned (.bool false) ∧ w'' = w') from empty_any eb 33 1 zc (some ⟨zb, 0, none⟩) w' h)
  go_enter Tryz.func71, Tryz.ntmps71
  go_wp2_with fail
  refine (HE1.out w h32).mono ?_
  rintro e w1 ⟨rfl, rfl⟩
  go_wp2_with fail
  go_ret
  exact ⟨rfl, rfl⟩

set_option maxRecDepth 100000 in
theorem eclock_any (eb : Nat) (c : Int) (w : World) (h27 : w.cell? ⟨eb, 28, none⟩ = some (.int .i64 c)) :
    Calls Tryz.prog 44 #[P0 eb] w fun e w' => e = .returned (.int .i64 c) ∧ w' = w := by
  go_enter Tryz.func44, Tryz.ntmps44
  go_wp2_with fail
  go_ret
  exact ⟨rfl, rfl⟩

set_option maxRecDepth 100000 in
set_option maxHeartbeats 2000000 in
theorem estate_slp (eb zb zc qb cq n c : Nat) (a : Option Addr) (w : World) (h41 : w.cell? ⟨eb, 42, none⟩ = some (.bool false)) (h28 : w.cell? ⟨eb, 29, none⟩ = some (.slice a n c)) (hn : 0 < n) (h31 : w.cell? ⟨eb, 32, none⟩ = some (.slice (some ⟨qb, 0, none⟩) 0 cq)) (h32 : w.cell? ⟨eb, 33, none⟩ = some (.slice (some ⟨zb, 0, none⟩) 1 zc)) (le : eb < w.heap.size) :
    Calls Tryz.prog 42 #[P0 eb] w fun e w' => e = .returned (.int .i64 2) ∧ w' = w := by
  have hlv := lives_any eb n c a w h28
  have hd1 : decide (0 < n) = true := by simp; omega
  have hem := empty_any eb 32 0 cq (some ⟨qb, 0, none⟩) w h31
  have hd2 : decide ((0 : Nat) = 0) = true := rfl
  rw [hd1] at hlv
  rw [hd2] at hem
  have HLV := hid hlv
  have HEM := hid hem
  have HW := hid (waits_yes eb zb zc w h32 le)
  clear hlv hem hd1 hd2 h28 h31 h32 hn
  go_enter Tryz.func42, Tryz.ntmps42
  go_wp2_with fail
  refine HLV.out.mono ?_
  rintro e w4 ⟨rfl, rfl⟩
  go_wp2_with fail
  refine HEM.out.mono ?_
  rintro e w4 ⟨rfl, rfl⟩
  go_wp2_with fail
  refine HW.out.mono ?_
  rintro e w4 ⟨rfl, rfl⟩
  go_wp2_with fail
  go_ret
  exact ⟨rfl, rfl⟩

/-- Clock: the engine's, between lock and unlock. -/
theorem clock_face (mb eb : Nat) (x : Int) (w : World) (h0 : w.cell? ⟨mb, 0, none⟩ = some (.int .i32 0)) (f0 : w.frozen? ⟨mb, 0, none⟩ = false) (h2 : w.cell? ⟨mb, 2, none⟩ = some (P0 eb))
    (hE : Hid (Calls Tryz.prog 44 #[P0 eb] (w.setCell ⟨mb, 0, none⟩ (.int .i32 1)) fun e w' => e = .returned (.int .i64 x) ∧ w' = w.setCell ⟨mb, 0, none⟩ (.int .i32 1))) :
    Calls Tryz.prog 28 #[P0 mb] w fun e w' => e = .returned (.int .i64 x) ∧ w' = (w.setCell ⟨mb, 0, none⟩ (.int .i32 1)).setCell ⟨mb, 0, none⟩ (.int .i32 0) := by
  go_enter_defers Tryz.func28, Tryz.ntmps28
  go_wp2_with fail
  refine (lock_any mb w h0 f0).mono ?_
  rintro e w1 ⟨rfl, rfl⟩
  go_wp2_with fail
  refine hE.out.mono ?_
  rintro e w2 ⟨rfl, rfl⟩
  go_wp2_with fail
  refine leaves_cons (f := 40) (args := #[P0 mb]) (by simp) (by simp [go_sem]) ?_
  refine (unlock_deferred ⟨mb, 0, none⟩ .returning _ (by simp [go_sem, h0]) (by simp [go_sem, f0])).mono ?_
  rintro e u' w'' ⟨rfl, rfl, rfl⟩
  exact ⟨_, results_tmp rfl _ _ _, rfl, rfl⟩
end Go.Proofs.YtnjiinbhbjpfkaaGreatDoor

/-
  A machine of one task that may sleep, as the law on sleep sees it: Turn, State, Clock.
-/
namespace Go.Proofs.YtnjiinbhbjpfkaaGreatDoor
open Go.RowKit

theorem Zzz.same {w w' : World} {g : Geo} {C : List B.In} {q : Nat} {kd : B.Kd} {vb : Vs} {s : B.St} {E Tk : Nat → Value} {qb cq zb zc : Nat} {U : Int} (h : Zzz w g C q kd vb s E Tk qb cq zb zc U) (hk : ∀ k, FE (g.rows zb zc) qb kd vb k → w'.heap[k]? = w.heap[k]?) : Zzz w' g C q kd vb s E Tk qb cq zb zc U := by
  have hR : Run w' (g.rows zb zc) C q kd vb s E Tk := (h.hR.rows zb zc).same hk
  have hR' : Run w' g C q kd vb s E Tk :=
    { hK := { hT := hR.hK.hT, t0 := hR.hK.t0, t1 := hR.hK.t1, t6 := hR.hK.t6, o28 := hR.hK.o28, o29 := hR.hK.o29, oK := hR.hK.oK, hxe := hR.hK.hxe, hxt := hR.hK.hxt, hC := hR.hK.hC, hA := hR.hK.hA }
      hE := hR.hE, eE := h.hR.eE, hF := hR.hF, hS := hR.hS, hH := hR.hH, ok := hR.ok, hn := hR.hn, hp := hR.hp, hvr := hR.hvr, hro := hR.hro }
  exact { hR := hR', t2 := h.t2, t3 := h.t3, t5 := h.t5, e31 := h.e31, e32 := h.e32, nqb := h.nqb, hcq := h.hcq, nzb := h.nzb,
          o31 := own_of h.o31 (fun k hb => by
            have : qb = k := by injection hb
            subst this; exact hk _ (Or.inr (Or.inl rfl))),
          o32 := own_of h.o32 (fun k hb => hk _ (Or.inr (Or.inr (Or.inr (Or.inr hb))))) }

/-- A machine whose task waits in the queue, at a time. -/
def Mq (w : World) (mb : Nat) (F : Nat → Prop) (C : List B.In) (nr n q : Nat) (clk : Int) (s : B.St) : Prop :=
  ∃ g kd vb E Tk qb cq, g.nr = nr ∧ g.n = n ∧ g.clk = clk ∧ Que w g C q kd vb s E Tk qb cq ∧ Box w mb g.eb ∧ F mb ∧ ¬ FE g qb kd vb mb ∧ ∀ k, FE g qb kd vb k → F k
/-- A machine whose task sleeps, at a time. -/
def Ms (w : World) (mb : Nat) (F : Nat → Prop) (C : List B.In) (nr n q : Nat) (clk : Int) (s : B.St) (U : Int) : Prop :=
  ∃ g kd vb E Tk qb cq zb zc, g.nr = nr ∧ g.n = n ∧ g.clk = clk ∧ (1 ≤ q ∧ q ≤ 50) ∧ E 43 = .slice none 0 0 ∧ Zzz w g C q kd vb s E Tk qb cq zb zc U ∧ Box w mb g.eb ∧ F mb ∧ ¬ FE (g.rows zb zc) qb kd vb mb ∧ ∀ k, FE (g.rows zb zc) qb kd vb k → F k
theorem Mq.keep {w w' : World} {mb : Nat} {F : Nat → Prop} {C : List B.In} {nr n q : Nat} {clk : Int} {s : B.St} (h : Mq w mb F C nr n q clk s) (hk : ∀ k, F k → w'.heap[k]? = w.heap[k]?) : Mq w' mb F C nr n q clk s := by
  obtain ⟨g, kd, vb, E, Tk, qb, cq, h1, h2, h3, h4, ⟨x, h5⟩, h6, h7, h8⟩ := h
  exact ⟨g, kd, vb, E, Tk, qb, cq, h1, h2, h3, h4.same (fun k h => hk k (h8 k h)), ⟨x, (hk mb h6).trans h5⟩, h6, h7, h8⟩
theorem Ms.keep {w w' : World} {mb : Nat} {F : Nat → Prop} {C : List B.In} {nr n q : Nat} {clk : Int} {s : B.St} {U : Int} (h : Ms w mb F C nr n q clk s U) (hk : ∀ k, F k → w'.heap[k]? = w.heap[k]?) : Ms w' mb F C nr n q clk s U := by
  obtain ⟨g, kd, vb, E, Tk, qb, cq, zb, zc, h1, h2, h3, hq, h42, h4, ⟨x, h5⟩, h6, h7, h8⟩ := h
  exact ⟨g, kd, vb, E, Tk, qb, cq, zb, zc, h1, h2, h3, hq, h42, h4.same (fun k h => hk k (h8 k h)), ⟨x, (hk mb h6).trans h5⟩, h6, h7, h8⟩

/-- What a turn leaves of a machine that may sleep. -/
def Tp (w w' : World) (mb : Nat) (F : Nat → Prop) (C : List B.In) (nr n q : Nat) (clk : Int) (s : B.St) (v : Value) : Prop :=
  ∃ F' s' r ev ad len cap, v = .slice ad len cap ∧ len ≤ maxLen ∧ Evs w' ad len ev ∧ Only F w w' ∧ (∀ k, F' k → F k ∨ (w.heap.size ≤ k ∧ k < w'.heap.size)) ∧ B.Runs2 clk C nr n q s s' r ev ∧
    (r = 4 → ∃ a, C[s'.1 - 1]? = some (17, a, 0, 0) ∧ (s'.2.1 a).1 = 0 ∧ Ms w' mb F' C nr n q clk s' (B.aft clk (s'.2.1 a).2))

theorem tp_of {w w1 : World} {mb : Nat} {F : Nat → Prop} {g : Geo} {C : List B.In} {q : Nat} {kd : B.Kd} {vb : Vs} {s : B.St} {qb cq : Nat} {v x : Value} (hq : 1 ≤ q ∧ q ≤ 50) (hB : w.heap[mb]? = some (.cells #[.int .i32 0, x, P0 g.eb] 105 (0, 0))) (hF : F mb) (hN : ¬ FE g qb kd vb mb) (hFE : ∀ k, FE g qb kd vb k → F k)
    (h : Etd (w.setCell ⟨mb, 0, none⟩ (.int .i32 1)) w1 g C q kd vb s qb cq v) : Tp w (w1.setCell ⟨mb, 0, none⟩ (.int .i32 0)) mb F C g.nr g.n q g.clk s v := by
  obtain ⟨s', kd1, r, ev, ad, ne, cap, rfl, a1', a2, a3, a4⟩ := h
  have a1 := B.runs_two _ _ _ _ _ _ _ a1'
  have lm := heap_lt hB
  have hB1 : (w.setCell ⟨mb, 0, none⟩ (.int .i32 1)).heap[mb]? = some (.cells #[.int .i32 1, x, P0 g.eb] 105 (0, 0)) := by simp [World.setCell, Array.getElem?_modify, hB]
  have hz1 : (w.setCell ⟨mb, 0, none⟩ (.int .i32 1)).heap.size = w.heap.size := by simp [World.setCell]
  have hb := a2.block hB1 hN
  have hz2 := a2.size
  have hz3 : (w1.setCell ⟨mb, 0, none⟩ (.int .i32 0)).heap.size = w1.heap.size := by simp [World.setCell]
  have hB2 : Box (w1.setCell ⟨mb, 0, none⟩ (.int .i32 0)) mb g.eb := ⟨x, by simp [World.setCell, Array.getElem?_modify, hb]⟩
  have hO : Only F w (w1.setCell ⟨mb, 0, none⟩ (.int .i32 0)) :=
    only_setCell ((only_setCell (S := F) (only_refl F w) (Or.inl hF) _).trans a2 (fun k h _ => hFE k h)) (Or.inl hF) _
  obtain ⟨hev, hml⟩ := evs_of (own_of (w' := w1.setCell ⟨mb, 0, none⟩ (.int .i32 0)) a3 (fun k hk => Below.heap_setCell _ _ _ _ (by show k ≠ mb; have := (own_ty a3 k hk).1; omega)))
  by_cases hr4 : r = 4
  · rcases a4 with ⟨h0, _⟩ | ⟨_, E', hE, hf, h42, hz, _⟩
    · omega
    · obtain ⟨vb', ⟨Tk', zb, zc, U, a, b1, b2, b2', b30, b5⟩, b40⟩ := hz hr4
      obtain ⟨kd', b3, b4⟩ : ∃ kd', Zzz w1 g C q kd' vb' s' E' Tk' qb cq zb zc U ∧ Grew g.n kd vb kd' vb' (w.setCell ⟨mb, 0, none⟩ (.int .i32 1)).heap.size := ⟨_, b30, b40⟩
      have hlz := (own_ty b3.o32 zb rfl).2.1
      have hN2 : ¬ FE (g.rows zb zc) qb kd' vb' mb := by
        rintro (h | h | h | h | h)
        · exact hN (Or.inl h)
        · exact hN (Or.inr (Or.inl h))
        · exact hN (Or.inr (Or.inr (Or.inl h)))
        · rcases b4 mb h with x1 | x1
          · exact hN (Or.inr (Or.inr (Or.inr (Or.inl x1))))
          · omega
        · have hzm : zb = mb := by injection h
          rcases b5 with b5 | b5
          · exact hN (Or.inr (Or.inr (Or.inr (Or.inr (hzm ▸ b5)))))
          · omega
      refine ⟨fun k => k = mb ∨ FE (g.rows zb zc) qb kd' vb' k, s', r, ev, ad, ne, cap, rfl, hml, hev, hO, ?_, a1, fun _ => ⟨a, b1, b2', g, kd', vb', E', Tk', qb, cq, zb, zc, rfl, rfl, rfl, hq, h42, (b2 ▸ b3).same (fun k hk => Below.heap_setCell _ _ _ _ (fun e => hN2 ((show k = mb from e) ▸ hk))), hB2, Or.inl rfl, hN2, fun k hk => Or.inr hk⟩⟩
      rintro k (rfl | h | h | h | h | h)
      · exact Or.inl hF
      · exact Or.inl (hFE k (Or.inl h))
      · exact Or.inl (hFE k (Or.inr (Or.inl h)))
      · exact Or.inl (hFE k (Or.inr (Or.inr (Or.inl h))))
      · rcases b4 k h with x1 | x1
        · exact Or.inl (hFE k (Or.inr (Or.inr (Or.inr (Or.inl x1)))))
        · have := b3.hR.lt.2.2.2.2.2.2.2.2.2.2 k h
          exact Or.inr (by omega)
      · have hzm : zb = k := by injection h
        rcases b5 with b5 | b5
        · exact Or.inl (hFE k (Or.inr (Or.inr (Or.inr (Or.inr (hzm ▸ b5))))))
        · exact Or.inr (by omega)
  · exact ⟨fun _ => False, s', r, ev, ad, ne, cap, rfl, hml, hev, hO, fun k h => h.elim, a1, fun h => absurd h hr4⟩

theorem turnS_q {w : World} {mb : Nat} {F : Nat → Prop} {C : List B.In} {nr n q : Nat} {clk : Int} {s : B.St} (tk : Int) (h : Mq w mb F C nr n q clk s) :
    Calls Tryz.prog 24 #[P0 mb, .int .i64 tk, .slice none 0 0] w fun e w' => ∃ v, e = .returned v ∧ Tp w w' mb F C nr n q (B.aft clk tk) s v := by
  obtain ⟨g, kd, vb, E, Tk, qb, cq, rfl, rfl, rfl, hQ, ⟨x, hB⟩, hF, hN, hFE⟩ := h
  have h0 : w.cell? ⟨mb, 0, none⟩ = some (.int .i32 0) := by simp [World.cell?, hB]
  have f0 : w.frozen? ⟨mb, 0, none⟩ = false := by simp [World.frozen?, hB]
  have h2 : w.cell? ⟨mb, 2, none⟩ = some (P0 g.eb) := by simp [World.cell?, hB]
  have hQ1 : Que (w.setCell ⟨mb, 0, none⟩ (.int .i32 1)) g C q kd vb s E Tk qb cq := hQ.same (fun k hk => Below.heap_setCell _ _ _ _ (fun e => hN ((show k = mb from e) ▸ hk)))
  have hB1 : (w.setCell ⟨mb, 0, none⟩ (.int .i32 1)).heap[mb]? = some (.cells #[.int .i32 1, x, P0 g.eb] 105 (0, 0)) := by simp [World.setCell, Array.getElem?_modify, hB]
  refine (turn_face mb g.eb tk _ rfl w h0 f0 h2 (fun v w1 => Etd (w.setCell ⟨mb, 0, none⟩ (.int .i32 1)) w1 (g.tick (B.aft g.clk tk)) C q kd vb s qb cq v) ?_).mono ?_
  · refine (eturn_any tk g C q kd vb s E Tk qb cq _ hQ1).mono ?_
    rintro e w1 ⟨v, rfl, hE⟩
    obtain ⟨s', kd1, r, ev, ad, ne, cap, rfl, a1, a2, a3, a4⟩ := hE
    have hb := a2.block hB1 hN
    exact ⟨ad, ne, cap, rfl, by simp [World.cell?, hb], by simp [World.frozen?, hb], s', kd1, r, ev, ad, ne, cap, rfl, a1, a2, a3, a4⟩
  · rintro e w' ⟨v, w1, rfl, hE, rfl⟩
    exact ⟨v, rfl, tp_of (g := g.tick (B.aft g.clk tk)) hQ.hq hB hF hN hFE hE⟩

theorem turnS_due {w : World} {mb : Nat} {F : Nat → Prop} {C : List B.In} {nr n q : Nat} {clk U : Int} {s : B.St} (tk : Int) (h : Ms w mb F C nr n q clk s U) (hU : U ≤ B.aft clk tk) :
    Calls Tryz.prog 24 #[P0 mb, .int .i64 tk, .slice none 0 0] w fun e w' => ∃ v, e = .returned v ∧ Tp w w' mb F C nr n q (B.aft clk tk) s v := by
  obtain ⟨g, kd, vb, E, Tk, qb, cq, zb, zc, rfl, rfl, rfl, hq, h42, hZ, ⟨x, hB⟩, hF, hN, hFE⟩ := h
  have h0 : w.cell? ⟨mb, 0, none⟩ = some (.int .i32 0) := by simp [World.cell?, hB]
  have f0 : w.frozen? ⟨mb, 0, none⟩ = false := by simp [World.frozen?, hB]
  have h2 : w.cell? ⟨mb, 2, none⟩ = some (P0 g.eb) := by simp [World.cell?, hB]
  have hZ1 : Zzz (w.setCell ⟨mb, 0, none⟩ (.int .i32 1)) g C q kd vb s E Tk qb cq zb zc U := hZ.same (fun k hk => Below.heap_setCell _ _ _ _ (fun e => hN ((show k = mb from e) ▸ hk)))
  have hB1 : (w.setCell ⟨mb, 0, none⟩ (.int .i32 1)).heap[mb]? = some (.cells #[.int .i32 1, x, P0 g.eb] 105 (0, 0)) := by simp [World.setCell, Array.getElem?_modify, hB]
  refine (turn_face mb g.eb tk _ rfl w h0 f0 h2 (fun v w1 => Etd (w.setCell ⟨mb, 0, none⟩ (.int .i32 1)) w1 ((g.tick (B.aft g.clk tk)).rows zb zc) C q kd vb s qb cq v) ?_).mono ?_
  · refine (eturn_due tk g C q kd vb s E Tk qb cq zb zc U _ hZ1 hq h42 hU).mono ?_
    rintro e w1 ⟨v, rfl, hE⟩
    obtain ⟨s', kd1, r, ev, ad, ne, cap, rfl, a1, a2, a3, a4⟩ := hE
    have hb := a2.block hB1 hN
    exact ⟨ad, ne, cap, rfl, by simp [World.cell?, hb], by simp [World.frozen?, hb], s', kd1, r, ev, ad, ne, cap, rfl, a1, a2, a3, a4⟩
  · rintro e w' ⟨v, w1, rfl, hE, rfl⟩
    exact ⟨v, rfl, tp_of (g := (g.tick (B.aft g.clk tk)).rows zb zc) hq hB hF hN hFE hE⟩

theorem turnS_not {w : World} {mb : Nat} {F : Nat → Prop} {C : List B.In} {nr n q : Nat} {clk U : Int} {s : B.St} (tk : Int) (h : Ms w mb F C nr n q clk s U) (hU : ¬ U ≤ B.aft clk tk) :
    Calls Tryz.prog 24 #[P0 mb, .int .i64 tk, .slice none 0 0] w fun e w' => e = .returned (.slice none 0 0) ∧ Only F w w' ∧ ∃ F', (∀ k, F' k → F k ∨ (w.heap.size ≤ k ∧ k < w'.heap.size)) ∧ Ms w' mb F' C nr n q (B.aft clk tk) s U := by
  obtain ⟨g, kd, vb, E, Tk, qb, cq, zb, zc, rfl, rfl, rfl, hq, h42, hZ, ⟨x, hB⟩, hF, hN, hFE⟩ := h
  have h0 : w.cell? ⟨mb, 0, none⟩ = some (.int .i32 0) := by simp [World.cell?, hB]
  have f0 : w.frozen? ⟨mb, 0, none⟩ = false := by simp [World.frozen?, hB]
  have h2 : w.cell? ⟨mb, 2, none⟩ = some (P0 g.eb) := by simp [World.cell?, hB]
  have lm := heap_lt hB
  have hsF : ∀ k, (k = g.eb ∨ Sbk g.sb g.pb g.n kd vb k) → FE (g.rows zb zc) qb kd vb k := by
    rintro k (h | h | h | h)
    · exact Or.inl (Or.inl h)
    · exact Or.inl (Or.inr (Or.inr (Or.inr (Or.inr (Or.inr (Or.inr (Or.inr (Or.inr (Or.inr (Or.inr (Or.inl h)))))))))))
    · exact Or.inl (Or.inr (Or.inr (Or.inr (Or.inr (Or.inr (Or.inr (Or.inr (Or.inr (Or.inr (Or.inr (Or.inr (h))))))))))))
    · exact Or.inr (Or.inr (Or.inr (Or.inl h)))
  have hme : ¬ (mb = g.eb ∨ Sbk g.sb g.pb g.n kd vb mb) := fun h => hN (hsF mb h)
  have hZ1 : Zzz (w.setCell ⟨mb, 0, none⟩ (.int .i32 1)) g C q kd vb s E Tk qb cq zb zc U := hZ.same (fun k hk => Below.heap_setCell _ _ _ _ (fun e => hN ((show k = mb from e) ▸ hk)))
  have hB1 : (w.setCell ⟨mb, 0, none⟩ (.int .i32 1)).heap[mb]? = some (.cells #[.int .i32 1, x, P0 g.eb] 105 (0, 0)) := by simp [World.setCell, Array.getElem?_modify, hB]
  have hz1 : (w.setCell ⟨mb, 0, none⟩ (.int .i32 1)).heap.size = w.heap.size := by simp [World.setCell]
  refine (turn_face mb g.eb tk _ rfl w h0 f0 h2 (fun v w1 => v = .slice none 0 0 ∧ Only (fun k => k = g.eb ∨ Sbk g.sb g.pb g.n kd vb k) (w.setCell ⟨mb, 0, none⟩ (.int .i32 1)) w1 ∧ ∃ kd' vb' E', E' 43 = .slice none 0 0 ∧ Zzz w1 (g.tick (B.aft g.clk tk)) C q kd' vb' s E' Tk qb cq zb zc U ∧ Grew g.n kd vb kd' vb' (w.setCell ⟨mb, 0, none⟩ (.int .i32 1)).heap.size) ?_).mono ?_
  · refine (eturn_not tk g C q kd vb s E Tk qb cq zb zc U _ hZ1 h42 hU).mono ?_
    rintro e w1 ⟨rfl, hO, vb', E', hE1, hE2, hE3⟩
    have hb := hO.block hB1 hme
    exact ⟨none, 0, 0, rfl, by simp [World.cell?, hb], by simp [World.frozen?, hb], rfl, hO, _, vb', E', hE1, hE2, hE3⟩
  · rintro e w' ⟨v, w1, rfl, ⟨rfl, hO, kd', vb', E', hE42, hE, hv⟩, rfl⟩
    have hb := hO.block hB1 hme
    have hz2 := hO.size
    have hz3 : (w1.setCell ⟨mb, 0, none⟩ (.int .i32 0)).heap.size = w1.heap.size := by simp [World.setCell]
    have hN2 : ¬ FE (g.rows zb zc) qb kd' vb' mb := by
      rintro (h | h | h | h | h)
      · exact hN (Or.inl h)
      · exact hN (Or.inr (Or.inl h))
      · exact hN (Or.inr (Or.inr (Or.inl h)))
      · rcases hv mb h with x1 | x1
        · exact hN (Or.inr (Or.inr (Or.inr (Or.inl x1))))
        · omega
      · exact hN (Or.inr (Or.inr (Or.inr (Or.inr h))))
    refine ⟨rfl, ?_, fun k => k = mb ∨ FE (g.rows zb zc) qb kd' vb' k, ?_, g.tick (B.aft g.clk tk), kd', vb', E', Tk, qb, cq, zb, zc, rfl, rfl, rfl, hq, hE42, hE.same (fun k hk => Below.heap_setCell _ _ _ _ (fun e => hN2 ((show k = mb from e) ▸ hk))), ⟨x, by simp [World.setCell, Array.getElem?_modify, hb]; rfl⟩, Or.inl rfl, hN2, fun k hk => Or.inr hk⟩
    · exact only_setCell ((only_setCell (S := F) (only_refl F w) (Or.inl hF) _).trans hO (fun k h _ => hFE k (hsF k h))) (Or.inl hF) _
    · rintro k (rfl | h | h | h | h | h)
      · exact Or.inl hF
      · exact Or.inl (hFE k (Or.inl h))
      · exact Or.inl (hFE k (Or.inr (Or.inl h)))
      · exact Or.inl (hFE k (Or.inr (Or.inr (Or.inl h))))
      · rcases hv k h with x1 | x1
        · exact Or.inl (hFE k (Or.inr (Or.inr (Or.inr (Or.inl x1)))))
        · have := hE.hR.lt.2.2.2.2.2.2.2.2.2.2 k h
          exact Or.inr (by omega)
      · exact Or.inl (hFE k (Or.inr (Or.inr (Or.inr (Or.inr h)))))

theorem stateS {w : World} {mb : Nat} {F : Nat → Prop} {C : List B.In} {nr n q : Nat} {clk U : Int} {s : B.St} (h : Ms w mb F C nr n q clk s U) :
    Calls Tryz.prog 25 #[P0 mb] w fun e w' => e = .returned (.int .i64 2) ∧ Only F w w' ∧ Ms w' mb F C nr n q clk s U := by
  have hK := h
  obtain ⟨g, kd, vb, E, Tk, qb, cq, zb, zc, rfl, rfl, rfl, hq, h42, hZ, ⟨x, hB⟩, hF, hN, hFE⟩ := h
  have h0 : w.cell? ⟨mb, 0, none⟩ = some (.int .i32 0) := by simp [World.cell?, hB]
  have f0 : w.frozen? ⟨mb, 0, none⟩ = false := by simp [World.frozen?, hB]
  have h2 : w.cell? ⟨mb, 2, none⟩ = some (P0 g.eb) := by simp [World.cell?, hB]
  have hZ1 : Zzz (w.setCell ⟨mb, 0, none⟩ (.int .i32 1)) g C q kd vb s E Tk qb cq zb zc U := hZ.same (fun k hk => Below.heap_setCell _ _ _ _ (fun e => hN ((show k = mb from e) ▸ hk)))
  refine (state_face mb g.eb 2 w h0 f0 h2 ?_).mono ?_
  · exact estate_slp g.eb zb zc qb cq 1 g.cl (some ⟨g.lb, 0, none⟩) _ ((hZ1.hR.hE.cell 42 (by omega)).trans (by rw [hZ1.hR.eE.e41])) ((hZ1.hR.hE.cell 29 (by omega)).trans (by rw [hZ1.hR.eE.e28])) (by omega) ((hZ1.hR.hE.cell 32 (by omega)).trans (by rw [hZ1.e31])) ((hZ1.hR.hE.cell 33 (by omega)).trans (by rw [hZ1.e32])) hZ1.hR.hE.lt
  · rintro e w' ⟨rfl, rfl⟩
    have hw : ((w.setCell ⟨mb, 0, none⟩ (.int .i32 1)).setCell ⟨mb, 0, none⟩ (.int .i32 0)).heap[mb]? = w.heap[mb]? := by simp [World.setCell, Array.getElem?_modify, hB]
    refine ⟨rfl, only_setCell (only_setCell (only_refl F w) (Or.inl hF) _) (Or.inl hF) _, hK.keep (fun k _ => ?_)⟩
    by_cases e : k = mb
    · rw [e]; exact hw
    · exact (Below.heap_setCell _ _ _ _ e).trans (Below.heap_setCell _ _ _ _ e)

theorem clockS {w : World} {mb : Nat} {F : Nat → Prop} {C : List B.In} {nr n q : Nat} {clk U : Int} {s : B.St} (h : Ms w mb F C nr n q clk s U) :
    Calls Tryz.prog 28 #[P0 mb] w fun e w' => e = .returned (.int .i64 clk) ∧ Only F w w' ∧ Ms w' mb F C nr n q clk s U := by
  have hK := h
  obtain ⟨g, kd, vb, E, Tk, qb, cq, zb, zc, rfl, rfl, rfl, hq, h42, hZ, ⟨x, hB⟩, hF, hN, hFE⟩ := h
  have h0 : w.cell? ⟨mb, 0, none⟩ = some (.int .i32 0) := by simp [World.cell?, hB]
  have f0 : w.frozen? ⟨mb, 0, none⟩ = false := by simp [World.frozen?, hB]
  have h2 : w.cell? ⟨mb, 2, none⟩ = some (P0 g.eb) := by simp [World.cell?, hB]
  have hZ1 : Zzz (w.setCell ⟨mb, 0, none⟩ (.int .i32 1)) g C q kd vb s E Tk qb cq zb zc U := hZ.same (fun k hk => Below.heap_setCell _ _ _ _ (fun e => hN ((show k = mb from e) ▸ hk)))
  refine (clock_face mb g.eb g.clk w h0 f0 h2 ?_).mono ?_
  · exact eclock_any g.eb g.clk _ ((hZ1.hR.hE.cell 28 (by omega)).trans (by rw [hZ1.hR.eE.e27]))
  · rintro e w' ⟨rfl, rfl⟩
    have hw : ((w.setCell ⟨mb, 0, none⟩ (.int .i32 1)).setCell ⟨mb, 0, none⟩ (.int .i32 0)).heap[mb]? = w.heap[mb]? := by simp [World.setCell, Array.getElem?_modify, hB]
    refine ⟨rfl, only_setCell (only_setCell (only_refl F w) (Or.inl hF) _) (Or.inl hF) _, hK.keep (fun k _ => ?_)⟩
    by_cases e : k = mb
    · rw [e]; exact hw
    · exact (Below.heap_setCell _ _ _ _ e).trans (Below.heap_setCell _ _ _ _ e)
end Go.Proofs.YtnjiinbhbjpfkaaGreatDoor

/-
  A task that sleeps, its cells holding numbers alone: how the collector's cycles go, turn by turn, in closed form. Nothing of the program is imported here.
-/
namespace Go.Proofs.YtnjiinbhbjpfkaaGreatDoor.B

theorem seen_num {m : Nat → Bool} {st : List Nat} {v : V} (h : v.1 = 0) : seen m st v = (m, st) := by unfold seen; rw [if_neg]; intro hh; exact hh.1 h
theorem seenL_num {m : Nat → Bool} {st : List Nat} : ∀ l : List V, (∀ v, v ∈ l → v.1 = 0) → seenL m st l = (m, st)
  | [], _ => rfl
  | v :: l, h => by rw [seenL, seen_num (h v (List.mem_cons_self ..))]; exact seenL_num l (fun u hu => h u (List.mem_cons_of_mem _ hu))

/-- The cycle behind j units. -/
def cyAt (b : Cy) (j : Nat) : Cy := ⟨b.m, b.st.take (b.st.length - j), j - b.st.length⟩
/-- The places behind j units. -/
def onAt (b : Cy) (on : Nat → Bool) (j : Nat) : Nat → Bool := fun p => if 1 ≤ p ∧ p ≤ j - b.st.length ∧ b.m p = false then false else on p
theorem onAt_zero (b : Cy) (on : Nat → Bool) : onAt b on 0 = on := by
  funext p; unfold onAt; rw [if_neg (by omega)]
theorem onAt_early (b : Cy) (on : Nat → Bool) {j : Nat} (h : j ≤ b.st.length) : onAt b on j = on := by
  funext p; unfold onAt; rw [if_neg (by omega)]
theorem unit_at {M : Nat → List V} {b : Cy} (hM : ∀ p, p ∈ b.st → ∀ v, v ∈ M p → v.1 = 0) (on : Nat → Bool) (j : Nat) : unit M (onAt b on j) (cyAt b j) = (onAt b on (j + 1), cyAt b (j + 1)) := by
  by_cases hj : j < b.st.length
  · have hs : (cyAt b j).st = b.st.take (b.st.length - (j + 1)) ++ [b.st[b.st.length - (j + 1)]'(by omega)] := by
      show b.st.take (b.st.length - j) = _
      rw [show b.st.length - j = (b.st.length - (j + 1)) + 1 by omega, List.take_add_one, List.getElem?_eq_getElem (by omega)]
      rfl
    rw [unit_thru hs, onAt_early b on (by omega), onAt_early b on (by omega)]
    unfold thru
    rw [seenL_num _ (hM _ (List.getElem_mem _))]
    simp only [cyAt]
    rw [show j - b.st.length = 0 by omega, show j + 1 - b.st.length = 0 by omega]
  · have hs : (cyAt b j).st = [] := by
      show b.st.take (b.st.length - j) = _
      rw [show b.st.length - j = 0 by omega]; simp
    rw [unit_look hs]
    refine Prod.ext ?_ ?_
    · funext p
      show swept (onAt b on j) (cyAt b j) p = onAt b on (j + 1) p
      have hk : (cyAt b j).nx + 1 = j + 1 - b.st.length := by show j - b.st.length + 1 = _; omega
      unfold swept
      rw [hk]
      show (if b.m (j + 1 - b.st.length) = true then onAt b on j else free (onAt b on j) (j + 1 - b.st.length)) p = _
      by_cases hm : b.m (j + 1 - b.st.length) = true
      · rw [if_pos hm]
        unfold onAt
        by_cases e : p = j + 1 - b.st.length
        · subst e; rw [if_neg (by simp [hm]), if_neg (by simp [hm])]
        · by_cases h1 : 1 ≤ p ∧ p ≤ j - b.st.length ∧ b.m p = false
          · rw [if_pos h1, if_pos ⟨h1.1, by omega, h1.2.2⟩]
          · rw [if_neg h1, if_neg (fun h => h1 ⟨h.1, by omega, h.2.2⟩)]
      · rw [if_neg hm]
        by_cases e : p = j + 1 - b.st.length
        · subst e; rw [free_at]; unfold onAt; rw [if_pos ⟨by omega, by omega, by simpa using hm⟩]
        · rw [free_off _ _ _ e]
          unfold onAt
          by_cases h1 : 1 ≤ p ∧ p ≤ j - b.st.length ∧ b.m p = false
          · rw [if_pos h1, if_pos ⟨h1.1, by omega, h1.2.2⟩]
          · rw [if_neg h1, if_neg (fun h => h1 ⟨h.1, by omega, h.2.2⟩)]
    · show look (cyAt b j) = cyAt b (j + 1)
      unfold look cyAt
      simp only [Cy.mk.injEq, true_and]
      refine ⟨by rw [show b.st.length - j = 0 by omega, show b.st.length - (j + 1) = 0 by omega], by omega⟩

/-- Behind j units of a cycle that began at kd. -/
def colAt (b : Cy) (n : Nat) (kd : Kd) (j : Nat) : Kd :=
  if j = b.st.length + n then ⟨onAt b kd.on j, none, kd.un + j, kd.fo, kd.cc + 1⟩ else ⟨onAt b kd.on j, some (cyAt b j), kd.un + j, kd.fo, kd.cc⟩
theorem step_at {M : Nat → List V} {n : Nat} (hn : 1 ≤ n) {b : Cy} (hM : ∀ p, p ∈ b.st → ∀ v, v ∈ M p → v.1 = 0) (kd : Kd) {j : Nat} (hj : j < b.st.length + n) :
    stepK M n (colAt b n kd j) (cyAt b j) = colAt b n kd (j + 1) := by
  unfold stepK
  have hc : colAt b n kd j = ⟨onAt b kd.on j, some (cyAt b j), kd.un + j, kd.fo, kd.cc⟩ := by unfold colAt; rw [if_neg (by omega)]
  rw [hc]
  simp only []
  rw [unit_at hM]
  show (if (j + 1) - b.st.length = n then _ else _) = _
  unfold colAt
  by_cases h : j + 1 = b.st.length + n
  · rw [if_pos (by omega), if_pos h]; rfl
  · rw [if_neg (by omega), if_neg h]; rfl
theorem units_at {M : Nat → List V} {n : Nat} (hn : 1 ≤ n) {b : Cy} (hM : ∀ p, p ∈ b.st → ∀ v, v ∈ M p → v.1 = 0) (kd : Kd) : ∀ (u j : Nat), j ≤ b.st.length + n → units M n u (colAt b n kd j) = colAt b n kd (min (j + u) (b.st.length + n))
  | 0, j, hj => by rw [units, show min (j + 0) (b.st.length + n) = j by omega]
  | u + 1, j, hj => by
    by_cases e : j = b.st.length + n
    · rw [units_none (by unfold colAt; rw [if_pos e]), show min (j + (u + 1)) (b.st.length + n) = j by omega]
    · rw [units_succ (c := cyAt b j) (by unfold colAt; rw [if_neg e]), step_at hn hM kd (by omega), units_at hn hM kd u (j + 1) (by omega), show j + 1 + u = j + (u + 1) by omega]
/-- A turn's work, within a cycle or at its beginning. -/
theorem work_in {R : Nat → V} {nr n : Nat} {M : Nat → List V} (hn : 1 ≤ n) (hM : ∀ p, p ∈ (begun R nr).st → ∀ v, v ∈ M p → v.1 = 0) (kd : Kd) (u j : Nat) (hj : j < (begun R nr).st.length + n) :
    work R nr M n u (colAt (begun R nr) n kd j) = colAt (begun R nr) n kd (min (j + u) ((begun R nr).st.length + n)) := by
  unfold work
  have hc : (colAt (begun R nr) n kd j).cy = some (cyAt (begun R nr) j) := by unfold colAt; rw [if_neg (by omega)]
  rw [hc]
  exact units_at hn hM kd u j (by omega)
theorem cyAt_zero (R : Nat → V) (nr : Nat) : cyAt (begun R nr) 0 = begun R nr := by
  unfold cyAt
  rw [show (begun R nr).st.length - 0 = (begun R nr).st.length by omega, List.take_length, Nat.zero_sub]
  rfl
theorem work_new {R : Nat → V} {nr n : Nat} {M : Nat → List V} (hn : 1 ≤ n) (hM : ∀ p, p ∈ (begun R nr).st → ∀ v, v ∈ M p → v.1 = 0) (kd : Kd) (u : Nat) (hk : kd.cy = none) :
    work R nr M n u kd = colAt (begun R nr) n kd (min u ((begun R nr).st.length + n)) := by
  unfold work
  rw [hk]
  have h0 : ({ kd with cy := some (begun R nr) } : Kd) = colAt (begun R nr) n kd 0 := by
    unfold colAt
    rw [if_neg (by omega), onAt_zero, cyAt_zero]
    rfl
  show units M n u { kd with cy := some (begun R nr) } = _
  rw [h0, units_at hn hM kd u 0 (by omega), Nat.zero_add]

/-- So many turns. -/
def works (R : Nat → V) (nr : Nat) (M : Nat → List V) (n u : Nat) : Nat → Kd → Kd
  | 0, kd => kd
  | i + 1, kd => work R nr M n u (works R nr M n u i kd)

/-- How many turns a cycle takes. -/
def each (L w : Nat) : Nat := (L + w - 1) / w
theorem each_in {L w b : Nat} (hw : 1 ≤ w) (h : b < each L w) : b * w < L := by
  unfold each at h
  have := (Nat.lt_div_iff_mul_lt (by omega)).1 h
  omega
theorem each_out {L w : Nat} (hw : 1 ≤ w) : L ≤ each L w * w := by
  unfold each
  have := Nat.lt_div_mul_add (a := L + w - 1) (b := w) (by omega)
  omega
theorem each_pos {L w : Nat} (hw : 1 ≤ w) (hL : 1 ≤ L) : 1 ≤ each L w := by
  unfold each
  exact (Nat.le_div_iff_mul_le (by omega)).2 (by omega)

/-- Behind so many whole cycles. -/
def whl (b : Cy) (n : Nat) (kd : Kd) : Nat → Kd
  | 0 => kd
  | a + 1 => colAt b n (whl b n kd a) (b.st.length + n)
theorem whl_none {b : Cy} {n : Nat} {kd : Kd} (h : kd.cy = none) : ∀ a, (whl b n kd a).cy = none
  | 0 => h
  | a + 1 => by unfold whl colAt; rw [if_pos rfl]
theorem whl_num {b : Cy} {n : Nat} {kd : Kd} : ∀ a, (whl b n kd a).un = kd.un + a * (b.st.length + n) ∧ (whl b n kd a).fo = kd.fo ∧ (whl b n kd a).cc = kd.cc + a
  | 0 => by simp [whl]
  | a + 1 => by
    obtain ⟨h1, h2, h3⟩ := whl_num (b := b) (n := n) (kd := kd) a
    unfold whl colAt; rw [if_pos rfl]
    refine ⟨?_, h2, by show _ + 1 = _; rw [h3]; omega⟩
    show (whl b n kd a).un + _ = _
    rw [h1, Nat.succ_mul]; omega

/-- The turns of a task that sleeps: a whole cycle takes 'each' turns; behind its last one the next one begins. -/
theorem works_at {R : Nat → V} {nr n w : Nat} {M : Nat → List V} (hn : 1 ≤ n) (hw : 1 ≤ w) (hM : ∀ p, p ∈ (begun R nr).st → ∀ v, v ∈ M p → v.1 = 0) (kd : Kd) (hk : kd.cy = none) (a : Nat) : ∀ b, b < each ((begun R nr).st.length + n) w →
    works R nr M n w (a * each ((begun R nr).st.length + n) w + b) kd = (if b = 0 then whl (begun R nr) n kd a else colAt (begun R nr) n (whl (begun R nr) n kd a) (b * w)) := by
  have hL : 1 ≤ (begun R nr).st.length + n := by omega
  generalize hLL : (begun R nr).st.length + n = L at *
  have key : ∀ a, works R nr M n w (a * each L w) kd = whl (begun R nr) n kd a → ∀ b, b ≤ each L w → works R nr M n w (a * each L w + b) kd = (if b = 0 then whl (begun R nr) n kd a else colAt (begun R nr) n (whl (begun R nr) n kd a) (min (b * w) L)) := by
    intro a ha b
    induction b with
    | zero => intro _; rw [Nat.add_zero, ha, if_pos rfl]
    | succ b ih =>
      intro hb
      have h1 := ih (by omega)
      rw [if_neg (by omega), ← Nat.add_assoc, works, h1]
      by_cases e : b = 0
      · subst e
        rw [if_pos rfl, work_new hn hM _ _ (whl_none hk a), hLL]
        simp
      · have hlt := each_in (L := L) (b := b) hw (by omega)
        rw [if_neg e, show min (b * w) L = b * w by omega, work_in hn hM _ _ _ (by omega), hLL, Nat.succ_mul]
  have whole : ∀ a, works R nr M n w (a * each L w) kd = whl (begun R nr) n kd a := by
    intro a
    induction a with
    | zero => simp [works, whl]
    | succ a ih =>
      have h1 := key a ih (each L w) (Nat.le_refl _)
      have h2 := each_pos (L := L) hw hL
      have h3 := each_out (L := L) hw
      rw [if_neg (by omega), show min (each L w * w) L = L by omega] at h1
      rw [Nat.succ_mul, h1, whl, hLL]
  intro b hb
  rw [key a (whole a) b (by omega)]
  by_cases e : b = 0
  · rw [if_pos e, if_pos e]
  · have := each_in (L := L) hw hb
    rw [if_neg e, if_neg e, show min (b * w) L = b * w by omega]
end Go.Proofs.YtnjiinbhbjpfkaaGreatDoor.B

/-
  How many places are taken behind the units of a cycle. Nothing of the program is imported here.
-/
namespace Go.Proofs.YtnjiinbhbjpfkaaGreatDoor.B

/-- How many of the first n places are taken. -/
def occ (on : Nat → Bool) : Nat → Nat
  | 0 => 0
  | n + 1 => occ on n + (if on (n + 1) = true then 1 else 0)
theorem occ_le (on : Nat → Bool) : ∀ n, occ on n ≤ n
  | 0 => Nat.le_refl 0
  | n + 1 => by have := occ_le on n; unfold occ; split <;> omega
theorem occ_mono {on on' : Nat → Bool} : ∀ {n : Nat}, (∀ p, 1 ≤ p → p ≤ n → on p = true → on' p = true) → occ on n ≤ occ on' n
  | 0, _ => Nat.le_refl 0
  | n + 1, h => by
    have := occ_mono (n := n) (fun p a b => h p a (by omega))
    unfold occ
    by_cases e : on (n + 1) = true
    · rw [if_pos e, if_pos (h _ (by omega) (by omega) e)]; omega
    · rw [if_neg e]; omega
theorem occ_congr {on on' : Nat → Bool} {n : Nat} (h : ∀ p, 1 ≤ p → p ≤ n → on p = on' p) : occ on n = occ on' n :=
  Nat.le_antisymm (occ_mono (fun p a b e => by rw [← h p a b]; exact e)) (occ_mono (fun p a b e => by rw [h p a b]; exact e))
theorem occ_cnt (m : Nat → Bool) : ∀ n, occ m n + cnt m n = n
  | 0 => rfl
  | n + 1 => by have := occ_cnt m n; unfold occ cnt; split <;> omega
theorem occ_mark_off (m : Nat → Bool) (p n : Nat) (h : n < p) : occ (mark m p) n = occ m n := occ_congr (fun k _ hk => mark_off m p k (by omega))
theorem occ_mark (m : Nat → Bool) (p : Nat) (hp : 1 ≤ p) (hm : m p = false) (n : Nat) (h : p ≤ n) : occ (mark m p) n = occ m n + 1 := by
  have h1 := cnt_mark m p hp hm n h
  have h2 := occ_cnt m n
  have h3 := occ_cnt (mark m p) n
  omega
theorem occ_full {on : Nat → Bool} : ∀ {n : Nat}, (∀ p, 1 ≤ p → p ≤ n → on p = true) → occ on n = n
  | 0, _ => rfl
  | n + 1, h => by unfold occ; rw [occ_full (fun p a b => h p a (by omega)), if_pos (h _ (by omega) (by omega))]

theorem seen_marks {m : Nat → Bool} {st : List Nat} {v : V} {p : Nat} (h : (seen m st v).1 p = true) : m p = true ∨ (p ≠ 0 ∧ v.1 = p) := by
  unfold seen at h
  split at h
  · rename_i hv
    by_cases e : p = v.1
    · exact Or.inr ⟨by omega, e.symm⟩
    · exact Or.inl ((mark_off m v.1 p e).symm.trans h)
  · exact Or.inl h
theorem seenL_marks {p : Nat} : ∀ (l : List V) (m : Nat → Bool) (st : List Nat), (seenL m st l).1 p = true → m p = true ∨ (p ≠ 0 ∧ ∃ v, v ∈ l ∧ v.1 = p)
  | [], _, _, h => Or.inl h
  | v :: l, m, st, h => by
    rcases seenL_marks l _ _ h with h | ⟨h0, u, hu, e⟩
    · rcases seen_marks h with h | ⟨h0, e⟩
      · exact Or.inl h
      · exact Or.inr ⟨h0, v, List.mem_cons_self .., e⟩
    · exact Or.inr ⟨h0, u, List.mem_cons_of_mem _ hu, e⟩
theorem seen_stack {m : Nat → Bool} {st : List Nat} {v : V} {p : Nat} (h : p ∈ (seen m st v).2) : p ∈ st ∨ (p ≠ 0 ∧ v.1 = p) := by
  unfold seen at h
  split at h
  · rename_i hv
    rcases List.mem_append.1 h with h | h
    · exact Or.inl h
    · have e := List.mem_singleton.1 h; exact Or.inr ⟨by omega, e.symm⟩
  · exact Or.inl h
theorem seenL_stack {p : Nat} : ∀ (l : List V) (m : Nat → Bool) (st : List Nat), p ∈ (seenL m st l).2 → p ∈ st ∨ (p ≠ 0 ∧ ∃ v, v ∈ l ∧ v.1 = p)
  | [], _, _, h => Or.inl h
  | v :: l, m, st, h => by
    rcases seenL_stack l _ _ h with h | ⟨h0, u, hu, e⟩
    · rcases seen_stack h with h | ⟨h0, e⟩
      · exact Or.inl h
      · exact Or.inr ⟨h0, v, List.mem_cons_self .., e⟩
    · exact Or.inr ⟨h0, u, List.mem_cons_of_mem _ hu, e⟩
/-- Cells that stand once each: the stack grows by as many as there are. -/
theorem seenL_len : ∀ (l : List V) (m : Nat → Bool) (st : List Nat), l.Pairwise (fun u v => u.1 ≠ 0 → u.1 ≠ v.1) → (∀ v, v ∈ l → v.1 ≠ 0 → m v.1 = false) → (seenL m st l).2.length = st.length + (l.filter (fun v => v.1 != 0)).length
  | [], _, _, _, _ => rfl
  | v :: l, m, st, hp, hm => by
    rw [List.pairwise_cons] at hp
    rw [seenL]
    by_cases e : v.1 = 0
    · rw [seen_num e, seenL_len l m st hp.2 (fun u hu => hm u (List.mem_cons_of_mem _ hu))]
      simp [e]
    · have hs : seen m st v = (mark m v.1, st ++ [v.1]) := by unfold seen; rw [if_pos ⟨e, hm v (List.mem_cons_self ..) e⟩]
      rw [hs]
      show (seenL (mark m v.1) (st ++ [v.1]) l).2.length = _
      rw [seenL_len l _ _ hp.2 (fun u hu h0 => by rw [mark_off _ _ _ (fun h => hp.1 u hu e h.symm)]; exact hm u (List.mem_cons_of_mem _ hu) h0)]
      simp [e]; omega

theorem begun_mark {R : Nat → V} {nr p : Nat} (h : (begun R nr).m p = true) : ∃ i, i < nr ∧ (R i).1 = p ∧ p ≠ 0 := by
  rcases seenL_marks _ _ _ h with h | ⟨h0, v, hv, e⟩
  · cases h
  · obtain ⟨i, hi, rfl⟩ := regs_mem.1 hv; exact ⟨i, hi, e, h0⟩
theorem begun_stack {R : Nat → V} {nr p : Nat} (h : p ∈ (begun R nr).st) : ∃ i, i < nr ∧ (R i).1 = p ∧ p ≠ 0 := by
  rcases seenL_stack _ _ _ h with h | ⟨h0, v, hv, e⟩
  · cases h
  · obtain ⟨i, hi, rfl⟩ := regs_mem.1 hv; exact ⟨i, hi, e, h0⟩
theorem begun_occ {R : Nat → V} {nr n : Nat} (h : ∀ i, i < nr → (R i).1 ≤ n) : occ (begun R nr).m n = (begun R nr).st.length := by
  have h1 := occ_cnt (begun R nr).m n
  have h2 := seenL_sum (n := n) (regs R nr) (fun _ => false) [] (fun v hv _ => by obtain ⟨i, hi, rfl⟩ := regs_mem.1 hv; exact h i hi)
  rw [cnt_all] at h2
  show occ (begun R nr).m n = (seenL (fun _ => false) [] (regs R nr)).2.length
  have h3 : cnt (begun R nr).m n = cnt (seenL (fun _ => false) [] (regs R nr)).1 n := rfl
  simp at h2
  omega
theorem onAt_le (b : Cy) (on : Nat → Bool) (j n : Nat) : occ (onAt b on j) n ≤ occ on n :=
  occ_mono (fun p _ _ h => by unfold onAt at h; split at h <;> simp_all)
/-- What is marked stays taken. -/
theorem onAt_ge {b : Cy} {on : Nat → Bool} {n : Nat} (h : ∀ p, b.m p = true → on p = true) (j : Nat) : occ b.m n ≤ occ (onAt b on j) n :=
  occ_mono (fun p _ _ hm => by unfold onAt; rw [if_neg (by simp [hm])]; exact h p hm)
theorem onAt_up {b : Cy} {on : Nat → Bool} (h : ∀ p, b.m p = true → on p = true) (j p : Nat) (hm : b.m p = true) : onAt b on j p = true := by
  unfold onAt; rw [if_neg (by simp [hm])]; exact h p hm
/-- At a cycle's end just what was marked is taken. -/
theorem onAt_end {b : Cy} {on : Nat → Bool} {n : Nat} (h : ∀ p, b.m p = true → on p = true) : occ (onAt b on (b.st.length + n)) n = occ b.m n :=
  occ_congr (fun p h1 h2 => by
    unfold onAt
    by_cases e : b.m p = true
    · rw [if_neg (by simp [e]), e]; exact h p e
    · have e' : b.m p = false := by simpa using e
      rw [if_pos ⟨h1, by omega, e'⟩, e'])
theorem whl_up {b : Cy} {n : Nat} {kd : Kd} (h : ∀ p, b.m p = true → kd.on p = true) : ∀ a p, b.m p = true → (whl b n kd a).on p = true
  | 0, p, hp => h p hp
  | a + 1, p, hp => by
    unfold whl colAt; rw [if_pos rfl]
    exact onAt_up (whl_up h a) _ p hp
theorem whl_occ {b : Cy} {n : Nat} {kd : Kd} (h : ∀ p, b.m p = true → kd.on p = true) (a : Nat) (ha : 1 ≤ a) : occ (whl b n kd a).on n = occ b.m n := by
  obtain ⟨a, rfl⟩ : ∃ k, a = k + 1 := ⟨a - 1, by omega⟩
  unfold whl colAt; rw [if_pos rfl]
  exact onAt_end (whl_up h a)
/-- What a sleeping task's machine answers behind i turns. -/
theorem works_says {R : Nat → V} {nr n w : Nat} {M : Nat → List V} (hn : 1 ≤ n) (hw : 1 ≤ w) (hM : ∀ p, p ∈ (begun R nr).st → ∀ v, v ∈ M p → v.1 = 0) (kd : Kd) (hk : kd.cy = none) (hV : ∀ i, i < nr → Vok kd.on n (R i)) (κ : Nat) (hκ : (begun R nr).st.length = κ) (i : Nat) :
    (works R nr M n w i kd).un = kd.un + i / each (κ + n) w * (κ + n) + i % each (κ + n) w * w ∧ (works R nr M n w i kd).fo = kd.fo ∧ (works R nr M n w i kd).cc = kd.cc + i / each (κ + n) w ∧
    κ ≤ occ (works R nr M n w i kd).on n ∧ occ (works R nr M n w i kd).on n ≤ occ kd.on n ∧ (each (κ + n) w ≤ i → occ (works R nr M n w i kd).on n = κ) := by
  subst hκ
  have he := each_pos (L := (begun R nr).st.length + n) hw (by omega)
  have hup : ∀ p, (begun R nr).m p = true → kd.on p = true := fun p hp => by
    obtain ⟨j, hj, e, h0⟩ := begun_mark hp
    rcases hV j hj with h | h
    · exact absurd (e ▸ h) h0
    · exact e ▸ h.2.2.1
  have hR : ∀ j, j < nr → (R j).1 ≤ n := fun j hj => by rcases hV j hj with h | h <;> omega
  have hocc := begun_occ hR
  have hb : i % each ((begun R nr).st.length + n) w < each ((begun R nr).st.length + n) w := Nat.mod_lt _ (by omega)
  have hi : i / each ((begun R nr).st.length + n) w * each ((begun R nr).st.length + n) w + i % each ((begun R nr).st.length + n) w = i := by rw [Nat.mul_comm]; exact Nat.div_add_mod _ _
  have hW := works_at hn hw hM kd hk (i / each ((begun R nr).st.length + n) w) _ hb
  rw [hi] at hW
  have hle : i / each ((begun R nr).st.length + n) w = 0 ∨ 1 ≤ i / each ((begun R nr).st.length + n) w := Nat.eq_zero_or_pos _
  have hge : each ((begun R nr).st.length + n) w ≤ i → 1 ≤ i / each ((begun R nr).st.length + n) w := fun h => (Nat.le_div_iff_mul_le (by omega)).2 (by omega)
  generalize i / each ((begun R nr).st.length + n) w = a at *
  generalize i % each ((begun R nr).st.length + n) w = b at *
  have hin := each_in (L := (begun R nr).st.length + n) hw hb
  obtain ⟨w1, w2, w3⟩ := whl_num (b := begun R nr) (n := n) (kd := kd) a
  have hwo : occ (whl (begun R nr) n kd a).on n ≤ occ kd.on n := by
    rcases hle with rfl | h
    · exact Nat.le_refl _
    · rw [whl_occ hup a h]; exact occ_mono (fun p _ _ h => hup p h)
  rw [hW]
  by_cases e : b = 0
  · subst e
    rw [if_pos rfl]
    refine ⟨by rw [w1]; simp, w2, w3, ?_, hwo, fun h => ?_⟩
    · rw [← hocc]; exact occ_mono (fun p _ _ h => whl_up hup a p h)
    · rw [whl_occ hup a (hge h), hocc]
  · rw [if_neg e]
    unfold colAt
    rw [if_neg (by omega)]
    refine ⟨by show (whl (begun R nr) n kd a).un + _ = _; rw [w1], w2, w3, ?_, Nat.le_trans (onAt_le _ _ _ _) hwo, fun h => ?_⟩
    · rw [← hocc]; exact onAt_ge (whl_up hup a) _
    · refine Nat.le_antisymm ?_ ?_
      · rw [← hocc, ← whl_occ hup a (hge h)]; exact onAt_le _ _ _ _
      · rw [← hocc]; exact onAt_ge (whl_up hup a) _
end Go.Proofs.YtnjiinbhbjpfkaaGreatDoor.B

/-
  How many places are taken, and the collector's counts: the store's answers, the engine's, the face's.
-/
namespace Go.Proofs.YtnjiinbhbjpfkaaGreatDoor
open Go.RowKit

set_option maxRecDepth 100000 in
set_option maxHeartbeats 1000000 in
theorem occupied_any (sb pb eb n : Nat) (kd : B.Kd) (vb : Vs) (M : Nat → List B.V) (w : World) (hS : Str w sb pb eb n kd vb M) (hn : n ≤ 200) :
    Calls Tryz.prog 73 #[P0 sb] w fun e w' => e = .returned (.int .i64 (B.occ kd.on n : Nat)) ∧ w.grownBy w' none := by
  have q0 := hS.c0
  have KS := hid hS.p
  clear hS
  go_enter Tryz.func73, Tryz.ntmps73
  go_wp2_with fail
  go_loopw [11, 3] (fun i c wr => ∃ k : Nat, k ≤ n ∧ i = .int .i64 k ∧ c = .int .i64 (B.occ kd.on k : Nat) ∧ Hid (w.grownBy wr none)) (fun i _ _ => n - (intOf i).toNat)
  case atStart => exact ⟨0, by omega, rfl, rfl, grown_refl _ _⟩
  case round =>
    obtain ⟨k, hk, rfl, rfl, hG⟩ := hrel
    by_cases hlt : k < n
    · have hS := KS.out.kept hG.out
      have c0 := hS.p.cell (k * 3) (by omega)
      have c1 := hS.p.cell (k * 3 + 1) (by omega)
      have c2 := hS.p.cell (k * 3 + 2) (by omega)
      rw [plc_0] at c0
      rw [plc_1] at c1
      rw [plc_2] at c2
      have lp := hS.p.lt
      clear hS
      have hf := isFree_any (kd.on (k + 1)) 0 (slV (kd.on (k + 1)) (vb.f (k + 1)) (M (k + 1)).length)
      obtain ⟨y0, hy0⟩ : ∃ y, kdV (kd.on (k + 1)) = .int .u8 y := ⟨_, rfl⟩
      obtain ⟨a2, n2, m2, hy2⟩ : ∃ a n m, slV (kd.on (k + 1)) (vb.f (k + 1)) (M (k + 1)).length = .slice a n m := by unfold slV; split <;> exact ⟨_, _, _, rfl⟩
      rw [hy0] at c0
      rw [hy2] at c2
      rw [hy0, hy2] at hf
      have HF := hid hf
      clear hf hy0 hy2
      have hlt2 : (k : Int) < (n : Int) := by omega
      have hol := B.occ_le kd.on k
      obtain ⟨o, ho⟩ : ∃ o, o = B.occ kd.on k := ⟨_, rfl⟩
      have HO := hid ho
      rw [← ho] at hol ⊢
      clear ho
      go_wp2_with fail
      refine (HF.out _).mono ?_
      rintro e w1 ⟨rfl, hg1⟩
      have KG1 := hid (grown_trans (grown_alloc hG.out _) hg1)
      clear hg1 c0 c1 c2
      cases hkd : kd.on (k + 1)
      · have HK := hid hkd
        clear hkd
        simp only [Bool.not_false]
        go_wp2_with fail
        go_roundw
        case rel => exact ⟨k + 1, by omega, by go_num, by simp [B.occ, HK.out, ← HO.out], KG1⟩
        case measure => simp [intOf]; omega
      · have HK := hid hkd
        clear hkd
        simp only [Bool.not_true]
        go_wp2_with fail
        go_roundw
        case rel => exact ⟨k + 1, by omega, by go_num, by simp [B.occ, HK.out, ← HO.out], KG1⟩
        case measure => simp [intOf]; omega
    · obtain rfl : k = n := by omega
      have hge : decide ((k : Int) < (k : Int)) = false := by simp
      go_wp2_with fail
      go_ret
      exact ⟨rfl, hG.out⟩

/-- The three counts, as one value. -/
abbrev cntV (kd : B.Kd) : Value := .agg #[.int .i64 (wrap64 (kd.un : Int)), .int .i64 (wrap64 (kd.fo : Int)), .int .i64 (wrap64 (kd.cc : Int))]

set_option maxRecDepth 100000 in
theorem counts_cells (sb : Nat) (x y z : Int) (w : World) (h3 : w.cell? ⟨sb, 3, none⟩ = some (.int .i64 x)) (h4 : w.cell? ⟨sb, 4, none⟩ = some (.int .i64 y)) (h5 : w.cell? ⟨sb, 5, none⟩ = some (.int .i64 z)) (ls : sb < w.heap.size) :
    Calls Tryz.prog 72 #[P0 sb] w fun e w' => e = .returned (.agg #[.int .i64 x, .int .i64 y, .int .i64 z]) ∧ w.grownBy w' none := by
  go_enter Tryz.func72, Tryz.ntmps72
  go_wp2_with fail
  refine bodyPost_ret (v := .agg #[.int .i64 x, .int .i64 y, .int .i64 z]) (by simp [results, Tryz.results72, go_sem]) rfl ⟨rfl, ?_⟩
  repeat (first | exact grown_refl _ _ | refine grown_drew ?_ | refine grown_alloc ?_ _ | refine grown_setCell ?_ (Or.inr (by simp)) _)

set_option maxRecDepth 100000 in
/-- The engine asks its store: how many places are taken. -/
theorem eocc_any (eb sb pb n : Nat) (kd : B.Kd) (vb : Vs) (M : Nat → List B.V) (w : World) (h27 : w.cell? ⟨eb, 27, none⟩ = some (P0 sb)) (hS : Str w sb pb eb n kd vb M) (hn : n ≤ 200) :
    Calls Tryz.prog 46 #[P0 eb] w fun e w' => e = .returned (.int .i64 (B.occ kd.on n : Nat)) ∧ w.grownBy w' none := by
  have HI := hid (occupied_any sb pb eb n kd vb M w hS hn)
  clear hS
  go_enter Tryz.func46, Tryz.ntmps46
  go_wp2_with fail
  refine HI.out.mono ?_
  rintro e w1 ⟨rfl, hg⟩
  have HG := hid hg
  clear hg
  go_wp2_with fail
  go_ret
  exact ⟨rfl, HG.out⟩

set_option maxRecDepth 100000 in
/-- The engine asks its store: its counts. -/
theorem ecnt_any (eb sb : Nat) (x y z : Int) (w : World) (h27 : w.cell? ⟨eb, 27, none⟩ = some (P0 sb)) (le : eb < w.heap.size) (h3 : w.cell? ⟨sb, 3, none⟩ = some (.int .i64 x)) (h4 : w.cell? ⟨sb, 4, none⟩ = some (.int .i64 y)) (h5 : w.cell? ⟨sb, 5, none⟩ = some (.int .i64 z)) (ls : sb < w.heap.size) :
    Calls Tryz.prog 45 #[P0 eb] w fun e w' => e = .returned (.agg #[.int .i64 x, .int .i64 y, .int .i64 z]) ∧ w.grownBy w' none := by
  have HI : Hid (∀ w1, w.grownBy w1 none → Calls Tryz.prog 72 #[P0 sb] w1 fun e w' => e = .returned (.agg #[.int .i64 x, .int .i64 y, .int .i64 z]) ∧ w1.grownBy w' none) := fun w1 hg => counts_cells sb x y z w1 ((grown_cell hg (a := ⟨sb, 3, none⟩) ls).1.trans h3) ((grown_cell hg (a := ⟨sb, 4, none⟩) ls).1.trans h4) ((grown_cell hg (a := ⟨sb, 5, none⟩) ls).1.trans h5) (Nat.lt_of_lt_of_le ls hg.size)
  clear h3 h4 h5
  go_enter Tryz.func45, Tryz.ntmps45
  go_wp2_with fail
  have hg0 := World.grownBy_alloc w (.cells #[.int .i64 0, .int .i64 0, .int .i64 0] 66) none
  refine (HI.out _ hg0).mono ?_
  rintro e w1 ⟨rfl, hg⟩
  have HG := hid hg
  have HG0 := hid hg0
  have hx := grown_heap hg (heap_alloc_new w _) (by intro e; cases e)
  have r0 : w1.cell? ⟨w.heap.size, 0, none⟩ = some (.int .i64 0) := by simp [World.cell?, hx]
  have r1 : w1.cell? ⟨w.heap.size, 1, none⟩ = some (.int .i64 0) := by simp [World.cell?, hx]
  have r2 : w1.cell? ⟨w.heap.size, 2, none⟩ = some (.int .i64 0) := by simp [World.cell?, hx]
  have t0 : w1.frozen? ⟨w.heap.size, 0, none⟩ = false := by simp [World.frozen?, hx]
  have t1 : w1.frozen? ⟨w.heap.size, 1, none⟩ = false := by simp [World.frozen?, hx]
  have t2 : w1.frozen? ⟨w.heap.size, 2, none⟩ = false := by simp [World.frozen?, hx]
  have lx := heap_lt hx
  clear hg hg0 hx
  go_wp2_with fail
  refine bodyPost_ret (v := .agg #[.int .i64 x, .int .i64 y, .int .i64 z]) (by simp [results, Tryz.results45, go_sem, r0, r1, r2]) rfl ⟨rfl, ?_⟩
  have KG := grown_trans HG0.out HG.out
  repeat (first | exact KG | refine grown_drew ?_ | refine grown_alloc ?_ _ | refine grown_setCell ?_ (Or.inr (by simp)) _)
end Go.Proofs.YtnjiinbhbjpfkaaGreatDoor

/-
  Occupied and Counts at the machine's face: between lock and unlock; behind them all lies as it lay.
-/
namespace Go.Proofs.YtnjiinbhbjpfkaaGreatDoor
open Go.RowKit

/-- Locked, something grown, unlocked: nothing old has changed. -/
theorem lock_back {w w1 : World} {mb : Nat} {x y : Value} (hB : w.heap[mb]? = some (.cells #[.int .i32 0, x, y] 105 (0, 0))) (hg : (w.setCell ⟨mb, 0, none⟩ (.int .i32 1)).grownBy w1 none) : w.grownBy (w1.setCell ⟨mb, 0, none⟩ (.int .i32 0)) none := by
  have hz : (w.setCell ⟨mb, 0, none⟩ (.int .i32 1)).heap.size = w.heap.size := by simp [World.setCell]
  have hs := hg.size
  refine ⟨hg.os, hg.tape, hg.output, by simp [World.setCell] at hs ⊢; omega, fun k hk _ => ?_⟩
  have h1 := hg.block k (by omega) (by intro e; cases e)
  by_cases e : k = mb
  · subst e
    simp [World.setCell, Array.getElem?_modify, hB] at h1 ⊢
    exact ⟨_, h1, rfl⟩
  · exact (Below.heap_setCell _ _ _ _ e).trans (h1.trans (Below.heap_setCell _ _ _ _ e))

theorem grown_lock {w w0 : World} (h : w.grownBy w0 none) (a : Addr) (v : Value) : (w.setCell a v).grownBy (w0.setCell a v) none := by
  refine ⟨h.os, h.tape, h.output, by simpa [World.setCell] using h.size, fun k hk _ => ?_⟩
  have h1 := h.block k (by simpa [World.setCell] using hk) (by intro e; cases e)
  simp [World.setCell, Array.getElem?_modify, h1]

set_option maxRecDepth 100000 in
theorem occ_face (mb eb : Nat) (x : Int) (z : Value) (w : World) (hB : w.heap[mb]? = some (.cells #[.int .i32 0, z, P0 eb] 105 (0, 0)))
    (hE : Hid (Calls Tryz.prog 46 #[P0 eb] (w.setCell ⟨mb, 0, none⟩ (.int .i32 1)) fun e w' => e = .returned (.int .i64 x) ∧ (w.setCell ⟨mb, 0, none⟩ (.int .i32 1)).grownBy w' none)) :
    Calls Tryz.prog 30 #[P0 mb] w fun e w' => e = .returned (.int .i64 x) ∧ w.grownBy w' none := by
  have h0 : w.cell? ⟨mb, 0, none⟩ = some (.int .i32 0) := by simp [World.cell?, hB]
  have f0 : w.frozen? ⟨mb, 0, none⟩ = false := by simp [World.frozen?, hB]
  have h2 : w.cell? ⟨mb, 2, none⟩ = some (P0 eb) := by simp [World.cell?, hB]
  have lm := heap_lt hB
  have HB := hid hB
  clear hB
  go_enter_defers Tryz.func30, Tryz.ntmps30
  go_wp2_with fail
  refine (lock_any mb w h0 f0).mono ?_
  rintro e w1 ⟨rfl, rfl⟩
  go_wp2_with fail
  refine hE.out.mono ?_
  rintro e w2 ⟨rfl, hg⟩
  have HG := hid hg
  have c0 : w2.cell? ⟨mb, 0, none⟩ = some (.int .i32 1) := (grown_cell hg (a := ⟨mb, 0, none⟩) (by simpa [World.setCell] using lm)).1.trans (by simp [go_sem, h0])
  have c1 : w2.frozen? ⟨mb, 0, none⟩ = false := (grown_cell hg (a := ⟨mb, 0, none⟩) (by simpa [World.setCell] using lm)).2.trans (by simp [go_sem, f0])
  clear hg
  go_wp2_with fail
  refine leaves_cons (f := 40) (args := #[P0 mb]) (by simp) (by simp [go_sem]) ?_
  refine (unlock_deferred ⟨mb, 0, none⟩ .returning _ c0 c1).mono ?_
  rintro e u' w'' ⟨rfl, rfl, rfl⟩
  exact ⟨_, results_tmp rfl _ _ _, rfl, lock_back HB.out HG.out⟩

set_option maxRecDepth 100000 in
theorem cnt_face (mb eb : Nat) (x y z : Int) (v : Value) (w : World) (hB : w.heap[mb]? = some (.cells #[.int .i32 0, v, P0 eb] 105 (0, 0)))
    (hE : Hid (∀ w1, w.grownBy w1 none → Calls Tryz.prog 45 #[P0 eb] (w1.setCell ⟨mb, 0, none⟩ (.int .i32 1)) fun e w' => e = .returned (.agg #[.int .i64 x, .int .i64 y, .int .i64 z]) ∧ (w1.setCell ⟨mb, 0, none⟩ (.int .i32 1)).grownBy w' none)) :
    Calls Tryz.prog 29 #[P0 mb] w fun e w' => e = .returned (.agg #[.int .i64 x, .int .i64 y, .int .i64 z]) ∧ w.grownBy w' none := by
  obtain ⟨w0, hw0⟩ : ∃ w0, w0 = w.alloc (.cells #[.int .i64 0, .int .i64 0, .int .i64 0] 66) := ⟨_, rfl⟩
  have hg0 : w.grownBy w0 none := hw0 ▸ World.grownBy_alloc w (.cells #[.int .i64 0, .int .i64 0, .int .i64 0] 66) none
  have HN : Hid (w0.heap[w.heap.size]? = some (.cells #[.int .i64 0, .int .i64 0, .int .i64 0] 66 (0, 0))) := by show _ = _; rw [hw0]; exact heap_alloc_new w _
  have lm0 := heap_lt hB
  have hB0 := grown_heap hg0 hB (by intro e; cases e)
  have h0 : w0.cell? ⟨mb, 0, none⟩ = some (.int .i32 0) := by simp [World.cell?, hB0]
  have f0 : w0.frozen? ⟨mb, 0, none⟩ = false := by simp [World.frozen?, hB0]
  have h2 : w0.cell? ⟨mb, 2, none⟩ = some (P0 eb) := by simp [World.cell?, hB0]
  have lm := heap_lt hB0
  have hne : mb ≠ w.heap.size := by omega
  have hne' : w.heap.size ≠ mb := by omega
  have HB := hid hB
  have HG0 := hid hg0
  clear hB hB0 hg0
  go_enter_defers Tryz.func29, Tryz.ntmps29
  go_wp2_with fail
  rw [← hw0]
  clear hw0
  refine (lock_any mb w0 h0 f0).mono ?_
  rintro e w1 ⟨rfl, rfl⟩
  go_wp2_with fail
  refine (hE.out w0 HG0.out).mono ?_
  rintro e w2 ⟨rfl, hg⟩
  have HG := hid hg
  have hx := grown_heap hg ((Below.heap_setCell _ _ _ _ hne').trans HN.out) (by intro e; cases e)
  have c0 : w2.cell? ⟨mb, 0, none⟩ = some (.int .i32 1) := (grown_cell hg (a := ⟨mb, 0, none⟩) (by simpa [World.setCell] using lm)).1.trans (by simp [go_sem, h0])
  have c1 : w2.frozen? ⟨mb, 0, none⟩ = false := (grown_cell hg (a := ⟨mb, 0, none⟩) (by simpa [World.setCell] using lm)).2.trans (by simp [go_sem, f0])
  have r0 : w2.cell? ⟨w.heap.size, 0, none⟩ = some (.int .i64 0) := by simp [World.cell?, hx]
  have r1 : w2.cell? ⟨w.heap.size, 1, none⟩ = some (.int .i64 0) := by simp [World.cell?, hx]
  have r2 : w2.cell? ⟨w.heap.size, 2, none⟩ = some (.int .i64 0) := by simp [World.cell?, hx]
  have t0 : w2.frozen? ⟨w.heap.size, 0, none⟩ = false := by simp [World.frozen?, hx]
  have t1 : w2.frozen? ⟨w.heap.size, 1, none⟩ = false := by simp [World.frozen?, hx]
  have t2 : w2.frozen? ⟨w.heap.size, 2, none⟩ = false := by simp [World.frozen?, hx]
  have lx := heap_lt hx
  clear hg hx
  go_wp2_with fail
  refine leaves_cons (f := 40) (args := #[P0 mb]) (by simp) (by simp [go_sem]) ?_
  refine (unlock_deferred ⟨mb, 0, none⟩ .returning _ (by simp [go_sem, c0]) (by simp [go_sem, c1])).mono ?_
  rintro e u' w'' ⟨rfl, rfl, rfl⟩
  refine ⟨_, by simp [results, Tryz.results29, go_sem, r0, r1, r2], rfl, ?_⟩
  have KG := grown_trans (grown_lock HG0.out ⟨mb, 0, none⟩ (.int .i32 1)) HG.out
  refine lock_back HB.out ?_
  repeat (first | exact KG | refine grown_drew ?_ | refine grown_alloc ?_ _ | refine grown_setCell ?_ (Or.inr (by simp [World.setCell])) _)
end Go.Proofs.YtnjiinbhbjpfkaaGreatDoor

/-
  A machine with one task, the collector's state said outright: what the laws on the collector see.
-/
namespace Go.Proofs.YtnjiinbhbjpfkaaGreatDoor
open Go.RowKit

def MqK (w : World) (mb : Nat) (F : Nat → Prop) (C : List B.In) (nr n q wk : Nat) (clk : Int) (kd : B.Kd) (s : B.St) : Prop :=
  ∃ g vb E Tk qb cq, g.nr = nr ∧ g.n = n ∧ g.clk = clk ∧ g.wk = wk ∧ Que w g C q kd vb s E Tk qb cq ∧ Box w mb g.eb ∧ F mb ∧ ¬ FE g qb kd vb mb ∧ ∀ k, FE g qb kd vb k → F k
def MsK (w : World) (mb : Nat) (F : Nat → Prop) (C : List B.In) (nr n q wk : Nat) (clk : Int) (kd : B.Kd) (s : B.St) (U : Int) : Prop :=
  ∃ g vb E Tk qb cq zb zc, g.nr = nr ∧ g.n = n ∧ g.clk = clk ∧ g.wk = wk ∧ (1 ≤ q ∧ q ≤ 50) ∧ E 43 = .slice none 0 0 ∧ Zzz w g C q kd vb s E Tk qb cq zb zc U ∧ Box w mb g.eb ∧ F mb ∧ ¬ FE (g.rows zb zc) qb kd vb mb ∧ ∀ k, FE (g.rows zb zc) qb kd vb k → F k
theorem MqK.keep {w w' : World} {mb : Nat} {F : Nat → Prop} {C : List B.In} {nr n q wk : Nat} {clk : Int} {kd : B.Kd} {s : B.St} (h : MqK w mb F C nr n q wk clk kd s) (hk : ∀ k, F k → w'.heap[k]? = w.heap[k]?) : MqK w' mb F C nr n q wk clk kd s := by
  obtain ⟨g, vb, E, Tk, qb, cq, h1, h2, h3, h3', h4, ⟨x, h5⟩, h6, h7, h8⟩ := h
  exact ⟨g, vb, E, Tk, qb, cq, h1, h2, h3, h3', h4.same (fun k h => hk k (h8 k h)), ⟨x, (hk mb h6).trans h5⟩, h6, h7, h8⟩
theorem MsK.keep {w w' : World} {mb : Nat} {F : Nat → Prop} {C : List B.In} {nr n q wk : Nat} {clk : Int} {kd : B.Kd} {s : B.St} {U : Int} (h : MsK w mb F C nr n q wk clk kd s U) (hk : ∀ k, F k → w'.heap[k]? = w.heap[k]?) : MsK w' mb F C nr n q wk clk kd s U := by
  obtain ⟨g, vb, E, Tk, qb, cq, zb, zc, h1, h2, h3, h3', hq, h42, h4, ⟨x, h5⟩, h6, h7, h8⟩ := h
  exact ⟨g, vb, E, Tk, qb, cq, zb, zc, h1, h2, h3, h3', hq, h42, h4.same (fun k h => hk k (h8 k h)), ⟨x, (hk mb h6).trans h5⟩, h6, h7, h8⟩

/-- What a turn leaves. -/
def TpK (w w' : World) (mb : Nat) (F : Nat → Prop) (C : List B.In) (nr n q wk : Nat) (clk : Int) (kd : B.Kd) (s : B.St) (v : Value) : Prop :=
  ∃ F' s' kd' r ev ad len cap, v = .slice ad len cap ∧ len ≤ maxLen ∧ Evs w' ad len ev ∧ Only F w w' ∧ (∀ k, F' k → F k ∨ (w.heap.size ≤ k ∧ k < w'.heap.size)) ∧ B.Runs3 clk C nr n q s kd s' kd' r ev ∧
    (r = 4 → ∃ a, C[s'.1 - 1]? = some (17, a, 0, 0) ∧ (s'.2.1 a).1 = 0 ∧ MsK w' mb F' C nr n q wk clk (B.work s'.2.1 nr s'.2.2 n wk kd') s' (B.aft clk (s'.2.1 a).2)) ∧
    (r = 5 → MqK w' mb F' C nr n q wk clk (B.work s'.2.1 nr s'.2.2 n wk kd') s')

theorem tpK_of {w w1 : World} {mb : Nat} {F : Nat → Prop} {g : Geo} {C : List B.In} {q : Nat} {kd : B.Kd} {vb : Vs} {s : B.St} {qb cq : Nat} {v x : Value} (hq : 1 ≤ q ∧ q ≤ 50) (hB : w.heap[mb]? = some (.cells #[.int .i32 0, x, P0 g.eb] 105 (0, 0))) (hF : F mb) (hN : ¬ FE g qb kd vb mb) (hFE : ∀ k, FE g qb kd vb k → F k)
    (h : Etd (w.setCell ⟨mb, 0, none⟩ (.int .i32 1)) w1 g C q kd vb s qb cq v) : TpK w (w1.setCell ⟨mb, 0, none⟩ (.int .i32 0)) mb F C g.nr g.n q g.wk g.clk kd s v := by
  obtain ⟨s', kd1, r, ev, ad, ne, cap, rfl, a1', a2, a3, a4⟩ := h
  have lm := heap_lt hB
  have hB1 : (w.setCell ⟨mb, 0, none⟩ (.int .i32 1)).heap[mb]? = some (.cells #[.int .i32 1, x, P0 g.eb] 105 (0, 0)) := by simp [World.setCell, Array.getElem?_modify, hB]
  have hz1 : (w.setCell ⟨mb, 0, none⟩ (.int .i32 1)).heap.size = w.heap.size := by simp [World.setCell]
  have hb := a2.block hB1 hN
  have hz2 := a2.size
  have hz3 : (w1.setCell ⟨mb, 0, none⟩ (.int .i32 0)).heap.size = w1.heap.size := by simp [World.setCell]
  have hB2 : Box (w1.setCell ⟨mb, 0, none⟩ (.int .i32 0)) mb g.eb := ⟨x, by simp [World.setCell, Array.getElem?_modify, hb]⟩
  have hO : Only F w (w1.setCell ⟨mb, 0, none⟩ (.int .i32 0)) :=
    only_setCell ((only_setCell (S := F) (only_refl F w) (Or.inl hF) _).trans a2 (fun k h _ => hFE k h)) (Or.inl hF) _
  obtain ⟨hev, hml⟩ := evs_of (own_of (w' := w1.setCell ⟨mb, 0, none⟩ (.int .i32 0)) a3 (fun k hk => Below.heap_setCell _ _ _ _ (by show k ≠ mb; have := (own_ty a3 k hk).1; omega)))
  by_cases hr4 : r = 4
  · rcases a4 with ⟨h0, _⟩ | ⟨_, E', hE, hf, h42, hz, _⟩
    · omega
    · obtain ⟨vb', ⟨Tk', zb, zc, U, a, b1, b2, b2', b30, b5⟩, b40⟩ := hz hr4
      obtain ⟨kd', hkd, b3, b4⟩ : ∃ kd', kd' = B.work s'.2.1 g.nr s'.2.2 g.n g.wk kd1 ∧ Zzz w1 g C q kd' vb' s' E' Tk' qb cq zb zc U ∧ Grew g.n kd vb kd' vb' (w.setCell ⟨mb, 0, none⟩ (.int .i32 1)).heap.size := ⟨_, rfl, b30, b40⟩
      have hlz := (own_ty b3.o32 zb rfl).2.1
      have hN2 : ¬ FE (g.rows zb zc) qb kd' vb' mb := by
        rintro (h | h | h | h | h)
        · exact hN (Or.inl h)
        · exact hN (Or.inr (Or.inl h))
        · exact hN (Or.inr (Or.inr (Or.inl h)))
        · rcases b4 mb h with x1 | x1
          · exact hN (Or.inr (Or.inr (Or.inr (Or.inl x1))))
          · omega
        · have hzm : zb = mb := by injection h
          rcases b5 with b5 | b5
          · exact hN (Or.inr (Or.inr (Or.inr (Or.inr (hzm ▸ b5)))))
          · omega
      refine ⟨fun k => k = mb ∨ FE (g.rows zb zc) qb kd' vb' k, s', kd1, r, ev, ad, ne, cap, rfl, hml, hev, hO, ?_, a1', fun _ => ⟨a, b1, b2', hkd ▸ ⟨g, vb', E', Tk', qb, cq, zb, zc, rfl, rfl, rfl, rfl, hq, h42, (b2 ▸ b3).same (fun k hk => Below.heap_setCell _ _ _ _ (fun e => hN2 ((show k = mb from e) ▸ hk))), hB2, Or.inl rfl, hN2, fun k hk => Or.inr hk⟩⟩, fun e => by omega⟩
      rintro k (rfl | h | h | h | h | h)
      · exact Or.inl hF
      · exact Or.inl (hFE k (Or.inl h))
      · exact Or.inl (hFE k (Or.inr (Or.inl h)))
      · exact Or.inl (hFE k (Or.inr (Or.inr (Or.inl h))))
      · rcases b4 k h with x1 | x1
        · exact Or.inl (hFE k (Or.inr (Or.inr (Or.inr (Or.inl x1)))))
        · have := b3.hR.lt.2.2.2.2.2.2.2.2.2.2 k h
          exact Or.inr (by omega)
      · have hzm : zb = k := by injection h
        rcases b5 with b5 | b5
        · exact Or.inl (hFE k (Or.inr (Or.inr (Or.inr (Or.inr (hzm ▸ b5))))))
        · exact Or.inr (by omega)
  by_cases hr5 : r = 5
  · rcases a4 with ⟨h0, _⟩ | ⟨_, E', hE, hf, h42, _, hy⟩
    · omega
    · obtain ⟨vb', Tk', b30, b40⟩ := hy hr5
      obtain ⟨kd', hkd, b3, hv⟩ : ∃ kd', kd' = B.work s'.2.1 g.nr s'.2.2 g.n g.wk kd1 ∧ Que w1 g C q kd' vb' s' E' Tk' qb cq ∧ Grew g.n kd vb kd' vb' (w.setCell ⟨mb, 0, none⟩ (.int .i32 1)).heap.size := ⟨_, rfl, b30, b40⟩
      have hN2 : ¬ FE g qb kd' vb' mb := by
        rintro (h | h | h | h | h)
        · exact hN (Or.inl h)
        · exact hN (Or.inr (Or.inl h))
        · exact hN (Or.inr (Or.inr (Or.inl h)))
        · rcases hv mb h with x1 | x1
          · exact hN (Or.inr (Or.inr (Or.inr (Or.inl x1))))
          · omega
        · exact hN (Or.inr (Or.inr (Or.inr (Or.inr h))))
      refine ⟨fun k => k = mb ∨ FE g qb kd' vb' k, s', kd1, r, ev, ad, ne, cap, rfl, hml, hev, hO, ?_, a1', fun h => absurd h hr4, fun _ => hkd ▸ ⟨g, vb', E', Tk', qb, cq, rfl, rfl, rfl, rfl, b3.same (fun k hk => Below.heap_setCell _ _ _ _ (fun e => hN2 ((show k = mb from e) ▸ hk))), hB2, Or.inl rfl, hN2, fun k hk => Or.inr hk⟩⟩
      rintro k (rfl | h | h | h | h | h)
      · exact Or.inl hF
      · exact Or.inl (hFE k (Or.inl h))
      · exact Or.inl (hFE k (Or.inr (Or.inl h)))
      · exact Or.inl (hFE k (Or.inr (Or.inr (Or.inl h))))
      · rcases hv k h with x1 | x1
        · exact Or.inl (hFE k (Or.inr (Or.inr (Or.inr (Or.inl x1)))))
        · have := b3.hR.lt.2.2.2.2.2.2.2.2.2.2 k h
          exact Or.inr (by omega)
      · exact Or.inl (hFE k (Or.inr (Or.inr (Or.inr (Or.inr h)))))
  · exact ⟨fun _ => False, s', kd1, r, ev, ad, ne, cap, rfl, hml, hev, hO, fun k h => h.elim, a1', fun h => absurd h hr4, fun h => absurd h hr5⟩

theorem turnK_q {w : World} {mb : Nat} {F : Nat → Prop} {C : List B.In} {nr n q wk : Nat} {clk : Int} {kd : B.Kd} {s : B.St} (tk : Int) (h : MqK w mb F C nr n q wk clk kd s) :
    Calls Tryz.prog 24 #[P0 mb, .int .i64 tk, .slice none 0 0] w fun e w' => ∃ v, e = .returned v ∧ TpK w w' mb F C nr n q wk (B.aft clk tk) kd s v := by
  obtain ⟨g, vb, E, Tk, qb, cq, rfl, rfl, rfl, rfl, hQ, ⟨x, hB⟩, hF, hN, hFE⟩ := h
  have h0 : w.cell? ⟨mb, 0, none⟩ = some (.int .i32 0) := by simp [World.cell?, hB]
  have f0 : w.frozen? ⟨mb, 0, none⟩ = false := by simp [World.frozen?, hB]
  have h2 : w.cell? ⟨mb, 2, none⟩ = some (P0 g.eb) := by simp [World.cell?, hB]
  have hQ1 : Que (w.setCell ⟨mb, 0, none⟩ (.int .i32 1)) g C q kd vb s E Tk qb cq := hQ.same (fun k hk => Below.heap_setCell _ _ _ _ (fun e => hN ((show k = mb from e) ▸ hk)))
  have hB1 : (w.setCell ⟨mb, 0, none⟩ (.int .i32 1)).heap[mb]? = some (.cells #[.int .i32 1, x, P0 g.eb] 105 (0, 0)) := by simp [World.setCell, Array.getElem?_modify, hB]
  refine (turn_face mb g.eb tk _ rfl w h0 f0 h2 (fun v w1 => Etd (w.setCell ⟨mb, 0, none⟩ (.int .i32 1)) w1 (g.tick (B.aft g.clk tk)) C q kd vb s qb cq v) ?_).mono ?_
  · refine (eturn_any tk g C q kd vb s E Tk qb cq _ hQ1).mono ?_
    rintro e w1 ⟨v, rfl, hE⟩
    obtain ⟨s', kd1, r, ev, ad, ne, cap, rfl, a1, a2, a3, a4⟩ := hE
    have hb := a2.block hB1 hN
    exact ⟨ad, ne, cap, rfl, by simp [World.cell?, hb], by simp [World.frozen?, hb], s', kd1, r, ev, ad, ne, cap, rfl, a1, a2, a3, a4⟩
  · rintro e w' ⟨v, w1, rfl, hE, rfl⟩
    exact ⟨v, rfl, tpK_of (g := g.tick (B.aft g.clk tk)) hQ.hq hB hF hN hFE hE⟩

theorem turnK_not {w : World} {mb : Nat} {F : Nat → Prop} {C : List B.In} {nr n q wk : Nat} {clk U : Int} {kd : B.Kd} {s : B.St} (tk : Int) (h : MsK w mb F C nr n q wk clk kd s U) (hU : ¬ U ≤ B.aft clk tk) :
    Calls Tryz.prog 24 #[P0 mb, .int .i64 tk, .slice none 0 0] w fun e w' => e = .returned (.slice none 0 0) ∧ Only F w w' ∧ ∃ F', (∀ k, F' k → F k ∨ (w.heap.size ≤ k ∧ k < w'.heap.size)) ∧ MsK w' mb F' C nr n q wk (B.aft clk tk) (B.work s.2.1 nr s.2.2 n wk kd) s U := by
  obtain ⟨g, vb, E, Tk, qb, cq, zb, zc, rfl, rfl, rfl, rfl, hq, h42, hZ, ⟨x, hB⟩, hF, hN, hFE⟩ := h
  have h0 : w.cell? ⟨mb, 0, none⟩ = some (.int .i32 0) := by simp [World.cell?, hB]
  have f0 : w.frozen? ⟨mb, 0, none⟩ = false := by simp [World.frozen?, hB]
  have h2 : w.cell? ⟨mb, 2, none⟩ = some (P0 g.eb) := by simp [World.cell?, hB]
  have lm := heap_lt hB
  have hsF : ∀ k, (k = g.eb ∨ Sbk g.sb g.pb g.n kd vb k) → FE (g.rows zb zc) qb kd vb k := by
    rintro k (h | h | h | h)
    · exact Or.inl (Or.inl h)
    · exact Or.inl (Or.inr (Or.inr (Or.inr (Or.inr (Or.inr (Or.inr (Or.inr (Or.inr (Or.inr (Or.inr (Or.inl h)))))))))))
    · exact Or.inl (Or.inr (Or.inr (Or.inr (Or.inr (Or.inr (Or.inr (Or.inr (Or.inr (Or.inr (Or.inr (Or.inr (h))))))))))))
    · exact Or.inr (Or.inr (Or.inr (Or.inl h)))
  have hme : ¬ (mb = g.eb ∨ Sbk g.sb g.pb g.n kd vb mb) := fun h => hN (hsF mb h)
  have hZ1 : Zzz (w.setCell ⟨mb, 0, none⟩ (.int .i32 1)) g C q kd vb s E Tk qb cq zb zc U := hZ.same (fun k hk => Below.heap_setCell _ _ _ _ (fun e => hN ((show k = mb from e) ▸ hk)))
  have hB1 : (w.setCell ⟨mb, 0, none⟩ (.int .i32 1)).heap[mb]? = some (.cells #[.int .i32 1, x, P0 g.eb] 105 (0, 0)) := by simp [World.setCell, Array.getElem?_modify, hB]
  have hz1 : (w.setCell ⟨mb, 0, none⟩ (.int .i32 1)).heap.size = w.heap.size := by simp [World.setCell]
  refine (turn_face mb g.eb tk _ rfl w h0 f0 h2 (fun v w1 => v = .slice none 0 0 ∧ Only (fun k => k = g.eb ∨ Sbk g.sb g.pb g.n kd vb k) (w.setCell ⟨mb, 0, none⟩ (.int .i32 1)) w1 ∧ ∃ kd' vb' E', kd' = B.work s.2.1 g.nr s.2.2 g.n g.wk kd ∧ E' 43 = .slice none 0 0 ∧ Zzz w1 (g.tick (B.aft g.clk tk)) C q kd' vb' s E' Tk qb cq zb zc U ∧ Grew g.n kd vb kd' vb' (w.setCell ⟨mb, 0, none⟩ (.int .i32 1)).heap.size) ?_).mono ?_
  · refine (eturn_not tk g C q kd vb s E Tk qb cq zb zc U _ hZ1 h42 hU).mono ?_
    rintro e w1 ⟨rfl, hO, vb', E', hE1, hE2, hE3⟩
    have hb := hO.block hB1 hme
    exact ⟨none, 0, 0, rfl, by simp [World.cell?, hb], by simp [World.frozen?, hb], rfl, hO, _, vb', E', rfl, hE1, hE2, hE3⟩
  · rintro e w' ⟨v, w1, rfl, ⟨rfl, hO, kd', vb', E', hkd, hE42, hE, hv⟩, rfl⟩
    have hb := hO.block hB1 hme
    have hz2 := hO.size
    have hz3 : (w1.setCell ⟨mb, 0, none⟩ (.int .i32 0)).heap.size = w1.heap.size := by simp [World.setCell]
    have hN2 : ¬ FE (g.rows zb zc) qb kd' vb' mb := by
      rintro (h | h | h | h | h)
      · exact hN (Or.inl h)
      · exact hN (Or.inr (Or.inl h))
      · exact hN (Or.inr (Or.inr (Or.inl h)))
      · rcases hv mb h with x1 | x1
        · exact hN (Or.inr (Or.inr (Or.inr (Or.inl x1))))
        · omega
      · exact hN (Or.inr (Or.inr (Or.inr (Or.inr h))))
    refine ⟨rfl, ?_, fun k => k = mb ∨ FE (g.rows zb zc) qb kd' vb' k, ?_, hkd ▸ ⟨g.tick (B.aft g.clk tk), vb', E', Tk, qb, cq, zb, zc, rfl, rfl, rfl, rfl, hq, hE42, hE.same (fun k hk => Below.heap_setCell _ _ _ _ (fun e => hN2 ((show k = mb from e) ▸ hk))), ⟨x, by simp [World.setCell, Array.getElem?_modify, hb]; rfl⟩, Or.inl rfl, hN2, fun k hk => Or.inr hk⟩⟩
    · exact only_setCell ((only_setCell (S := F) (only_refl F w) (Or.inl hF) _).trans hO (fun k h _ => hFE k (hsF k h))) (Or.inl hF) _
    · rintro k (rfl | h | h | h | h | h)
      · exact Or.inl hF
      · exact Or.inl (hFE k (Or.inl h))
      · exact Or.inl (hFE k (Or.inr (Or.inl h)))
      · exact Or.inl (hFE k (Or.inr (Or.inr (Or.inl h))))
      · rcases hv k h with x1 | x1
        · exact Or.inl (hFE k (Or.inr (Or.inr (Or.inr (Or.inl x1)))))
        · have := hE.hR.lt.2.2.2.2.2.2.2.2.2.2 k h
          exact Or.inr (by omega)
      · exact Or.inl (hFE k (Or.inr (Or.inr (Or.inr (Or.inr h)))))


theorem occK {w : World} {mb : Nat} {F : Nat → Prop} {C : List B.In} {nr n q wk : Nat} {clk U : Int} {kd : B.Kd} {s : B.St} (hn : n ≤ 200) (h : MsK w mb F C nr n q wk clk kd s U) :
    Calls Tryz.prog 30 #[P0 mb] w fun e w' => e = .returned (.int .i64 (B.occ kd.on n : Nat)) ∧ w.grownBy w' none := by
  obtain ⟨g, vb, E, Tk, qb, cq, zb, zc, rfl, rfl, rfl, rfl, hq, h42, hZ, ⟨x, hB⟩, hF, hN, hFE⟩ := h
  have hZ1 : Zzz (w.setCell ⟨mb, 0, none⟩ (.int .i32 1)) g C q kd vb s E Tk qb cq zb zc U := hZ.same (fun k hk => Below.heap_setCell _ _ _ _ (fun e => hN ((show k = mb from e) ▸ hk)))
  exact occ_face mb g.eb _ x w hB (eocc_any g.eb g.sb g.pb g.n kd vb s.2.2 _ ((hZ1.hR.hE.cell 27 (by omega)).trans (by rw [hZ1.hR.eE.e26])) hZ1.hR.hS hn)
theorem cntK {w : World} {mb : Nat} {F : Nat → Prop} {C : List B.In} {nr n q wk : Nat} {clk U : Int} {kd : B.Kd} {s : B.St} (h : MsK w mb F C nr n q wk clk kd s U) :
    Calls Tryz.prog 29 #[P0 mb] w fun e w' => e = .returned (.agg #[.int .i64 (wrap64 (kd.un : Int)), .int .i64 (wrap64 (kd.fo : Int)), .int .i64 (wrap64 (kd.cc : Int))]) ∧ w.grownBy w' none := by
  obtain ⟨g, vb, E, Tk, qb, cq, zb, zc, rfl, rfl, rfl, rfl, hq, h42, hZ, ⟨x, hB⟩, hF, hN, hFE⟩ := h
  refine cnt_face mb g.eb _ _ _ x w hB (fun w1 hg => ?_)
  have hZ1 : Zzz (w1.setCell ⟨mb, 0, none⟩ (.int .i32 1)) g C q kd vb s E Tk qb cq zb zc U := (hZ.grown hg).same (fun k hk => Below.heap_setCell _ _ _ _ (fun e => hN ((show k = mb from e) ▸ hk)))
  have hs := hZ1.hR.hS
  exact ecnt_any g.eb g.sb _ _ _ _ ((hZ1.hR.hE.cell 27 (by omega)).trans (by rw [hZ1.hR.eE.e26])) hZ1.hR.hE.lt (by simp [World.cell?, hs.b]) (by simp [World.cell?, hs.b]) (by simp [World.cell?, hs.b]) (heap_lt hs.b)
theorem occKq {w : World} {mb : Nat} {F : Nat → Prop} {C : List B.In} {nr n q wk : Nat} {clk : Int} {kd : B.Kd} {s : B.St} (hn : n ≤ 200) (h : MqK w mb F C nr n q wk clk kd s) :
    Calls Tryz.prog 30 #[P0 mb] w fun e w' => e = .returned (.int .i64 (B.occ kd.on n : Nat)) ∧ w.grownBy w' none := by
  obtain ⟨g, vb, E, Tk, qb, cq, rfl, rfl, rfl, rfl, hQ, ⟨x, hB⟩, hF, hN, hFE⟩ := h
  have hQ1 : Que (w.setCell ⟨mb, 0, none⟩ (.int .i32 1)) g C q kd vb s E Tk qb cq := hQ.same (fun k hk => Below.heap_setCell _ _ _ _ (fun e => hN ((show k = mb from e) ▸ hk)))
  exact occ_face mb g.eb _ x w hB (eocc_any g.eb g.sb g.pb g.n kd vb s.2.2 _ ((hQ1.hR.hE.cell 27 (by omega)).trans (by rw [hQ1.hR.eE.e26])) hQ1.hR.hS hn)
theorem cntKq {w : World} {mb : Nat} {F : Nat → Prop} {C : List B.In} {nr n q wk : Nat} {clk : Int} {kd : B.Kd} {s : B.St} (h : MqK w mb F C nr n q wk clk kd s) :
    Calls Tryz.prog 29 #[P0 mb] w fun e w' => e = .returned (.agg #[.int .i64 (wrap64 (kd.un : Int)), .int .i64 (wrap64 (kd.fo : Int)), .int .i64 (wrap64 (kd.cc : Int))]) ∧ w.grownBy w' none := by
  obtain ⟨g, vb, E, Tk, qb, cq, rfl, rfl, rfl, rfl, hQ, ⟨x, hB⟩, hF, hN, hFE⟩ := h
  refine cnt_face mb g.eb _ _ _ x w hB (fun w1 hg => ?_)
  have hQ1 : Que (w1.setCell ⟨mb, 0, none⟩ (.int .i32 1)) g C q kd vb s E Tk qb cq := (hQ.grown hg).same (fun k hk => Below.heap_setCell _ _ _ _ (fun e => hN ((show k = mb from e) ▸ hk)))
  have hs := hQ1.hR.hS
  exact ecnt_any g.eb g.sb _ _ _ _ ((hQ1.hR.hE.cell 27 (by omega)).trans (by rw [hQ1.hR.eE.e26])) hQ1.hR.hE.lt (by simp [World.cell?, hs.b]) (by simp [World.cell?, hs.b]) (by simp [World.cell?, hs.b]) (heap_lt hs.b)
end Go.Proofs.YtnjiinbhbjpfkaaGreatDoor

/-
  The program of the law Freed on the machine of one task: it makes cells, keeps some of them, and sleeps, in one turn, with no collection forced; then what the collector says behind each turn. Nothing of the program is imported here.
-/
namespace Go.Proofs.YtnjiinbhbjpfkaaGreatDoor.B

/-- A run that goes on, silent, to an instruction behind which the task sleeps. -/
theorem runs3_to {clk : Int} {C : List In} {nr n : Nat} {I : Nat → St → Kd → Prop} {B : Nat} {Q : St → Kd → Prop}
    (h : ∀ j s kd s' kd' r ev, j < B → I j s kd → Step3 clk C nr n s kd s' kd' r ev → r = 0 ∧ ev = [] ∧ I (j + 1) s' kd')
    (hl : ∀ s kd s' kd' r ev, I B s kd → Step3 clk C nr n s kd s' kd' r ev → r = 4 ∧ ev = [] ∧ Q s' kd') :
    ∀ m j s kd s' kd' r ev, j ≤ B → B < j + m → I j s kd → Runs3 clk C nr n m s kd s' kd' r ev → r = 4 ∧ ev = [] ∧ Q s' kd' := by
  intro m
  induction m with
  | zero => intro j s kd s' kd' r ev h1 h2; omega
  | succ m ih =>
    rintro j s kd s' kd' r ev h1 h2 hI ⟨s1, kd1, r1, ev1, h3, h4⟩
    by_cases e : j = B
    · subst e
      obtain ⟨rfl, rfl, hQ⟩ := hl _ _ _ _ _ _ hI h3
      rcases h4 with ⟨a, _⟩ | ⟨_, rfl, rfl, d⟩
      · cases a
      · obtain ⟨rfl, rfl⟩ := d (Or.inl rfl)
        exact ⟨rfl, rfl, hQ⟩
    · obtain ⟨rfl, rfl, hI1⟩ := h _ _ _ _ _ _ _ (by omega) hI h3
      rcases h4 with ⟨_, ev2, hr, rfl⟩ | ⟨a, _⟩
      · obtain ⟨a1, a2, a3⟩ := ih (j + 1) _ _ _ _ _ _ (by omega) (by omega) hI1 hr
        exact ⟨a1, by rw [a2], a3⟩
      · exact absurd rfl a

def frC (a k : Nat) : List In := (List.range a).map (fun i => (9, 2 + i % 6, 1, 0)) ++ ((List.range (6 - k)).map (fun i => (0, 2 + (k + i), 0, 0)) ++ [(0, 0, 127, 255), (17, 0, 0, 0)])
theorem fr_cell (a k j : Nat) (h : j < a) : (frC a k)[j]? = some (9, 2 + j % 6, 1, 0) := by
  unfold frC
  rw [List.getElem?_append_left (by simpa using h)]
  simp [h]
theorem fr_num (a k t : Nat) (h : t < 6 - k) : (frC a k)[a + t]? = some (0, 2 + (k + t), 0, 0) := by
  unfold frC
  rw [List.getElem?_append_right (by simp), List.getElem?_append_left (by simp; omega)]
  simp [h]
theorem fr_long (a k : Nat) : (frC a k)[a + (6 - k)]? = some (0, 0, 127, 255) := by
  unfold frC
  rw [List.getElem?_append_right (by simp), List.getElem?_append_right (by simp)]
  simp
theorem fr_sleep (a k : Nat) : (frC a k)[a + (6 - k) + 1]? = some (17, 0, 0, 0) := by
  unfold frC
  rw [List.getElem?_append_right (by simp; omega), List.getElem?_append_right (by simp; omega)]
  simp [show a + (6 - k) + 1 - a - (6 - k) = 1 by omega]

/-- Whether the register 2 + x holds a cell behind j instructions. -/
def frL (a k j x : Nat) : Prop := x < j ∧ x < a ∧ ¬ (k ≤ x ∧ x < k + (j - a))
/-- Behind j instructions. -/
structure frI (a k n j : Nat) (s : St) (kd : Kd) : Prop where
  at_ : s.1 = j
  r0 : s.2.1 0 = (0, if a + (6 - k) < j then 32767 else 0)
  r1 : s.2.1 1 = (0, 0)
  up : ∀ x, x < 6 → frL a k j x → (s.2.1 (2 + x)).1 ≠ 0
  off : ∀ x, x < 6 → ¬ frL a k j x → s.2.1 (2 + x) = (0, 0)
  ne : ∀ x y, x < y → y < 6 → (s.2.1 (2 + x)).1 ≠ 0 → (s.2.1 (2 + x)).1 ≠ (s.2.1 (2 + y)).1
  num : ∀ p v, v ∈ s.2.2 p → v.1 = 0
  ok : ∀ i, i < 8 → Vok kd.on n (s.2.1 i)
  cy : kd.cy = none
  un : kd.un = 0
  fo : kd.fo = 0
  cc : kd.cc = 0
  oc : occ kd.on n = min j a

theorem fr_start (a k n : Nat) : frI a k n 0 (0, fun _ => (0, 0), fun _ => []) kd0 where
  at_ := rfl
  r0 := by rw [if_neg (by omega)]
  r1 := rfl
  up := fun x _ h => by unfold frL at h; omega
  off := fun _ _ _ => rfl
  ne := fun _ _ _ _ h => absurd rfl h
  num := fun _ _ h => by simp at h
  ok := fun _ _ => Or.inl rfl
  cy := rfl
  un := rfl
  fo := rfl
  cc := rfl
  oc := by
    have : ∀ n, occ kd0.on n = 0 := fun n => by
      induction n with
      | zero => rfl
      | succ n ih => unfold occ; rw [ih]; rfl
    rw [this]; omega

theorem fr_step {clk : Int} {a k n : Nat} (hk : k ≤ 5) (hn : a < n) (j : Nat) (s : St) (kd : Kd) (s' : St) (kd' : Kd) (r : Nat) (ev : List Ev) (hj : j < a + (6 - k) + 1) (hI : frI a k n j s kd) (h : Step3 clk (frC a k) 8 n s kd s' kd' r ev) : r = 0 ∧ ev = [] ∧ frI a k n (j + 1) s' kd' := by
  obtain ⟨nx, R, M⟩ := s
  have hat : nx = j := hI.at_
  subst hat
  obtain ⟨h1, h2⟩ := h
  by_cases hA : nx < a
  · -- a cell
    have hC := fr_cell a k nx hA
    unfold Step2 at h1
    simp only [hC] at h1
    have h1' : Does 8 n (9, 2 + nx % 6, 1, 0) (nx, R, M) s' r ev := h1
    have hnf : ¬ ∀ p, 1 ≤ p → p ≤ n → kd.on p = true := fun h => by
      have := occ_full h
      have := hI.oc
      omega
    have hr : r = 0 ∧ ev = [] := by
      rcases h1' with ⟨hF, _⟩ | ⟨e1, e2, _⟩
      · exfalso
        refine hnf (fun p a b => ?_)
        have hp := hF p a b
        have := hp (fun p => p ≠ 0 → kd.on p = true) (fun i hi h0 h0' => by
          rcases hI.ok i hi with h | h
          · exact absurd h h0
          · exact h.2.2.1) (fun q _ v hv h0 => absurd (hI.num q v hv) h0)
        exact this (by omega)
      · exact ⟨e1, e2⟩
    obtain ⟨rfl, rfl⟩ := hr
    obtain ⟨kd1, p, p1, p2, p3, rfl, rfl, p4⟩ := h2 (Or.inl rfl) _ hC
    rcases p4 with rfl | ⟨hf, _⟩
    · have hx6 : nx % 6 < 6 := Nat.mod_lt _ (by omega)
      have hof : ∀ x, x ≠ nx % 6 → set R (2 + nx % 6) (p, 0) (2 + x) = R (2 + x) := fun x hx => set_off _ _ _ _ (by omega)
      have hcell : ∀ i, i < 8 → (R i).1 ≠ 0 → (R i).1 ≠ p := fun i hi h0 e => by
        rcases hI.ok i hi with h | h
        · exact absurd h h0
        · rw [e] at h; rw [p3] at h; exact absurd h.2.2.1 (by simp)
      have hL : ∀ x, x < 6 → x ≠ nx % 6 → (frL a k (nx + 1) x ↔ frL a k nx x) := fun x hx hne => by
        unfold frL
        have : x ≠ nx := fun e => by subst e; exact hne (Nat.mod_eq_of_lt hx).symm
        omega
      refine ⟨rfl, rfl, ?_⟩
      exact {
        at_ := rfl
        r0 := by
          show set R (2 + nx % 6) (p, 0) 0 = _
          rw [set_off _ _ _ _ (by omega)]
          have := hI.r0
          rw [if_neg (by omega)] at this ⊢
          exact this
        r1 := by show set R (2 + nx % 6) (p, 0) 1 = _; rw [set_off _ _ _ _ (by omega)]; exact hI.r1
        up := fun x hx hl => by
          show (set R (2 + nx % 6) (p, 0) (2 + x)).1 ≠ 0
          by_cases e : x = nx % 6
          · subst e; rw [set_at]; show p ≠ 0; omega
          · rw [hof x e]; exact hI.up x hx ((hL x hx e).1 hl)
        off := fun x hx hl => by
          show set R (2 + nx % 6) (p, 0) (2 + x) = _
          by_cases e : x = nx % 6
          · exfalso; apply hl; unfold frL
            have : nx % 6 ≤ nx := Nat.mod_le _ _
            omega
          · rw [hof x e]; exact hI.off x hx (fun h => hl ((hL x hx e).2 h))
        ne := fun x y hxy hy h0 => by
          show (set R (2 + nx % 6) (p, 0) (2 + x)).1 ≠ (set R (2 + nx % 6) (p, 0) (2 + y)).1
          have h0' : (set R (2 + nx % 6) (p, 0) (2 + x)).1 ≠ 0 := h0
          by_cases e : x = nx % 6
          · subst e
            rw [set_at, hof y (by omega)]
            intro e2
            have e3 : p = (R (2 + y)).1 := e2
            exact hcell (2 + y) (by omega) (by omega) e3.symm
          · rw [hof x e] at h0' ⊢
            by_cases e2 : y = nx % 6
            · subst e2; rw [set_at]; exact hcell (2 + x) (by omega) h0'
            · rw [hof y e2]; exact hI.ne x y hxy hy h0'
        num := fun q v hv => by
          have hv' : v ∈ lay M p (List.replicate 1 (0, 0)) q := hv
          by_cases e : q = p
          · subst e; rw [lay_at] at hv'; rw [List.eq_of_mem_replicate hv']
          · rw [lay_off _ _ _ _ e] at hv'; exact hI.num q v hv'
        ok := fun i hi => by
          show Vok (mark kd1.on p) n (set R (2 + nx % 6) (p, 0) i)
          by_cases e : i = 2 + nx % 6
          · subst e; rw [set_at]; exact Or.inr ⟨p1, p2, mark_at _ _, rfl⟩
          · rw [set_off _ _ _ _ e]; exact (hI.ok i hi).up (fun q hq => mark_up p hq)
        cy := by show kd1.cy.map _ = none; rw [hI.cy]; rfl
        un := hI.un
        fo := hI.fo
        cc := hI.cc
        oc := by
          show occ (mark kd1.on p) n = _
          rw [occ_mark _ _ p1 p3 _ p2, hI.oc]; omega }
    · exact absurd hf hnf
  · by_cases hB : nx < a + (6 - k)
    · obtain ⟨t, rfl⟩ : ∃ t, nx = a + t := ⟨nx - a, by omega⟩
      have hC := fr_num a k t (by omega)
      unfold Step2 at h1
      simp only [hC] at h1
      have h1' : r = 0 ∧ ev = [] ∧ s' = (a + t + 1, set R (2 + (k + t)) (0, wide 0 0), M) := h1
      obtain ⟨rfl, rfl, rfl⟩ := h1'
      have hkd : kd' = kd := h2 (Or.inl rfl) _ hC
      subst hkd
      have hw : wide 0 0 = 0 := by decide
      have hof : ∀ x, x ≠ k + t → set R (2 + (k + t)) (0, wide 0 0) (2 + x) = R (2 + x) := fun x hx => set_off _ _ _ _ (by omega)
      have hL : ∀ x, x < 6 → x ≠ k + t → (frL a k (a + t + 1) x ↔ frL a k (a + t) x) := fun x hx hne => by unfold frL; omega
      have hz : set R (2 + (k + t)) (0, wide 0 0) (2 + (k + t)) = (0, 0) := by rw [set_at, hw]
      refine ⟨rfl, rfl, ?_⟩
      exact {
        at_ := rfl
        r0 := by
          show set R (2 + (k + t)) (0, wide 0 0) 0 = _
          rw [set_off _ _ _ _ (by omega)]
          have := hI.r0
          rw [if_neg (by omega)] at this ⊢
          exact this
        r1 := by show set R (2 + (k + t)) (0, wide 0 0) 1 = _; rw [set_off _ _ _ _ (by omega)]; exact hI.r1
        up := fun x hx hl => by
          show (set R (2 + (k + t)) (0, wide 0 0) (2 + x)).1 ≠ 0
          by_cases e : x = k + t
          · exfalso; unfold frL at hl; omega
          · rw [hof x e]; exact hI.up x hx ((hL x hx e).1 hl)
        off := fun x hx hl => by
          show set R (2 + (k + t)) (0, wide 0 0) (2 + x) = _
          by_cases e : x = k + t
          · subst e; exact hz
          · rw [hof x e]; exact hI.off x hx (fun h => hl ((hL x hx e).2 h))
        ne := fun x y hxy hy h0 => by
          show (set R (2 + (k + t)) (0, wide 0 0) (2 + x)).1 ≠ (set R (2 + (k + t)) (0, wide 0 0) (2 + y)).1
          have h0' : (set R (2 + (k + t)) (0, wide 0 0) (2 + x)).1 ≠ 0 := h0
          by_cases e : x = k + t
          · subst e; rw [hz] at h0'; exact absurd rfl h0'
          · by_cases e2 : y = k + t
            · subst e2; rw [hz]; exact h0'
            · rw [hof x e] at h0' ⊢; rw [hof y e2]; exact hI.ne x y hxy hy h0'
        num := hI.num
        ok := fun i hi => by
          show Vok kd'.on n (set R (2 + (k + t)) (0, wide 0 0) i)
          by_cases e : i = 2 + (k + t)
          · subst e; rw [set_at]; exact Or.inl rfl
          · rw [set_off _ _ _ _ e]; exact hI.ok i hi
        cy := hI.cy
        un := hI.un
        fo := hI.fo
        cc := hI.cc
        oc := by rw [hI.oc]; omega }
    · obtain rfl : nx = a + (6 - k) := by omega
      have hC := fr_long a k
      unfold Step2 at h1
      simp only [hC] at h1
      have h1' : r = 0 ∧ ev = [] ∧ s' = (a + (6 - k) + 1, set R 0 (0, wide 127 255), M) := h1
      obtain ⟨rfl, rfl, rfl⟩ := h1'
      have hkd : kd' = kd := h2 (Or.inl rfl) _ hC
      subst hkd
      have hw : wide 127 255 = 32767 := by decide
      have hof : ∀ x, set R 0 (0, wide 127 255) (2 + x) = R (2 + x) := fun x => set_off _ _ _ _ (by omega)
      have hL : ∀ x, x < 6 → (frL a k (a + (6 - k) + 1) x ↔ frL a k (a + (6 - k)) x) := fun x hx => by unfold frL; omega
      refine ⟨rfl, rfl, ?_⟩
      exact {
        at_ := rfl
        r0 := by show set R 0 (0, wide 127 255) 0 = _; rw [set_at, hw, if_pos (by omega)]
        r1 := by show set R 0 (0, wide 127 255) 1 = _; rw [set_off _ _ _ _ (by omega)]; exact hI.r1
        up := fun x hx hl => by show (set R 0 (0, wide 127 255) (2 + x)).1 ≠ 0; rw [hof]; exact hI.up x hx ((hL x hx).1 hl)
        off := fun x hx hl => by show set R 0 (0, wide 127 255) (2 + x) = _; rw [hof]; exact hI.off x hx (fun h => hl ((hL x hx).2 h))
        ne := fun x y hxy hy h0 => by
          show (set R 0 (0, wide 127 255) (2 + x)).1 ≠ (set R 0 (0, wide 127 255) (2 + y)).1
          have h0' : (set R 0 (0, wide 127 255) (2 + x)).1 ≠ 0 := h0
          rw [hof] at h0' ⊢; rw [hof]; exact hI.ne x y hxy hy h0'
        num := hI.num
        ok := fun i hi => by
          show Vok kd'.on n (set R 0 (0, wide 127 255) i)
          by_cases e : i = 0
          · subst e; rw [set_at]; exact Or.inl rfl
          · rw [set_off _ _ _ _ e]; exact hI.ok i hi
        cy := hI.cy
        un := hI.un
        fo := hI.fo
        cc := hI.cc
        oc := by rw [hI.oc]; omega }

/-- What lies there when the task sleeps. -/
def frQ (a k n : Nat) (s : St) (kd : Kd) : Prop := s.1 = a + (6 - k) + 2 ∧ s.2.1 0 = (0, 32767) ∧ (begun s.2.1 8).st.length = min a k ∧ (∀ p v, v ∈ s.2.2 p → v.1 = 0) ∧ (∀ i, i < 8 → Vok kd.on n (s.2.1 i)) ∧ kd.cy = none ∧ kd.un = 0 ∧ kd.fo = 0 ∧ kd.cc = 0
theorem fr_len {a k n : Nat} (hk : k ≤ 5) {s : St} {kd : Kd} (hI : frI a k n (a + (6 - k) + 1) s kd) : (begun s.2.1 8).st.length = min a k := by
  have h0 : (s.2.1 0).1 = 0 := by rw [hI.r0]
  have h1 : (s.2.1 1).1 = 0 := by rw [hI.r1]
  have hne : ∀ i j, i < j → j < 8 → (s.2.1 i).1 ≠ 0 → (s.2.1 i).1 ≠ (s.2.1 j).1 := fun i j hij hj h => by
    by_cases e : 2 ≤ i
    · have := hI.ne (i - 2) (j - 2) (by omega) (by omega)
      rw [show 2 + (i - 2) = i by omega, show 2 + (j - 2) = j by omega] at this
      exact this h
    · exfalso
      rcases (show i = 0 ∨ i = 1 by omega) with rfl | rfl
      · exact h h0
      · exact h h1
  have hp : (regs s.2.1 8).Pairwise (fun u v => u.1 ≠ 0 → u.1 ≠ v.1) := by
    unfold regs
    rw [List.pairwise_map]
    refine List.Pairwise.imp_of_mem (R := (· < ·)) (fun {i j} hi hj hij => ?_) List.pairwise_lt_range
    exact hne i j hij (by simpa using hj)
  have hl := seenL_len (regs s.2.1 8) (fun _ => false) [] hp (fun _ _ _ => rfl)
  show (seenL (fun _ => false) [] (regs s.2.1 8)).2.length = _
  rw [hl]
  have key : ∀ x, x < 6 → (((s.2.1 (2 + x)).1 != 0) = decide (x < min a k)) := fun x hx => by
    by_cases e : x < min a k
    · have := hI.up x hx (by unfold frL; omega)
      rw [decide_eq_true e]; exact bne_iff_ne.2 this
    · have := hI.off x hx (by unfold frL; omega)
      rw [decide_eq_false e, this]; rfl
  have k0 := key 0 (by omega)
  have k1 := key 1 (by omega)
  have k2 := key 2 (by omega)
  have k3 := key 3 (by omega)
  have k4 := key 4 (by omega)
  have k5 := key 5 (by omega)
  have hm : min a k ≤ 5 := by omega
  generalize min a k = m at *
  have er : regs s.2.1 8 = [s.2.1 0, s.2.1 1, s.2.1 (2 + 0), s.2.1 (2 + 1), s.2.1 (2 + 2), s.2.1 (2 + 3), s.2.1 (2 + 4), s.2.1 (2 + 5)] := rfl
  rw [er]
  simp only [List.filter_cons, k0, k1, k2, k3, k4, k5, h0, h1]
  rcases (show m = 0 ∨ m = 1 ∨ m = 2 ∨ m = 3 ∨ m = 4 ∨ m = 5 by omega) with rfl | rfl | rfl | rfl | rfl | rfl <;> simp
theorem fr_turn {clk : Int} {a k n : Nat} (ha : a ≤ 40) (hk : k ≤ 5) (hn : a < n) {s' : St} {kd' : Kd} {r : Nat} {ev : List Ev} (h : Runs3 clk (frC a k) 8 n 50 (0, fun _ => (0, 0), fun _ => []) kd0 s' kd' r ev) : r = 4 ∧ ev = [] ∧ frQ a k n s' kd' := by
  refine runs3_to (I := frI a k n) (B := a + (6 - k) + 1) (Q := frQ a k n) (fun j s kd s' kd' r ev => fr_step hk hn j s kd s' kd' r ev) (fun s kd s' kd' r ev hI h => ?_) 50 0 _ _ _ _ _ _ (by omega) (by omega) (fr_start a k n) h
  have hlen := fr_len hk hI
  obtain ⟨nx, R, M⟩ := s
  have hat : nx = a + (6 - k) + 1 := hI.at_
  subst hat
  obtain ⟨h1, h2⟩ := h
  have hC := fr_sleep a k
  unfold Step2 at h1
  simp only [hC] at h1
  have h1' : if (R 0).1 = 0 then r = 4 ∧ ev = [] ∧ s' = (a + (6 - k) + 1 + 1, R, M) else r = 3 := h1
  have h0 : R 0 = (0, 32767) := by have := hI.r0; rw [if_pos (by omega)] at this; exact this
  rw [if_pos (by rw [h0])] at h1'
  obtain ⟨rfl, rfl, rfl⟩ := h1'
  have hkd : kd' = kd := h2 (Or.inr (Or.inl rfl)) _ hC
  subst hkd
  exact ⟨rfl, rfl, rfl, h0, hlen, hI.num, hI.ok, hI.cy, hI.un, hI.fo, hI.cc⟩
end Go.Proofs.YtnjiinbhbjpfkaaGreatDoor.B

/-
  A machine with the program of Freed, turn by turn: what Turn, Counts and Occupied answer.
-/
namespace Go.Proofs.YtnjiinbhbjpfkaaGreatDoor
open Go.RowKit

namespace B
theorem units_un {M : Nat → List V} {n : Nat} : ∀ (u : Nat) (kd : Kd), kd.un ≤ (units M n u kd).un ∧ (units M n u kd).un ≤ kd.un + u
  | 0, kd => ⟨Nat.le_refl _, Nat.le_refl _⟩
  | u + 1, kd => by
    cases h : kd.cy with
    | none => rw [units_none h]; omega
    | some c =>
      rw [units_succ h]
      have h1 := units_un (M := M) (n := n) u (stepK M n kd c)
      have h2 : (stepK M n kd c).un = kd.un + 1 := by unfold stepK; split <;> rfl
      omega
theorem work_un {R : Nat → V} {nr : Nat} {M : Nat → List V} {n u : Nat} {kd : Kd} : kd.un ≤ (work R nr M n u kd).un ∧ (work R nr M n u kd).un ≤ kd.un + u := by
  unfold work
  cases h : kd.cy with
  | none => exact units_un u { kd with cy := some (begun R nr) }
  | some c => exact units_un u kd
end B

/-- Behind i turns: u units, c cycles, o places taken. -/
def FrS (w : World) (mb : Nat) (F : Nat → Prop) (a k n wk i u c o : Nat) : Prop :=
  (i = 0 ∧ u = 0 ∧ MqK w mb F (B.frC a k) 8 n 50 wk 0 B.kd0 (0, fun _ => (0, 0), fun _ => [])) ∨
  (0 < i ∧ ∃ s kd, B.frQ a k n s kd ∧ u = (B.works s.2.1 8 s.2.2 n wk i kd).un ∧ c = (B.works s.2.1 8 s.2.2 n wk i kd).cc ∧ o = B.occ (B.works s.2.1 8 s.2.2 n wk i kd).on n ∧ MsK w mb F (B.frC a k) 8 n 50 wk 0 (B.works s.2.1 8 s.2.2 n wk i kd) s 32767)
theorem FrS.keep {w w' : World} {mb : Nat} {F : Nat → Prop} {a k n wk i u c o : Nat} (h : FrS w mb F a k n wk i u c o) (hk : ∀ k, F k → w'.heap[k]? = w.heap[k]?) : FrS w' mb F a k n wk i u c o := by
  rcases h with ⟨h1, h2, h3⟩ | ⟨h1, s, kd, h2, h3, h4, h5, h6⟩
  · exact Or.inl ⟨h1, h2, h3.keep hk⟩
  · exact Or.inr ⟨h1, s, kd, h2, h3, h4, h5, h6.keep hk⟩

/-- What the numbers are behind i turns, i above 0. -/
def FrN (a k n wk i c o : Nat) : Prop := c = i / B.each (min a k + n) wk ∧ min a k ≤ o ∧ o ≤ n ∧ (B.each (min a k + n) wk ≤ i → o = min a k)
theorem fr_says {a k n wk i : Nat} (hn : 1 ≤ n) (hw : 1 ≤ wk) {s : B.St} {kd : B.Kd} (h : B.frQ a k n s kd) :
    FrN a k n wk i (B.works s.2.1 8 s.2.2 n wk i kd).cc (B.occ (B.works s.2.1 8 s.2.2 n wk i kd).on n) ∧ (B.works s.2.1 8 s.2.2 n wk i kd).fo = 0 := by
  obtain ⟨_, _, h3, h4, h5, h6, h7, h8, h9⟩ := h
  obtain ⟨a1, a2, a3, a4, a5, a6⟩ := B.works_says (w := wk) hn hw (fun p _ v hv => h4 p v hv) kd h6 h5 _ h3 i
  refine ⟨⟨by rw [a3, h9, Nat.zero_add], a4, B.occ_le _ _, a6⟩, by rw [a2, h8]⟩

theorem aft00 : B.aft 0 0 = 0 := by decide
theorem aftU : B.aft 0 32767 = 32767 := by decide

/-- A turn. -/
theorem fr_turn_any {a k n wk i u c o mb : Nat} {F : Nat → Prop} {w : World} (ha : a ≤ 40) (hk : k ≤ 5) (hn : a < n) (hw : 1 ≤ wk) (h : FrS w mb F a k n wk i u c o) :
    Calls Tryz.prog 24 #[P0 mb, .int .i64 0, .slice none 0 0] w fun e w' => ∃ (F' : Nat → Prop) (ad : Option Addr) (cap u' c' o' : Nat), e = .returned (.slice ad 0 cap) ∧ Hid (Only F w w') ∧ Hid (∀ k, F' k → F k ∨ (w.heap.size ≤ k ∧ k < w'.heap.size)) ∧ Hid (FrS w' mb F' a k n wk (i + 1) u' c' o') ∧ u ≤ u' ∧ u' ≤ u + wk ∧ Hid (FrN a k n wk (i + 1) c' o') := by
  rcases h with ⟨rfl, rfl, h⟩ | ⟨h0, s, kd, hQ, rfl, rfl, rfl, h⟩
  · refine (turnK_q 0 h).mono ?_
    rintro e w' ⟨v, rfl, F', s', kd', r, ev, ad, len, cap, rfl, hml, hev, hO, hF', hR, h4⟩
    rw [aft00] at hR h4
    obtain ⟨rfl, rfl, hQ⟩ := B.fr_turn ha hk hn hR
    obtain rfl : len = 0 := hev.1
    obtain ⟨x, hx, hx0, hM⟩ := h4.1 rfl
    have hxC : (B.frC a k)[s'.1 - 1]? = some (17, 0, 0, 0) := by
      have := hQ.1
      rw [show s'.1 - 1 = a + (6 - k) + 1 by omega]; exact B.fr_sleep a k
    rw [hxC] at hx
    obtain rfl : 0 = x := by injection hx with hx; injection hx with _ hx; injection hx
    rw [hQ.2.1] at hM
    have hM' : MsK w' mb F' (B.frC a k) 8 n 50 wk 0 (B.work s'.2.1 8 s'.2.2 n wk kd') s' 32767 := by
      have e : B.aft 0 ((0, 32767) : B.V).2 = 32767 := aftU
      rw [e] at hM; exact hM
    have hu := B.work_un (R := s'.2.1) (nr := 8) (M := s'.2.2) (n := n) (u := wk) (kd := kd')
    have hun : kd'.un = 0 := hQ.2.2.2.2.2.2.1
    exact ⟨F', ad, cap, _, _, _, rfl, hO, hF', Or.inr ⟨by omega, s', kd', hQ, rfl, rfl, rfl, hM'⟩, by omega, by show (B.work s'.2.1 8 s'.2.2 n wk kd').un ≤ _; omega, (fr_says (i := 1) (by omega) hw hQ).1⟩
  · refine (turnK_not 0 h (by rw [aft00]; decide)).mono ?_
    rintro e w' ⟨rfl, hO, F', hF', hM⟩
    rw [aft00] at hM
    have hu := B.work_un (R := s.2.1) (nr := 8) (M := s.2.2) (n := n) (u := wk) (kd := B.works s.2.1 8 s.2.2 n wk i kd)
    exact ⟨F', none, 0, _, _, _, rfl, hO, hF', Or.inr ⟨by omega, s, kd, hQ, rfl, rfl, rfl, hM⟩, hu.1, hu.2, (fr_says (i := i + 1) (by omega) hw hQ).1⟩
theorem wrap_nat (x : Nat) (h : x ≤ 1000000) : wrap64 (x : Int) = (x : Int) := by unfold wrap64; omega
theorem fr_cnt_any {a k n wk i u c o mb : Nat} {F : Nat → Prop} {w : World} (hn : 1 ≤ n) (hw : 1 ≤ wk) (hi : 0 < i) (hu : u ≤ 1000000) (hc : c ≤ 1000000) (h : FrS w mb F a k n wk i u c o) :
    Calls Tryz.prog 29 #[P0 mb] w fun e w' => e = .returned (.agg #[.int .i64 u, .int .i64 0, .int .i64 c]) ∧ w.grownBy w' none := by
  rcases h with ⟨rfl, _⟩ | ⟨h0, s, kd, hQ, rfl, rfl, rfl, h⟩
  · omega
  · refine (cntK h).mono ?_
    rintro e w' ⟨rfl, hg⟩
    rw [(fr_says hn hw hQ).2, wrap_nat _ hu, wrap_nat _ hc, wrap_nat 0 (by omega)]
    exact ⟨rfl, hg⟩
theorem fr_occ_any {a k n wk i u c o mb : Nat} {F : Nat → Prop} {w : World} (hn : n ≤ 200) (hi : 0 < i) (h : FrS w mb F a k n wk i u c o) :
    Calls Tryz.prog 30 #[P0 mb] w fun e w' => e = .returned (.int .i64 (o : Nat)) ∧ w.grownBy w' none := by
  rcases h with ⟨rfl, _⟩ | ⟨h0, s, kd, hQ, rfl, rfl, rfl, h⟩
  · omega
  · exact occK hn h
end Go.Proofs.YtnjiinbhbjpfkaaGreatDoor

/-
  The program of the law Forced on the machine of one task: turns that only wait, then one that makes cells and keeps the last of them alone; how often a collection is forced in it, and what the collector says behind each turn. Nothing of the program is imported here.
-/
namespace Go.Proofs.YtnjiinbhbjpfkaaGreatDoor.B

def foC (l a k : Nat) : List In := List.replicate l (16, 0, 0, 0) ++ (List.replicate a (9, 2, 1, 0) ++ (List.replicate (1 - k) (0, 2, 0, 0) ++ [(0, 0, 127, 255), (17, 0, 0, 0)]))
theorem fo_late (l a k j : Nat) (h : j < l) : (foC l a k)[j]? = some (16, 0, 0, 0) := by
  unfold foC
  rw [List.getElem?_append_left (by simpa using h)]
  simp [h]
theorem fo_cell (l a k j : Nat) (h : j < a) : (foC l a k)[l + j]? = some (9, 2, 1, 0) := by
  unfold foC
  rw [List.getElem?_append_right (by simp), List.getElem?_append_left (by simp; omega)]
  simp [h]
theorem fo_num (l a k : Nat) (h : k = 0) : (foC l a k)[l + a]? = some (0, 2, 0, 0) := by
  subst h
  unfold foC
  rw [List.getElem?_append_right (by simp), List.getElem?_append_right (by simp), List.getElem?_append_left (by simp)]
  simp
theorem fo_long (l a k : Nat) : (foC l a k)[l + (a + (1 - k))]? = some (0, 0, 127, 255) := by
  unfold foC
  rw [List.getElem?_append_right (by simp), List.getElem?_append_right (by simp), List.getElem?_append_right (by simp)]
  simp
theorem fo_sleep (l a k : Nat) : (foC l a k)[l + (a + (1 - k) + 1)]? = some (17, 0, 0, 0) := by
  unfold foC
  rw [List.getElem?_append_right (by simp), List.getElem?_append_right (by simp; omega), List.getElem?_append_right (by simp; omega)]
  simp [show a + (1 - k) + 1 - a - (1 - k) = 1 by omega]

/-- How often a collection is forced by j cells; how many places are taken then. -/
def foF (n j : Nat) : Nat := if j ≤ n then 0 else 1 + (j - n - 1) / (n - 1)
def foO (n j : Nat) : Nat := if j ≤ n then j else 2 + (j - n - 1) % (n - 1)
theorem mod_up {x m : Nat} (h : x % m + 1 < m) : (x + 1) % m = x % m + 1 ∧ (x + 1) / m = x / m := by
  have h1 := Nat.div_add_mod x m
  have h2 : x + 1 = m * (x / m) + (x % m + 1) := by omega
  constructor
  · rw [h2, Nat.mul_add_mod, Nat.mod_eq_of_lt h]
  · rw [h2, Nat.mul_add_div (by omega), Nat.div_eq_of_lt h]; rfl
theorem mod_over {x m : Nat} (hm : 1 ≤ m) (h : x % m + 1 = m) : (x + 1) % m = 0 ∧ (x + 1) / m = x / m + 1 := by
  have h1 := Nat.div_add_mod x m
  have h2 : x + 1 = m * (x / m + 1) := by rw [Nat.mul_add, Nat.mul_one]; omega
  constructor
  · rw [h2, Nat.mul_mod_right]
  · rw [h2, Nat.mul_div_cancel_left _ (by omega)]
theorem fo_up {n j : Nat} (hn : 2 ≤ n) (h : foO n j < n) : foO n (j + 1) = foO n j + 1 ∧ foF n (j + 1) = foF n j ∧ (n < j + 1 → n < j) := by
  unfold foO foF at *
  by_cases h1 : j ≤ n
  · rw [if_pos h1] at h
    rw [if_pos h1, if_pos h1, if_pos (by omega), if_pos (by omega)]
    exact ⟨rfl, rfl, by omega⟩
  · rw [if_neg h1] at h
    rw [if_neg h1, if_neg h1, if_neg (by omega), if_neg (by omega), show j + 1 - n - 1 = (j - n - 1) + 1 by omega]
    obtain ⟨a, b⟩ := mod_up (x := j - n - 1) (m := n - 1) (by omega)
    rw [a, b]
    exact ⟨by omega, rfl, by omega⟩
theorem fo_over {n j : Nat} (hn : 2 ≤ n) (h : foO n j = n) : foO n (j + 1) = 2 ∧ foF n (j + 1) = foF n j + 1 ∧ n < j + 1 := by
  unfold foO foF at *
  by_cases h1 : j ≤ n
  · rw [if_pos h1] at h
    subst h
    rw [if_pos h1, if_neg (by omega), if_neg (by omega), show j + 1 - j - 1 = 0 by omega, Nat.zero_mod, Nat.zero_div]
    exact ⟨rfl, rfl, by omega⟩
  · rw [if_neg h1] at h
    rw [if_neg h1, if_neg (by omega), if_neg (by omega), show j + 1 - n - 1 = (j - n - 1) + 1 by omega]
    obtain ⟨a, b⟩ := mod_over (x := j - n - 1) (m := n - 1) (by omega) (by omega)
    rw [a, b]
    exact ⟨by omega, by omega, by omega⟩
theorem foO_le {n j : Nat} (hn : 2 ≤ n) : foO n j ≤ n ∧ foO n j ≤ j := by
  unfold foO
  split
  · omega
  · have := Nat.mod_lt (j - n - 1) (show n - 1 > 0 by omega)
    have := Nat.mod_le (j - n - 1) (n - 1)
    omega

/-- Whether register 2 holds a cell behind j instructions. -/
def foL (a k j : Nat) : Prop := 0 < j ∧ ¬ (k = 0 ∧ a < j)
/-- Behind j instructions of the turn that makes cells. -/
structure foI (l a k n u c : Nat) (L : Prop) (j : Nat) (s : St) (kd : Kd) : Prop where
  at_ : s.1 = l + j
  r0 : s.2.1 0 = (0, if a + (1 - k) < j then 32767 else 0)
  r1 : s.2.1 1 = (0, 0)
  up : foL a k j → (s.2.1 2).1 ≠ 0
  off : ¬ foL a k j → s.2.1 2 = (0, 0)
  num : ∀ p v, v ∈ s.2.2 p → v.1 = 0
  ok : ∀ i, i < 3 → Vok kd.on n (s.2.1 i)
  cy : L ∨ n < min j a → kd.cy = none
  un : kd.un = u
  fo : kd.fo = foF n (min j a)
  cc : kd.cc = c
  oc : occ kd.on n = foO n (min j a)

theorem reach_two {n : Nat} {R : Nat → V} {M : Nat → List V} (h0 : (R 0).1 = 0) (h1 : (R 1).1 = 0) (hM : ∀ p v, v ∈ M p → v.1 = 0) {p : Nat} (h : Reach 3 (n, R, M) p) : p = (R 2).1 := by
  refine h (fun p => p = (R 2).1) (fun i hi hne => ?_) (fun q _ v hv hne => absurd (hM q v hv) hne)
  rcases (show i = 0 ∨ i = 1 ∨ i = 2 by omega) with rfl | rfl | rfl
  · exact absurd h0 hne
  · exact absurd h1 hne
  · rfl
theorem occ_none : ∀ n, occ (fun _ => false) n = 0
  | 0 => rfl
  | n + 1 => by unfold occ; rw [occ_none n]; rfl

theorem fo_step {clk : Int} {l a k n u c : Nat} {L : Prop} (ha : 1 ≤ a) (hk : k ≤ 1) (hn : 2 ≤ n) (j : Nat) (s : St) (kd : Kd) (s' : St) (kd' : Kd) (r : Nat) (ev : List Ev) (hj : j < a + (1 - k) + 1) (hI : foI l a k n u c L j s kd) (h : Step3 clk (foC l a k) 3 n s kd s' kd' r ev) : r = 0 ∧ ev = [] ∧ foI l a k n u c L (j + 1) s' kd' := by
  obtain ⟨nx, R, M⟩ := s
  have hat : nx = l + j := hI.at_
  subst hat
  obtain ⟨h1, h2⟩ := h
  have z0 : (R 0).1 = 0 := by have := hI.r0; exact congrArg Prod.fst this
  have z1 : (R 1).1 = 0 := by have := hI.r1; exact congrArg Prod.fst this
  by_cases hA : j < a
  · -- a cell
    have hC := fo_cell l a k j hA
    unfold Step2 at h1
    simp only [hC] at h1
    have h1' : Does 3 n (9, 2, 1, 0) (l + j, R, M) s' r ev := h1
    have hr : r = 0 ∧ ev = [] := by
      rcases h1' with ⟨hF, _⟩ | ⟨e1, e2, _⟩
      · exfalso
        have e1 := reach_two z0 z1 hI.num (hF 1 (by omega) (by omega))
        have e2 := reach_two z0 z1 hI.num (hF 2 (by omega) (by omega))
        omega
      · exact ⟨e1, e2⟩
    obtain ⟨rfl, rfl⟩ := hr
    obtain ⟨kd1, p, p1, p2, p3, rfl, rfl, p4⟩ := h2 (Or.inl rfl) _ hC
    have hm1 : min j a = j := by omega
    have hm2 : min (j + 1) a = j + 1 := by omega
    have hoc := hI.oc
    have hfo := hI.fo
    have hcy := hI.cy
    rw [hm1] at hoc hfo hcy
    -- what lies there ahead of the cell
    have key : (L ∨ n < j + 1 → kd1.cy = none) ∧ kd1.un = u ∧ kd1.fo = foF n (j + 1) ∧ kd1.cc = c ∧ occ (mark kd1.on p) n = foO n (j + 1) := by
      have hmk := occ_mark kd1.on p p1 p3 n p2
      have hle := occ_le (mark kd1.on p) n
      rcases p4 with rfl | ⟨q1, q2, q3, q4, q5, q6⟩
      · obtain ⟨b1, b2, b3⟩ := fo_up (j := j) hn (by omega)
        exact ⟨fun h => hcy (h.imp id b3), hI.un, by rw [hfo, b2], hI.cc, by rw [hmk, hoc, b1]⟩
      · have hful := occ_full q1
        obtain ⟨b1, b2, b3⟩ := fo_over (j := j) hn (by omega)
        have hj0 : 0 < j := by
          have := (foO_le (n := n) (j := j) hn).2
          omega
        have hR2 : (R 2).1 ≠ 0 := hI.up ⟨hj0, by omega⟩
        have hV : 1 ≤ (R 2).1 ∧ (R 2).1 ≤ n := by
          rcases hI.ok 2 (by omega) with h | h
          · exact absurd h hR2
          · exact ⟨h.1, h.2.1⟩
        have hone : occ kd1.on n = 1 := by
          have e : occ kd1.on n = occ (mark (fun _ => false) (R 2).1) n := occ_congr (fun x x1 x2 => by
            by_cases e : x = (R 2).1
            · rw [e, mark_at]
              exact (q6 _ hV.1 hV.2).2 (reach_reg (s := (l + j, R, M)) 2 (by omega) hR2)
            · rw [mark_off _ _ _ e]
              cases hx : kd1.on x with
              | false => rfl
              | true => exact absurd (reach_two z0 z1 hI.num ((q6 x x1 x2).1 hx)) e)
          rw [e, occ_mark _ _ hV.1 rfl _ hV.2, occ_none]
        refine ⟨fun _ => q2, q3.trans hI.un, by rw [q4, hfo, b2], q5.trans hI.cc, by rw [hmk, hone, b1]⟩
    obtain ⟨k1, k2, k3, k4, k5⟩ := key
    refine ⟨rfl, rfl, ?_⟩
    exact {
      at_ := rfl
      r0 := by
        show set R 2 (p, 0) 0 = _
        rw [set_off _ _ _ _ (by omega)]
        have := hI.r0
        rw [if_neg (by omega)] at this ⊢
        exact this
      r1 := by show set R 2 (p, 0) 1 = _; rw [set_off _ _ _ _ (by omega)]; exact hI.r1
      up := fun _ => by show (set R 2 (p, 0) 2).1 ≠ 0; rw [set_at]; show p ≠ 0; omega
      off := fun h => absurd ⟨by omega, by omega⟩ h
      num := fun q v hv => by
        have hv' : v ∈ lay M p (List.replicate 1 (0, 0)) q := hv
        by_cases e : q = p
        · subst e; rw [lay_at] at hv'; rw [List.eq_of_mem_replicate hv']
        · rw [lay_off _ _ _ _ e] at hv'; exact hI.num q v hv'
      ok := fun i hi => by
        show Vok (mark kd1.on p) n (set R 2 (p, 0) i)
        by_cases e : i = 2
        · subst e; rw [set_at]; exact Or.inr ⟨p1, p2, mark_at _ _, rfl⟩
        · rw [set_off _ _ _ _ e]
          rcases (show i = 0 ∨ i = 1 by omega) with rfl | rfl
          · exact Or.inl z0
          · exact Or.inl z1
      cy := fun h => by
        rw [hm2] at h
        show kd1.cy.map _ = none
        rw [k1 h]; rfl
      un := k2
      fo := by rw [hm2]; exact k3
      cc := k4
      oc := by rw [hm2]; exact k5 }
  · have hm1 : min j a = a := by omega
    have hm2 : min (j + 1) a = a := by omega
    by_cases hB : j < a + (1 - k)
    · obtain rfl : j = a := by omega
      obtain rfl : k = 0 := by omega
      have hC := fo_num l j 0 rfl
      unfold Step2 at h1
      simp only [hC] at h1
      have h1' : r = 0 ∧ ev = [] ∧ s' = (l + j + 1, set R 2 (0, wide 0 0), M) := h1
      obtain ⟨rfl, rfl, rfl⟩ := h1'
      have hkd : kd' = kd := h2 (Or.inl rfl) _ hC
      subst hkd
      have hw : wide 0 0 = 0 := by decide
      refine ⟨rfl, rfl, ?_⟩
      exact {
        at_ := rfl
        r0 := by
          show set R 2 (0, wide 0 0) 0 = _
          rw [set_off _ _ _ _ (by omega)]
          have := hI.r0
          rw [if_neg (by omega)] at this ⊢
          exact this
        r1 := by show set R 2 (0, wide 0 0) 1 = _; rw [set_off _ _ _ _ (by omega)]; exact hI.r1
        up := fun h => by unfold foL at h; omega
        off := fun _ => by show set R 2 (0, wide 0 0) 2 = _; rw [set_at, hw]
        num := hI.num
        ok := fun i hi => by
          show Vok kd'.on n (set R 2 (0, wide 0 0) i)
          by_cases e : i = 2
          · subst e; rw [set_at]; exact Or.inl rfl
          · rw [set_off _ _ _ _ e]; exact hI.ok i hi
        cy := fun h => hI.cy (by rw [hm1]; rw [hm2] at h; exact h)
        un := hI.un
        fo := by rw [hI.fo, hm1, hm2]
        cc := hI.cc
        oc := by rw [hI.oc, hm1, hm2] }
    · obtain rfl : j = a + (1 - k) := by omega
      have hC := fo_long l a k
      unfold Step2 at h1
      simp only [hC] at h1
      have h1' : r = 0 ∧ ev = [] ∧ s' = (l + (a + (1 - k)) + 1, set R 0 (0, wide 127 255), M) := h1
      obtain ⟨rfl, rfl, rfl⟩ := h1'
      have hkd : kd' = kd := h2 (Or.inl rfl) _ hC
      subst hkd
      have hw : wide 127 255 = 32767 := by decide
      have hL : foL a k (a + (1 - k) + 1) ↔ foL a k (a + (1 - k)) := by unfold foL; omega
      have hof : set R 0 (0, wide 127 255) 2 = R 2 := set_off _ _ _ _ (by omega)
      refine ⟨rfl, rfl, ?_⟩
      exact {
        at_ := rfl
        r0 := by show set R 0 (0, wide 127 255) 0 = _; rw [set_at, hw, if_pos (by omega)]
        r1 := by show set R 0 (0, wide 127 255) 1 = _; rw [set_off _ _ _ _ (by omega)]; exact hI.r1
        up := fun h => by show (set R 0 (0, wide 127 255) 2).1 ≠ 0; rw [hof]; exact hI.up (hL.1 h)
        off := fun h => by show set R 0 (0, wide 127 255) 2 = _; rw [hof]; exact hI.off (fun h' => h (hL.2 h'))
        num := hI.num
        ok := fun i hi => by
          show Vok kd'.on n (set R 0 (0, wide 127 255) i)
          by_cases e : i = 0
          · subst e; rw [set_at]; exact Or.inl rfl
          · rw [set_off _ _ _ _ e]; exact hI.ok i hi
        cy := fun h => hI.cy (by rw [hm1]; rw [hm2] at h; exact h)
        un := hI.un
        fo := by rw [hI.fo, hm1, hm2]
        cc := hI.cc
        oc := by rw [hI.oc, hm1, hm2] }

/-- What lies there when the task sleeps. -/
def foQ (l a k n u c : Nat) (s : St) (kd : Kd) : Prop := s.1 = l + (a + (1 - k) + 1) + 1 ∧ s.2.1 0 = (0, 32767) ∧ (begun s.2.1 3).st.length = k ∧ (∀ p v, v ∈ s.2.2 p → v.1 = 0) ∧ (∀ i, i < 3 → Vok kd.on n (s.2.1 i)) ∧ kd.cy = none ∧ kd.un = u ∧ kd.fo = foF n a ∧ kd.cc = c ∧ occ kd.on n = foO n a
theorem fo_len {l a k n u c : Nat} {L : Prop} (hk : k ≤ 1) {s : St} {kd : Kd} (hI : foI l a k n u c L (a + (1 - k) + 1) s kd) : (begun s.2.1 3).st.length = k := by
  have h0 : (s.2.1 0).1 = 0 := by rw [hI.r0]
  have h1 : (s.2.1 1).1 = 0 := by rw [hI.r1]
  have er : regs s.2.1 3 = [s.2.1 0, s.2.1 1, s.2.1 2] := rfl
  have hp : (regs s.2.1 3).Pairwise (fun u v => u.1 ≠ 0 → u.1 ≠ v.1) := by
    rw [er]
    simp [h0, h1]
  have hl := seenL_len (regs s.2.1 3) (fun _ => false) [] hp (fun _ _ _ => rfl)
  show (seenL (fun _ => false) [] (regs s.2.1 3)).2.length = _
  rw [hl, er]
  rcases (show k = 0 ∨ k = 1 by omega) with rfl | rfl
  · have h2 : (s.2.1 2).1 = 0 := by rw [hI.off (by unfold foL; omega)]
    simp [h0, h1, h2]
  · have h2 : (s.2.1 2).1 ≠ 0 := hI.up (by unfold foL; omega)
    simp [h0, h1, h2]

/-- A turn that only waits. -/
theorem fo_wait {clk : Int} {l a k n i m : Nat} (hi : i < l) {R : Nat → V} {M : Nat → List V} {kd : Kd} {s' : St} {kd' : Kd} {r : Nat} {ev : List Ev} (h : Runs3 clk (foC l a k) 3 n (m + 1) (i, R, M) kd s' kd' r ev) : r = 5 ∧ ev = [] ∧ s' = (i + 1, R, M) ∧ kd' = kd := by
  obtain ⟨s1, kd1, r1, ev1, ⟨h1, h2⟩, h3⟩ := h
  have hC := fo_late l a k i hi
  unfold Step2 at h1
  simp only [hC] at h1
  have h1' : r1 = 5 ∧ ev1 = [] ∧ s1 = (i + 1, R, M) := h1
  obtain ⟨rfl, rfl, rfl⟩ := h1'
  have hkd : kd1 = kd := h2 (Or.inr (Or.inr rfl)) _ hC
  subst hkd
  rcases h3 with ⟨e, _⟩ | ⟨_, rfl, rfl, e⟩
  · cases e
  · obtain ⟨rfl, rfl⟩ := e (Or.inr rfl)
    exact ⟨rfl, rfl, rfl, rfl⟩
/-- The turn that makes cells. -/
theorem fo_turn {clk : Int} {l a k n : Nat} (ha : 1 ≤ a) (ha2 : a ≤ 40) (hk : k ≤ 1) (hn : 2 ≤ n) {kd : Kd} (hcy : kd.cy = none ∨ n < a) (hfo : kd.fo = 0) (hoc : occ kd.on n = 0) {s' : St} {kd' : Kd} {r : Nat} {ev : List Ev} (h : Runs3 clk (foC l a k) 3 n 50 (l, fun _ => (0, 0), fun _ => []) kd s' kd' r ev) : r = 4 ∧ ev = [] ∧ foQ l a k n kd.un kd.cc s' kd' := by
  refine runs3_to (I := foI l a k n kd.un kd.cc (kd.cy = none)) (B := a + (1 - k) + 1) (Q := foQ l a k n kd.un kd.cc) (fun j s kd s' kd' r ev => fo_step ha hk hn j s kd s' kd' r ev) (fun s kd2 s' kd' r ev hI h => ?_) 50 0 _ _ _ _ _ _ (by omega) (by omega) ?_ h
  · have hlen := fo_len hk hI
    obtain ⟨nx, R, M⟩ := s
    have hat : nx = l + (a + (1 - k) + 1) := hI.at_
    subst hat
    obtain ⟨h1, h2⟩ := h
    have hC := fo_sleep l a k
    unfold Step2 at h1
    simp only [hC] at h1
    have h1' : if (R 0).1 = 0 then r = 4 ∧ ev = [] ∧ s' = (l + (a + (1 - k) + 1) + 1, R, M) else r = 3 := h1
    have h0 : R 0 = (0, 32767) := by have := hI.r0; rw [if_pos (by omega)] at this; exact this
    rw [if_pos (by rw [h0])] at h1'
    obtain ⟨rfl, rfl, rfl⟩ := h1'
    have hkd : kd' = kd2 := h2 (Or.inr (Or.inl rfl)) _ hC
    subst hkd
    have hm : min (a + (1 - k) + 1) a = a := by omega
    have e1 := hI.fo
    have e2 := hI.oc
    have e3 := hI.cy
    rw [hm] at e1 e2 e3
    exact ⟨rfl, rfl, rfl, h0, hlen, hI.num, hI.ok, e3 hcy, hI.un, e1, hI.cc, e2⟩
  · exact {
      at_ := rfl
      r0 := by rw [if_neg (by omega)]
      r1 := rfl
      up := fun h => by unfold foL at h; omega
      off := fun _ => rfl
      num := fun _ _ h => by simp at h
      ok := fun _ _ => Or.inl rfl
      cy := fun h => by
        rcases h with h | h
        · exact h
        · omega
      un := rfl
      fo := by rw [hfo]; unfold foF; rw [if_pos (by omega)]
      cc := rfl
      oc := by rw [hoc]; unfold foO; rw [if_pos (by omega)]; omega }
/-- The collector behind i turns that only wait. -/
theorem fo_lateK {n wk i : Nat} (hn : 1 ≤ n) (hw : 1 ≤ wk) :
    (works (fun _ => (0, 0)) 3 (fun _ => []) n wk i kd0).un = i / each n wk * n + i % each n wk * wk ∧ (works (fun _ => (0, 0)) 3 (fun _ => []) n wk i kd0).fo = 0 ∧ (works (fun _ => (0, 0)) 3 (fun _ => []) n wk i kd0).cc = i / each n wk ∧ occ (works (fun _ => (0, 0)) 3 (fun _ => []) n wk i kd0).on n = 0 := by
  obtain ⟨a1, a2, a3, a4, a5, a6⟩ := works_says (R := fun _ => (0, 0)) (nr := 3) (M := fun _ => []) hn hw (fun p _ v hv => by simp at hv) kd0 rfl (fun _ _ => Or.inl rfl) 0 rfl i
  rw [Nat.zero_add] at a1 a3
  refine ⟨by rw [a1]; show 0 + _ + _ = _; omega, a2, by rw [a3]; show 0 + _ = _; omega, ?_⟩
  have : occ kd0.on n = 0 := occ_none n
  omega
end Go.Proofs.YtnjiinbhbjpfkaaGreatDoor.B

/-
  A machine with the program of Forced, turn by turn: what Turn, Counts and Occupied answer.
-/
namespace Go.Proofs.YtnjiinbhbjpfkaaGreatDoor
open Go.RowKit

/-- The units and the cycles of i turns that only wait. -/
def foU (n wk i : Nat) : Nat := i / B.each n wk * n + i % B.each n wk * wk
def foY (n wk i : Nat) : Nat := i / B.each n wk
/-- Behind i turns that only wait. -/
def FlS (w : World) (mb : Nat) (F : Nat → Prop) (l a k n wk i : Nat) : Prop :=
  MqK w mb F (B.foC l a k) 3 n 50 wk 0 (B.works (fun _ => (0, 0)) 3 (fun _ => []) n wk i B.kd0) (i, fun _ => (0, 0), fun _ => [])
theorem FlS.keep {w w' : World} {mb : Nat} {F : Nat → Prop} {l a k n wk i : Nat} (h : FlS w mb F l a k n wk i) (hk : ∀ k, F k → w'.heap[k]? = w.heap[k]?) : FlS w' mb F l a k n wk i := MqK.keep h hk
/-- Behind i turns that came behind those. -/
def FoS (w : World) (mb : Nat) (F : Nat → Prop) (l a k n wk i u f c o : Nat) : Prop :=
  (i = 0 ∧ FlS w mb F l a k n wk l) ∨
  (0 < i ∧ ∃ s kd, B.foQ l a k n (foU n wk l) (foY n wk l) s kd ∧ u = (B.works s.2.1 3 s.2.2 n wk i kd).un ∧ f = (B.works s.2.1 3 s.2.2 n wk i kd).fo ∧ c = (B.works s.2.1 3 s.2.2 n wk i kd).cc ∧ o = B.occ (B.works s.2.1 3 s.2.2 n wk i kd).on n ∧ MsK w mb F (B.foC l a k) 3 n 50 wk 0 (B.works s.2.1 3 s.2.2 n wk i kd) s 32767)
theorem FoS.keep {w w' : World} {mb : Nat} {F : Nat → Prop} {l a k n wk i u f c o : Nat} (h : FoS w mb F l a k n wk i u f c o) (hk : ∀ k, F k → w'.heap[k]? = w.heap[k]?) : FoS w' mb F l a k n wk i u f c o := by
  rcases h with ⟨h1, h3⟩ | ⟨h1, s, kd, h2, h3, h3', h4, h5, h6⟩
  · exact Or.inl ⟨h1, h3.keep hk⟩
  · exact Or.inr ⟨h1, s, kd, h2, h3, h3', h4, h5, h6.keep hk⟩

theorem load_fo (l a k n wk : Nat) (w : World) (hok : okCode2 3 (B.foC l a k)) (hn1 : 1 ≤ n) (hn2 : n ≤ 200) (hk1 : 1 ≤ wk) (hk2 : wk ≤ 50) (hT : Tab w) :
    Calls Tryz.prog 23 #[.string (txt (1 :: 3 :: (B.foC l a k).length :: flat (B.foC l a k))), .agg #[.int .i64 (n : Nat), .int .i64 50, .int .i64 (wk : Nat), .int .i64 1]] w fun e w' => ∃ (mb : Nat) (F : Nat → Prop), e = .returned (.tuple #[P0 mb, .agg #[.int .i64 0, .int .i64 0]]) ∧ Below w.heap.size w w' ∧ (∀ k, F k → w.heap.size ≤ k ∧ k < w'.heap.size) ∧ FlS w' mb F l a k n wk 0 := by
  refine (load_que (B.foC l a k) 3 n 50 wk w hok hn1 hn2 (by omega) (by omega) hk1 hk2 hT).mono ?_
  rintro e w3 ⟨mb, F, rfl, hB3, hF, g, kd, vb, E, Tk, qb, cq, y1, y2, y3, y4, rfl, y5⟩
  exact ⟨mb, F, rfl, hB3, hF, g, vb, E, Tk, qb, cq, y1, y2, y3, y4, y5⟩
theorem fo_start {w : World} {mb : Nat} {F : Nat → Prop} {l a k n wk : Nat} (h : FlS w mb F l a k n wk l) : FoS w mb F l a k n wk 0 0 0 0 0 := Or.inl ⟨rfl, h⟩

/-- What the numbers are behind i turns, i above 0. -/
def FoN (l a k n wk i u f c o : Nat) : Prop :=
  u = foU n wk l + i / B.each (k + n) wk * (k + n) + i % B.each (k + n) wk * wk ∧ f = B.foF n a ∧ c = foY n wk l + i / B.each (k + n) wk ∧ k ≤ o ∧ o ≤ a ∧ o ≤ n ∧ (B.each (k + n) wk ≤ i → o = k)
theorem fo_says {l a k n wk i : Nat} (hn : 2 ≤ n) (hw : 1 ≤ wk) {s : B.St} {kd : B.Kd} (h : B.foQ l a k n (foU n wk l) (foY n wk l) s kd) :
    FoN l a k n wk i (B.works s.2.1 3 s.2.2 n wk i kd).un (B.works s.2.1 3 s.2.2 n wk i kd).fo (B.works s.2.1 3 s.2.2 n wk i kd).cc (B.occ (B.works s.2.1 3 s.2.2 n wk i kd).on n) := by
  obtain ⟨_, _, h3, h4, h5, h6, h7, h8, h9, h10⟩ := h
  obtain ⟨a1, a2, a3, a4, a5, a6⟩ := B.works_says (w := wk) (by omega) hw (fun p _ v hv => h4 p v hv) kd h6 h5 _ h3 i
  have := B.foO_le (n := n) (j := a) hn
  exact ⟨by rw [a1, h7], by rw [a2, h8], by rw [a3, h9], a4, by omega, by omega, a6⟩

/-- A turn that only waits. -/
theorem fl_turn_any {l a k n wk i mb : Nat} {F : Nat → Prop} {w : World} (hi : i < l) (h : FlS w mb F l a k n wk i) :
    Calls Tryz.prog 24 #[P0 mb, .int .i64 0, .slice none 0 0] w fun e w' => ∃ (F' : Nat → Prop) (ad : Option Addr) (cap : Nat), e = .returned (.slice ad 0 cap) ∧ Hid (Only F w w') ∧ Hid (∀ k, F' k → F k ∨ (w.heap.size ≤ k ∧ k < w'.heap.size)) ∧ Hid (FlS w' mb F' l a k n wk (i + 1)) := by
  refine (turnK_q 0 h).mono ?_
  rintro e w' ⟨v, rfl, F', s', kd', r, ev, ad, len, cap, rfl, hml, hev, hO, hF', hR, h4⟩
  rw [aft00] at hR h4
  obtain ⟨rfl, rfl, rfl, rfl⟩ := B.fo_wait hi hR
  obtain rfl : len = 0 := hev.1
  exact ⟨F', ad, cap, rfl, hO, hF', h4.2 rfl⟩
theorem fl_cnt_any {l a k n wk i mb : Nat} {F : Nat → Prop} {w : World} (hn : 1 ≤ n) (hw : 1 ≤ wk) (hu : foU n wk i ≤ 1000000) (hc : foY n wk i ≤ 1000000) (h : FlS w mb F l a k n wk i) :
    Calls Tryz.prog 29 #[P0 mb] w fun e w' => e = .returned (.agg #[.int .i64 (foU n wk i : Nat), .int .i64 0, .int .i64 (foY n wk i : Nat)]) ∧ w.grownBy w' none := by
  refine (cntKq h).mono ?_
  rintro e w' ⟨rfl, hg⟩
  obtain ⟨a1, a2, a3, _⟩ := B.fo_lateK (i := i) hn hw
  have e1 : (B.works (fun _ => (0, 0)) 3 (fun _ => []) n wk i B.kd0).un = foU n wk i := a1
  have e3 : (B.works (fun _ => (0, 0)) 3 (fun _ => []) n wk i B.kd0).cc = foY n wk i := a3
  rw [e1, a2, e3, wrap_nat _ hu, wrap_nat _ hc, wrap_nat 0 (by omega)]
  exact ⟨rfl, hg⟩
theorem fl_occ_any {l a k n wk i mb : Nat} {F : Nat → Prop} {w : World} (hn : 1 ≤ n) (hn2 : n ≤ 200) (hw : 1 ≤ wk) (h : FlS w mb F l a k n wk i) :
    Calls Tryz.prog 30 #[P0 mb] w fun e w' => e = .returned (.int .i64 0) ∧ w.grownBy w' none := by
  refine (occKq hn2 h).mono ?_
  rintro e w' ⟨rfl, hg⟩
  obtain ⟨_, _, _, a4⟩ := B.fo_lateK (i := i) hn hw
  rw [a4]
  exact ⟨rfl, hg⟩

/-- A turn behind those. -/
theorem fo_turn_any {l a k n wk i u f c o mb : Nat} {F : Nat → Prop} {w : World} (ha : 1 ≤ a) (ha2 : a ≤ 40) (hk : k ≤ 1) (hn : 2 ≤ n) (hw : 1 ≤ wk) (hl : l = 0 ∨ n < a) (h : FoS w mb F l a k n wk i u f c o) :
    Calls Tryz.prog 24 #[P0 mb, .int .i64 0, .slice none 0 0] w fun e w' => ∃ (F' : Nat → Prop) (ad : Option Addr) (cap u' f' c' o' : Nat), e = .returned (.slice ad 0 cap) ∧ Hid (Only F w w') ∧ Hid (∀ k, F' k → F k ∨ (w.heap.size ≤ k ∧ k < w'.heap.size)) ∧ Hid (FoS w' mb F' l a k n wk (i + 1) u' f' c' o') ∧ Hid (FoN l a k n wk (i + 1) u' f' c' o') := by
  rcases h with ⟨rfl, h⟩ | ⟨h0, s, kd, hQ, rfl, rfl, rfl, rfl, h⟩
  · refine (turnK_q 0 h).mono ?_
    rintro e w' ⟨v, rfl, F', s', kd', r, ev, ad, len, cap, rfl, hml, hev, hO, hF', hR, h4⟩
    rw [aft00] at hR h4
    obtain ⟨a1, a2, a3, a4⟩ := B.fo_lateK (i := l) (n := n) (wk := wk) (by omega) hw
    have hQ0 := B.fo_turn ha ha2 hk hn (hl.imp (fun e => by subst e; rfl) id) a2 a4 hR
    rw [a1, a3] at hQ0
    obtain ⟨rfl, rfl, hQ1⟩ := hQ0
    have hQ : B.foQ l a k n (foU n wk l) (foY n wk l) s' kd' := hQ1
    obtain rfl : len = 0 := hev.1
    obtain ⟨x, hx, hx0, hM⟩ := h4.1 rfl
    have hxC : (B.foC l a k)[s'.1 - 1]? = some (17, 0, 0, 0) := by
      have := hQ.1
      rw [show s'.1 - 1 = l + (a + (1 - k) + 1) by omega]; exact B.fo_sleep l a k
    rw [hxC] at hx
    obtain rfl : 0 = x := by injection hx with hx; injection hx with _ hx; injection hx
    rw [hQ.2.1] at hM
    have hM' : MsK w' mb F' (B.foC l a k) 3 n 50 wk 0 (B.work s'.2.1 3 s'.2.2 n wk kd') s' 32767 := by
      have e : B.aft 0 ((0, 32767) : B.V).2 = 32767 := aftU
      rw [e] at hM; exact hM
    exact ⟨F', ad, cap, _, _, _, _, rfl, hO, hF', Or.inr ⟨by omega, s', kd', hQ, rfl, rfl, rfl, rfl, hM'⟩, fo_says (i := 1) hn hw hQ⟩
  · refine (turnK_not 0 h (by rw [aft00]; decide)).mono ?_
    rintro e w' ⟨rfl, hO, F', hF', hM⟩
    rw [aft00] at hM
    exact ⟨F', none, 0, _, _, _, _, rfl, hO, hF', Or.inr ⟨by omega, s, kd, hQ, rfl, rfl, rfl, rfl, hM⟩, fo_says (i := i + 1) hn hw hQ⟩
theorem fo_cnt_any {l a k n wk i u f c o mb : Nat} {F : Nat → Prop} {w : World} (hi : 0 < i) (hu : u ≤ 1000000) (hf : f ≤ 1000000) (hc : c ≤ 1000000) (h : FoS w mb F l a k n wk i u f c o) :
    Calls Tryz.prog 29 #[P0 mb] w fun e w' => e = .returned (.agg #[.int .i64 u, .int .i64 f, .int .i64 c]) ∧ w.grownBy w' none := by
  rcases h with ⟨rfl, _⟩ | ⟨h0, s, kd, hQ, rfl, rfl, rfl, rfl, h⟩
  · omega
  · refine (cntK h).mono ?_
    rintro e w' ⟨rfl, hg⟩
    rw [wrap_nat _ hu, wrap_nat _ hc, wrap_nat _ hf]
    exact ⟨rfl, hg⟩
theorem fo_occ_any {l a k n wk i u f c o mb : Nat} {F : Nat → Prop} {w : World} (hn : n ≤ 200) (hi : 0 < i) (h : FoS w mb F l a k n wk i u f c o) :
    Calls Tryz.prog 30 #[P0 mb] w fun e w' => e = .returned (.int .i64 (o : Nat)) ∧ w.grownBy w' none := by
  rcases h with ⟨rfl, _⟩ | ⟨h0, s, kd, hQ, rfl, rfl, rfl, rfl, h⟩
  · omega
  · exact occK hn h
end Go.Proofs.YtnjiinbhbjpfkaaGreatDoor

/-
  The program of the law Garbage on the machine of one task: with a place more than cells are kept it goes on without end; with just as many there is none free at the first instruction of the second round.
-/
namespace Go.Proofs.YtnjiinbhbjpfkaaGreatDoor.B

def garbC (k b : Nat) : List In := (List.range k).map (fun i => (9, 2 + i, b, 0)) ++ [(20, 0, 0, 0), (7, 0, 0, 0)]
theorem garb_cell (k b i : Nat) (h : i < k) : (garbC k b)[i]? = some (9, 2 + i, b, 0) := by
  unfold garbC
  rw [List.getElem?_append_left (by simpa using h)]
  simp [h]
theorem garb_emit (k b : Nat) : (garbC k b)[k]? = some (20, 0, 0, 0) := by
  unfold garbC
  rw [List.getElem?_append_right (by simp)]
  simp
theorem garb_jump (k b : Nat) : (garbC k b)[k + 1]? = some (7, 0, 0, 0) := by
  unfold garbC
  rw [List.getElem?_append_right (by simp)]
  simp

/-- Cells in registers, none of them with another in it; of the first round so many as are made, all different. -/
def garbI (k n j : Nat) (s : St) : Prop := ∃ i ph, j = (k + 2) * i + ph ∧ ph < k + 2 ∧ s.1 = ph ∧ (∀ x, x < 8 → (x < 2 ∨ k + 2 ≤ x) → s.2.1 x = (0, 0)) ∧
  (∀ x, x < k → (s.2.1 (2 + x)).2 = 0 ∧ ((s.2.1 (2 + x)).1 ≠ 0 → (s.2.1 (2 + x)).1 ≤ n ∧ ∀ v, v ∈ s.2.2 (s.2.1 (2 + x)).1 → v.1 = 0)) ∧
  (i = 0 → (∀ x, ph ≤ x → x < k → s.2.1 (2 + x) = (0, 0)) ∧ (∀ x, x < ph → x < k → (s.2.1 (2 + x)).1 ≠ 0) ∧ ∀ x y, x < y → y < ph → y < k → (s.2.1 (2 + x)).1 ≠ (s.2.1 (2 + y)).1) ∧
  (i ≠ 0 → (∀ x, x < k → (s.2.1 (2 + x)).1 ≠ 0) ∧ (i = 1 → ph = 0 → ∀ x y, x < y → y < k → (s.2.1 (2 + x)).1 ≠ (s.2.1 (2 + y)).1))

def garbE (k j : Nat) : List Ev := if j % (k + 2) = k then [(1, 0)] else []

theorem garb_start (k n : Nat) (M : Nat → List V) : garbI k n 0 (0, fun _ => (0, 0), M) :=
  ⟨0, 0, by simp, by omega, rfl, fun _ _ _ => rfl, fun _ _ => ⟨rfl, fun h => absurd rfl h⟩, fun _ => ⟨fun _ _ _ => rfl, fun _ h => by omega, fun _ _ _ h => by omega⟩, fun h => absurd rfl h⟩

/-- The cells in the first registers. -/
def regsL (R : Nat → V) (k : Nat) : List Nat := ((List.range k).map (fun x => (R (2 + x)).1)).filter (fun y => y ≠ 0)
theorem regsL_mem {R : Nat → V} {k y : Nat} : y ∈ regsL R k ↔ (∃ x, x < k ∧ (R (2 + x)).1 = y) ∧ y ≠ 0 := by simp [regsL]
theorem regsL_len (R : Nat → V) (k : Nat) : (regsL R k).length ≤ k := by
  have := List.length_filter_le (fun y => decide (y ≠ 0)) ((List.range k).map (fun x => (R (2 + x)).1))
  simpa [regsL] using this

theorem garb_not {k n m ph : Nat} {R : Nat → V} {M : Nat → List V} (hm : m < n) (h0 : ∀ x, x < 8 → (x < 2 ∨ k + 2 ≤ x) → R x = (0, 0)) (hz : ∀ x, m ≤ x → x < k → R (2 + x) = (0, 0)) (hmk : m ≤ k)
    (hc : ∀ x, x < k → (R (2 + x)).1 ≠ 0 → ∀ v, v ∈ M (R (2 + x)).1 → v.1 = 0) : ¬ Full 8 n (ph, R, M) := by
  refine not_full (regsL R m) (Nat.lt_of_le_of_lt (regsL_len R m) hm) ?_ ?_
  · intro i hi h
    by_cases hx : i < 2 ∨ k + 2 ≤ i
    · exact absurd (by rw [show (ph, R, M).2.1 i = (0, 0) from h0 i hi hx]) h
    · by_cases hy : m ≤ i - 2
      · exact absurd (by rw [show (ph, R, M).2.1 i = (0, 0) from (by have := hz (i - 2) hy (by omega); rwa [show 2 + (i - 2) = i by omega] at this)]) h
      · exact regsL_mem.2 ⟨⟨i - 2, by omega, by rw [show 2 + (i - 2) = i by omega]⟩, h⟩
  · intro y hy v hv h
    obtain ⟨⟨x, hx, rfl⟩, hne⟩ := regsL_mem.1 hy
    exact absurd (hc x (by omega) hne v hv) h

theorem garb_step (k b n j : Nat) (s s' : St) (r : Nat) (ev : List Ev) (hk : 1 ≤ k) (hk5 : k ≤ 5) (hj : k < n ∨ (k = n ∧ j < k + 2)) (hI : garbI k n j s) (h : Step (garbC k b) 8 n s s' r ev) : r = 0 ∧ ev = garbE k j ∧ garbI k n (j + 1) s' := by
  obtain ⟨i, ph, rfl, hph, h1, h0, hc, hi0, hi1⟩ := hI
  obtain ⟨nx, R, M⟩ := s
  simp only at h1 h0 hc hi0 hi1
  subst h1
  have hmod : ((k + 2) * i + nx) % (k + 2) = nx := by rw [Nat.mul_add_mod, Nat.mod_eq_of_lt hph]
  rcases (show nx < k ∨ nx = k ∨ nx = k + 1 by omega) with hlt | rfl | rfl
  · -- Cell
    unfold Step at h
    simp only [garb_cell k b nx hlt] at h
    have h' : Does 8 n (9, 2 + nx, b, 0) (nx, R, M) s' r ev := h
    have hnf : ¬ Full 8 n (nx, R, M) := by
      by_cases hi : i = 0
      · exact garb_not (m := nx) (by omega) h0 (hi0 hi).1 (by omega) (fun x hx hne => ((hc x hx).2 hne).2)
      · rcases hj with hj | ⟨_, hj⟩
        · exact garb_not (m := k) hj h0 (fun x h1 h2 => by omega) (Nat.le_refl _) (fun x hx hne => ((hc x hx).2 hne).2)
        · exfalso
          have := Nat.le_mul_of_pos_right (k + 2) (Nat.pos_of_ne_zero hi)
          omega
    rcases h' with ⟨hF, _⟩ | ⟨rfl, rfl, p, M', p1, p2, p3, p4, p5, rfl⟩
    · exact absurd hF hnf
    · have hre : ∀ x, x < k → (R (2 + x)).1 ≠ 0 → Reach 8 (nx, R, M) (R (2 + x)).1 := fun x hx hne => reach_reg (s := (nx, R, M)) (2 + x) (by omega) hne
      have hof : ∀ x, x ≠ nx → set R (2 + nx) (p, 0) (2 + x) = R (2 + x) := fun x hx => set_off _ _ _ _ (by omega)
      refine ⟨rfl, by unfold garbE; rw [hmod, if_neg (by omega)], i, nx + 1, rfl, by omega, rfl, ?_, ?_, ?_, ?_⟩
      · intro x hx hx2
        show set R (2 + nx) (p, 0) x = _
        rw [set_off _ _ _ _ (by omega)]; exact h0 x hx hx2
      · intro x hx
        show (set R (2 + nx) (p, 0) (2 + x)).2 = 0 ∧ ((set R (2 + nx) (p, 0) (2 + x)).1 ≠ 0 → (set R (2 + nx) (p, 0) (2 + x)).1 ≤ n ∧ ∀ v, v ∈ M' (set R (2 + nx) (p, 0) (2 + x)).1 → v.1 = 0)
        by_cases e : x = nx
        · subst e
          rw [set_at]
          refine ⟨rfl, fun _ => ⟨p2, fun v hv => ?_⟩⟩
          simp only [p5] at hv
          rw [List.eq_of_mem_replicate hv]
        · rw [hof x e]
          exact ⟨(hc x hx).1, fun hne => ⟨((hc x hx).2 hne).1, by rw [p4 _ (hre x hx hne)]; exact ((hc x hx).2 hne).2⟩⟩
      · intro hi
        obtain ⟨z1, z2, z3⟩ := hi0 hi
        refine ⟨fun x hx hx2 => ?_, fun x hx hx2 => ?_, fun x y hxy hy hy2 => ?_⟩
        · show set R (2 + nx) (p, 0) (2 + x) = _
          rw [hof x (by omega)]; exact z1 x (by omega) hx2
        · show (set R (2 + nx) (p, 0) (2 + x)).1 ≠ 0
          by_cases e : x = nx
          · subst e; rw [set_at]; simp only; omega
          · rw [hof x e]; exact z2 x (by omega) hx2
        · show (set R (2 + nx) (p, 0) (2 + x)).1 ≠ (set R (2 + nx) (p, 0) (2 + y)).1
          rw [hof x (by omega)]
          by_cases e : y = nx
          · subst e
            rw [set_at]
            intro e2
            exact p3 (by have := hre x (by omega) (z2 x (by omega) (by omega)); rwa [e2] at this)
          · rw [hof y e]; exact z3 x y hxy (by omega) hy2
      · intro hi
        refine ⟨fun x hx => ?_, fun _ h => by omega⟩
        show (set R (2 + nx) (p, 0) (2 + x)).1 ≠ 0
        by_cases e : x = nx
        · subst e; rw [set_at]; simp only; omega
        · rw [hof x e]; exact (hi1 hi).1 x hx
  · -- Emit
    unfold Step at h
    simp only [garb_emit nx b] at h
    have h' : Does 8 n (20, 0, 0, 0) (nx, R, M) s' r ev := h
    simp only [Does] at h'
    rw [if_pos (by rw [h0 0 (by omega) (by omega)])] at h'
    obtain ⟨rfl, rfl, rfl⟩ := h'
    refine ⟨rfl, by unfold garbE; rw [hmod, if_pos rfl, h0 0 (by omega) (by omega)], i, nx + 1, rfl, by omega, rfl, h0, hc, ?_, fun hi => ⟨(hi1 hi).1, fun _ h => by omega⟩⟩
    intro hi
    obtain ⟨z1, z2, z3⟩ := hi0 hi
    exact ⟨fun x hx hx2 => by omega, fun x _ hx2 => z2 x hx2 hx2, fun x y hxy _ hy2 => z3 x y hxy hy2 hy2⟩
  · -- Jump
    unfold Step at h
    simp only [garb_jump k b] at h
    have h' : Does 8 n (7, 0, 0, 0) (k + 1, R, M) s' r ev := h
    obtain ⟨rfl, rfl, rfl⟩ := h'
    refine ⟨rfl, by unfold garbE; rw [hmod, if_neg (by omega)], i + 1, 0, by rw [Nat.mul_add]; omega, by omega, rfl, h0, hc, fun h => by omega, fun _ => ⟨?_, ?_⟩⟩
    · intro x hx
      by_cases hi : i = 0
      · exact (hi0 hi).2.1 x (by omega) hx
      · exact (hi1 hi).1 x hx
    · intro hi _ x y hxy hy
      exact (hi0 (by omega)).2.2 x y hxy (by omega) hy

theorem garb_last (k b : Nat) (s s' : St) (r : Nat) (ev : List Ev) (hk : 1 ≤ k) (hk5 : k ≤ 5) (hI : garbI k k (k + 2) s) (h : Step (garbC k b) 8 k s s' r ev) : r = 2 ∧ ev = [(5, 0)] := by
  obtain ⟨i, ph, hj, hph, h1, h0, hc, hi0, hi1⟩ := hI
  obtain ⟨nx, R, M⟩ := s
  simp only at h1 h0 hc hi0 hi1
  subst h1
  have hi : i = 1 ∧ nx = 0 := by
    rcases (show i = 0 ∨ i = 1 ∨ 2 ≤ i by omega) with rfl | rfl | h2
    · omega
    · omega
    · have := Nat.mul_le_mul_left (k + 2) h2
      omega
  obtain ⟨rfl, rfl⟩ := hi
  obtain ⟨z1, z2⟩ := hi1 (by omega)
  unfold Step at h
  simp only [garb_cell k b 0 (by omega)] at h
  have h' : Does 8 k (9, 2 + 0, b, 0) (0, R, M) s' r ev := h
  have hnd : (regsL R k).Nodup ∧ (regsL R k).length = k := by
    have e : regsL R k = (List.range k).map (fun x => (R (2 + x)).1) := by
      unfold regsL
      rw [List.filter_eq_self]
      intro y hy
      obtain ⟨x, hx, rfl⟩ := List.mem_map.1 hy
      simpa using z1 x (by simpa using hx)
    rw [e]
    refine ⟨?_, by simp⟩
    rw [List.Nodup, List.pairwise_map]
    refine List.Pairwise.imp_of_mem ?_ (List.pairwise_lt_range (n := k))
    intro x y hx hy hxy
    exact z2 rfl rfl x y hxy (by simpa using hy)
  rcases h' with ⟨_, rfl, rfl⟩ | ⟨_, _, p, M', p1, p2, p3, _⟩
  · exact ⟨rfl, rfl⟩
  · have hp := all_in (regsL R k) k hnd.1 hnd.2 (fun x hx => by
      obtain ⟨⟨y, hy, rfl⟩, hne⟩ := regsL_mem.1 hx
      exact ⟨by omega, ((hc y hy).2 hne).1⟩) p p1 p2
    obtain ⟨⟨y, hy, rfl⟩, hne⟩ := regsL_mem.1 hp
    exact absurd (reach_reg (s := (0, R, M)) (2 + y) (by omega) hne) p3

end Go.Proofs.YtnjiinbhbjpfkaaGreatDoor.B

/-
  The law Garbage answers true for every input, where Load, Turn and State keep to the interface.
-/
namespace Go.Proofs.YtnjiinbhbjpfkaaGreatDoor
open Go.RowKit

namespace B
theorem garb_all (k : Nat) : ∀ (m J i : Nat) (x : Ev), (evs (garbE k) J m)[i]? = some x → x = (1, 0) := by
  intro m
  induction m with
  | zero => intro J i x h; simp [evs] at h
  | succ m ih =>
    intro J i x h
    rw [evs] at h
    have hE : garbE k J = [(1, 0)] ∨ garbE k J = [] := by unfold garbE; split <;> simp
    rcases hE with hE | hE
    · rw [hE] at h
      cases i with
      | zero => simp at h; exact h.symm
      | succ i => exact ih (J + 1) i x (by simpa using h)
    · rw [hE] at h
      exact ih (J + 1) i x (by simpa using h)
/-- A turn of the machine that has room. -/
theorem garb_turn {k b n q J : Nat} {s s' : St} {r : Nat} {ev : List Ev} (hk : 1 ≤ k) (hk5 : k ≤ 5) (hn : k < n) (hI : garbI k n J s) (h : Runs (garbC k b) 8 n q s s' r ev) :
    r = 0 ∧ garbI k n (J + q) s' ∧ ∀ (i : Nat) (x : Ev), ev[i]? = some x → x = (1, 0) := by
  obtain ⟨rfl, rfl, h2⟩ := runs_on (I := garbI k n) (E := garbE k) (B := J + q) (fun j s s' r ev _ => garb_step k b n j s s' r ev hk hk5 (Or.inl hn)) q J s s' r ev (Nat.le_refl _) hI h
  exact ⟨rfl, h2, garb_all k q J⟩
/-- The events of the machine that has none: one number, then none is free. -/
def garbE2 (k j : Nat) : List Ev := if j = k + 2 then [(5, 0)] else garbE k j
theorem garb2_evs (k : Nat) : ∀ m J, J + m ≤ k + 2 → evs (garbE2 k) J m = if J ≤ k ∧ k < J + m then [(1, 0)] else [] := by
  intro m
  induction m with
  | zero => intro J h; rw [if_neg (by omega)]; rfl
  | succ m ih =>
    intro J h
    rw [evs, ih (J + 1) (by omega)]
    unfold garbE2
    rw [if_neg (by omega)]
    unfold garbE
    rw [Nat.mod_eq_of_lt (show J < k + 2 by omega)]
    by_cases e : J = k
    · rw [if_pos e, if_neg (by omega), if_pos (by omega)]; rfl
    · rw [if_neg e]
      by_cases e2 : J ≤ k ∧ k < J + (m + 1)
      · rw [if_pos e2, if_pos (by omega)]; rfl
      · rw [if_neg e2, if_neg (by omega)]; rfl
theorem evs_last (E : Nat → List Ev) : ∀ m J, evs E J (m + 1) = evs E J m ++ E (J + m) := by
  intro m
  induction m with
  | zero => intro J; simp [evs]
  | succ m ih => intro J; rw [evs, ih (J + 1), evs, List.append_assoc, show J + 1 + m = J + (m + 1) by omega]
/-- A turn of the machine that has none. -/
theorem garb2_turn {k b q J : Nat} {s s' : St} {r : Nat} {ev : List Ev} (hk : 1 ≤ k) (hk5 : k ≤ 5) (hJ : J ≤ k + 2) (hI : garbI k k J s) (h : Runs (garbC k b) 8 k q s s' r ev) :
    (J + q ≤ k + 2 ∧ r = 0 ∧ garbI k k (J + q) s' ∧ ev = if J ≤ k ∧ k < J + q then [(1, 0)] else []) ∨ (k + 2 < J + q ∧ r = 2 ∧ ev = (if J ≤ k then [(1, 0)] else []) ++ [(5, 0)]) := by
  have hst : ∀ j s s' r ev, j < k + 2 → garbI k k j s → Step (garbC k b) 8 k s s' r ev → r = 0 ∧ ev = garbE2 k j ∧ garbI k k (j + 1) s' := fun j s s' r ev hj hi hs => by
    obtain ⟨a1, a2, a3⟩ := garb_step k b k j s s' r ev hk hk5 (Or.inr ⟨rfl, hj⟩) hi hs
    exact ⟨a1, by unfold garbE2; rw [if_neg (by omega)]; exact a2, a3⟩
  by_cases hq : J + q ≤ k + 2
  · obtain ⟨rfl, rfl, h2⟩ := runs_on (I := garbI k k) (E := garbE2 k) (B := k + 2) hst q J s s' r ev hq hI h
    exact Or.inl ⟨hq, rfl, h2, garb2_evs k q J hq⟩
  · obtain ⟨rfl, rfl⟩ := runs_off (I := garbI k k) (E := garbE2 k) (B := k + 2) (R := 2) hst (by omega) (fun s s' r ev hi hs => by
      obtain ⟨a1, a2⟩ := garb_last k b s s' r ev hk hk5 hi hs
      exact ⟨a1, by unfold garbE2; rw [if_pos rfl]; exact a2⟩) q J s s' r ev hJ (by omega) hI h
    refine Or.inr ⟨by omega, rfl, ?_⟩
    rw [show k + 2 + 1 - J = (k + 2 - J) + 1 by omega, evs_last, garb2_evs k (k + 2 - J) J (by omega), show J + (k + 2 - J) = k + 2 by omega]
    have e : garbE2 k (k + 2) = [(5, 0)] := by unfold garbE2; rw [if_pos rfl]
    rw [e]
    by_cases e2 : J ≤ k
    · rw [if_pos ⟨e2, by omega⟩, if_pos e2]
    · rw [if_neg (by omega), if_neg e2]
end B

/-- How the machine that has no room stands behind J instructions. -/
def garbS (k J r : Nat) (s : B.St) : Prop := (J ≤ k + 2 ∧ r = 0 ∧ B.garbI k k J s) ∨ (k + 2 < J ∧ r = 2)

theorem garb_turn_any {Mach : MachT} (hT : TurnOk Mach) (k b n q mb J : Nat) (F : Nat → Prop) (s : B.St) (w : World) (hM : Mach w mb F (B.garbC k b) 8 n q s 0) (hk : 1 ≤ k) (hk5 : k ≤ 5) (hn : k < n) (hI : B.garbI k n J s) :
    Calls Tryz.prog 24 #[P0 mb, .int .i64 0, .slice none 0 0] w fun e w' => ∃ (F' : Nat → Prop) (s' : B.St) (ev : List B.Ev) (ad : Option Addr) (cap : Nat), e = .returned (.slice ad ev.length cap) ∧ ev.length ≤ maxLen ∧ Hid (Evs w' ad ev.length ev) ∧ Hid (Only F w w') ∧ Hid (∀ k, F' k → F k ∨ (w.heap.size ≤ k ∧ k < w'.heap.size)) ∧ Hid (Mach w' mb F' (B.garbC k b) 8 n q s' 0) ∧ Hid (B.garbI k n (J + q) s') ∧ Hid (∀ (i : Nat) (x : B.Ev), ev[i]? = some x → x = (1, 0)) := by
  refine (hT (B.garbC k b) 8 n q mb F s w hM).mono ?_
  rintro e w' ⟨F', s', r', ev, ad, len, cap, rfl, hlm, hE, hO, hF', hR, hM'⟩
  obtain rfl := hE.1
  obtain ⟨rfl, h2, h3⟩ := B.garb_turn hk hk5 hn hI hR
  exact ⟨F', s', ev, ad, cap, rfl, hlm, hE, hO, hF', hM' (by omega), h2, h3⟩

theorem garb2_turn_any {Mach : MachT} (hT : TurnOk Mach) (hTo : TurnOff Mach) (k b q mb J r : Nat) (F : Nat → Prop) (s : B.St) (w : World) (hM : Mach w mb F (B.garbC k b) 8 k q s r) (hk : 1 ≤ k) (hk5 : k ≤ 5) (hS : garbS k J r s) :
    Calls Tryz.prog 24 #[P0 mb, .int .i64 0, .slice none 0 0] w fun e w' => ∃ (F' : Nat → Prop) (s' : B.St) (r' : Nat) (ev : List B.Ev) (ad : Option Addr) (cap a m : Nat), e = .returned (.slice ad ev.length cap) ∧ ev.length ≤ 2 ∧ Hid (Evs w' ad ev.length ev) ∧ Hid (Only F w w') ∧ Hid (∀ k, F' k → F k ∨ (w.heap.size ≤ k ∧ k < w'.heap.size)) ∧ Hid (Mach w' mb F' (B.garbC k b) 8 k q s' r') ∧ Hid (garbS k (J + q) r' s') ∧
      Hid (ev.length = a + m) ∧ Hid (∀ i, i < a → ev[i]? = some (1, 0)) ∧ Hid (m = 1 → ev[a]? = some (5, 0)) ∧ Hid (a ≤ 1 ∧ m ≤ 1 ∧ (if k < J then 1 else 0) + a = (if k < J + q then 1 else 0) ∧ (k + 2 < J → a = 0 ∧ m = 0) ∧ (m = 1 ↔ J ≤ k + 2 ∧ k + 2 < J + q)) := by
  rcases hS with ⟨hJ, rfl, hI⟩ | ⟨hJ, rfl⟩
  · refine (hT (B.garbC k b) 8 k q mb F s w hM).mono ?_
    rintro e w' ⟨F', s', r', ev, ad, len, cap, rfl, _, hE, hO, hF', hR, hM'⟩
    obtain rfl := hE.1
    rcases B.garb2_turn hk hk5 hJ hI hR with ⟨h1, rfl, h2, rfl⟩ | ⟨h1, rfl, rfl⟩
    · by_cases hc : J ≤ k ∧ k < J + q
      · simp only [if_pos hc] at hE ⊢
        exact ⟨F', s', 0, [(1, 0)], ad, cap, 1, 0, rfl, by decide, hE, hO, hF', hM' (by omega), Or.inl ⟨h1, rfl, h2⟩, rfl, fun i hi => (by obtain rfl : i = 0 := (by omega); rfl), fun h => (by cases h), ⟨by omega, by omega, by rw [if_neg (by omega), if_pos (by omega)], fun h => (by omega), by omega⟩⟩
      · simp only [if_neg hc] at hE ⊢
        refine ⟨F', s', 0, [], ad, cap, 0, 0, rfl, by decide, hE, hO, hF', hM' (by omega), Or.inl ⟨h1, rfl, h2⟩, rfl, fun i hi => absurd hi (by omega), fun h => (by cases h), ⟨by omega, by omega, ?_, fun h => (by omega), by omega⟩⟩
        by_cases e : k < J
        · rw [if_pos e, if_pos (by omega)]
        · rw [if_neg e, if_neg (by omega)]
    · by_cases hc : J ≤ k
      · simp only [if_pos hc] at hE ⊢
        exact ⟨F', s', 2, [(1, 0), (5, 0)], ad, cap, 1, 1, rfl, by decide, hE, hO, hF', hM' (by omega), Or.inr ⟨h1, rfl⟩, rfl, fun i hi => (by obtain rfl : i = 0 := (by omega); rfl), fun _ => rfl, ⟨by omega, by omega, by rw [if_neg (by omega), if_pos (by omega)], fun h => (by omega), by omega⟩⟩
      · simp only [if_neg hc] at hE ⊢
        exact ⟨F', s', 2, [(5, 0)], ad, cap, 0, 1, rfl, by decide, hE, hO, hF', hM' (by omega), Or.inr ⟨h1, rfl⟩, rfl, fun i hi => absurd hi (by omega), fun _ => rfl, ⟨by omega, by omega, by rw [if_pos (by omega), if_pos (by omega)], fun h => (by omega), by omega⟩⟩
  · refine (hTo (B.garbC k b) 8 k q mb F s 2 w (by omega) hM).mono ?_
    rintro e w' ⟨F', ad, cap, rfl, hO, hF', hM'⟩
    exact ⟨F', s, 2, [], ad, cap, 0, 0, rfl, by decide, ⟨rfl, fun h => absurd rfl h⟩, hO, hF', hM', Or.inr ⟨by omega, rfl⟩, rfl, fun i hi => absurd hi (by omega), fun h => (by cases h), ⟨by omega, by omega, by rw [if_pos (by omega), if_pos (by omega)], fun _ => ⟨rfl, rfl⟩, by omega⟩⟩

theorem okGarb (k b : Nat) (hk : 1 ≤ k) (hk5 : k ≤ 5) (hb : b ≤ 8) : okCode 8 (B.garbC k b) := by
  refine ⟨by omega, by omega, by simp [B.garbC], by simp [B.garbC]; omega, ?_⟩
  simp [B.garbC, okIn]
  omega

theorem Tryz.info37 : (Tryz.prog.info? 37).map (fun i => (i.zero, i.size, i.bytes)) = some (some (.agg #[.int .u8 0, .int .u8 0, .int .u8 0, .int .u8 0]), 4, 4) := by kernel_rfl
/-- The bytes of the first j instructions. -/
def garbL (b j : Nat) : List Nat := (List.range j).flatMap (fun i => [9, 2 + i, b, 0])
theorem garbL_succ (b j : Nat) : garbL b (j + 1) = garbL b j ++ [9, 2 + j, b, 0] := by unfold garbL; simp [List.range_succ]
theorem garbL_len (b : Nat) : ∀ j, (garbL b j).length = 4 * j
  | 0 => rfl
  | j + 1 => by rw [garbL_succ, List.length_append, garbL_len b j]; simp; omega
theorem garb_flat (k b : Nat) : flat (B.garbC k b) = garbL b k ++ [20, 0, 0, 0, 7, 0, 0, 0] := by
  simp [flat, B.garbC, garbL, List.flatMap_append, List.flatMap_map]
theorem garb_lt (k b : Nat) (hk : k ≤ 5) (hb : b ≤ 8) : ∀ y, y ∈ flat (B.garbC k b) → y < 256 := by
  intro y hy
  rw [garb_flat, List.mem_append] at hy
  rcases hy with hy | hy
  · unfold garbL at hy
    simp only [List.mem_flatMap, List.mem_range] at hy
    obtain ⟨i, hi, hy⟩ := hy
    simp at hy
    omega
  · simp at hy; omega
/-- What a row of bytes holds. -/
theorem own_full {w : World} {base e size g n cap : Nat} {l : List Nat} (h : w.ownsRow base e size (.slice (some ⟨g, 0, none⟩) n cap) n (u8s l)) : n ≤ cap ∧ ∃ m, Full w g e m l.length (fun j => .int .u8 (l.getD j 0 : Nat)) := by
  rcases h.2 with ⟨h, _⟩ | ⟨g', cap', cur, h1, _, h2, h3, _, h5, h6⟩
  · cases h
  · cases h1
    refine ⟨h3, cur.size, cur, h2, rfl, fun j hj => ?_⟩
    have e1 := full_list l j hj
    have e2 : (u8s l)[j]? = some (.int .u8 (l.getD j 0 : Nat)) := by simpa using e1
    rw [← h6, List.getElem?_take] at e2
    split at e2
    · simpa using e2
    · cases e2

set_option maxRecDepth 100000 in
set_option maxHeartbeats 2000000 in
theorem garbage_any {Good : World → Prop} {Mach : MachT} (hI : Iface Good Mach) (x0 x1 x2 x3 x4 x5 : Int) (h0 : -9223372036854775808 ≤ x0 ∧ x0 ≤ 9223372036854775807) (h1 : -9223372036854775808 ≤ x1 ∧ x1 ≤ 9223372036854775807) (h2 : -9223372036854775808 ≤ x2 ∧ x2 ≤ 9223372036854775807) (h3 : -9223372036854775808 ≤ x3 ∧ x3 ≤ 9223372036854775807) (h4 : -9223372036854775808 ≤ x4 ∧ x4 ≤ 9223372036854775807) (h5 : -9223372036854775808 ≤ x5 ∧ x5 ≤ 9223372036854775807) (w : World) (hG : Good w) :
    Calls Tryz.prog 5 #[.int .i64 x0, .int .i64 x1, .int .i64 x2, .int .i64 x3, .int .i64 x4, .int .i64 x5] w fun e w' => e = .returned (.bool true) ∧ Below w.heap.size w w' := by
  have HI : Hid (Iface Good Mach) := hI
  obtain ⟨hL, hT, hTo, _, hK, hGd⟩ := hI
  have HK : Hid (KeepOk Mach) := hK
  have HL : Hid (LoadOk Good Mach) := hL
  have HT : Hid (TurnOk Mach) := hT
  have HTo : Hid (TurnOff Mach) := hTo
  have HGd : Hid (GoodOk Good) := hGd
  have HG : Hid (Good w) := hG
  clear hL hT hGd hG hK hTo
  obtain ⟨i0, hi, hz0, hz1, hz2⟩ := info_parts Tryz.info37
  go_enter Tryz.func5, Tryz.ntmps5
  go_wp2_with fail
  refine (emits_any HI.out w HG.out).mono ?_
  rintro e w1 ⟨rfl, hB1⟩
  have KB1 : Hid (Below w.heap.size w w1) := hB1
  clear hB1
  go_wp2_with fail
  refine (pick_any x0 5 (by omega) (by omega) h0.1 h0.2 w1).mono ?_
  rintro e w1' ⟨rfl, rfl⟩
  have ha := pk_lt x0 5 (by omega)
  generalize pk x0 5 = a at *
  go_wp2_with fail
  obtain ⟨k, hk⟩ : ∃ k : Nat, 1 + (a : Int) = (k : Int) := ⟨1 + a, by omega⟩
  rw [hk]
  have hk1 : 1 ≤ k := by omega
  have hk5 : k ≤ 5 := by omega
  clear hk ha
  refine (pick_any x2 9 (by omega) (by omega) h2.1 h2.2 _).mono ?_
  rintro e w1'' ⟨rfl, rfl⟩
  have hb := pk_lt x2 9 (by omega)
  generalize pk x2 9 = b at *
  go_wp2_with fail
  have KO : Hid (w1''.ownsRow w.heap.size 37 4 (.slice none 0 0) 0 (u8s (garbL b 0))) := ⟨rfl, Or.inl ⟨rfl, rfl⟩⟩
  go_loopw [16, 17] (fun v i wr => ∃ (j : Nat) (ad : Option Addr) (cp : Nat), i = .int .i64 j ∧ j ≤ k ∧ v = .slice ad j cp ∧ Hid (wr.ownsRow w.heap.size 37 4 (.slice ad j cp) j (u8s (garbL b j))) ∧ Hid (Below w.heap.size w wr)) (fun _ i _ => k - (intOf i).toNat)
  case atStart => exact ⟨0, none, 0, rfl, by omega, rfl, KO, KB1⟩
  case round =>
    obtain ⟨j, ad, cp, rfl, hj, rfl, rO, rB⟩ := hrel
    clear KO KB1
    by_cases hlt : j < k
    · have hzr := rB.out.size
      go_wp2_with (at_builtin; refine wpList_append_own _ rfl (.tmp 46) (.tmp 52) 36 rfl w.heap.size 37 i0 _ 4 4 Tryz.underlying36 hi hz0 hz1 hz2 rfl (by decide) _ _ _ rfl (own_alloc rO.out _) ⟨wr.heap.size, 0, none⟩ 1 1 [.int .u8 9, .int .u8 (2 + j : Int), .int .u8 b, .int .u8 0] rfl rfl ?c1 ?c2 ?c3 ?c4 ?c5 ?_)
      case c1 => intro q u hq; match q, hq with | 0, hq => (simp at hq; subst hq; simp [Addr.add, go_sem]) | 1, hq => (simp at hq; subst hq; simp [Addr.add, go_sem]) | 2, hq => (simp at hq; subst hq; simp [Addr.add, go_sem]) | 3, hq => (simp at hq; subst hq; simp [Addr.add, go_sem])
      case c2 => simp [Value.oneCell']
      case c3 => unfold maxLen; omega
      case c4 => omega
      case c5 => simp; omega
      intro v' w6 hown hgrow _
      obtain ⟨g', cap', rfl⟩ := row_form hown (by omega)
      have KO6 : Hid (w6.ownsRow w.heap.size 37 4 (.slice (some ⟨g', 0, none⟩) (j + 1) cap') (j + 1) (u8s (garbL b (j + 1)))) := by
        show World.ownsRow _ _ _ _ _ _ _
        rw [garbL_succ]
        simpa [u8s] using hown
      have KB6 : Hid (Below w.heap.size w w6) := below_own (rB.out.alloc hzr _) hgrow (own_alloc rO.out _) (Nat.le_refl _)
      clear hown hgrow rO rB
      go_wp2_with fail
      go_roundw
      case rel => exact ⟨j + 1, _, _, by go_num, by omega, rfl, KO6, KB6⟩
      case measure => simp [intOf]; omega
    · obtain rfl : j = k := by omega
      have hzr := rB.out.size
      go_wp2_with (at_builtin; refine wpList_append_own _ rfl (.tmp 54) (.tmp 57) 36 rfl w.heap.size 37 i0 _ 4 4 Tryz.underlying36 hi hz0 hz1 hz2 rfl (by decide) _ _ _ rfl (own_alloc rO.out _) ⟨wr.heap.size, 0, none⟩ 2 2 [.int .u8 20, .int .u8 0, .int .u8 0, .int .u8 0, .int .u8 7, .int .u8 0, .int .u8 0, .int .u8 0] rfl rfl ?d1 ?d2 ?d3 ?d4 ?d5 ?_)
      case d1 => intro q u hq; match q, hq with | 0, hq => (simp at hq; subst hq; simp [Addr.add, go_sem]) | 1, hq => (simp at hq; subst hq; simp [Addr.add, go_sem]) | 2, hq => (simp at hq; subst hq; simp [Addr.add, go_sem]) | 3, hq => (simp at hq; subst hq; simp [Addr.add, go_sem]) | 4, hq => (simp at hq; subst hq; simp [Addr.add, go_sem]) | 5, hq => (simp at hq; subst hq; simp [Addr.add, go_sem]) | 6, hq => (simp at hq; subst hq; simp [Addr.add, go_sem]) | 7, hq => (simp at hq; subst hq; simp [Addr.add, go_sem])
      case d2 => simp [Value.oneCell']
      case d3 => unfold maxLen; omega
      case d4 => omega
      case d5 => simp; omega
      intro v' w6 hown hgrow _
      obtain ⟨g', cap', rfl⟩ := row_form hown (by omega)
      have KO6 : w6.ownsRow w.heap.size 37 4 (.slice (some ⟨g', 0, none⟩) (j + 2) cap') (j + 2) (u8s (flat (B.garbC j b))) := by
        rw [garb_flat]
        simpa [u8s] using hown
      have KB6 : Hid (Below w.heap.size w w6) := below_own (rB.out.alloc hzr _) hgrow (own_alloc rO.out _) (Nat.le_refl _)
      have hfl : (flat (B.garbC j b)).length = 4 * (j + 2) := by rw [garb_flat, List.length_append, garbL_len]; simp; omega
      obtain ⟨hcp, m6, hfull⟩ := own_full KO6
      rw [hfl] at hfull
      have KFu : Hid (Full w6 g' 37 m6 (4 * (j + 2)) (fun i => .int .u8 ((flat (B.garbC j b)).getD i 0 : Nat))) := hfull
      have KFl : Hid ((flat (B.garbC j b)).length = 4 * (j + 2)) := hfl
      clear hown hgrow rO rB KO6 hfull hfl i0 hi hz0 hz1 hz2
      go_wp2_with fail
      refine (function_any 8 (j + 2) g' cap' 37 m6 (fun i => (flat (B.garbC j b)).getD i 0) w6 (by omega) (by omega) (fun i _ => list_lt _ (garb_lt j b hk5 (by omega)) i) KFu.out hcp).mono ?_
      rw [codeL_list (flat (B.garbC j b)) (j + 2) KFl.out]
      rintro e w2 ⟨rfl, hB2⟩
      have KB2 : Hid (Below w.heap.size w w2) := KB6.out.trans (hB2.mono KB6.out.size)
      have hCl : (B.garbC j b).length = j + 2 := by simp [B.garbC]
      have htx : ({ data := #[1] } : ByteArray) ++ txt (8 :: (j + 2) :: flat (B.garbC j b)) = txt (1 :: 8 :: (B.garbC j b).length :: flat (B.garbC j b)) := by rw [txt_cons, hCl]
      have hts : (txt (8 :: (j + 2) :: flat (B.garbC j b))).size = 4 * (j + 2) + 2 := by
        show (List.map UInt8.ofNat _).toArray.size = _
        simp [KFl.out]
      clear hB2 KB6 KFu KFl hCl
      generalize txt (8 :: (j + 2) :: flat (B.garbC j b)) = tx at *
      have HTX : Hid (({ data := #[1] } : ByteArray) ++ tx = txt (1 :: 8 :: (B.garbC j b).length :: flat (B.garbC j b))) := htx
      clear htx
      go_wp2_with fail
      refine (pick_any x3 50 (by omega) (by omega) h3.1 h3.2 _).mono ?_
      rintro e w2' ⟨rfl, rfl⟩
      have hp3 := pk_lt x3 50 (by omega)
      generalize pk x3 50 = d3 at *
      go_wp2_with fail
      obtain ⟨q, hq⟩ : ∃ q : Nat, 1 + (d3 : Int) = (q : Int) := ⟨1 + d3, by omega⟩
      rw [hq]
      have hq1 : 1 ≤ q := by omega
      have hq2 : q ≤ 50 := by omega
      clear hq hp3
      refine (pick_any x4 50 (by omega) (by omega) h4.1 h4.2 _).mono ?_
      rintro e w2'' ⟨rfl, rfl⟩
      have hp4 := pk_lt x4 50 (by omega)
      generalize pk x4 50 = d4 at *
      go_wp2_with fail
      obtain ⟨wk, hwk⟩ : ∃ wk : Nat, 1 + (d4 : Int) = (wk : Int) := ⟨1 + d4, by omega⟩
      rw [hwk]
      have hwk1 : 1 ≤ wk := by omega
      have hwk2 : wk ≤ 50 := by omega
      clear hwk hp4
      refine (pick_any x1 3 (by omega) (by omega) h1.1 h1.2 _).mono ?_
      rintro e w2'' ⟨rfl, rfl⟩
      have hp1 := pk_lt x1 3 (by omega)
      generalize pk x1 3 = d1 at *
      go_wp2_with fail
      obtain ⟨n, hn⟩ : ∃ n : Nat, (j : Int) + 1 + (d1 : Int) = (n : Int) := ⟨j + 1 + d1, by omega⟩
      rw [hn]
      have hn1 : j < n := by omega
      have hn2 : n ≤ 200 := by omega
      clear hn hp1
      generalize hty : ({ data := #[1] } : ByteArray) ++ tx = ty
      have HTY : ty = txt (1 :: 8 :: (B.garbC j b).length :: flat (B.garbC j b)) := hty.symm.trans HTX.out
      clear hty HTX hts
      have KTY : Hid (ty = txt (1 :: 8 :: (B.garbC j b).length :: flat (B.garbC j b))) := HTY
      have hzw := KB2.out.size
      rw [HTY]
      refine (HL.out (B.garbC j b) 8 n q wk w2'' (okGarb j b hk1 hk5 (by omega)) (by omega) hn2 hq1 hq2 hwk1 hwk2 (HGd.out _ _ HG.out KB2.out)).mono ?_
      rw [← HTY]
      clear HTY
      rintro e w3 ⟨m1, F1, rfl, hB3, hF, hM⟩
      have KB3 : Hid (Below w.heap.size w w3) := KB2.out.trans (hB3.mono hzw)
      have KM3 : Hid (Mach w3 m1 F1 (B.garbC j b) 8 n q (0, fun _ => (0, 0), fun _ => []) 0) := hM
      have KF3 : Hid (∀ k, F1 k → w.heap.size ≤ k ∧ k < w3.heap.size) := fun k hk => ⟨by have := hF k hk; omega, (hF k hk).2⟩
      have hz3 := KB3.out.size
      clear hB3 hM hF KB2 hzw
      go_wp2_with fail
      generalize hw4 : w3.alloc (.cells #[.int .i64 0, .int .i64 0] 42) = w4
      have KB4 : Hid (Below w.heap.size w w4) := by show Below _ _ _; rw [← hw4]; exact KB3.out.alloc (by omega) _
      have KM4 : Hid (Mach w4 m1 F1 (B.garbC j b) 8 n q (0, fun _ => (0, 0), fun _ => []) 0) := by
        show Mach _ _ _ _ _ _ _ _ _
        rw [← hw4]
        exact HK.out _ _ _ _ _ _ _ _ _ _ KM3.out (fun k hk => Below.heap_alloc _ _ _ (KF3.out k hk).2)
      have hz4 : w4.heap.size = w3.heap.size + 1 := by rw [← hw4]; simp
      have KF4 : Hid (∀ k, F1 k → w.heap.size ≤ k ∧ k < w4.heap.size) := fun k hk => ⟨(KF3.out k hk).1, by have := (KF3.out k hk).2; omega⟩
      clear hw4 KB3 KM3 KF3
      rw [KTY.out]
      refine (HL.out (B.garbC j b) 8 j q wk w4 (okGarb j b hk1 hk5 (by omega)) hk1 (by omega) hq1 hq2 hwk1 hwk2 (HGd.out _ _ HG.out KB4.out)).mono ?_
      rw [← KTY.out]
      rintro e w5 ⟨m2, F2, rfl, hB5, hF, hM⟩
      have KB5 : Hid (Below w.heap.size w w5) := KB4.out.trans (hB5.mono (by omega))
      have hz5 := hB5.size
      have KM5 : Hid (Mach w5 m1 F1 (B.garbC j b) 8 n q (0, fun _ => (0, 0), fun _ => []) 0) := HK.out _ _ _ _ _ _ _ _ _ _ KM4.out (fun k hk => hB5.block k (KF4.out k hk).2)
      have KN5 : Hid (Mach w5 m2 F2 (B.garbC j b) 8 j q (0, fun _ => (0, 0), fun _ => []) 0) := hM
      have KF5 : Hid ((∀ k, F1 k → w.heap.size ≤ k ∧ k < w5.heap.size) ∧ (∀ k, F2 k → w.heap.size ≤ k ∧ k < w5.heap.size) ∧ ∀ k, F1 k → ¬ F2 k) :=
        ⟨fun k hk => ⟨(KF4.out k hk).1, by have := (KF4.out k hk).2; omega⟩, fun k hk => ⟨by have := (hF k hk).1; omega, (hF k hk).2⟩, fun k h1 h2 => by have := (KF4.out k h1).2; have := (hF k h2).1; omega⟩
      clear hB5 hM hF KB4 KM4 KF4 KTY
      go_wp2_with fail
      generalize hw6 : w5.alloc (.cells #[.int .i64 0, .int .i64 0] 42) = w6
      have KB6 : Hid (Below w.heap.size w w6) := by show Below _ _ _; rw [← hw6]; exact KB5.out.alloc (by omega) _
      have KM6 : Hid (Mach w6 m1 F1 (B.garbC j b) 8 n q (0, fun _ => (0, 0), fun _ => []) 0) := by
        show Mach _ _ _ _ _ _ _ _ _
        rw [← hw6]
        exact HK.out _ _ _ _ _ _ _ _ _ _ KM5.out (fun k hk => Below.heap_alloc _ _ _ (KF5.out.1 k hk).2)
      have KN6 : Hid (Mach w6 m2 F2 (B.garbC j b) 8 j q (0, fun _ => (0, 0), fun _ => []) 0) := by
        show Mach _ _ _ _ _ _ _ _ _
        rw [← hw6]
        exact HK.out _ _ _ _ _ _ _ _ _ _ KN5.out (fun k hk => Below.heap_alloc _ _ _ (KF5.out.2.1 k hk).2)
      have hz6 : w6.heap.size = w5.heap.size + 1 := by rw [← hw6]; simp
      have KF6 : Hid ((∀ k, F1 k → w.heap.size ≤ k ∧ k < w6.heap.size) ∧ (∀ k, F2 k → w.heap.size ≤ k ∧ k < w6.heap.size) ∧ ∀ k, F1 k → ¬ F2 k) :=
        ⟨fun k hk => ⟨(KF5.out.1 k hk).1, by have := (KF5.out.1 k hk).2; omega⟩, fun k hk => ⟨(KF5.out.2.1 k hk).1, by have := (KF5.out.2.1 k hk).2; omega⟩, KF5.out.2.2⟩
      clear hw6 KB5 KM5 KN5 KF5 hz3 hz4 hz5 hz6
      refine (pick_any x5 200 (by omega) (by omega) h5.1 h5.2 _).mono ?_
      rintro e w6' ⟨rfl, rfl⟩
      have hp5 := pk_lt x5 200 (by omega)
      generalize pk x5 200 = tt at *
      go_wp2_with fail
      go_loopw [25, 26, 28] (fun em sp i wr => ∃ (I : Nat) (F1 F2 : Nat → Prop) (s1 s2 : B.St) (r2 m0 : Nat) (sv : Bool), i = .int .i64 I ∧ I ≤ tt ∧ em = .int .i64 (m0 : Nat) ∧ m0 ≤ 1 ∧ sp = .bool sv ∧ Hid (Mach wr m1 F1 (B.garbC j b) 8 n q s1 0 ∧ B.garbI j n (I * q) s1) ∧ Hid (Mach wr m2 F2 (B.garbC j b) 8 j q s2 r2 ∧ garbS j (I * q) r2 s2) ∧ Hid (m0 = if j < I * q then 1 else 0) ∧ Hid (sv = decide (j + 2 < I * q)) ∧ Hid (Below w.heap.size w wr) ∧ Hid ((∀ k, F1 k → w.heap.size ≤ k ∧ k < wr.heap.size) ∧ (∀ k, F2 k → w.heap.size ≤ k ∧ k < wr.heap.size) ∧ ∀ k, F1 k → ¬ F2 k)) (fun _ _ i _ => tt - (intOf i).toNat)
      case atStart => exact ⟨0, F1, F2, _, _, 0, 0, false, rfl, by omega, rfl, by omega, rfl, ⟨KM6.out, by rw [Nat.zero_mul]; exact B.garb_start j n _⟩, ⟨KN6.out, Or.inl ⟨by omega, rfl, by rw [Nat.zero_mul]; exact B.garb_start j j _⟩⟩, by show _ = _; rw [if_neg (by omega)], by show _ = _; simp, KB6, KF6⟩
      case round =>
        obtain ⟨I, F1, F2, s1, s2, r2, m0, sv, rfl, hI, rfl, hm0, rfl, rM, rN, rE, rS, rB, rF⟩ := hrel
        clear KB6 KM6 KN6 KF6
        by_cases hlt : I < tt
        · have hzr := rB.out.size
          go_wp2_with fail
          refine (garb_turn_any HT.out j b n q m1 (I * q) F1 s1 wr rM.out.1 hk1 hk5 hn1 rM.out.2).mono ?_
          rintro e w7 ⟨G1, t1, ev, ad, cap, rfl, hlm, kE, kO, kF, kM, kI, kA⟩
          have hlm2 : ev.length ≤ 9223372036854775807 := by unfold maxLen at hlm; omega
          have KB7 : Hid (Below w.heap.size w w7) := Only.below rB.out kO.out (fun k hk => (rF.out.1 k hk).1) hzr
          have KN7 : Hid (Mach w7 m2 F2 (B.garbC j b) 8 j q s2 r2) := HK.out _ _ _ _ _ _ _ _ _ _ rN.out.1 (fun k hk => kO.out.2.2.2.2 k (rF.out.2.1 k hk).2 (fun h => rF.out.2.2 k h hk))
          have hz7 : wr.heap.size ≤ w7.heap.size := kO.out.2.2.2.1
          have KF7 : Hid ((∀ k, G1 k → w.heap.size ≤ k ∧ k < w7.heap.size) ∧ (∀ k, F2 k → w.heap.size ≤ k ∧ k < w7.heap.size) ∧ ∀ k, G1 k → ¬ F2 k) :=
            ⟨fun k hk => by
              rcases kF.out k hk with h | h
              · have := rF.out.1 k h; omega
              · omega, fun k hk => by have := rF.out.2.1 k hk; omega, fun k h1 h2 => by
              rcases kF.out k h1 with h | h
              · exact rF.out.2.2 k h h2
              · have := rF.out.2.1 k h2; omega⟩
          have KS2 : Hid (garbS j (I * q) r2 s2) := rN.out.2
          clear hlm rM rN rB rF kO kF hzr
          go_wp2_with fail
          go_loopw [30] (fun i wr => ∃ (x : Nat), i = .int .i64 x ∧ x ≤ ev.length ∧ wr = w7) (fun i _ => ev.length - (intOf i).toNat)
          case atStart => exact ⟨0, rfl, by omega, rfl⟩
          case round =>
            obtain ⟨x, rfl, hx, rfl⟩ := hrel
            by_cases hxl : x < ev.length
            · obtain ⟨g, rfl, hg, hcell⟩ := kE.out.cells (by intro e; rw [e] at hxl; simp at hxl)
              have hxe : ev[x]? = some (1, 0) := by
                have := kA.out x ev[x] (List.getElem?_eq_getElem hxl)
                rw [List.getElem?_eq_getElem hxl, this]
              obtain ⟨c0, c1, c2⟩ := hcell x _ hxe
              have c0 : wr.cell? ⟨g, x * 3, none⟩ = some (.int .i64 1) := c0
              have c2 : wr.cell? ⟨g, x * 3 + 2, none⟩ = some (.int .i64 0) := c2
              clear hcell hxe
              go_wp2_with fail
              go_roundw
              case rel => exact ⟨x + 1, by go_num, by omega, trivial⟩
              case measure => simp [intOf]; omega
            · clear kE kA
              have hzr : w.heap.size ≤ wr.heap.size := KB7.out.size
              go_wp2_with fail
              refine (garb2_turn_any HT.out HTo.out j b q m2 (I * q) r2 F2 s2 wr KN7.out hk1 hk5 KS2.out).mono ?_
              rintro e w8 ⟨G2, t2, r3, ev2, ad2, cap2, a2, b2, rfl, hl2, kE2, kO2, kF2, kM2, kS3, kL, kA2, kB2, kC⟩
              have KB8 : Hid (Below w.heap.size w w8) := Only.below KB7.out kO2.out (fun k hk => (KF7.out.2.1 k hk).1) hzr
              have KM8 : Hid (Mach w8 m1 G1 (B.garbC j b) 8 n q t1 0) := HK.out _ _ _ _ _ _ _ _ _ _ kM.out (fun k hk => kO2.out.2.2.2.2 k (KF7.out.1 k hk).2 (KF7.out.2.2 k hk))
              have hz8 : wr.heap.size ≤ w8.heap.size := kO2.out.2.2.2.1
              have KF8 : Hid ((∀ k, G1 k → w.heap.size ≤ k ∧ k < w8.heap.size) ∧ (∀ k, G2 k → w.heap.size ≤ k ∧ k < w8.heap.size) ∧ ∀ k, G1 k → ¬ G2 k) :=
                ⟨fun k hk => by have := KF7.out.1 k hk; omega, fun k hk => by
                  rcases kF2.out k hk with h | h
                  · have := KF7.out.2.1 k h; omega
                  · omega, fun k h1 h2 => by
                  rcases kF2.out k h2 with h | h
                  · exact KF7.out.2.2 k h1 h
                  · have := KF7.out.1 k h1; omega⟩
              have hsum : m0 + a2 ≤ 1 := by
                have e1 := rE.out
                have e2 := kC.out.2.2.1
                rw [← e1] at e2
                rw [e2]
                split <;> omega
              clear KB7 KN7 KF7 kM kO2 kF2 hzr KS2
              go_wp2_with fail
              go_loopw [25, 26, 32] (fun em sp i wr => ∃ (y mv : Nat) (sw : Bool), i = .int .i64 y ∧ y ≤ ev2.length ∧ em = .int .i64 (mv : Nat) ∧ mv ≤ 1 ∧ sp = .bool sw ∧ Hid (mv = m0 + min y a2) ∧ Hid (sw = (sv || decide (a2 < y))) ∧ wr = w8) (fun _ _ i _ => ev2.length - (intOf i).toNat)
              case atStart => exact ⟨0, m0, sv, rfl, by omega, rfl, hm0, rfl, by show _ = _; simp, by show _ = _; simp, rfl⟩
              case round =>
                obtain ⟨y, mv, sw, rfl, hy, rfl, hmv, rfl, rK, rW, rfl⟩ := hrel
                by_cases hyl : y < ev2.length
                · obtain ⟨g, rfl, hg, hcell⟩ := kE2.out.cells (by intro e; rw [e] at hyl; simp at hyl)
                  have hsv : sv = false := by
                    have e1 := rS.out
                    rw [e1]
                    simp only [decide_eq_false_iff_not]
                    intro h
                    have := kC.out.2.2.2.1 h
                    have := kL.out
                    omega
                  subst hsv
                  by_cases hya : y < a2
                  · obtain ⟨c0, c1, c2⟩ := hcell y _ (kA2.out y hya)
                    have c0 : wr.cell? ⟨g, y * 3, none⟩ = some (.int .i64 1) := c0
                    have c2 : wr.cell? ⟨g, y * 3 + 2, none⟩ = some (.int .i64 0) := c2
                    have em1 : mv = m0 + y := by have := rK.out; rw [Nat.min_eq_left (by omega)] at this; exact this
                    have hsw : sw = false := by have := rW.out; rw [this]; simp; omega
                    subst hsw
                    have KC : Hid (mv + 1 = m0 + min (y + 1) a2) := by show _ = _; rw [Nat.min_eq_left (by omega)]; omega
                    have KD : Hid (false = (false || decide (a2 < y + 1))) := by show _ = _; simp; omega
                    have hm2 : mv + 1 ≤ 1 := by omega
                    clear hcell rK rW em1 kC
                    go_wp2_with fail
                    go_roundw
                    case rel => exact ⟨y + 1, mv + 1, false, by go_num, by omega, by go_num, hm2, rfl, KC, KD, trivial⟩
                    case measure => simp [intOf]; omega
                  · have hb2 : b2 = 1 ∧ y = a2 := by have := kL.out; have := kC.out.2.1; omega
                    obtain ⟨rfl, rfl⟩ := hb2
                    obtain ⟨c0, c1, c2⟩ := hcell y _ (kB2.out rfl)
                    have c0 : wr.cell? ⟨g, y * 3, none⟩ = some (.int .i64 5) := c0
                    have c2 : wr.cell? ⟨g, y * 3 + 2, none⟩ = some (.int .i64 0) := c2
                    have hsw : sw = false := by have := rW.out; rw [this]; simp
                    subst hsw
                    have KC : Hid (mv = m0 + min (y + 1) y) := by show _ = _; have := rK.out; rw [Nat.min_eq_left (Nat.le_refl _)] at this; rw [Nat.min_eq_right (by omega)]; exact this
                    have KD : Hid (true = (false || decide (y < y + 1))) := by show _ = _; simp
                    clear hcell rK rW kC
                    go_wp2_with fail
                    go_roundw
                    case rel => exact ⟨y + 1, mv, true, by go_num, by omega, rfl, hmv, rfl, KC, KD, trivial⟩
                    case measure => simp [intOf]; omega
                · obtain rfl : y = ev2.length := by omega
                  have KE9 : Hid (mv = if j < (I + 1) * q then 1 else 0) := by
                    show _ = _
                    have e1 := rK.out
                    have e2 := rE.out
                    have e3 := kC.out.2.2.1
                    rw [kL.out, Nat.min_eq_right (by omega)] at e1
                    rw [← e2] at e3
                    rw [Nat.add_mul, Nat.one_mul]
                    omega
                  have KS9 : Hid (sw = decide (j + 2 < (I + 1) * q)) := by
                    show _ = _
                    have e1 := rW.out
                    have e2 := rS.out
                    have e3 := kC.out.2.2.2.2
                    have e4 := kC.out.2.1
                    rw [e1, e2, kL.out, Nat.add_mul, Nat.one_mul]
                    rw [← Bool.decide_or, decide_eq_decide]
                    omega
                  have KI9 : Hid (Mach wr m1 G1 (B.garbC j b) 8 n q t1 0 ∧ B.garbI j n ((I + 1) * q) t1) := ⟨KM8.out, by rw [Nat.add_mul, Nat.one_mul]; exact kI.out⟩
                  have KN9 : Hid (Mach wr m2 G2 (B.garbC j b) 8 j q t2 r3 ∧ garbS j ((I + 1) * q) r3 t2) := ⟨kM2.out, by rw [Nat.add_mul, Nat.one_mul]; exact kS3.out⟩
                  clear rK rW rE rS kC kL kA2 kB2 kE2 KM8 kI kM2 kS3
                  go_wp2_with fail
                  go_roundw
                  case rel => exact ⟨I + 1, G1, G2, t1, t2, r3, mv, sw, by go_num, by omega, rfl, hmv, rfl, KI9, KN9, KE9, KS9, KB8, KF8⟩
                  case measure => simp [intOf]; omega
        · obtain rfl : I = tt := by omega
          have hP1 : (I : Int) * (q : Int) ≤ 10000 := by
            have : I * q ≤ 200 * 50 := Nat.mul_le_mul (by omega) hq2
            have e : ((I * q : Nat) : Int) = (I : Int) * (q : Int) := by simp
            omega
          have hP0 : 0 ≤ (I : Int) * (q : Int) := by
            have e : ((I * q : Nat) : Int) = (I : Int) * (q : Int) := by simp
            omega
          by_cases hov : j + 2 < I * q
          · have hs1 : sv = true := by rw [rS.out]; simp; exact hov
            have hm1 : m0 = 1 := by have := rE.out; rw [if_pos (by omega)] at this; exact this
            subst hs1 hm1
            have hP2 : (j : Int) + 3 ≤ (I : Int) * (q : Int) := by
              have e : ((I * q : Nat) : Int) = (I : Int) * (q : Int) := by simp
              omega
            clear rS rE hov
            go_wp2_with fail
            go_ret
            exact ⟨rfl, rB.out⟩
          · have hs1 : sv = false := by rw [rS.out]; simp; omega
            subst hs1
            have hP2 : ¬ (j : Int) + 3 ≤ (I : Int) * (q : Int) := by
              have e : ((I * q : Nat) : Int) = (I : Int) * (q : Int) := by simp
              omega
            clear rS rE hov
            go_wp2_with fail
            go_ret
            exact ⟨rfl, rB.out⟩

end Go.Proofs.YtnjiinbhbjpfkaaGreatDoor

/-
  A region that draws its order, whose operations only read and whose callees leave all that there was: one walk, in the order of the text.
-/
namespace Go.Proofs.YtnjiinbhbjpfkaaGreatDoor
open Go.RowKit

/-- A world in which all that there was in w is as it was. -/
structure Grw (w : World) where
  v : World
  h : w.grownBy v none

theorem wp_region_grw {P : Program} {id : Nat} {Q : Exit → Act → World → Prop} {a : Act} {w : World} {l : List Oper} (hm : P.follows .mixedOrders = true) (hB : Region.lexB .any l.toArray = true)
    (h : wpQuiet P l.toArray (fun w' => ∃ p : Grw w, w' = p.v) (fun a' => ∀ w', (∃ p : Grw w, w' = p.v) → Q .normal a' w') l a) : (Code.region id l.toArray true).wp P Q a w :=
  wp_region_quiet (C := fun w' => ∃ p : Grw w, w' = p.v) hm hB ⟨⟨_, grown_drew (grown_refl w none)⟩, rfl⟩ (by simpa using h)
theorem Calls.grw_of {P : Program} {f : FuncId} {args : Array Value} {w : World} {p : Grw w} {v : Value} (h : Calls P f args p.v fun e w' => e = .returned v ∧ p.v.grownBy w' none) : Calls P f args p.v fun e w'' => e = .returned v ∧ ∃ p : Grw w, w'' = p.v :=
  h.mono fun _ w' ⟨he, hg⟩ => ⟨he, ⟨w', grown_trans p.h hg⟩, rfl⟩
end Go.Proofs.YtnjiinbhbjpfkaaGreatDoor

/-
  The law Forced answers true for every input.
-/
namespace Go.Proofs.YtnjiinbhbjpfkaaGreatDoor
open Go.RowKit

/-- The bytes of j equal instructions. -/
def foB (x : List Nat) (j : Nat) : List Nat := (List.range j).flatMap (fun _ => x)
theorem foB_succ (x : List Nat) (j : Nat) : foB x (j + 1) = foB x j ++ x := by unfold foB; simp [List.range_succ]
theorem foB_len (x : List Nat) (hx : x.length = 4) : ∀ j, (foB x j).length = 4 * j
  | 0 => rfl
  | j + 1 => by rw [foB_succ, List.length_append, foB_len x hx j, hx]; omega
theorem foB_rep (i : B.In) : ∀ j, flat (List.replicate j i) = foB [i.1, i.2.1, i.2.2.1, i.2.2.2] j
  | 0 => rfl
  | j + 1 => by
    rw [foB_succ, ← foB_rep i j, List.replicate_succ']
    simp [flat]
theorem fo_flat (l a k : Nat) : flat (B.foC l a k) = foB [16, 0, 0, 0] l ++ foB [9, 2, 1, 0] a ++ foB [0, 2, 0, 0] (1 - k) ++ [0, 0, 127, 255, 17, 0, 0, 0] := by
  have h : ∀ x y : List B.In, flat (x ++ y) = flat x ++ flat y := fun x y => by simp [flat, List.flatMap_append]
  unfold B.foC
  rw [h, h, h, foB_rep, foB_rep, foB_rep]
  simp [flat]
theorem fo_clen (l a k : Nat) : (B.foC l a k).length = l + a + (1 - k) + 2 := by simp [B.foC]; omega
theorem foB_lt (x : List Nat) (hx : ∀ y, y ∈ x → y < 256) (j y : Nat) (h : y ∈ foB x j) : y < 256 := by
  unfold foB at h
  simp only [List.mem_flatMap, List.mem_range] at h
  obtain ⟨i, hi, hy⟩ := h
  exact hx y hy
theorem fo_lt (l a k : Nat) : ∀ y, y ∈ flat (B.foC l a k) → y < 256 := by
  intro y hy
  rw [fo_flat, List.mem_append, List.mem_append, List.mem_append] at hy
  rcases hy with ((hy | hy) | hy) | hy
  · exact foB_lt _ (by decide) _ _ hy
  · exact foB_lt _ (by decide) _ _ hy
  · exact foB_lt _ (by decide) _ _ hy
  · simp at hy; omega
theorem okFo {l a k : Nat} (hl : l ≤ 8) (ha : a ≤ 40) : okCode2 3 (B.foC l a k) := by
  refine ⟨by omega, by omega, by rw [fo_clen]; omega, by rw [fo_clen]; omega, ?_⟩
  rw [List.all_eq_true]
  intro i hi
  unfold B.foC at hi
  rw [List.mem_append, List.mem_append, List.mem_append] at hi
  rcases hi with hi | hi | hi | hi
  · rw [List.eq_of_mem_replicate hi]; simp [okIn2]
  · rw [List.eq_of_mem_replicate hi]; exact ok_two (by simp [okIn])
  · rw [List.eq_of_mem_replicate hi]; exact ok_two (by simp [okIn])
  · simp at hi
    rcases hi with rfl | rfl
    · exact ok_two (by simp [okIn])
    · simp [okIn2]

set_option maxRecDepth 100000 in
set_option maxHeartbeats 4000000 in
theorem forced_any (x0 x1 x2 x3 x4 : Int) (h0 : -9223372036854775808 ≤ x0 ∧ x0 ≤ 9223372036854775807) (h1 : -9223372036854775808 ≤ x1 ∧ x1 ≤ 9223372036854775807) (h2 : -9223372036854775808 ≤ x2 ∧ x2 ≤ 9223372036854775807) (h3 : -9223372036854775808 ≤ x3 ∧ x3 ≤ 9223372036854775807) (h4 : -9223372036854775808 ≤ x4 ∧ x4 ≤ 9223372036854775807) (w : World) (hG : Tab w) :
    Calls Tryz.prog 13 #[.int .i64 x0, .int .i64 x1, .int .i64 x2, .int .i64 x3, .int .i64 x4] w fun e w' => e = .returned (.bool true) ∧ Below w.heap.size w w' := by
  have HG : Hid (Tab w) := hG
  clear hG
  obtain ⟨i0, hi, hz0, hz1, hz2⟩ := info_parts Tryz.info37
  go_enter Tryz.func13, Tryz.ntmps13
  go_wp2_with fail
  refine (emits_any iface w HG.out).mono ?_
  rintro e w1 ⟨rfl, hB1⟩
  have KB1 : Hid (Below w.heap.size w w1) := hB1
  clear hB1
  go_wp2_with fail
  refine (pick_any x0 40 (by omega) (by omega) h0.1 h0.2 w1).mono ?_
  rintro e w1' ⟨rfl, rfl⟩
  have ha := pk_lt x0 40 (by omega)
  generalize pk x0 40 = a0 at *
  go_wp2_with fail
  obtain ⟨a, haa⟩ : ∃ a : Nat, 1 + (a0 : Int) = (a : Int) := ⟨1 + a0, by omega⟩
  rw [haa]
  have ha1 : 1 ≤ a := by omega
  have ha2 : a ≤ 40 := by omega
  clear haa ha
  refine (pick_any x1 2 (by omega) (by omega) h1.1 h1.2 _).mono ?_
  rintro e w1'' ⟨rfl, rfl⟩
  have hk5 := pk_lt x1 2 (by omega)
  generalize pk x1 2 = k at *
  go_wp2_with fail
  refine (pick_any x2 6 (by omega) (by omega) h2.1 h2.2 _).mono ?_
  rintro e w1'' ⟨rfl, rfl⟩
  have hc5 := pk_lt x2 6 (by omega)
  generalize pk x2 6 = c0 at *
  go_wp2_with fail
  obtain ⟨n, hn⟩ : ∃ n : Nat, 2 + (c0 : Int) = (n : Int) := ⟨2 + c0, by omega⟩
  rw [hn]
  have hn1 : 2 ≤ n := by omega
  have hn2 : n ≤ 7 := by omega
  clear hn hc5
  refine (pick_any x3 50 (by omega) (by omega) h3.1 h3.2 _).mono ?_
  rintro e w5 ⟨rfl, rfl⟩
  have hp3 := pk_lt x3 50 (by omega)
  generalize pk x3 50 = d3 at *
  go_upto_if 47 with fail
  obtain ⟨wk, hwk⟩ : ∃ wk : Nat, 1 + (d3 : Int) = (wk : Int) := ⟨1 + d3, by omega⟩
  rw [hwk]
  have hw1 : 1 ≤ wk := by omega
  have hw2 : wk ≤ 50 := by omega
  clear hwk hp3
  go_cut [16, 17] (fun x y wx => wx = w5 ∧ ∃ f l : Nat, x = .int .i64 f ∧ y = .int .i64 l ∧ f = B.foF n a ∧ l ≤ 8 ∧ (l = 0 ∨ n < a))
  case first =>
    by_cases hgt : n < a
    · have hgt2 : (n : Int) < (a : Int) := by omega
      obtain ⟨fq, hfq, hfq2⟩ : ∃ fq : Nat, ((a : Int) - (n : Int) - 1) / ((n : Int) - 1) = (fq : Int) ∧ fq = (a - n - 1) / (n - 1) := ⟨(a - n - 1) / (n - 1), by rw [show (a : Int) - (n : Int) - 1 = ((a - n - 1 : Nat) : Int) by omega, show (n : Int) - 1 = ((n - 1 : Nat) : Int) by omega, ← Int.natCast_ediv], rfl⟩
      have hfq3 : fq ≤ 40 := by rw [hfq2]; exact Nat.le_trans (Nat.div_le_self _ _) (by omega)
      have HF2 := hid hfq2
      clear hfq2
      go_wp2_with fail
      refine (pick_any x4 9 (by omega) (by omega) h4.1 h4.2 _).mono ?_
      rintro e w6 ⟨rfl, rfl⟩
      have hl9 := pk_lt x4 9 (by omega)
      generalize pk x4 9 = l at *
      go_wp2_with fail
      go_meet
      case rel =>
        refine ⟨rfl, 1 + fq, l, ?_, rfl, ?_, by omega, Or.inr hgt⟩
        · first | rfl | go_num | (simp only [hfq]; go_num) | (rw [hfq]; go_num)
        · unfold B.foF; rw [if_neg (by omega), HF2.out]
    · have hgt2 : ¬ (n : Int) < (a : Int) := by omega
      go_wp2_with fail
      go_meet
      case rel => exact ⟨rfl, 0, 0, rfl, rfl, by unfold B.foF; rw [if_pos (by omega)], by omega, Or.inl rfl⟩
  case rest =>
    obtain ⟨rfl, f, l, rfl, rfl, hf, hl8, hl⟩ := hcut
    have HF := hid hf
    have HL := hid hl
    clear hf hl
    have KO : Hid (wc.ownsRow w.heap.size 37 4 (.slice none 0 0) 0 (u8s (foB [16, 0, 0, 0] 0))) := ⟨rfl, Or.inl ⟨rfl, rfl⟩⟩
    go_wp2_with fail
    go_loopw [18, 19] (fun v i wr => ∃ (j : Nat) (ad : Option Addr) (cp : Nat), i = .int .i64 j ∧ j ≤ l ∧ v = .slice ad j cp ∧ Hid (wr.ownsRow w.heap.size 37 4 (.slice ad j cp) j (u8s (foB [16, 0, 0, 0] j))) ∧ Hid (Below w.heap.size w wr)) (fun _ i _ => l - (intOf i).toNat)
    case atStart => exact ⟨0, none, 0, rfl, by omega, rfl, KO, KB1⟩
    case round =>
      obtain ⟨j, ad, cp, rfl, hj, rfl, rO, rB⟩ := hrel
      clear KO KB1
      by_cases hlt : j < l
      · have hzr := rB.out.size
        go_wp2_with (at_builtin; refine wpList_append_own _ rfl (.tmp 63) (.tmp 65) 36 rfl w.heap.size 37 i0 _ 4 4 Tryz.underlying36 hi hz0 hz1 hz2 rfl (by decide) _ _ _ rfl (own_alloc rO.out _) ⟨wr.heap.size, 0, none⟩ 1 1 [.int .u8 16, .int .u8 0, .int .u8 0, .int .u8 0] rfl rfl ?c1 ?c2 ?c3 ?c4 ?c5 ?_)
        case c1 => intro q u hq; match q, hq with | 0, hq => (simp at hq; subst hq; simp [Addr.add, go_sem]) | 1, hq => (simp at hq; subst hq; simp [Addr.add, go_sem]) | 2, hq => (simp at hq; subst hq; simp [Addr.add, go_sem]) | 3, hq => (simp at hq; subst hq; simp [Addr.add, go_sem])
        case c2 => simp [Value.oneCell']
        case c3 => unfold maxLen; omega
        case c4 => omega
        case c5 => simp; omega
        intro v' w6 hown hgrow _
        obtain ⟨g', cap', rfl⟩ := row_form hown (by omega)
        have KO6 : Hid (w6.ownsRow w.heap.size 37 4 (.slice (some ⟨g', 0, none⟩) (j + 1) cap') (j + 1) (u8s (foB [16, 0, 0, 0] (j + 1)))) := by
          show World.ownsRow _ _ _ _ _ _ _
          rw [foB_succ]
          simpa [u8s] using hown
        have KB6 : Hid (Below w.heap.size w w6) := below_own (rB.out.alloc hzr _) hgrow (own_alloc rO.out _) (Nat.le_refl _)
        clear hown hgrow rO rB
        go_wp2_with fail
        go_roundw
        case rel => exact ⟨j + 1, _, _, by go_num, by omega, rfl, KO6, KB6⟩
        case measure => simp [intOf]; omega
      · obtain rfl : j = l := by omega
        have KP : Hid (wr.ownsRow w.heap.size 37 4 (.slice ad (j + 0) cp) (j + 0) (u8s (foB [16, 0, 0, 0] j ++ foB [9, 2, 1, 0] 0))) := by
          show World.ownsRow _ _ _ _ _ _ _
          simpa [foB] using rO.out
        have KPB := rB
        clear rO rB
        go_wp2_with fail
        go_loopw [18, 20] (fun v i wr => ∃ (t : Nat) (ad : Option Addr) (cp : Nat), i = .int .i64 (t : Nat) ∧ t ≤ a ∧ v = .slice ad (j + t) cp ∧ Hid (wr.ownsRow w.heap.size 37 4 (.slice ad (j + t) cp) (j + t) (u8s (foB [16, 0, 0, 0] j ++ foB [9, 2, 1, 0] t))) ∧ Hid (Below w.heap.size w wr)) (fun _ i _ => a - (intOf i).toNat)
        case atStart => exact ⟨0, ad, cp, rfl, by omega, rfl, KP, KPB⟩
        case round =>
          obtain ⟨t, ad, cp, rfl, ht, rfl, rO, rB⟩ := hrel
          clear KP KPB
          by_cases hlt2 : t < a
          · have hzr := rB.out.size
            go_wp2_with (at_builtin; refine wpList_append_own _ rfl (.tmp 72) (.tmp 74) 36 rfl w.heap.size 37 i0 _ 4 4 Tryz.underlying36 hi hz0 hz1 hz2 rfl (by decide) _ _ _ rfl (own_alloc rO.out _) ⟨wr.heap.size, 0, none⟩ 1 1 [.int .u8 9, .int .u8 2, .int .u8 1, .int .u8 0] rfl rfl ?c1 ?c2 ?c3 ?c4 ?c5 ?_)
            case c1 => intro q u hq; match q, hq with | 0, hq => (simp at hq; subst hq; simp [Addr.add, go_sem]) | 1, hq => (simp at hq; subst hq; simp [Addr.add, go_sem]) | 2, hq => (simp at hq; subst hq; simp [Addr.add, go_sem]) | 3, hq => (simp at hq; subst hq; simp [Addr.add, go_sem])
            case c2 => simp [Value.oneCell']
            case c3 => unfold maxLen; omega
            case c4 => omega
            case c5 => simp; omega
            intro v' w6 hown hgrow _
            obtain ⟨g', cap', rfl⟩ := row_form hown (by omega)
            have KO6 : Hid (w6.ownsRow w.heap.size 37 4 (.slice (some ⟨g', 0, none⟩) (j + (t + 1)) cap') (j + (t + 1)) (u8s (foB [16, 0, 0, 0] j ++ foB [9, 2, 1, 0] (t + 1)))) := by
              show World.ownsRow _ _ _ _ _ _ _
              rw [foB_succ]
              simpa [u8s, Nat.add_assoc] using hown
            have KB6 : Hid (Below w.heap.size w w6) := below_own (rB.out.alloc hzr _) hgrow (own_alloc rO.out _) (Nat.le_refl _)
            clear hown hgrow rO rB
            go_wp2_with fail
            go_roundw
            case rel => exact ⟨t + 1, _, _, by go_num, by omega, rfl, KO6, KB6⟩
            case measure => simp [intOf]; omega
          · obtain rfl : t = a := by omega
            obtain ⟨m, hm⟩ : ∃ m, m = j + t := ⟨_, rfl⟩
            rw [← hm] at rO ⊢
            have hm46 : m ≤ 48 := by omega
            have HM := hid hm
            clear hm
            go_upto_if 77 with fail
            go_cut [18] (fun v wx => ∃ (ad : Option Addr) (cp : Nat), v = .slice ad (m + (1 - k)) cp ∧ Hid (wx.ownsRow w.heap.size 37 4 (.slice ad (m + (1 - k)) cp) (m + (1 - k)) (u8s (foB [16, 0, 0, 0] j ++ foB [9, 2, 1, 0] t ++ foB [0, 2, 0, 0] (1 - k)))) ∧ Hid (Below w.heap.size w wx))
            case first =>
              by_cases hk0 : k = 0
              · subst hk0
                have hzr := rB.out.size
                go_wp2_with (at_builtin; refine wpList_append_own _ rfl (.tmp 78) (.tmp 80) 36 rfl w.heap.size 37 i0 _ 4 4 Tryz.underlying36 hi hz0 hz1 hz2 rfl (by decide) _ _ _ rfl (own_alloc rO.out _) ⟨wr.heap.size, 0, none⟩ 1 1 [.int .u8 0, .int .u8 2, .int .u8 0, .int .u8 0] rfl rfl ?c1 ?c2 ?c3 ?c4 ?c5 ?_)
                case c1 => intro q u hq; match q, hq with | 0, hq => (simp at hq; subst hq; simp [Addr.add, go_sem]) | 1, hq => (simp at hq; subst hq; simp [Addr.add, go_sem]) | 2, hq => (simp at hq; subst hq; simp [Addr.add, go_sem]) | 3, hq => (simp at hq; subst hq; simp [Addr.add, go_sem])
                case c2 => simp [Value.oneCell']
                case c3 => unfold maxLen; omega
                case c4 => omega
                case c5 => simp; omega
                intro v' w6 hown hgrow _
                obtain ⟨g', cap', rfl⟩ := row_form hown (by omega)
                have KO6 : Hid (w6.ownsRow w.heap.size 37 4 (.slice (some ⟨g', 0, none⟩) (m + 1) cap') (m + 1) (u8s (foB [16, 0, 0, 0] j ++ foB [9, 2, 1, 0] t ++ foB [0, 2, 0, 0] 1))) := by
                  show World.ownsRow _ _ _ _ _ _ _
                  rw [show foB [0, 2, 0, 0] 1 = [0, 2, 0, 0] from rfl]
                  simpa [u8s] using hown
                have KB6 : Hid (Below w.heap.size w w6) := below_own (rB.out.alloc hzr _) hgrow (own_alloc rO.out _) (Nat.le_refl _)
                clear hown hgrow rO rB
                go_wp2_with fail
                go_meet
                case rel => exact ⟨_, _, rfl, KO6, KB6⟩
              · obtain rfl : k = 1 := by omega
                go_wp2_with fail
                go_meet
                case rel =>
                  refine ⟨_, _, rfl, ?_, rB⟩
                  show World.ownsRow _ _ _ _ _ _ _
                  simpa [foB] using rO.out
            case rest =>
              obtain ⟨ad, cp, rfl, cO, cB⟩ := hcut
              clear rO rB
              have hzr := cB.out.size
              obtain ⟨m2, hm2⟩ : ∃ m2, m2 = m + (1 - k) := ⟨_, rfl⟩
              rw [← hm2] at cO ⊢
              have hm48 : m2 ≤ 49 := by omega
              have HM2 := hid hm2
              clear hm2
              go_wp2_with (at_builtin; refine wpList_append_own _ rfl (.tmp 82) (.tmp 85) 36 rfl w.heap.size 37 i0 _ 4 4 Tryz.underlying36 hi hz0 hz1 hz2 rfl (by decide) _ _ _ rfl (own_alloc cO.out _) ⟨wc.heap.size, 0, none⟩ 2 2 [.int .u8 0, .int .u8 0, .int .u8 127, .int .u8 255, .int .u8 17, .int .u8 0, .int .u8 0, .int .u8 0] rfl rfl ?d1 ?d2 ?d3 ?d4 ?d5 ?_)
              case d1 => intro q u hq; match q, hq with | 0, hq => (simp at hq; subst hq; simp [Addr.add, go_sem]) | 1, hq => (simp at hq; subst hq; simp [Addr.add, go_sem]) | 2, hq => (simp at hq; subst hq; simp [Addr.add, go_sem]) | 3, hq => (simp at hq; subst hq; simp [Addr.add, go_sem]) | 4, hq => (simp at hq; subst hq; simp [Addr.add, go_sem]) | 5, hq => (simp at hq; subst hq; simp [Addr.add, go_sem]) | 6, hq => (simp at hq; subst hq; simp [Addr.add, go_sem]) | 7, hq => (simp at hq; subst hq; simp [Addr.add, go_sem])
              case d2 => simp [Value.oneCell']
              case d3 => unfold maxLen; omega
              case d4 => omega
              case d5 => first | omega | (simp; omega)
              intro v' w6 hown hgrow _
              obtain ⟨g', cap', rfl⟩ := row_form hown (by omega)
              have KO6 : w6.ownsRow w.heap.size 37 4 (.slice (some ⟨g', 0, none⟩) (m2 + 2) cap') (m2 + 2) (u8s (flat (B.foC j t k))) := by
                rw [fo_flat]
                simpa [u8s] using hown
              have KB6 : Hid (Below w.heap.size w w6) := below_own (cB.out.alloc hzr _) hgrow (own_alloc cO.out _) (Nat.le_refl _)
              have hfl : (flat (B.foC j t k)).length = 4 * (m2 + 2) := by rw [fo_flat, List.length_append, List.length_append, List.length_append, foB_len _ rfl, foB_len _ rfl, foB_len _ rfl, HM2.out, HM.out]; simp; omega
              obtain ⟨hcp, m6, hfull⟩ := own_full KO6
              rw [hfl] at hfull
              have KFu : Hid (Full w6 g' 37 m6 (4 * (m2 + 2)) (fun i => .int .u8 ((flat (B.foC j t k)).getD i 0 : Nat))) := hfull
              have KFl : Hid ((flat (B.foC j t k)).length = 4 * (m2 + 2)) := hfl
              clear hown hgrow cO cB KO6 hfull hfl i0 hi hz0 hz1 hz2
              go_wp2_with fail
              refine (function_any 3 (m2 + 2) g' cap' 37 m6 (fun i => (flat (B.foC j t k)).getD i 0) w6 (by omega) (by omega) (fun i _ => list_lt _ (fun y hy => fo_lt j t k y hy) i) KFu.out hcp).mono ?_
              rw [codeL_list (flat (B.foC j t k)) (m2 + 2) KFl.out]
              rintro e w2 ⟨rfl, hB2⟩
              have KB2 : Hid (Below w.heap.size w w2) := KB6.out.trans (hB2.mono KB6.out.size)
              have htx : ({ data := #[1] } : ByteArray) ++ txt (3 :: (m2 + 2) :: flat (B.foC j t k)) = txt (1 :: 3 :: (B.foC j t k).length :: flat (B.foC j t k)) := by rw [txt_cons, fo_clen, HM2.out, HM.out]
              have hts : (txt (3 :: (m2 + 2) :: flat (B.foC j t k))).size = 4 * (m2 + 2) + 2 := by
                show (List.map UInt8.ofNat _).toArray.size = _
                simp [KFl.out]
              clear hB2 KB6 KFu KFl
              generalize txt (3 :: (m2 + 2) :: flat (B.foC j t k)) = tx at *
              have HTX : Hid (({ data := #[1] } : ByteArray) ++ tx = txt (1 :: 3 :: (B.foC j t k).length :: flat (B.foC j t k))) := htx
              clear htx
              go_wp2_with fail
              generalize hty : ({ data := #[1] } : ByteArray) ++ tx = ty
              have HTY : ty = txt (1 :: 3 :: (B.foC j t k).length :: flat (B.foC j t k)) := hty.symm.trans HTX.out
              subst HTY
              clear hty HTX hts
              have hzw := KB2.out.size
              refine (load_fo j t k n wk w2 (okFo hl8 ha2) (by omega) (by omega) hw1 hw2 (HG.out.below KB2.out)).mono ?_
              rintro e w3 ⟨mb, F, rfl, hB3, hF, hM⟩
              have KB3 : Hid (Below w.heap.size w w3) := KB2.out.trans (hB3.mono hzw)
              have KM3 : Hid (FlS w3 mb F j t k n wk 0) := hM
              have KF3 : Hid (∀ k, F k → w.heap.size ≤ k ∧ k < w3.heap.size) := fun k hk => ⟨by have := hF k hk; omega, (hF k hk).2⟩
              have hz3 := hB3.size
              clear hB3 hM hF KB2
              generalize txt (1 :: 3 :: (B.foC j t k).length :: flat (B.foC j t k)) = ty
              go_wp2_with fail
              obtain ⟨T, hT, hT2⟩ : ∃ T : Nat, ((n : Int) + (wk : Int) - 1) / (wk : Int) = (T : Int) ∧ T = B.each n wk := ⟨B.each n wk, by unfold B.each; rw [show (n : Int) + (wk : Int) - 1 = ((n + wk - 1 : Nat) : Int) by omega]; exact (Int.natCast_ediv _ _).symm, rfl⟩
              have hT1 : 1 ≤ T := by rw [hT2]; exact B.each_pos hw1 (by omega)
              have hT3 : T ≤ 56 := by rw [hT2]; unfold B.each; exact Nat.le_trans (Nat.div_le_self _ _) (by omega)
              have HT2 := hid hT2
              clear hT2
              rw [hT]
              clear hT
              obtain ⟨xb, hxb⟩ : ∃ xb, xb = w3.heap.size + 1 := ⟨_, rfl⟩
              rw [← hxb]
              generalize hw4 : (w3.alloc (.cells #[.int .i64 0, .int .i64 0] 42)).alloc (.cells #[.int .i64 0, .int .i64 0, .int .i64 0] 66) = w4
              have hz4 : w4.heap.size = w3.heap.size + 2 := by rw [← hw4]; simp
              have KB4 : Hid (Below w.heap.size w w4) := by show Below _ _ _; rw [← hw4]; exact (KB3.out.alloc (by omega) _).alloc (by simp; omega) _
              have KM4 : Hid (FlS w4 mb F j t k n wk 0) := by
                show FlS _ _ _ _ _ _ _ _ _
                rw [← hw4]
                exact (KM3.out.keep (fun k hk => Below.heap_alloc _ _ _ (KF3.out k hk).2)).keep (fun k hk => Below.heap_alloc _ _ _ (by have := (KF3.out k hk).2; simp; omega))
              have KF4 : Hid (∀ k, F k → w.heap.size ≤ k ∧ k < w4.heap.size ∧ k ≠ xb) := fun k hk => ⟨(KF3.out k hk).1, by have := (KF3.out k hk).2; omega, by have := (KF3.out k hk).2; omega⟩
              have KX4 : Hid (w4.heap[xb]? = some (.cells #[.int .i64 (foU n wk 0 : Nat), .int .i64 0, .int .i64 (foY n wk 0 : Nat)] 66 (0, 0))) := by
                show w4.heap[xb]? = _
                rw [← hw4, hxb]
                have e1 : foU n wk 0 = 0 := by unfold foU; simp
                have e2 : foY n wk 0 = 0 := by unfold foY; simp
                rw [e1, e2]
                have := heap_alloc_new (w3.alloc (.cells #[.int .i64 0, .int .i64 0] 42)) (.cells #[.int .i64 0, .int .i64 0, .int .i64 0] 66)
                simpa using this
              have hxw : w.heap.size ≤ xb := by have := hz3; omega
              clear hw4 KB3 KM3 KF3 hz4 hz3 hzw hxb
              go_loopw [25] (fun i wr => ∃ (I : Nat) (F : Nat → Prop), i = .int .i64 ((I : Int) + 1) ∧ I ≤ j ∧ Hid (FlS wr mb F j t k n wk I) ∧ Hid (wr.heap[xb]? = some (.cells #[.int .i64 (foU n wk I : Nat), .int .i64 0, .int .i64 (foY n wk I : Nat)] 66 (0, 0))) ∧ Hid (Below w.heap.size w wr) ∧ Hid (∀ k, F k → w.heap.size ≤ k ∧ k < wr.heap.size ∧ k ≠ xb)) (fun i _ => j + 1 - (intOf i).toNat)
              case atStart => exact ⟨0, F, rfl, by omega, KM4, KX4, KB4, KF4⟩
              case round =>
                obtain ⟨I, F, rfl, hI, rS, rX, rB, rF⟩ := hrel
                clear KM4 KB4 KF4 KX4
                by_cases hlt3 : I < j
                · have hzr2 := rB.out.size
                  have hle3 : (I : Int) + 1 ≤ (j : Int) := by omega
                  go_wp2_with fail
                  refine (fl_turn_any hlt3 rS.out).mono ?_
                  rintro e w7 ⟨F7, ad7, cap7, rfl, hO7, hF7, hS7⟩
                  have KB7 : Hid (Below w.heap.size w w7) := Only.below rB.out hO7.out (fun k hk => (rF.out k hk).1) hzr2
                  have KF7 : Hid (∀ k, F7 k → w.heap.size ≤ k ∧ k < w7.heap.size ∧ k ≠ xb) := fun k hk => by
                    have hlx := heap_lt rX.out
                    rcases hF7.out k hk with h | h
                    · have := rF.out k h; have := hO7.out.size; omega
                    · omega
                  have KX7 : Hid (w7.heap[xb]? = some (.cells #[.int .i64 (foU n wk I : Nat), .int .i64 0, .int .i64 (foY n wk I : Nat)] 66 (0, 0))) := hO7.out.block rX.out (fun h => (rF.out xb h).2.2 rfl)
                  have hU : foU n wk (I + 1) ≤ 1000000 := by
                    unfold foU
                    have e1 : (I + 1) / B.each n wk ≤ 9 := Nat.le_trans (Nat.div_le_self _ _) (by omega)
                    have e2 : (I + 1) % B.each n wk ≤ 9 := Nat.le_trans (Nat.mod_le _ _) (by omega)
                    have e3 := Nat.mul_le_mul e1 hn2
                    have e4 := Nat.mul_le_mul e2 hw2
                    omega
                  have hY : foY n wk (I + 1) ≤ 1000000 := by unfold foY; exact Nat.le_trans (Nat.div_le_self _ _) (by omega)
                  obtain ⟨q, hq, hq2⟩ : ∃ q : Nat, ((I : Int) + 1) / (T : Int) = (q : Int) ∧ q = (I + 1) / T := ⟨(I + 1) / T, by rw [show (I : Int) + 1 = ((I + 1 : Nat) : Int) by omega]; exact (Int.natCast_ediv _ _).symm, rfl⟩
                  obtain ⟨r, hr, hr2⟩ : ∃ r : Nat, ((I : Int) + 1) % (T : Int) = (r : Int) ∧ r = (I + 1) % T := ⟨(I + 1) % T, by rw [show (I : Int) + 1 = ((I + 1 : Nat) : Int) by omega]; exact (Int.natCast_emod _ _).symm, rfl⟩
                  have hq9 : q ≤ 9 := by rw [hq2]; exact Nat.le_trans (Nat.div_le_self _ _) (by omega)
                  have hr9 : r ≤ 9 := by rw [hr2]; exact Nat.le_trans (Nat.mod_le _ _) (by omega)
                  obtain ⟨p', hp, hp2⟩ : ∃ p' : Nat, (q : Int) * (n : Int) = (p' : Int) ∧ p' = q * n := ⟨q * n, by simp, rfl⟩
                  obtain ⟨s, hs, hs2⟩ : ∃ s : Nat, (r : Int) * (wk : Int) = (s : Int) ∧ s = r * wk := ⟨r * wk, by simp, rfl⟩
                  have hp9 : p' ≤ 63 := by rw [hp2]; exact Nat.mul_le_mul hq9 hn2
                  have hs9 : s ≤ 450 := by rw [hs2]; exact Nat.mul_le_mul hr9 hw2
                  have hUe : (foU n wk (I + 1) : Nat) = p' + s := by unfold foU; rw [← HT2.out, hp2, hs2, hq2, hr2]
                  have hYe : (foY n wk (I + 1) : Nat) = q := by unfold foY; rw [← HT2.out, hq2]
                  have HUE := hid hUe
                  have HYE := hid hYe
                  clear hO7 hF7 rS rX rB rF hUe hYe hp2 hs2 hq2 hr2
                  go_wp2_with fail
                  refine (fl_cnt_any (by omega) hw1 hU hY hS7.out).mono ?_
                  rintro e w8 ⟨rfl, hg8⟩
                  rw [HUE.out, HYE.out]
                  have KS8 : Hid (FlS w8 mb F7 j t k n wk (I + 1)) := hS7.out.keep (fun k hk => hg8.block k (KF7.out k hk).2.1 (by intro e; cases e))
                  have KB8 : Hid (Below w.heap.size w w8) := Only.below KB7.out (only_none (S := fun _ => False) hg8) (fun _ h => h.elim) KB7.out.size
                  have KF8 : Hid (∀ k, F7 k → w.heap.size ≤ k ∧ k < w8.heap.size ∧ k ≠ xb) := fun k hk => ⟨(KF7.out k hk).1, Nat.lt_of_lt_of_le (KF7.out k hk).2.1 hg8.size, (KF7.out k hk).2.2⟩
                  have hx8 := grown_heap hg8 KX7.out (by intro e; cases e)
                  have y0 : w8.cell? ⟨xb, 0, none⟩ = some (.int .i64 (foU n wk I : Nat)) := by simp [World.cell?, hx8]
                  have y1 : w8.cell? ⟨xb, 1, none⟩ = some (.int .i64 0) := by simp [World.cell?, hx8]
                  have y2 : w8.cell? ⟨xb, 2, none⟩ = some (.int .i64 (foY n wk I : Nat)) := by simp [World.cell?, hx8]
                  have z0 : w8.frozen? ⟨xb, 0, none⟩ = false := by simp [World.frozen?, hx8]
                  have z1 : w8.frozen? ⟨xb, 1, none⟩ = false := by simp [World.frozen?, hx8]
                  have z2 : w8.frozen? ⟨xb, 2, none⟩ = false := by simp [World.frozen?, hx8]
                  have lx := heap_lt hx8
                  have HX8 := hid hx8
                  clear hg8 hS7 KB7 KF7 KX7 hx8
                  go_wp2_with fail
                  generalize hw9 : ((w8.setCell ⟨xb, 0, none⟩ (.int .i64 ((p' : Int) + (s : Int)))).setCell ⟨xb, 1, none⟩ (.int .i64 0)).setCell ⟨xb, 2, none⟩ (.int .i64 (q : Int)) = w9
                  have hx9 : w9.heap[xb]? = some (.cells #[.int .i64 ((p' : Int) + (s : Int)), .int .i64 0, .int .i64 (q : Int)] 66 (0, 0)) := by
                    rw [← hw9]
                    simp [World.setCell, Array.getElem?_modify, HX8.out]
                  have ho9 : ∀ k, k ≠ xb → w9.heap[k]? = w8.heap[k]? := fun k hk => by
                    rw [← hw9, Below.heap_setCell _ _ _ _ hk, Below.heap_setCell _ _ _ _ hk, Below.heap_setCell _ _ _ _ hk]
                  have hz9 : w9.heap.size = w8.heap.size := by rw [← hw9]; simp [World.setCell]
                  have r0 : w9.cell? ⟨xb, 0, none⟩ = some (.int .i64 ((p' : Int) + (s : Int))) := by simp [World.cell?, hx9]
                  have r1 : w9.cell? ⟨xb, 1, none⟩ = some (.int .i64 0) := by simp [World.cell?, hx9]
                  have r2 : w9.cell? ⟨xb, 2, none⟩ = some (.int .i64 (q : Int)) := by simp [World.cell?, hx9]
                  have lx9 := heap_lt hx9
                  have KS9 : Hid (FlS w9 mb F7 j t k n wk (I + 1)) := KS8.out.keep (fun k hk => ho9 k (KF8.out k hk).2.2)
                  have KB9 : Hid (Below w.heap.size w w9) := by
                    show Below _ _ _
                    rw [← hw9]
                    exact ((KB8.out.setCell hxw _).setCell hxw _).setCell hxw _
                  have KF9 : Hid (∀ k, F7 k → w.heap.size ≤ k ∧ k < w9.heap.size ∧ k ≠ xb) := fun k hk => ⟨(KF8.out k hk).1, by have := (KF8.out k hk).2.1; omega, (KF8.out k hk).2.2⟩
                  have HX9 := hid hx9
                  clear hw9 ho9 hz9 hx9 HX8 KS8 KB8 KF8 y0 y1 y2 z0 z1 z2 lx
                  have s0 : ∀ p : Grw w9, p.v.cell? ⟨xb, 0, none⟩ = some (.int .i64 ((p' : Int) + (s : Int))) := fun p => by have := grown_heap p.h HX9.out (by intro e; cases e); simp [World.cell?, this]
                  have s1 : ∀ p : Grw w9, p.v.cell? ⟨xb, 1, none⟩ = some (.int .i64 0) := fun p => by have := grown_heap p.h HX9.out (by intro e; cases e); simp [World.cell?, this]
                  have s2 : ∀ p : Grw w9, p.v.cell? ⟨xb, 2, none⟩ = some (.int .i64 (q : Int)) := fun p => by have := grown_heap p.h HX9.out (by intro e; cases e); simp [World.cell?, this]
                  have ne9 : Nonempty (Grw w9) := ⟨⟨w9, grown_refl w9 none⟩⟩
                  refine wp_region_grw (by kernel_rfl) (by kernel_rfl) ?_
                  repeat (go_big_quiet_step ((go_at_call 30; rename_i p; refine Calls.grw_of (fl_occ_any (l := j) (a := t) (k := k) (n := n) (wk := wk) (i := I + 1) (F := F7) ?_ ?_ ?_ ?_); omega; omega; exact hw1; exact KS9.out.keep (fun k hk => p.h.block k (KF9.out k hk).2.1 (by intro e; cases e)))))
                  refine wpQuiet_nil ?_
                  rintro w10 ⟨p10, hp10⟩
                  have hg10 : w9.grownBy w10 none := hp10 ▸ p10.h
                  clear hp10
                  have KS10 : Hid (FlS w10 mb F7 j t k n wk (I + 1)) := KS9.out.keep (fun k hk => hg10.block k (KF9.out k hk).2.1 (by intro e; cases e))
                  have KX10 : Hid (w10.heap[xb]? = some (.cells #[.int .i64 (foU n wk (I + 1) : Nat), .int .i64 0, .int .i64 (foY n wk (I + 1) : Nat)] 66 (0, 0))) := by
                    show _ = _
                    rw [HUE.out, HYE.out, Int.natCast_add]
                    exact grown_heap hg10 HX9.out (by intro e; cases e)
                  have KB10 : Hid (Below w.heap.size w w10) := Only.below KB9.out (only_none (S := fun _ => False) hg10) (fun _ h => h.elim) KB9.out.size
                  have KF10 : Hid (∀ k, F7 k → w.heap.size ≤ k ∧ k < w10.heap.size ∧ k ≠ xb) := fun k hk => ⟨(KF9.out k hk).1, Nat.lt_of_lt_of_le (KF9.out k hk).2.1 hg10.size, (KF9.out k hk).2.2⟩
                  clear s0 s1 s2 ne9 hg10 KS9 KB9 KF9 HX9 r0 r1 r2 lx9
                  go_wp2_with fail
                  go_roundw
                  case rel => exact ⟨I + 1, F7, by go_num, by omega, KS10, KX10, KB10, KF10⟩
                  case measure => simp [intOf]; omega
                · obtain rfl : I = j := by omega
                  have hgt9 : ¬ (I : Int) + 1 ≤ (I : Int) := by omega
                  have KM5 : Hid (FoS wr mb F I t k n wk 0 0 0 0 0) := fo_start rS.out
                  have KX5 := rX
                  have KB5 := rB
                  have KF5 := rF
                  clear rS rX rB rF
                  obtain ⟨U, hU, hU2⟩ : ∃ U : Nat, (k : Int) + (n : Int) = (U : Int) ∧ U = k + n := ⟨k + n, by omega, rfl⟩
                  have hU8 : U ≤ 8 := by omega
                  obtain ⟨E, hE, hE2⟩ : ∃ E : Nat, ((U : Int) + (wk : Int) - 1) / (wk : Int) = (E : Int) ∧ E = B.each (k + n) wk := ⟨B.each (k + n) wk, by unfold B.each; rw [← hU2, show (U : Int) + (wk : Int) - 1 = ((U + wk - 1 : Nat) : Int) by omega]; exact (Int.natCast_ediv _ _).symm, rfl⟩
                  have hE1 : 1 ≤ E := by rw [hE2]; exact B.each_pos hw1 (by omega)
                  have hE3 : E ≤ 57 := by rw [hE2]; unfold B.each; exact Nat.le_trans (Nat.div_le_self _ _) (by omega)
                  have HE2 := hid hE2
                  have HU2 := hid hU2
                  clear hE2 hU2
                  go_wp2_with fail
                  obtain ⟨xu, hxu⟩ : ∃ xu, foU n wk I = xu := ⟨_, rfl⟩
                  obtain ⟨xc, hxc⟩ : ∃ xc, foY n wk I = xc := ⟨_, rfl⟩
                  have hxu9 : xu ≤ 1000 := by
                    rw [← hxu]
                    unfold foU
                    have e1 : I / B.each n wk ≤ 8 := Nat.le_trans (Nat.div_le_self _ _) (by omega)
                    have e2 : I % B.each n wk ≤ 8 := Nat.le_trans (Nat.mod_le _ _) (by omega)
                    have e3 := Nat.mul_le_mul e1 hn2
                    have e4 := Nat.mul_le_mul e2 hw2
                    omega
                  have hxc9 : xc ≤ 1000 := by rw [← hxc]; unfold foY; exact Nat.le_trans (Nat.div_le_self _ _) (by omega)
                  have KX6 : Hid (wr.heap[xb]? = some (.cells #[.int .i64 (xu : Nat), .int .i64 0, .int .i64 (xc : Nat)] 66 (0, 0))) := by
                    show _ = _
                    rw [← hxu, ← hxc]; exact KX5.out
                  have HXU := hid hxu
                  have HXC := hid hxc
                  have hf40 : f ≤ 1000 := by
                    rw [HF.out]
                    unfold B.foF
                    split
                    · omega
                    · have := Nat.div_le_self (t - n - 1) (n - 1)
                      omega
                  clear KX5 hxu hxc hE hU
                  go_loopw [29] (fun i wr => ∃ (J u f c o : Nat) (F : Nat → Prop), i = .int .i64 ((J : Int) + 1) ∧ J ≤ 3 * E + 2 ∧ Hid (FoS wr mb F I t k n wk J u f c o) ∧ Hid (wr.heap[xb]? = some (.cells #[.int .i64 (xu : Nat), .int .i64 0, .int .i64 (xc : Nat)] 66 (0, 0))) ∧ Hid (Below w.heap.size w wr) ∧ Hid (∀ k, F k → w.heap.size ≤ k ∧ k < wr.heap.size ∧ k ≠ xb)) (fun i _ => 3 * E + 3 - (intOf i).toNat)
                  case atStart => exact ⟨0, 0, 0, 0, 0, F, rfl, by omega, KM5, KX6, KB5, KF5⟩
                  case round =>
                    obtain ⟨J, u0, f0, c0', o0, F, rfl, hJ, rS, rX, rB, rF⟩ := hrel
                    clear KM5 KX6 KB5 KF5
                    by_cases hlt4 : J < 3 * E + 2
                    · have hzr2 := rB.out.size
                      have hle4 : (J : Int) + 1 ≤ 3 * (E : Int) + 2 := by omega
                      go_wp2_with fail
                      refine (fo_turn_any ha1 ha2 (by omega) hn1 hw1 HL.out rS.out).mono ?_
                      rintro e w7 ⟨F7, ad7, cap7, u7, f7, c7, o7, rfl, hO7, hF7, hS7, hN7⟩
                      have KB7 : Hid (Below w.heap.size w w7) := Only.below rB.out hO7.out (fun k hk => (rF.out k hk).1) hzr2
                      have KF7 : Hid (∀ k, F7 k → w.heap.size ≤ k ∧ k < w7.heap.size ∧ k ≠ xb) := fun k hk => by
                        have hlx := heap_lt rX.out
                        rcases hF7.out k hk with h | h
                        · have := rF.out k h; have := hO7.out.size; omega
                        · omega
                      have KX7 : Hid (w7.heap[xb]? = some (.cells #[.int .i64 (xu : Nat), .int .i64 0, .int .i64 (xc : Nat)] 66 (0, 0))) := hO7.out.block rX.out (fun h => (rF.out xb h).2.2 rfl)
                      obtain ⟨q, hq, hq2⟩ : ∃ q : Nat, ((J : Int) + 1) / (E : Int) = (q : Int) ∧ q = (J + 1) / E := ⟨(J + 1) / E, by rw [show (J : Int) + 1 = ((J + 1 : Nat) : Int) by omega]; exact (Int.natCast_ediv _ _).symm, rfl⟩
                      obtain ⟨r, hr, hr2⟩ : ∃ r : Nat, ((J : Int) + 1) % (E : Int) = (r : Int) ∧ r = (J + 1) % E := ⟨(J + 1) % E, by rw [show (J : Int) + 1 = ((J + 1 : Nat) : Int) by omega]; exact (Int.natCast_emod _ _).symm, rfl⟩
                      have hq9 : q ≤ 174 := by rw [hq2]; exact Nat.le_trans (Nat.div_le_self _ _) (by omega)
                      have hr9 : r ≤ 174 := by rw [hr2]; exact Nat.le_trans (Nat.mod_le _ _) (by omega)
                      obtain ⟨p', hp, hp2⟩ : ∃ p' : Nat, (q : Int) * (U : Int) = (p' : Int) ∧ p' = q * U := ⟨q * U, by simp, rfl⟩
                      obtain ⟨s, hs, hs2⟩ : ∃ s : Nat, (r : Int) * (wk : Int) = (s : Int) ∧ s = r * wk := ⟨r * wk, by simp, rfl⟩
                      have hp9 : p' ≤ 1392 := by rw [hp2]; exact Nat.mul_le_mul hq9 hU8
                      have hs9 : s ≤ 8700 := by rw [hs2]; exact Nat.mul_le_mul hr9 hw2
                      obtain ⟨n1, n2, n3, n4, n5, n6, n7⟩ := hN7.out
                      rw [← HE2.out, ← HU2.out, ← hq2, ← hr2, ← hp2, ← hs2, HXU.out] at n1
                      rw [← HF.out] at n2
                      rw [← HE2.out, ← hq2, HXC.out] at n3
                      rw [← HE2.out] at n7
                      have hok : (E ≤ J + 1 ∧ o7 = k) ∨ ¬ E ≤ J + 1 := by
                        by_cases h : E ≤ J + 1
                        · exact Or.inl ⟨h, n7 h⟩
                        · exact Or.inr h
                      clear hO7 hF7 rS rX rB rF hp2 hs2 hq2 hr2 hN7 n7
                      go_wp2_with fail
                      refine (fo_cnt_any (by omega) (by omega) (by omega) (by omega) hS7.out).mono ?_
                      rintro e w8 ⟨rfl, hg8⟩
                      have HU7 : (u7 : Int) = (xu : Int) + (p' : Int) + (s : Int) := by omega
                      have HC7 : (c7 : Int) = (xc : Int) + (q : Int) := by omega
                      have KS8 : Hid (FoS w8 mb F7 I t k n wk (J + 1) u7 f7 c7 o7) := hS7.out.keep (fun k hk => hg8.block k (KF7.out k hk).2.1 (by intro e; cases e))
                      rw [HU7, HC7]
                      subst n2
                      have KB8 : Hid (Below w.heap.size w w8) := Only.below KB7.out (only_none (S := fun _ => False) hg8) (fun _ h => h.elim) KB7.out.size
                      have KF8 : Hid (∀ k, F7 k → w.heap.size ≤ k ∧ k < w8.heap.size ∧ k ≠ xb) := fun k hk => ⟨(KF7.out k hk).1, Nat.lt_of_lt_of_le (KF7.out k hk).2.1 hg8.size, (KF7.out k hk).2.2⟩
                      have KX8 : Hid (w8.heap[xb]? = some (.cells #[.int .i64 (xu : Nat), .int .i64 0, .int .i64 (xc : Nat)] 66 (0, 0))) := grown_heap hg8 KX7.out (by intro e; cases e)
                      clear hg8 hS7 KB7 KF7 KX7 HU7 HC7 n1 n3
                      go_wp2_with fail
                      obtain ⟨yb, hyb⟩ : ∃ yb, yb = w8.heap.size := ⟨_, rfl⟩
                      rw [← hyb]
                      generalize hw9 : w8.alloc (.cells #[.int .i64 ((xu : Int) + (p' : Int) + (s : Int)), .int .i64 (f7 : Int), .int .i64 ((xc : Int) + (q : Int))] 66) = w9
                      have hz9 : w9.heap.size = w8.heap.size + 1 := by rw [← hw9]; simp
                      have hy9 : w9.heap[yb]? = some (.cells #[.int .i64 ((xu : Int) + (p' : Int) + (s : Int)), .int .i64 (f7 : Int), .int .i64 ((xc : Int) + (q : Int))] 66 (0, 0)) := by rw [← hw9, hyb]; exact heap_alloc_new w8 _
                      have hx9 : w9.heap[xb]? = some (.cells #[.int .i64 (xu : Nat), .int .i64 0, .int .i64 (xc : Nat)] 66 (0, 0)) := by
                        rw [← hw9, Below.heap_alloc _ _ _ (heap_lt KX8.out)]; exact KX8.out
                      have KS9 : Hid (FoS w9 mb F7 I t k n wk (J + 1) u7 f7 c7 o7) := by
                        show FoS _ _ _ _ _ _ _ _ _ _ _ _ _
                        rw [← hw9]
                        exact KS8.out.keep (fun k hk => Below.heap_alloc _ _ _ (KF8.out k hk).2.1)
                      have KB9 : Hid (Below w.heap.size w w9) := by show Below _ _ _; rw [← hw9]; exact KB8.out.alloc KB8.out.size _
                      have KF9 : Hid (∀ k, F7 k → w.heap.size ≤ k ∧ k < w9.heap.size ∧ k ≠ xb) := fun k hk => ⟨(KF8.out k hk).1, by have := (KF8.out k hk).2.1; omega, (KF8.out k hk).2.2⟩
                      have a0 : ∀ p : Grw w9, p.v.cell? ⟨yb, 0, none⟩ = some (.int .i64 ((xu : Int) + (p' : Int) + (s : Int))) := fun p => by have := grown_heap p.h hy9 (by intro e; cases e); simp [World.cell?, this]
                      have a1 : ∀ p : Grw w9, p.v.cell? ⟨yb, 1, none⟩ = some (.int .i64 (f7 : Int)) := fun p => by have := grown_heap p.h hy9 (by intro e; cases e); simp [World.cell?, this]
                      have a2 : ∀ p : Grw w9, p.v.cell? ⟨yb, 2, none⟩ = some (.int .i64 ((xc : Int) + (q : Int))) := fun p => by have := grown_heap p.h hy9 (by intro e; cases e); simp [World.cell?, this]
                      have b0 : ∀ p : Grw w9, p.v.cell? ⟨xb, 0, none⟩ = some (.int .i64 (xu : Nat)) := fun p => by have := grown_heap p.h hx9 (by intro e; cases e); simp [World.cell?, this]
                      have b2 : ∀ p : Grw w9, p.v.cell? ⟨xb, 2, none⟩ = some (.int .i64 (xc : Nat)) := fun p => by have := grown_heap p.h hx9 (by intro e; cases e); simp [World.cell?, this]
                      have ly : ∀ p : Grw w9, yb < p.v.heap.size := fun p => Nat.lt_of_lt_of_le (heap_lt hy9) p.h.size
                      have lx : ∀ p : Grw w9, xb < p.v.heap.size := fun p => Nat.lt_of_lt_of_le (heap_lt hx9) p.h.size
                      have ne9 : Nonempty (Grw w9) := ⟨⟨w9, grown_refl w9 none⟩⟩
                      have HX9 := hid hx9
                      clear hyb hw9 hz9 hy9 hx9 KS8 KB8 KF8 KX8
                      refine wp_region_grw (by kernel_rfl) (by kernel_rfl) ?_
                      repeat (go_big_quiet_step (fail))
                      refine wpQuiet_nil ?_
                      rintro w10 ⟨p10, hp10⟩
                      have hg10 : w9.grownBy w10 none := hp10 ▸ p10.h
                      clear hp10
                      have KS10 : Hid (FoS w10 mb F7 I t k n wk (J + 1) u7 f7 c7 o7) := KS9.out.keep (fun k hk => hg10.block k (KF9.out k hk).2.1 (by intro e; cases e))
                      have KX10 : Hid (w10.heap[xb]? = some (.cells #[.int .i64 (xu : Nat), .int .i64 0, .int .i64 (xc : Nat)] 66 (0, 0))) := grown_heap hg10 HX9.out (by intro e; cases e)
                      have KB10 : Hid (Below w.heap.size w w10) := Only.below KB9.out (only_none (S := fun _ => False) hg10) (fun _ h => h.elim) KB9.out.size
                      have KF10 : Hid (∀ k, F7 k → w.heap.size ≤ k ∧ k < w10.heap.size ∧ k ≠ xb) := fun k hk => ⟨(KF9.out k hk).1, Nat.lt_of_lt_of_le (KF9.out k hk).2.1 hg10.size, (KF9.out k hk).2.2⟩
                      clear a0 a1 a2 b0 b2 ly lx ne9 p10 hg10 KS9 KB9 KF9 HX9
                      go_wp2_with fail
                      refine (fo_occ_any (by omega) (by omega) KS10.out).mono ?_
                      rintro e w11 ⟨rfl, hg11⟩
                      have KS11 : Hid (FoS w11 mb F7 I t k n wk (J + 1) u7 f7 c7 o7) := KS10.out.keep (fun k hk => hg11.block k (KF10.out k hk).2.1 (by intro e; cases e))
                      have KX11 : Hid (w11.heap[xb]? = some (.cells #[.int .i64 (xu : Nat), .int .i64 0, .int .i64 (xc : Nat)] 66 (0, 0))) := grown_heap hg11 KX10.out (by intro e; cases e)
                      have KB11 : Hid (Below w.heap.size w w11) := Only.below KB10.out (only_none (S := fun _ => False) hg11) (fun _ h => h.elim) KB10.out.size
                      have KF11 : Hid (∀ k, F7 k → w.heap.size ≤ k ∧ k < w11.heap.size ∧ k ≠ xb) := fun k hk => ⟨(KF10.out k hk).1, Nat.lt_of_lt_of_le (KF10.out k hk).2.1 hg11.size, (KF10.out k hk).2.2⟩
                      clear hg11 KS10 KX10 KB10 KF10
                      rcases hok with ⟨hge, rfl⟩ | hge
                      · have hge2 : (E : Int) ≤ (J : Int) + 1 := by omega
                        go_wp2_with fail
                        go_roundw
                        case rel => exact ⟨J + 1, u7, f7, c7, _, F7, by go_num, by omega, KS11, KX11, KB11, KF11⟩
                        case measure => simp [intOf]; omega
                      · have hge2 : ¬ (E : Int) ≤ (J : Int) + 1 := by omega
                        go_wp2_with fail
                        go_roundw
                        case rel => exact ⟨J + 1, u7, f7, c7, _, F7, by go_num, by omega, KS11, KX11, KB11, KF11⟩
                        case measure => simp [intOf]; omega
                    · have hge9 : ¬ (J : Int) + 1 ≤ 3 * (E : Int) + 2 := by omega
                      go_wp2_with fail
                      go_ret
                      exact ⟨rfl, rB.out⟩
end Go.Proofs.YtnjiinbhbjpfkaaGreatDoor

/-
  For every input the law Forced returns true, and its arguments read as they did. No condition on the input; the package-level table of the operands' letters is taken as its initialiser lays it.
-/
namespace Go.Proofs.YtnjiinbhbjpfkaaGreatDoor
open Go.ChangeShapes Go.WideShapes Go.ChangeAt Go.WideMaps Go.WideElems Go.RowKit Go.Joins

theorem trodAll_five' {H : Type} {enc : TypeId × Value → H} {P : Program} {w : World} {base : Nat} {spare : Nat → Bool} {held : Bool} {t : TypeId} {args : Array Value} {ds : List (DataW H)} {ps : List MemPlace} (h : DataW.TrodAll enc P w base spare held [t, t, t, t, t] args.toList ds ps) :
    ∃ v0 v1 v2 v3 v4 d0 d1 d2 d3 d4 p0 p1 p2 p3 p4, args = #[v0, v1, v2, v3, v4] ∧ ds = [d0, d1, d2, d3, d4] ∧ ps = p0 ++ (p1 ++ (p2 ++ (p3 ++ p4))) ∧ DataW.Trod enc P w base spare held t v0 d0 p0 ∧ DataW.Trod enc P w base spare held t v1 d1 p1 ∧ DataW.Trod enc P w base spare held t v2 d2 p2 ∧ DataW.Trod enc P w base spare held t v3 d3 p3 ∧ DataW.Trod enc P w base spare held t v4 d4 p4 := by
  obtain ⟨v0, r0, d0, e0, p0, q0, hargs, rfl, rfl, h0, k0⟩ := trodAll_cons h
  obtain ⟨v1, r1, d1, e1, p1, q1, rfl, rfl, rfl, h1, k1⟩ := trodAll_cons k0
  obtain ⟨v2, r2, d2, e2, p2, q2, rfl, rfl, rfl, h2, k2⟩ := trodAll_cons k1
  obtain ⟨v3, r3, d3, e3, p3, q3, rfl, rfl, rfl, h3, k3⟩ := trodAll_cons k2
  obtain ⟨v4, r4, d4, e4, p4, q4, rfl, rfl, rfl, h4, k4⟩ := trodAll_cons k3
  obtain ⟨rfl, rfl, rfl⟩ := trodAll_nil k4
  exact ⟨v0, v1, v2, v3, v4, d0, d1, d2, d3, d4, p0, p1, p2, p3, p4, by cases args; simp_all, rfl, by simp, h0, h1, h2, h3, h4⟩

theorem forced_met (os : Os) (args : Array Value) : laidMetH Tryz.prog Rows.forcedRow.laid ((World.doorLaid Tryz.prog 400 os).forCall (fun _ _ => 0) ⟨#[], args, []⟩).memory :=
  laidMetH_of_parts3 (fuel := 8) (laidMet_of_run' 8 (by kernel_rfl) (by kernel_rfl)) (by kernel_rfl) (by kernel_rfl)

set_option maxRecDepth 100000 in
theorem forced_lifted (os : Os) (started : os.Started) (H : Type) (enc : TypeId × Value → H) :
    ReturnsInHanded {} Tryz.checked os 13 .any (fun w args => (Rows.forcedSpec.pre enc Tryz.prog Tryz.f13 [] false w args ∧ laidMetH Tryz.prog Rows.forcedRow.laid w) ∧ sizedMet enc Tryz.prog Tryz.f13 (OpenSpec.ofChange Rows.forcedSpec) false w args)
      (Rows.forcedSpec.post enc Tryz.prog Tryz.f13 false true false false) := by
  refine returnsInHanded_of_change_and (C := Tryz.checked) (X := fun w _ => laidMetH Tryz.prog Rows.forcedRow.laid w) (fun _ _ _ hh h => h.of_heap hh) own started (by kernel_rfl) Tryz.func13
    (ChangeSpec.witness_shaped (enc := enc) (C := Tryz.checked) (os := os) (X := fun w _ => laidMetH Tryz.prog Rows.forcedRow.laid w) false (World.doorLaid Tryz.prog 400 os) #[.int .i64 0, .int .i64 0, .int .i64 0, .int .i64 0, .int .i64 0] 8 rfl (World.shaped_of_RefB (by kernel_rfl) (by kernel_rfl)) (by kernel_rfl) (by kernel_rfl) (by kernel_rfl) (forced_met os _)) ?_
  intro W base args ds gs before hval0 hW hcnd hsz0 hL _
  have hW' := hW
  obtain ⟨p, q, hA0, hV, rfl, hfz, hnd⟩ := hW
  have hA : DataW.TrodAll enc Tryz.prog W 0 (fun _ => true) true Tryz.f13.params.toList args.toList ds p := hA0
  rw [Tryz.params13] at hA
  obtain ⟨v0, v1, v2, v3, v4, d0, d1, d2, d3, d4, p0, p1, p2, p3, p4, rfl, rfl, rfl, h0, h1, h2, h3, h4⟩ := trodAll_five' hA
  obtain ⟨rfl, rfl⟩ := trodVars_none hV
  have hT : Tab W := tab_of_laid hL
  have hval : ∀ (j : Nat) t v, Tryz.f13.params[j]? = some t → #[v0, v1, v2, v3, v4][j]? = some v → Value.okWide Tryz.prog W .any base t v := hval0
  rw [Tryz.params13] at hval
  obtain ⟨c0, rfl, rfl, rfl, wc0⟩ := open_int Tryz.underlying3 (hval 0 3 v0 rfl rfl) h0
  obtain ⟨c1, rfl, rfl, rfl, wc1⟩ := open_int Tryz.underlying3 (hval 1 3 v1 rfl rfl) h1
  obtain ⟨c2, rfl, rfl, rfl, wc2⟩ := open_int Tryz.underlying3 (hval 2 3 v2 rfl rfl) h2
  obtain ⟨c3, rfl, rfl, rfl, wc3⟩ := open_int Tryz.underlying3 (hval 3 3 v3 rfl rfl) h3
  obtain ⟨c4, rfl, rfl, rfl, wc4⟩ := open_int Tryz.underlying3 (hval 4 3 v4 rfl rfl) h4
  refine (forced_any c0 c1 c2 c3 c4 (wf64 wc0) (wf64 wc1) (wf64 wc2) (wf64 wc3) (wf64 wc4) W hT).mono fun e W' ⟨he, hB⟩ => ?_
  subst he
  refine ⟨_, rfl, [.lit (.int .i64 c0), .lit (.int .i64 c1), .lit (.int .i64 c2), .lit (.int .i64 c3), .lit (.int .i64 c4)], [], _, [], [], [], hW', ?_, ?_, rfl, ?_, fun h => by cases h⟩
  · exact trodAll_mk1 (shut_bool Tryz.underlying4 _)
  · exact ⟨_, _, shut_int Tryz.underlying3 wc0, trodAll_mk4 (shut_int Tryz.underlying3 wc1) (shut_int Tryz.underlying3 wc2) (shut_int Tryz.underlying3 wc3) (shut_int Tryz.underlying3 wc4), rfl⟩
  · exact hB.frame _

theorem forced_said : Rows.ForcedSaid :=
  OpenClaim.holds_of_wide 13 Tryz.f13 rfl rfl rfl rfl rfl rfl rfl ⟨rfl, rfl, rfl, rfl, rfl⟩ rfl rfl rfl rfl rfl (by kernel_rfl) Tryz.func13 (by kernel_rfl)
    (of_decide_eq_true (by kernel_rfl)) (by unfold Func.isWrapper; first | (rw [if_pos (by decide +kernel)]; kernel_rfl) | (rw [if_neg (by decide +kernel)]; exact ⟨rfl, rfl⟩))
    (fun os started H enc _ => forced_lifted os started H enc)

/-- No parameter wants a stand-in; the program's own looks are off. -/
theorem forced_plain (f : FuncId) (fn : Func) (hf : Tryz.pinned.checked.prog.funcNamed Rows.forcedRow.func = some f) (hfn : Tryz.pinned.checked.prog.funcs[f]? = some fn) :
    false = Tryz.pinned.checked.prog.looks [] ∧ ∀ (j : Nat) t, fn.params[j]? = some t → Tryz.pinned.checked.prog.wantsStandIn t = false := by
  obtain rfl : f = 13 := Option.some.inj ((show Tryz.prog.funcNamed Rows.forcedRow.func = some 13 by kernel_rfl).symm.trans hf) |>.symm
  obtain rfl : fn = Tryz.f13 := (Option.some.inj (Tryz.func13.symm.trans hfn)).symm
  refine ⟨by kernel_rfl, fun j t ht => ?_⟩
  rw [Tryz.params13] at ht
  have hm : t ∈ [3, 3, 3, 3, 3] := by simpa using Array.mem_of_getElem? ht
  have hall : ([3, 3, 3, 3, 3].all fun u => !Tryz.prog.wantsStandIn u) = true := by kernel_rfl
  exact (show Tryz.prog.wantsStandIn t = false by simpa using List.all_eq_true.1 hall t hm)

theorem forced_card : Rows.ForcedCardSaid :=
  Claim7.holds_tied_plain_at .later [] _ _ _ _ forced_said (fun _ h => by cases h) (by kernel_rfl) (fun _ h => by cases h) forced_row_tie rfl ⟨rfl, rfl⟩ (by kernel_rfl) rfl forced_plain (by kernel_rfl)
end Go.Proofs.YtnjiinbhbjpfkaaGreatDoor

namespace Go.Proofs.YtnjiinbhbjpfkaaGreatDoor
theorem forced_holds : Rows.ForcedCardSaid := forced_card
end Go.Proofs.YtnjiinbhbjpfkaaGreatDoor
