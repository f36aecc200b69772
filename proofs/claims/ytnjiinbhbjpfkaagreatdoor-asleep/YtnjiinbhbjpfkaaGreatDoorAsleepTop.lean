/-
  Asleep: for every number and every list of ticks a task that sleeps so long, again and again, wakes at the first turn at which its time has come, and not ahead of it; the clock stays at its end. No condition but the card's own: the table of operands' letters holds what the program's text lays.
-/
import Derived.Test.YtnjiinbhbjpfkaaGreatDoorPartL
import Derived.Test.YtnjiinbhbjpfkaaGreatDoorPartJ
import Derived.Test.YtnjiinbhbjpfkaaGreatDoorPartN
import Derived.Test.YtnjiinbhbjpfkaaGreatDoorPartI
import Derived.Test.YtnjiinbhbjpfkaaGreatDoorPartO
import Derived.Test.YtnjiinbhbjpfkaaGreatDoorLawsA
import Derived.Carry
import Derived.ChangeSlices
/-
  A task that slept goes to the queue.
-/
namespace Go.Proofs.YtnjiinbhbjpfkaaGreatDoor
open Go.RowKit

set_option maxRecDepth 100000 in
set_option maxHeartbeats 2000000 in
theorem insert_woke (eb tb qb cap zb zc : Nat) (E Tk : Nat → Value) (w : World) (hE : Full w eb 144 44 44 E) (hE31 : E 32 = .slice (some ⟨qb, 0, none⟩) 0 cap) (hE32 : E 33 = .slice (some ⟨zb, 0, none⟩) 1 zc) (hT : Full w tb 160 7 7 Tk) (hT3 : Tk 3 = Pt eb 33)
    (hown : w.ownsRow 0 155 1 (.slice (some ⟨qb, 0, none⟩) 0 cap) 0 []) (hz : w.ownsRow 0 155 1 (.slice (some ⟨zb, 0, none⟩) 1 zc) 1 [P0 tb]) (hne : zb ≠ qb) (hcap : 0 < cap) :
    Calls Tryz.prog 166 #[Pt eb 32, .int .i64 0, P0 tb] w fun e w' => e = .returned (.tuple #[]) ∧ w'.ownsRow 0 155 1 (.slice (some ⟨qb, 0, none⟩) 1 cap) 1 [P0 tb] ∧ w'.ownsRow 0 155 1 (.slice (some ⟨zb, 0, none⟩) 0 zc) 0 [] ∧ Full w' eb 144 44 44 (upd (upd E 33 (.slice (some ⟨zb, 0, none⟩) 0 zc)) 32 (.slice (some ⟨qb, 0, none⟩) 1 cap)) ∧ Full w' tb 160 7 7 (upd (upd (upd (upd Tk 3 (.pointer none)) 4 .nilFunc) 2 (.bool false)) 3 (Pt eb 32)) ∧ Only (fun k => k = eb ∨ k = tb ∨ k = qb ∨ k = zb) w w' := by
  have ne : eb ≠ tb := hE.ne hT (by decide)
  have hso := stepOut32_any eb tb zb zc 0 E Tk w hE hE32 hT hT3 hz
  have HSO := hid hso
  have HO0 : Hid (w.ownsRow 0 155 1 (.slice (some ⟨qb, 0, none⟩) 0 cap) 0 []) := hown
  have HQ := hid (And.intro (own_ne hown hE (by decide) qb rfl) (own_ne hown hT (by decide) qb rfl))
  have HC : Hid (0 < cap) := hcap
  have H31 := hid hE31
  clear hE hT hown hcap hE31 hT3 hE32 hz hso
  go_enter Tryz.func166, Tryz.ntmps166
  go_wp2_with fail
  refine HSO.out.mono ?_
  rintro e w1 ⟨rfl, hz1, hE1, hT1, hO1⟩
  have HO : Hid (w1.ownsRow 0 155 1 (.slice (some ⟨qb, 0, none⟩) 0 cap) 0 []) := own_of HO0.out (fun k h => hO1.same (own_ty HO0.out k h).2.1 (by
    have : qb = k := by injection h
    subst this
    rintro (h | h | h)
    · exact HQ.out.1 h
    · exact HQ.out.2 h
    · exact hne h.symm))
  have HS := hid hO1
  have HZ := hid hz1
  generalize hDE : upd E 33 (.slice (some ⟨zb, 0, none⟩) 0 zc) = E1 at *
  generalize hDT : upd (upd Tk 3 (.pointer none)) 4 .nilFunc = Tk1 at *
  have h31' : E1 32 = .slice (some ⟨qb, 0, none⟩) 0 cap := by rw [← hDE, upd_off _ _ _ _ (by omega)]; exact H31.out
  have h3' : Tk1 3 = .pointer none := by rw [← hDT, upd_off _ _ _ _ (by omega), upd_at]
  have HD := hid (And.intro hDE hDT)
  obtain ⟨c31, z31⟩ := hE1.cells 32 (by omega)
  obtain ⟨c2, z2⟩ := hT1.cells 2 (by omega)
  obtain ⟨c3, z3⟩ := hT1.cells 3 (by omega)
  rw [h31'] at c31
  rw [h3'] at c3
  generalize Tk1 2 = y2 at c2
  have le := hE1.lt
  have lt := hT1.lt
  have HE : Hid (Full w1 eb 144 44 44 E1) := hE1
  have HT : Hid (Full w1 tb 160 7 7 Tk1) := hT1
  clear hE1 hT1 hz1 hO1 h31' h3' hDE hDT HO0 HSO
  go_wp2_with fail
  have hk : ∀ k, (Value.slice (some ⟨qb, 0, none⟩) 0 cap).ownBlock = some k → k ≠ eb ∧ k ≠ tb ∧ k < w1.heap.size := fun k hk => ⟨own_ne HO.out HE.out (by decide) k hk, own_ne HO.out HT.out (by decide) k hk, (own_ty HO.out k hk).2.1⟩
  refine (sinsert_room qb cap 0 w1.heap.size (P0 tb) rfl _ (own_of HO.out (fun k h => ?_)) (by simp [go_sem]) (Nat.zero_le _) HC.out).mono ?_
  · rw [Below.heap_alloc _ _ _ (by simp [World.setCell]; exact (hk k h).2.2), Below.heap_setCell _ _ _ _ (hk k h).2.1, Below.heap_setCell _ _ _ _ (hk k h).2.1]
  rintro e w2 ⟨rfl, ho2, hg2⟩
  have hz := hg2.size
  simp [World.setCell] at hz
  have HE2 : Hid (Full w2 eb 144 44 44 E1) := (((HE.out.off ne).off ne).block (Below.heap_alloc _ _ _ (by simp [World.setCell]; omega))).block (hg2.block eb (by simp [World.setCell]; omega) (fun h => (hk eb h.symm).1 rfl))
  have HT2 : Hid (Full w2 tb 160 7 7 (upd (upd Tk1 2 (.bool false)) 3 (Pt eb 32))) := (((HT.out.upd 2 _).upd 3 _).block (Below.heap_alloc _ _ _ (by simp [World.setCell]; omega))).block (hg2.block tb (by simp [World.setCell]; omega) (fun h => (hk tb h.symm).2.1 rfl))
  have KO : Hid (Only (fun k => k = eb ∨ k = tb ∨ (Value.slice (some ⟨qb, 0, none⟩) 0 cap).ownBlock = some k) w1 w2) := by
    refine Only.trans (S1 := fun k => (Value.slice (some ⟨qb, 0, none⟩) 0 cap).ownBlock = some k) (w1 := ((w1.setCell ⟨tb, 2, none⟩ (.bool false)).setCell ⟨tb, 3, none⟩ (Pt eb 32)).alloc (.cells #[P0 tb] 155)) ?_ ⟨hg2.os, hg2.tape, hg2.output, hg2.size, fun k hk hn => hg2.block k hk (fun e => hn e.symm)⟩ (fun k h _ => Or.inr (Or.inr h))
    exact only_alloc (only_setCell (only_setCell (only_refl _ _) (Or.inl (Or.inr (Or.inl rfl))) _) (Or.inl (Or.inr (Or.inl rfl))) _) _
  have KW : Hid (w2.ownsRow 0 155 1 (.slice (some ⟨qb, 0, none⟩) 1 cap) 1 [P0 tb]) := ho2
  obtain ⟨d31, e31⟩ := HE2.out.cells 32 (by omega)
  have le2 : eb < w2.heap.size := by omega
  generalize E1 32 = y31 at d31
  clear ho2 c31 z31 c2 z2 c3 z3
  have hzq : w2.heap[zb]? = w1.heap[zb]? := by
    rw [hg2.block zb (by simp [World.setCell]; have := (own_ty HZ.out zb rfl).2.1; omega) (by intro e; injection e with e; exact hne e), Below.heap_alloc _ _ _ (by simp [World.setCell]; exact (own_ty HZ.out zb rfl).2.1), Below.heap_setCell _ _ _ _ (own_ne HZ.out HT.out (by decide) zb rfl), Below.heap_setCell _ _ _ _ (own_ne HZ.out HT.out (by decide) zb rfl)]
  have KZ : Hid (w2.ownsRow 0 155 1 (.slice (some ⟨zb, 0, none⟩) 0 zc) 0 []) := own_of HZ.out (fun k h => by injection h with h; subst h; exact hzq)
  clear hg2 hzq
  go_wp2_with fail
  go_end0
  refine ⟨rfl, own_of KW.out (fun k h => Below.heap_setCell _ _ _ _ (own_ne KW.out HE2.out (by decide) k h)), own_of KZ.out (fun k h => Below.heap_setCell _ _ _ _ (own_ne KZ.out HE2.out (by decide) k h)), ?_, ?_, ?_⟩
  · rw [HD.out.1]; exact HE2.out.upd 32 _
  · rw [HD.out.2]; exact HT2.out.off (fun e => ne e.symm)
  · refine only_setCell ((HS.out.mono (fun k h _ => ?_)).trans KO.out (fun k h _ => ?_)) (Or.inl (Or.inl rfl)) _
    · rcases h with h | h | h
      · exact Or.inl h
      · exact Or.inr (Or.inl h)
      · exact Or.inr (Or.inr (Or.inr h))
    · rcases h with h | h | h
      · exact Or.inl h
      · exact Or.inr (Or.inl h)
      · refine Or.inr (Or.inr (Or.inl ?_))
        injection h with h; exact h.symm


set_option maxRecDepth 100000 in
theorem join_woke (eb tb qb cap zb zc : Nat) (E Tk : Nat → Value) (w : World) (hE : Full w eb 144 44 44 E) (hE31 : E 32 = .slice (some ⟨qb, 0, none⟩) 0 cap) (hE32 : E 33 = .slice (some ⟨zb, 0, none⟩) 1 zc) (hT : Full w tb 160 7 7 Tk) (hT3 : Tk 3 = Pt eb 33)
    (hown : w.ownsRow 0 155 1 (.slice (some ⟨qb, 0, none⟩) 0 cap) 0 []) (hz : w.ownsRow 0 155 1 (.slice (some ⟨zb, 0, none⟩) 1 zc) 1 [P0 tb]) (hne : zb ≠ qb) (hcap : 0 < cap) :
    Calls Tryz.prog 110 #[Pt eb 32, P0 tb] w fun e w' => e = .returned (.tuple #[]) ∧ w'.ownsRow 0 155 1 (.slice (some ⟨qb, 0, none⟩) 1 cap) 1 [P0 tb] ∧ w'.ownsRow 0 155 1 (.slice (some ⟨zb, 0, none⟩) 0 zc) 0 [] ∧ Full w' eb 144 44 44 (upd (upd E 33 (.slice (some ⟨zb, 0, none⟩) 0 zc)) 32 (.slice (some ⟨qb, 0, none⟩) 1 cap)) ∧ Full w' tb 160 7 7 (upd (upd (upd (upd Tk 3 (.pointer none)) 4 .nilFunc) 2 (.bool false)) 3 (Pt eb 32)) ∧ Only (fun k => k = eb ∨ k = tb ∨ k = qb ∨ k = zb) w w' := by
  have HI := hid (insert_woke eb tb qb cap zb zc E Tk w hE hE31 hE32 hT hT3 hown hz hne hcap)
  have c31 := hE.cell 32 (by omega)
  rw [hE31] at c31
  clear hE hT hown hcap hE31 hT3 hE32 hz hne
  go_enter Tryz.func110, Tryz.ntmps110
  go_wp2_with fail
  refine HI.out.mono ?_
  rintro e w1 ⟨rfl, h⟩
  have HH := hid h
  clear h
  go_wp2_with fail
  go_end0
  exact ⟨rfl, HH.out⟩

set_option maxRecDepth 100000 in
set_option maxHeartbeats 2000000 in
/-- The time of the only task that sleeps has not come. -/
theorem wake_not (eb tb zb zc : Nat) (U clk : Int) (w : World) (h32 : w.cell? ⟨eb, 33, none⟩ = some (.slice (some ⟨zb, 0, none⟩) 1 zc)) (h27 : w.cell? ⟨eb, 28, none⟩ = some (.int .i64 clk)) (hz : w.cell? ⟨zb, 0, none⟩ = some (P0 tb)) (h5 : w.cell? ⟨tb, 5, none⟩ = some (.int .i64 U)) (hU : ¬ U ≤ clk) :
    Calls Tryz.prog 67 #[P0 eb] w fun e w' => e = .returned (.tuple #[]) ∧ w.grownBy w' none := by
  have hE := fun (w' : World) (h : w'.cell? ⟨eb, 33, none⟩ = some (.slice (some ⟨zb, 0, none⟩) 1 zc)) => empty_any eb 33 1 zc (some ⟨zb, 0, none⟩) w' h
  have hd : decide ((1 : Nat) = 0) = false := rfl
  simp only [hd] at hE
  have hF := fun (w' : World) (h : w'.cell? ⟨eb, 33, none⟩ = some (.slice (some ⟨zb, 0, none⟩) 1 zc)) (h2 : w'.cell? ⟨zb, 0, none⟩ = some (P0 tb)) => first_any eb 33 0 zc zb tb w' h h2
  have HE := hid hE
  have HFF := hid hF
  clear hE hF hd
  go_enter Tryz.func67, Tryz.ntmps67
  go_wp2_with fail
  go_loopw [] (fun wr => wr = w) (fun _ => 0)
  case atStart => rfl
  case round =>
    subst hrel
    go_wp2_with fail
    have hd2 : decide (U ≤ clk) = false := by simpa using hU
    go_quiet (first | (go_at_call 70; refine Calls.quiet_of_same (HE.out _ (by first | exact h32 | simpa using h32))) | (go_at_call 132; refine Calls.quiet_of_same (HFF.out _ (by first | exact h32 | simpa using h32) (by first | exact hz | simpa using hz))))
    go_wp2_with fail
    go_end0
    exact ⟨rfl, grown_drewN (grown_refl _ _) _⟩

set_option maxRecDepth 100000 in
set_option maxHeartbeats 4000000 in
/-- The time of the only task that sleeps has come. -/
theorem wake_yes (eb tb qb cq zb zc : Nat) (U clk : Int) (E Tk : Nat → Value) (w : World) (hE : Full w eb 144 44 44 E) (h27 : E 28 = .int .i64 clk) (hE31 : E 32 = .slice (some ⟨qb, 0, none⟩) 0 cq) (hE32 : E 33 = .slice (some ⟨zb, 0, none⟩) 1 zc) (hT : Full w tb 160 7 7 Tk) (hT3 : Tk 3 = Pt eb 33) (hT5 : Tk 5 = .int .i64 U)
    (hown : w.ownsRow 0 155 1 (.slice (some ⟨qb, 0, none⟩) 0 cq) 0 []) (hz : w.ownsRow 0 155 1 (.slice (some ⟨zb, 0, none⟩) 1 zc) 1 [P0 tb]) (hne : zb ≠ qb) (hcap : 0 < cq) (hU : U ≤ clk) :
    Calls Tryz.prog 67 #[P0 eb] w fun e w' => e = .returned (.tuple #[]) ∧ w'.ownsRow 0 155 1 (.slice (some ⟨qb, 0, none⟩) 1 cq) 1 [P0 tb] ∧ w'.ownsRow 0 155 1 (.slice (some ⟨zb, 0, none⟩) 0 zc) 0 [] ∧ Full w' eb 144 44 44 (upd (upd E 33 (.slice (some ⟨zb, 0, none⟩) 0 zc)) 32 (.slice (some ⟨qb, 0, none⟩) 1 cq)) ∧ Full w' tb 160 7 7 (upd (upd (upd (upd Tk 3 (.pointer none)) 4 .nilFunc) 2 (.bool false)) 3 (Pt eb 32)) ∧ Only (fun k => k = eb ∨ k = tb ∨ k = qb ∨ k = zb) w w' := by
  have h0 : Hid (w.cell? ⟨zb, 0, none⟩ = some (P0 tb)) := by
    show w.cell? _ = _
    rcases hz.2 with ⟨h, _⟩ | ⟨g', c', cur, h1, _, h2, _, _, h3, h4⟩
    · cases h
    · cases h1
      have : cur[0]? = some (P0 tb) := by
        have := congrArg (fun l => l[0]?) h4
        simpa using this
      simp [World.cell?, h2, this]
  have KE := hid hE
  have KT := hid hT
  have KO := hid (And.intro hown hz)
  have HF := hid (And.intro h27 (And.intro hE31 (And.intro hE32 (And.intro hT3 (And.intro hT5 (And.intro hne hcap))))))
  have HE1 := hid (fun (w' : World) (h : w'.cell? ⟨eb, 33, none⟩ = some (.slice (some ⟨zb, 0, none⟩) 1 zc)) => show Calls Tryz.prog 70 #[Pt eb 33] w' (fun e w'' => e = .returned (.bool false) ∧ w'' = w') from empty_any eb 33 1 zc (some ⟨zb, 0, none⟩) w' h)
  have HE0 := hid (fun (w' : World) (h : w'.cell? ⟨eb, 33, none⟩ = some (.slice (some ⟨zb, 0, none⟩) 0 zc)) => show Calls Tryz.prog 70 #[Pt eb 33] w' (fun e w'' => e = .returned (.bool true) ∧ w'' = w') from empty_any eb 33 0 zc (some ⟨zb, 0, none⟩) w' h)
  have HFF := hid (fun (w' : World) (h : w'.cell? ⟨eb, 33, none⟩ = some (.slice (some ⟨zb, 0, none⟩) 1 zc)) (h2 : w'.cell? ⟨zb, 0, none⟩ = some (P0 tb)) => first_any eb 33 0 zc zb tb w' h h2)
  have HU := hid hU
  clear hE hT hown hz h27 hE31 hE32 hT3 hT5 hne hcap hU
  go_enter Tryz.func67, Tryz.ntmps67
  go_wp2_with fail
  go_loopw [] (fun wr => Hid ((wr = w) ∨ (wr.ownsRow 0 155 1 (.slice (some ⟨qb, 0, none⟩) 1 cq) 1 [P0 tb] ∧ wr.ownsRow 0 155 1 (.slice (some ⟨zb, 0, none⟩) 0 zc) 0 [] ∧ Full wr eb 144 44 44 (upd (upd E 33 (.slice (some ⟨zb, 0, none⟩) 0 zc)) 32 (.slice (some ⟨qb, 0, none⟩) 1 cq)) ∧ Full wr tb 160 7 7 (upd (upd (upd (upd Tk 3 (.pointer none)) 4 .nilFunc) 2 (.bool false)) 3 (Pt eb 32)) ∧ Only (fun k => k = eb ∨ k = tb ∨ k = qb ∨ k = zb) w wr))) (fun wr => match wr.cell? ⟨eb, 33, none⟩ with | some (.slice _ n _) => n | _ => 0)
  case atStart => exact Or.inl rfl
  case round =>
    rcases hrel.out with hw | ⟨a1, a2, a3, a4, a5⟩
    · subst hw
      have c32 := KE.out.cell 33 (by omega)
      rw [HF.out.2.2.1] at c32
      have c27 := KE.out.cell 28 (by omega)
      rw [HF.out.1] at c27
      have c5 := KT.out.cell 5 (by omega)
      rw [HF.out.2.2.2.2.1] at c5
      have c31 := KE.out.cell 32 (by omega)
      rw [HF.out.2.1] at c31
      have hz0 := h0.out
      have hd2 : decide (U ≤ clk) = true := by simpa using HU.out
      have hU2 := HU.out
      go_wp2_with fail
      go_quiet (first | (go_at_call 70; refine Calls.quiet_of_same (HE1.out _ (by first | exact c32 | simpa using c32))) | (go_at_call 132; refine Calls.quiet_of_same (HFF.out _ (by first | exact c32 | simpa using c32) (by first | exact hz0 | simpa using hz0))))
      go_wp2_with fail
      go_region_with (first | (go_at_call 132; refine (first_any eb 33 0 zc zb tb _ (by first | exact c32 | simpa using c32) (by first | exact hz0 | simpa using hz0)).mono ?_; rintro e w3 ⟨rfl, rfl⟩) | (go_at_call 110; refine (join_woke eb tb qb cq zb zc E Tk _ (by first | exact KE.out | (show Full wr _ _ _ _ _; exact KE.out)) HF.out.2.1 HF.out.2.2.1 (by first | exact KT.out | (show Full wr _ _ _ _ _; exact KT.out)) HF.out.2.2.2.1 (by first | exact KO.out.1 | (show wr.ownsRow _ _ _ _ _ _; exact KO.out.1)) (by first | exact KO.out.2 | (show wr.ownsRow _ _ _ _ _ _; exact KO.out.2)) HF.out.2.2.2.2.2.1 HF.out.2.2.2.2.2.2).mono ?_; rintro e w4 ⟨rfl, b1, b2, b3, b4, b5⟩; have HB := hid (And.intro b1 (And.intro b2 (And.intro b3 (And.intro b4 (show Only _ wr w4 from b5))))); clear b1 b2 b3 b4 b5))
      all_goals
        go_wp2_with fail
        go_roundw
        case rel => exact Or.inr HB.out
        case measure =>
          have e1 := HB.out.2.2.1.cell 33 (by omega)
          rw [upd_off _ _ _ _ (by omega), upd_at] at e1
          simp only [e1, c32]
          omega
    · have c32 := a3.cell 33 (by omega)
      rw [upd_off _ _ _ _ (by omega), upd_at] at c32
      have HA := hid (And.intro a1 (And.intro a2 (And.intro a3 (And.intro a4 a5))))
      clear a1 a2 a3 a4 a5 hrel
      go_wp2_with fail
      go_quiet (first | (go_at_call 70; refine Calls.quiet_of_same (HE0.out _ (by first | exact c32 | simpa using c32))))
      go_wp2_with fail
      go_end0
      exact ⟨rfl, HA.out⟩
end Go.Proofs.YtnjiinbhbjpfkaaGreatDoor

/-
  A turn of an engine whose task sleeps; its time; its state.
-/
namespace Go.Proofs.YtnjiinbhbjpfkaaGreatDoor
open Go.RowKit

/-- The same machine, the row of those that sleep at another place. -/
def Geo.rows (g : Geo) (zb zc : Nat) : Geo := { g with sa := some ⟨zb, 0, none⟩, sc := zc }

theorem Run.rows {w : World} {g : Geo} {C : List B.In} {q : Nat} {kd : B.Kd} {vb : Vs} {s : B.St} {E Tk : Nat → Value} (zb zc : Nat) (h : Run w g C q kd vb s E Tk) : Run w (g.rows zb zc) C q kd vb s E Tk :=
  { hK := { hT := h.hK.hT, t0 := h.hK.t0, t1 := h.hK.t1, t6 := h.hK.t6, o28 := h.hK.o28, o29 := h.hK.o29, oK := h.hK.oK, hxe := h.hK.hxe, hxt := h.hK.hxt, hC := h.hK.hC, hA := h.hK.hA }
    hE := h.hE
    eE := { e1 := h.eE.e1, e2 := h.eE.e2, hwk := h.eE.hwk, eA := h.eE.eA, e26 := h.eE.e26, e27 := h.eE.e27, e28 := h.eE.e28, e29 := h.eE.e29, e30 := h.eE.e30, e41 := h.eE.e41, hck := h.eE.hck }
    hF := h.hF, hS := h.hS, hH := h.hH, ok := h.ok, hn := h.hn, hp := h.hp, hvr := h.hvr, hro := h.hro }

section
variable {w w' : World} {g : Geo} {C : List B.In} {q : Nat} {kd : B.Kd} {vb : Vs} {s : B.St} {E Tk : Nat → Value} {qb cq zb zc : Nat} {U : Int}
/-- The task has gone to the queue. -/
theorem Zzz.woke (h : Zzz w g C q kd vb s E Tk qb cq zb zc U) (hq : 1 ≤ q ∧ q ≤ 50) (h42 : E 43 = .slice none 0 0)
    (o31 : w'.ownsRow 0 155 1 (.slice (some ⟨qb, 0, none⟩) 1 cq) 1 [P0 g.tb]) (o32 : w'.ownsRow 0 155 1 (.slice (some ⟨zb, 0, none⟩) 0 zc) 0 []) (hE : Full w' g.eb 144 44 44 (upd (upd E 33 (.slice (some ⟨zb, 0, none⟩) 0 zc)) 32 (.slice (some ⟨qb, 0, none⟩) 1 cq)))
    (hT : Full w' g.tb 160 7 7 (upd (upd (upd (upd Tk 3 (.pointer none)) 4 .nilFunc) 2 (.bool false)) 3 (Pt g.eb 32))) (hO : Only (fun k => k = g.eb ∨ k = g.tb ∨ k = qb ∨ k = zb) w w') :
    Que w' (g.rows zb zc) C q kd vb s (upd (upd E 33 (.slice (some ⟨zb, 0, none⟩) 0 zc)) 32 (.slice (some ⟨qb, 0, none⟩) 1 cq)) (upd (upd (upd (upd Tk 3 (.pointer none)) 4 .nilFunc) 2 (.bool false)) 3 (Pt g.eb 32)) qb cq := by
  have hR := h.hR.lines (Z := fun k => k = qb ∨ k = zb) hO (by rintro k (rfl | rfl); exact kty_own h.o31 rfl; exact kty_own h.o32 rfl) (by rintro (e | e); exact h.nqb.1 e.symm; exact h.nzb.1 e.symm) (by rintro (e | e); exact h.nqb.2 e.symm; exact h.nzb.2.1 e.symm) hE ((h.hR.eE.upd 33 _ (Or.inr (Or.inl rfl))).upd 32 _ (Or.inl rfl)) hT rfl rfl rfl
  refine { hR := hR.rows zb zc, t2 := rfl, t3 := rfl, e31 := rfl, o31 := o31, e42 := h42, h1 := fun e => h.nqb.1 e.symm, h2 := fun e => h.nqb.2 e.symm, hq := hq, e32 := rfl, o32 := o32, h32 := fun _ => ?_, n32 := fun k hk => ?_ }
  · rcases h.o32.2 with ⟨e, _⟩ | ⟨g', c', cur, h1, _, _, h4, _⟩
    · cases e
    · cases h1; exact h4
  · have : zb = k := by injection hk
    subst this
    exact h.nzb
end

set_option maxRecDepth 100000 in
theorem runFirst_none (eb qb cq : Nat) (w : World) (c31 : w.cell? ⟨eb, 32, none⟩ = some (.slice (some ⟨qb, 0, none⟩) 0 cq)) (le : eb < w.heap.size) :
    Calls Tryz.prog 68 #[P0 eb] w fun e w' => e = .returned (.tuple #[]) ∧ w' = w := by
  have hem := empty_any eb 32 0 cq (some ⟨qb, 0, none⟩) w c31
  have hd1 : decide ((0 : Nat) = 0) = true := rfl
  rw [hd1] at hem
  have HEM := hid hem
  clear hem hd1
  go_enter Tryz.func68, Tryz.ntmps68
  go_wp2_with fail
  refine HEM.out.mono ?_
  rintro e w1 ⟨rfl, rfl⟩
  go_wp2_with fail
  refine bodyPost_ret (results_none rfl _ _ _) rfl ?_
  exact ⟨rfl, rfl⟩

set_option maxRecDepth 100000 in
set_option maxHeartbeats 4000000 in
/-- Its time has come. -/
theorem eturn_due (tk : Int) (g : Geo) (C : List B.In) (q : Nat) (kd : B.Kd) (vb : Vs) (s : B.St) (E Tk : Nat → Value) (qb cq zb zc : Nat) (U : Int) (w : World) (hZ : Zzz w g C q kd vb s E Tk qb cq zb zc U) (hq : 1 ≤ q ∧ q ≤ 50) (h42 : E 43 = .slice none 0 0) (hU : U ≤ B.aft g.clk tk) :
    Calls Tryz.prog 41 #[P0 g.eb, .int .i64 tk, .slice none 0 0] w fun e w' => ∃ v, e = .returned v ∧ Etd w w' ((g.tick (B.aft g.clk tk)).rows zb zc) C q kd vb s qb cq v := by
  have KZ := hid hZ
  obtain ⟨c27, z27⟩ := hZ.hR.hE.cells 28 (by omega)
  rw [hZ.hR.eE.e27] at c27
  have le := hZ.hR.hE.lt
  have haf := after_gen g.eb g.clk tk w c27 hZ.hR.eE.hck.1 hZ.hR.eE.hck.2
  have hin := B.aft_in (t := tk) hZ.hR.eE.hck.1 hZ.hR.eE.hck.2
  have HIN := hid hin
  have HWK : Hid (g.wk ≤ 50) := hZ.hR.eE.hwk
  generalize hc : B.aft g.clk tk = c at *
  have HAF := hid haf
  have H42 := hid h42
  have HQ := hid hq
  have HU := hid hU
  clear hZ haf hc hin h42 hq hU
  go_enter Tryz.func41, Tryz.ntmps41
  go_wp2_with fail
  refine HAF.out.mono ?_
  rintro e w1 ⟨rfl, rfl⟩
  go_wp2_with fail
  have KZ1 := hid (KZ.out.clock HIN.out)
  have KO1 : Hid (Only (FE ((g.tick c).rows zb zc) qb kd vb) w1 (w1.setCell ⟨g.eb, 28, none⟩ (.int .i64 c))) := only_setCell (only_refl _ _) (Or.inl (Or.inl (Or.inl rfl))) _
  generalize hw2 : w1.setCell ⟨g.eb, 28, none⟩ (.int .i64 c) = w2 at *
  clear hw2 c27 z27 HAF
  refine (receive_any g.eb w2).mono ?_
  rintro e w3 ⟨rfl, rfl⟩
  have c28 : w3.cell? ⟨g.eb, 29, none⟩ = some (.slice (some ⟨g.lb, 0, none⟩) 1 g.cl) := (KZ1.out.hR.hE.cell 29 (by omega)).trans (by rw [KZ1.out.hR.eE.e28]; rfl)
  have c41 : w3.cell? ⟨g.eb, 42, none⟩ = some (.bool false) := (KZ1.out.hR.hE.cell 42 (by omega)).trans (by rw [KZ1.out.hR.eE.e41])
  have le2 : g.eb < w3.heap.size := KZ1.out.hR.hE.lt
  have hlv := lives_any g.eb 1 g.cl (some ⟨g.lb, 0, none⟩) w3 c28
  have hd1 : decide (0 < 1) = true := rfl
  rw [hd1] at hlv
  have HLV := hid hlv
  clear hlv hd1 c28
  go_wp2_with fail
  refine HLV.out.mono ?_
  rintro e w4 ⟨rfl, rfl⟩
  go_wp2_with fail
  refine (wake_yes g.eb g.tb qb cq zb zc U c _ Tk w4 KZ1.out.hR.hE KZ1.out.hR.eE.e27 KZ1.out.e31 KZ1.out.e32 KZ1.out.hR.hK.hT KZ1.out.t3 KZ1.out.t5 KZ1.out.o31 KZ1.out.o32 KZ1.out.nzb.2.2 KZ1.out.hcq HU.out).mono ?_
  rintro e w5 ⟨rfl, b1, b2, b3, b4, b5⟩
  have KQ5 := hid (KZ1.out.woke HQ.out H42.out b1 b2 b3 b4 b5)
  have KO5 : Hid (Only (FE ((g.tick c).rows zb zc) qb kd vb) w1 w5) := KO1.out.trans b5 (fun k h _ => by
    rcases h with h | h | h | h
    · exact Or.inl (Or.inl h)
    · exact Or.inl (Or.inr (Or.inl h))
    · exact Or.inr (Or.inl h)
    · exact Or.inr (Or.inr (Or.inr (Or.inr (by rw [h]; rfl)))))
  clear b1 b2 b3 b4 b5 c41 HLV
  go_wp2_with fail
  refine (runFirst_any ((g.tick c).rows zb zc) C q kd vb s _ _ qb cq w5 KQ5.out).mono ?_
  rintro e w6 ⟨rfl, hT⟩
  obtain ⟨k2', k27', hwk⟩ := work_turned (g := (g.tick c).rows zb zc) HWK.out (hT.kept (grown_drew (grown_refl w6 none)))
  have k2 : w6.cell? ⟨g.eb, 2, none⟩ = some (.int .i64 g.wk) := k2'
  have k27 : w6.cell? ⟨g.eb, 27, none⟩ = some (P0 g.sb) := k27'
  have le6' : g.eb < w6.heap.size := cell_lt k2
  have HWO : Hid (Calls Tryz.prog 69 #[P0 g.sb, .int .i64 g.wk] w6.drew fun e w7 => e = .returned (.tuple #[]) ∧ TurnedW w5 w7 ((g.tick c).rows zb zc) C q kd vb s qb cq) := hwk
  clear hT k2' k27' hwk
  go_wp2_with fail
  go_cut [] from 30 to 38 (fun wx => Hid (TurnedW w5 wx ((g.tick c).rows zb zc) C q kd vb s qb cq))
  case first =>
    go_region_with (go_at_call 69; refine HWO.out.mono ?_; rintro e w7 ⟨rfl, hT7⟩; have HT7 := hid hT7; clear hT7)
    all_goals
      go_wp2_with fail
      go_meet
      case rel => exact HT7
  case rest =>
    have HT7 : Hid (TurnedW w5 wc ((g.tick c).rows zb zc) C q kd vb s qb cq) := hcut
    obtain ⟨E', v, hE6, e42, ⟨ad, ne, cap, rfl⟩, hE⟩ := etd_of (g := (g.tick c).rows zb zc) KQ5.out.h1 KQ5.out.h2 KQ5.out.hq KQ5.out.h32 KQ5.out.n32 KO5.out HT7.out
    obtain ⟨d42', z42'⟩ := hE6.cells 43 (by omega)
    rw [e42] at d42'
    have d42 : wc.cell? ⟨g.eb, 43, none⟩ = some (.slice ad ne cap) := d42'
    have z42 : wc.frozen? ⟨g.eb, 43, none⟩ = false := z42'
    clear d42' z42' k2 k27
    have le6 : g.eb < wc.heap.size := hE6.lt
    have HR := hid hE
    clear hE6 e42 hE
    go_wp2_with fail
    go_ret
    exact ⟨_, rfl, HR.out⟩

set_option maxRecDepth 100000 in
set_option maxHeartbeats 4000000 in
/-- Its time has not come. -/
theorem eturn_not (tk : Int) (g : Geo) (C : List B.In) (q : Nat) (kd : B.Kd) (vb : Vs) (s : B.St) (E Tk : Nat → Value) (qb cq zb zc : Nat) (U : Int) (w : World) (hZ : Zzz w g C q kd vb s E Tk qb cq zb zc U) (h42 : E 43 = .slice none 0 0) (hU : ¬ U ≤ B.aft g.clk tk) :
    Calls Tryz.prog 41 #[P0 g.eb, .int .i64 tk, .slice none 0 0] w fun e w' => e = .returned (.slice none 0 0) ∧ Only (fun k => k = g.eb ∨ Sbk g.sb g.pb g.n kd vb k) w w' ∧ ∃ vb' E', E' 43 = .slice none 0 0 ∧ Zzz w' (g.tick (B.aft g.clk tk)) C q (B.work s.2.1 g.nr s.2.2 g.n g.wk kd) vb' s E' Tk qb cq zb zc U ∧ Grew g.n kd vb (B.work s.2.1 g.nr s.2.2 g.n g.wk kd) vb' w.heap.size := by
  have KZ := hid hZ
  obtain ⟨c27, z27⟩ := hZ.hR.hE.cells 28 (by omega)
  rw [hZ.hR.eE.e27] at c27
  have le := hZ.hR.hE.lt
  have haf := after_gen g.eb g.clk tk w c27 hZ.hR.eE.hck.1 hZ.hR.eE.hck.2
  have hin := B.aft_in (t := tk) hZ.hR.eE.hck.1 hZ.hR.eE.hck.2
  have HIN := hid hin
  have HWK : Hid (g.wk ≤ 50) := hZ.hR.eE.hwk
  generalize hc : B.aft g.clk tk = c at *
  have HAF := hid haf
  have H42 := hid h42
  have HU := hid hU
  clear hZ haf hc hin h42 hU
  go_enter Tryz.func41, Tryz.ntmps41
  go_wp2_with fail
  refine HAF.out.mono ?_
  rintro e w1 ⟨rfl, rfl⟩
  go_wp2_with fail
  have KZ1 := hid (KZ.out.clock HIN.out)
  have KO1 : Hid (Only (fun k => k = g.eb) w1 (w1.setCell ⟨g.eb, 28, none⟩ (.int .i64 c))) := only_setCell (S := fun k => k = g.eb) (only_refl _ _) (Or.inl rfl) _
  generalize hw2 : w1.setCell ⟨g.eb, 28, none⟩ (.int .i64 c) = w2 at *
  clear hw2 c27 z27 HAF
  refine (receive_any g.eb w2).mono ?_
  rintro e w3 ⟨rfl, rfl⟩
  have c28 : w3.cell? ⟨g.eb, 29, none⟩ = some (.slice (some ⟨g.lb, 0, none⟩) 1 g.cl) := (KZ1.out.hR.hE.cell 29 (by omega)).trans (by rw [KZ1.out.hR.eE.e28]; rfl)
  have c41 : w3.cell? ⟨g.eb, 42, none⟩ = some (.bool false) := (KZ1.out.hR.hE.cell 42 (by omega)).trans (by rw [KZ1.out.hR.eE.e41])
  have c27 : w3.cell? ⟨g.eb, 28, none⟩ = some (.int .i64 c) := (KZ1.out.hR.hE.cell 28 (by omega)).trans (by rw [KZ1.out.hR.eE.e27]; rfl)
  have c32 : w3.cell? ⟨g.eb, 33, none⟩ = some (.slice (some ⟨zb, 0, none⟩) 1 zc) := (KZ1.out.hR.hE.cell 33 (by omega)).trans (by rw [KZ1.out.e32])
  have c5 : w3.cell? ⟨g.tb, 5, none⟩ = some (.int .i64 U) := (KZ1.out.hR.hK.hT.cell 5 (by omega)).trans (by rw [KZ1.out.t5])
  have cz : w3.cell? ⟨zb, 0, none⟩ = some (P0 g.tb) := own_cell KZ1.out.o32
  have le2 : g.eb < w3.heap.size := KZ1.out.hR.hE.lt
  have hlv := lives_any g.eb 1 g.cl (some ⟨g.lb, 0, none⟩) w3 c28
  have hd1 : decide (0 < 1) = true := rfl
  rw [hd1] at hlv
  have HLV := hid hlv
  have HW := hid (wake_not g.eb g.tb zb zc U c w3 c32 c27 cz c5 (Int.not_le.2 HU.out))
  clear hlv hd1 c28 c27 c32 c5 cz
  go_wp2_with fail
  refine HLV.out.mono ?_
  rintro e w4 ⟨rfl, rfl⟩
  go_wp2_with fail
  refine HW.out.mono ?_
  rintro e w5 ⟨rfl, hg5⟩
  have KZ5 := hid (KZ1.out.grown hg5)
  have KO5 := hid (KO1.out.then0 hg5)
  clear hg5 c41 HLV HW
  have c31 : w5.cell? ⟨g.eb, 32, none⟩ = some (.slice (some ⟨qb, 0, none⟩) 0 cq) := (KZ5.out.hR.hE.cell 32 (by omega)).trans (by rw [KZ5.out.e31])
  have le5 : g.eb < w5.heap.size := KZ5.out.hR.hE.lt
  go_wp2_with fail
  refine (runFirst_none g.eb qb cq w5 c31 le5).mono ?_
  rintro e w6 ⟨rfl, rfl⟩
  have KZ6 := hid (KZ5.out.grown (grown_drew (grown_refl w6 none)))
  have k2 : w6.cell? ⟨g.eb, 2, none⟩ = some (.int .i64 g.wk) := (KZ5.out.hR.hE.cell 2 (by omega)).trans (by rw [KZ5.out.hR.eE.e2]; rfl)
  have k27 : w6.cell? ⟨g.eb, 27, none⟩ = some (P0 g.sb) := (KZ5.out.hR.hE.cell 27 (by omega)).trans (by rw [KZ5.out.hR.eE.e26]; rfl)
  have HWO : Hid (Calls Tryz.prog 69 #[P0 g.sb, .int .i64 g.wk] w6.drew fun e w7 => e = .returned (.tuple #[]) ∧ Wkd w6.drew w7 g.eb g.sb g.pb g.n kd vb s g.nr (B.work s.2.1 g.nr s.2.2 g.n g.wk kd)) := work_any _ g.eb g.sb g.pb g.n g.nr g.wk kd vb s w6.drew KZ6.out.hR.rts HWK.out
  clear c31
  go_wp2_with fail
  go_cut [] from 30 to 38 (fun wx => Hid (Wkd w6.drew wx g.eb g.sb g.pb g.n kd vb s g.nr (B.work s.2.1 g.nr s.2.2 g.n g.wk kd)))
  case first =>
    go_region_with (go_at_call 69; refine HWO.out.mono ?_; rintro e w7 ⟨rfl, hT7⟩; have HT7 := hid hT7; clear hT7)
    all_goals
      go_wp2_with fail
      go_meet
      case rel => exact HT7
  case rest =>
    have HT7 : Hid (Wkd w6.drew wc g.eb g.sb g.pb g.n kd vb s g.nr (B.work s.2.1 g.nr s.2.2 g.n g.wk kd)) := hcut
    obtain ⟨vb', hZ7, hG7, hO7⟩ := KZ6.out.worked HT7.out
    have KZ7 := hid hZ7
    obtain ⟨d42', z42'⟩ := hZ7.hR.hE.cells 43 (by omega)
    have d42 : wc.cell? ⟨g.eb, 43, none⟩ = some (.slice none 0 0) := d42'.trans (by rw [upd_off _ _ _ _ (by omega), H42.out])
    have z42 : wc.frozen? ⟨g.eb, 43, none⟩ = false := z42'
    have le7 : g.eb < wc.heap.size := hZ7.hR.hE.lt
    have HR := hid (KZ7.out.told (v := .slice none 0 0))
    have HGR := hid hG7
    have KO7 : Hid (Only (fun k => k = g.eb ∨ Sbk g.sb g.pb g.n kd vb k) w1 wc) := ((KO5.out.mono (fun k h _ => Or.inl h)).trans hO7 (fun k h _ => Or.inr h))
    have HO : Hid (Only (fun k => k = g.eb ∨ Sbk g.sb g.pb g.n kd vb k) w1 (wc.setCell ⟨g.eb, 43, none⟩ (.slice none 0 0))) := only_setCell KO7.out (Or.inl (Or.inl rfl)) _
    have hz5 := KO5.out.size
    clear d42' z42' k2 k27 hZ7 hG7 hO7
    go_wp2_with fail
    go_ret
    exact ⟨rfl, HO.out, vb', _, upd_at _ _ _, HR.out, fun k hk => (HGR.out k hk).imp id (fun h => by have h' : w6.heap.size ≤ k := h; omega)⟩
end Go.Proofs.YtnjiinbhbjpfkaaGreatDoor

/-
  The state and the time of a machine whose task sleeps.
-/
namespace Go.Proofs.YtnjiinbhbjpfkaaGreatDoor
open Go.RowKit

set_option maxRecDepth 100000 in
set_option maxHeartbeats 2000000 in
theorem waits_yes (eb zb zc : Nat) (w : World) (h32 : w.cell? ⟨eb, 33, none⟩ = some (.slice (some ⟨zb, 0, none⟩) 1 zc)) (le : eb < w.heap.size) :
    Calls Tryz.prog 71 #[P0 eb] w fun e w' => e = .returned (.bool true) ∧ w' = w := by
  have HE1 := hid (fun (w' : World) (h : w'.cell? ⟨eb, 33, none⟩ = some (.slice (some ⟨zb, 0, none⟩) 1 zc)) => show Calls Tryz.prog 70 #[Pt eb 33] w' (fun e w'' => e = .returned (.bool false) ∧ w'' = w') from empty_any eb 33 1 zc (some ⟨zb, 0, none⟩) w' h)
  go_enter Tryz.func71, Tryz.ntmps71
  go_wp2_with fail
  refine (HE1.out w h32).mono ?_
  rintro e w1 ⟨rfl, rfl⟩
  go_wp2_with fail
  go_ret
  exact ⟨rfl, rfl⟩

set_option maxRecDepth 100000 in
theorem eclock_any (eb : Nat) (c : Int) (w : World) (h27 : w.cell? ⟨eb, 28, none⟩ = some (.int .i64 c)) :
    Calls Tryz.prog 44 #[P0 eb] w fun e w' => e = .returned (.int .i64 c) ∧ w' = w := by
  go_enter Tryz.func44, Tryz.ntmps44
  go_wp2_with fail
  go_ret
  exact ⟨rfl, rfl⟩

set_option maxRecDepth 100000 in
set_option maxHeartbeats 2000000 in
theorem estate_slp (eb zb zc qb cq n c : Nat) (a : Option Addr) (w : World) (h41 : w.cell? ⟨eb, 42, none⟩ = some (.bool false)) (h28 : w.cell? ⟨eb, 29, none⟩ = some (.slice a n c)) (hn : 0 < n) (h31 : w.cell? ⟨eb, 32, none⟩ = some (.slice (some ⟨qb, 0, none⟩) 0 cq)) (h32 : w.cell? ⟨eb, 33, none⟩ = some (.slice (some ⟨zb, 0, none⟩) 1 zc)) (le : eb < w.heap.size) :
    Calls Tryz.prog 42 #[P0 eb] w fun e w' => e = .returned (.int .i64 2) ∧ w' = w := by
  have hlv := lives_any eb n c a w h28
  have hd1 : decide (0 < n) = true := by simp; omega
  have hem := empty_any eb 32 0 cq (some ⟨qb, 0, none⟩) w h31
  have hd2 : decide ((0 : Nat) = 0) = true := rfl
  rw [hd1] at hlv
  rw [hd2] at hem
  have HLV := hid hlv
  have HEM := hid hem
  have HW := hid (waits_yes eb zb zc w h32 le)
  clear hlv hem hd1 hd2 h28 h31 h32 hn
  go_enter Tryz.func42, Tryz.ntmps42
  go_wp2_with fail
  refine HLV.out.mono ?_
  rintro e w4 ⟨rfl, rfl⟩
  go_wp2_with fail
  refine HEM.out.mono ?_
  rintro e w4 ⟨rfl, rfl⟩
  go_wp2_with fail
  refine HW.out.mono ?_
  rintro e w4 ⟨rfl, rfl⟩
  go_wp2_with fail
  go_ret
  exact ⟨rfl, rfl⟩

/-- Clock: the engine's, between lock and unlock. -/
theorem clock_face (mb eb : Nat) (x : Int) (w : World) (h0 : w.cell? ⟨mb, 0, none⟩ = some (.int .i32 0)) (f0 : w.frozen? ⟨mb, 0, none⟩ = false) (h2 : w.cell? ⟨mb, 2, none⟩ = some (P0 eb))
    (hE : Hid (Calls Tryz.prog 44 #[P0 eb] (w.setCell ⟨mb, 0, none⟩ (.int .i32 1)) fun e w' => e = .returned (.int .i64 x) ∧ w' = w.setCell ⟨mb, 0, none⟩ (.int .i32 1))) :
    Calls Tryz.prog 28 #[P0 mb] w fun e w' => e = .returned (.int .i64 x) ∧ w' = (w.setCell ⟨mb, 0, none⟩ (.int .i32 1)).setCell ⟨mb, 0, none⟩ (.int .i32 0) := by
  go_enter_defers Tryz.func28, Tryz.ntmps28
  go_wp2_with fail
  refine (lock_any mb w h0 f0).mono ?_
  rintro e w1 ⟨rfl, rfl⟩
  go_wp2_with fail
  refine hE.out.mono ?_
  rintro e w2 ⟨rfl, rfl⟩
  go_wp2_with fail
  refine leaves_cons (f := 40) (args := #[P0 mb]) (by simp) (by simp [go_sem]) ?_
  refine (unlock_deferred ⟨mb, 0, none⟩ .returning _ (by simp [go_sem, h0]) (by simp [go_sem, f0])).mono ?_
  rintro e u' w'' ⟨rfl, rfl, rfl⟩
  exact ⟨_, results_tmp rfl _ _ _, rfl, rfl⟩
end Go.Proofs.YtnjiinbhbjpfkaaGreatDoor

/-
  A machine of one task that may sleep, as the law on sleep sees it: Turn, State, Clock.
-/
namespace Go.Proofs.YtnjiinbhbjpfkaaGreatDoor
open Go.RowKit

theorem Zzz.same {w w' : World} {g : Geo} {C : List B.In} {q : Nat} {kd : B.Kd} {vb : Vs} {s : B.St} {E Tk : Nat → Value} {qb cq zb zc : Nat} {U : Int} (h : Zzz w g C q kd vb s E Tk qb cq zb zc U) (hk : ∀ k, FE (g.rows zb zc) qb kd vb k → w'.heap[k]? = w.heap[k]?) : Zzz w' g C q kd vb s E Tk qb cq zb zc U := by
  have hR : Run w' (g.rows zb zc) C q kd vb s E Tk := (h.hR.rows zb zc).same hk
  have hR' : Run w' g C q kd vb s E Tk :=
    { hK := { hT := hR.hK.hT, t0 := hR.hK.t0, t1 := hR.hK.t1, t6 := hR.hK.t6, o28 := hR.hK.o28, o29 := hR.hK.o29, oK := hR.hK.oK, hxe := hR.hK.hxe, hxt := hR.hK.hxt, hC := hR.hK.hC, hA := hR.hK.hA }
      hE := hR.hE, eE := h.hR.eE, hF := hR.hF, hS := hR.hS, hH := hR.hH, ok := hR.ok, hn := hR.hn, hp := hR.hp, hvr := hR.hvr, hro := hR.hro }
  exact { hR := hR', t2 := h.t2, t3 := h.t3, t5 := h.t5, e31 := h.e31, e32 := h.e32, nqb := h.nqb, hcq := h.hcq, nzb := h.nzb,
          o31 := own_of h.o31 (fun k hb => by
            have : qb = k := by injection hb
            subst this; exact hk _ (Or.inr (Or.inl rfl))),
          o32 := own_of h.o32 (fun k hb => hk _ (Or.inr (Or.inr (Or.inr (Or.inr hb))))) }

/-- A machine whose task waits in the queue, at a time. -/
def Mq (w : World) (mb : Nat) (F : Nat → Prop) (C : List B.In) (nr n q : Nat) (clk : Int) (s : B.St) : Prop :=
  ∃ g kd vb E Tk qb cq, g.nr = nr ∧ g.n = n ∧ g.clk = clk ∧ Que w g C q kd vb s E Tk qb cq ∧ Box w mb g.eb ∧ F mb ∧ ¬ FE g qb kd vb mb ∧ ∀ k, FE g qb kd vb k → F k
/-- A machine whose task sleeps, at a time. -/
def Ms (w : World) (mb : Nat) (F : Nat → Prop) (C : List B.In) (nr n q : Nat) (clk : Int) (s : B.St) (U : Int) : Prop :=
  ∃ g kd vb E Tk qb cq zb zc, g.nr = nr ∧ g.n = n ∧ g.clk = clk ∧ (1 ≤ q ∧ q ≤ 50) ∧ E 43 = .slice none 0 0 ∧ Zzz w g C q kd vb s E Tk qb cq zb zc U ∧ Box w mb g.eb ∧ F mb ∧ ¬ FE (g.rows zb zc) qb kd vb mb ∧ ∀ k, FE (g.rows zb zc) qb kd vb k → F k
theorem Mq.keep {w w' : World} {mb : Nat} {F : Nat → Prop} {C : List B.In} {nr n q : Nat} {clk : Int} {s : B.St} (h : Mq w mb F C nr n q clk s) (hk : ∀ k, F k → w'.heap[k]? = w.heap[k]?) : Mq w' mb F C nr n q clk s := by
  obtain ⟨g, kd, vb, E, Tk, qb, cq, h1, h2, h3, h4, ⟨x, h5⟩, h6, h7, h8⟩ := h
  exact ⟨g, kd, vb, E, Tk, qb, cq, h1, h2, h3, h4.same (fun k h => hk k (h8 k h)), ⟨x, (hk mb h6).trans h5⟩, h6, h7, h8⟩
theorem Ms.keep {w w' : World} {mb : Nat} {F : Nat → Prop} {C : List B.In} {nr n q : Nat} {clk : Int} {s : B.St} {U : Int} (h : Ms w mb F C nr n q clk s U) (hk : ∀ k, F k → w'.heap[k]? = w.heap[k]?) : Ms w' mb F C nr n q clk s U := by
  obtain ⟨g, kd, vb, E, Tk, qb, cq, zb, zc, h1, h2, h3, hq, h42, h4, ⟨x, h5⟩, h6, h7, h8⟩ := h
  exact ⟨g, kd, vb, E, Tk, qb, cq, zb, zc, h1, h2, h3, hq, h42, h4.same (fun k h => hk k (h8 k h)), ⟨x, (hk mb h6).trans h5⟩, h6, h7, h8⟩

/-- What a turn leaves of a machine that may sleep. -/
def Tp (w w' : World) (mb : Nat) (F : Nat → Prop) (C : List B.In) (nr n q : Nat) (clk : Int) (s : B.St) (v : Value) : Prop :=
  ∃ F' s' r ev ad len cap, v = .slice ad len cap ∧ len ≤ maxLen ∧ Evs w' ad len ev ∧ Only F w w' ∧ (∀ k, F' k → F k ∨ (w.heap.size ≤ k ∧ k < w'.heap.size)) ∧ B.Runs2 clk C nr n q s s' r ev ∧
    (r = 4 → ∃ a, C[s'.1 - 1]? = some (17, a, 0, 0) ∧ (s'.2.1 a).1 = 0 ∧ Ms w' mb F' C nr n q clk s' (B.aft clk (s'.2.1 a).2))

theorem tp_of {w w1 : World} {mb : Nat} {F : Nat → Prop} {g : Geo} {C : List B.In} {q : Nat} {kd : B.Kd} {vb : Vs} {s : B.St} {qb cq : Nat} {v x : Value} (hq : 1 ≤ q ∧ q ≤ 50) (hB : w.heap[mb]? = some (.cells #[.int .i32 0, x, P0 g.eb] 105 (0, 0))) (hF : F mb) (hN : ¬ FE g qb kd vb mb) (hFE : ∀ k, FE g qb kd vb k → F k)
    (h : Etd (w.setCell ⟨mb, 0, none⟩ (.int .i32 1)) w1 g C q kd vb s qb cq v) : Tp w (w1.setCell ⟨mb, 0, none⟩ (.int .i32 0)) mb F C g.nr g.n q g.clk s v := by
  obtain ⟨s', kd1, r, ev, ad, ne, cap, rfl, a1', a2, a3, a4⟩ := h
  have a1 := B.runs_two _ _ _ _ _ _ _ a1'
  have lm := heap_lt hB
  have hB1 : (w.setCell ⟨mb, 0, none⟩ (.int .i32 1)).heap[mb]? = some (.cells #[.int .i32 1, x, P0 g.eb] 105 (0, 0)) := by simp [World.setCell, Array.getElem?_modify, hB]
  have hz1 : (w.setCell ⟨mb, 0, none⟩ (.int .i32 1)).heap.size = w.heap.size := by simp [World.setCell]
  have hb := a2.block hB1 hN
  have hz2 := a2.size
  have hz3 : (w1.setCell ⟨mb, 0, none⟩ (.int .i32 0)).heap.size = w1.heap.size := by simp [World.setCell]
  have hB2 : Box (w1.setCell ⟨mb, 0, none⟩ (.int .i32 0)) mb g.eb := ⟨x, by simp [World.setCell, Array.getElem?_modify, hb]⟩
  have hO : Only F w (w1.setCell ⟨mb, 0, none⟩ (.int .i32 0)) :=
    only_setCell ((only_setCell (S := F) (only_refl F w) (Or.inl hF) _).trans a2 (fun k h _ => hFE k h)) (Or.inl hF) _
  obtain ⟨hev, hml⟩ := evs_of (own_of (w' := w1.setCell ⟨mb, 0, none⟩ (.int .i32 0)) a3 (fun k hk => Below.heap_setCell _ _ _ _ (by show k ≠ mb; have := (own_ty a3 k hk).1; omega)))
  by_cases hr4 : r = 4
  · rcases a4 with ⟨h0, _⟩ | ⟨_, E', hE, hf, h42, hz⟩
    · omega
    · obtain ⟨vb', ⟨Tk', zb, zc, U, a, b1, b2, b2', b30, b5⟩, b40⟩ := hz hr4
      obtain ⟨kd', b3, b4⟩ : ∃ kd', Zzz w1 g C q kd' vb' s' E' Tk' qb cq zb zc U ∧ Grew g.n kd vb kd' vb' (w.setCell ⟨mb, 0, none⟩ (.int .i32 1)).heap.size := ⟨_, b30, b40⟩
      have hlz := (own_ty b3.o32 zb rfl).2.1
      have hN2 : ¬ FE (g.rows zb zc) qb kd' vb' mb := by
        rintro (h | h | h | h | h)
        · exact hN (Or.inl h)
        · exact hN (Or.inr (Or.inl h))
        · exact hN (Or.inr (Or.inr (Or.inl h)))
        · rcases b4 mb h with x1 | x1
          · exact hN (Or.inr (Or.inr (Or.inr (Or.inl x1))))
          · omega
        · have hzm : zb = mb := by injection h
          rcases b5 with b5 | b5
          · exact hN (Or.inr (Or.inr (Or.inr (Or.inr (hzm ▸ b5)))))
          · omega
      refine ⟨fun k => k = mb ∨ FE (g.rows zb zc) qb kd' vb' k, s', r, ev, ad, ne, cap, rfl, hml, hev, hO, ?_, a1, fun _ => ⟨a, b1, b2', g, kd', vb', E', Tk', qb, cq, zb, zc, rfl, rfl, rfl, hq, h42, (b2 ▸ b3).same (fun k hk => Below.heap_setCell _ _ _ _ (fun e => hN2 ((show k = mb from e) ▸ hk))), hB2, Or.inl rfl, hN2, fun k hk => Or.inr hk⟩⟩
      rintro k (rfl | h | h | h | h | h)
      · exact Or.inl hF
      · exact Or.inl (hFE k (Or.inl h))
      · exact Or.inl (hFE k (Or.inr (Or.inl h)))
      · exact Or.inl (hFE k (Or.inr (Or.inr (Or.inl h))))
      · rcases b4 k h with x1 | x1
        · exact Or.inl (hFE k (Or.inr (Or.inr (Or.inr (Or.inl x1)))))
        · have := b3.hR.lt.2.2.2.2.2.2.2.2.2.2 k h
          exact Or.inr (by omega)
      · have hzm : zb = k := by injection h
        rcases b5 with b5 | b5
        · exact Or.inl (hFE k (Or.inr (Or.inr (Or.inr (Or.inr (hzm ▸ b5))))))
        · exact Or.inr (by omega)
  · exact ⟨fun _ => False, s', r, ev, ad, ne, cap, rfl, hml, hev, hO, fun k h => h.elim, a1, fun h => absurd h hr4⟩

theorem turnS_q {w : World} {mb : Nat} {F : Nat → Prop} {C : List B.In} {nr n q : Nat} {clk : Int} {s : B.St} (tk : Int) (h : Mq w mb F C nr n q clk s) :
    Calls Tryz.prog 24 #[P0 mb, .int .i64 tk, .slice none 0 0] w fun e w' => ∃ v, e = .returned v ∧ Tp w w' mb F C nr n q (B.aft clk tk) s v := by
  obtain ⟨g, kd, vb, E, Tk, qb, cq, rfl, rfl, rfl, hQ, ⟨x, hB⟩, hF, hN, hFE⟩ := h
  have h0 : w.cell? ⟨mb, 0, none⟩ = some (.int .i32 0) := by simp [World.cell?, hB]
  have f0 : w.frozen? ⟨mb, 0, none⟩ = false := by simp [World.frozen?, hB]
  have h2 : w.cell? ⟨mb, 2, none⟩ = some (P0 g.eb) := by simp [World.cell?, hB]
  have hQ1 : Que (w.setCell ⟨mb, 0, none⟩ (.int .i32 1)) g C q kd vb s E Tk qb cq := hQ.same (fun k hk => Below.heap_setCell _ _ _ _ (fun e => hN ((show k = mb from e) ▸ hk)))
  have hB1 : (w.setCell ⟨mb, 0, none⟩ (.int .i32 1)).heap[mb]? = some (.cells #[.int .i32 1, x, P0 g.eb] 105 (0, 0)) := by simp [World.setCell, Array.getElem?_modify, hB]
  refine (turn_face mb g.eb tk _ rfl w h0 f0 h2 (fun v w1 => Etd (w.setCell ⟨mb, 0, none⟩ (.int .i32 1)) w1 (g.tick (B.aft g.clk tk)) C q kd vb s qb cq v) ?_).mono ?_
  · refine (eturn_any tk g C q kd vb s E Tk qb cq _ hQ1).mono ?_
    rintro e w1 ⟨v, rfl, hE⟩
    obtain ⟨s', kd1, r, ev, ad, ne, cap, rfl, a1, a2, a3, a4⟩ := hE
    have hb := a2.block hB1 hN
    exact ⟨ad, ne, cap, rfl, by simp [World.cell?, hb], by simp [World.frozen?, hb], s', kd1, r, ev, ad, ne, cap, rfl, a1, a2, a3, a4⟩
  · rintro e w' ⟨v, w1, rfl, hE, rfl⟩
    exact ⟨v, rfl, tp_of (g := g.tick (B.aft g.clk tk)) hQ.hq hB hF hN hFE hE⟩

theorem turnS_due {w : World} {mb : Nat} {F : Nat → Prop} {C : List B.In} {nr n q : Nat} {clk U : Int} {s : B.St} (tk : Int) (h : Ms w mb F C nr n q clk s U) (hU : U ≤ B.aft clk tk) :
    Calls Tryz.prog 24 #[P0 mb, .int .i64 tk, .slice none 0 0] w fun e w' => ∃ v, e = .returned v ∧ Tp w w' mb F C nr n q (B.aft clk tk) s v := by
  obtain ⟨g, kd, vb, E, Tk, qb, cq, zb, zc, rfl, rfl, rfl, hq, h42, hZ, ⟨x, hB⟩, hF, hN, hFE⟩ := h
  have h0 : w.cell? ⟨mb, 0, none⟩ = some (.int .i32 0) := by simp [World.cell?, hB]
  have f0 : w.frozen? ⟨mb, 0, none⟩ = false := by simp [World.frozen?, hB]
  have h2 : w.cell? ⟨mb, 2, none⟩ = some (P0 g.eb) := by simp [World.cell?, hB]
  have hZ1 : Zzz (w.setCell ⟨mb, 0, none⟩ (.int .i32 1)) g C q kd vb s E Tk qb cq zb zc U := hZ.same (fun k hk => Below.heap_setCell _ _ _ _ (fun e => hN ((show k = mb from e) ▸ hk)))
  have hB1 : (w.setCell ⟨mb, 0, none⟩ (.int .i32 1)).heap[mb]? = some (.cells #[.int .i32 1, x, P0 g.eb] 105 (0, 0)) := by simp [World.setCell, Array.getElem?_modify, hB]
  refine (turn_face mb g.eb tk _ rfl w h0 f0 h2 (fun v w1 => Etd (w.setCell ⟨mb, 0, none⟩ (.int .i32 1)) w1 ((g.tick (B.aft g.clk tk)).rows zb zc) C q kd vb s qb cq v) ?_).mono ?_
  · refine (eturn_due tk g C q kd vb s E Tk qb cq zb zc U _ hZ1 hq h42 hU).mono ?_
    rintro e w1 ⟨v, rfl, hE⟩
    obtain ⟨s', kd1, r, ev, ad, ne, cap, rfl, a1, a2, a3, a4⟩ := hE
    have hb := a2.block hB1 hN
    exact ⟨ad, ne, cap, rfl, by simp [World.cell?, hb], by simp [World.frozen?, hb], s', kd1, r, ev, ad, ne, cap, rfl, a1, a2, a3, a4⟩
  · rintro e w' ⟨v, w1, rfl, hE, rfl⟩
    exact ⟨v, rfl, tp_of (g := (g.tick (B.aft g.clk tk)).rows zb zc) hq hB hF hN hFE hE⟩

theorem turnS_not {w : World} {mb : Nat} {F : Nat → Prop} {C : List B.In} {nr n q : Nat} {clk U : Int} {s : B.St} (tk : Int) (h : Ms w mb F C nr n q clk s U) (hU : ¬ U ≤ B.aft clk tk) :
    Calls Tryz.prog 24 #[P0 mb, .int .i64 tk, .slice none 0 0] w fun e w' => e = .returned (.slice none 0 0) ∧ Only F w w' ∧ ∃ F', (∀ k, F' k → F k ∨ (w.heap.size ≤ k ∧ k < w'.heap.size)) ∧ Ms w' mb F' C nr n q (B.aft clk tk) s U := by
  obtain ⟨g, kd, vb, E, Tk, qb, cq, zb, zc, rfl, rfl, rfl, hq, h42, hZ, ⟨x, hB⟩, hF, hN, hFE⟩ := h
  have h0 : w.cell? ⟨mb, 0, none⟩ = some (.int .i32 0) := by simp [World.cell?, hB]
  have f0 : w.frozen? ⟨mb, 0, none⟩ = false := by simp [World.frozen?, hB]
  have h2 : w.cell? ⟨mb, 2, none⟩ = some (P0 g.eb) := by simp [World.cell?, hB]
  have lm := heap_lt hB
  have hsF : ∀ k, (k = g.eb ∨ Sbk g.sb g.pb g.n kd vb k) → FE (g.rows zb zc) qb kd vb k := by
    rintro k (h | h | h | h)
    · exact Or.inl (Or.inl h)
    · exact Or.inl (Or.inr (Or.inr (Or.inr (Or.inr (Or.inr (Or.inr (Or.inr (Or.inr (Or.inr (Or.inr (Or.inl h)))))))))))
    · exact Or.inl (Or.inr (Or.inr (Or.inr (Or.inr (Or.inr (Or.inr (Or.inr (Or.inr (Or.inr (Or.inr (Or.inr (h))))))))))))
    · exact Or.inr (Or.inr (Or.inr (Or.inl h)))
  have hme : ¬ (mb = g.eb ∨ Sbk g.sb g.pb g.n kd vb mb) := fun h => hN (hsF mb h)
  have hZ1 : Zzz (w.setCell ⟨mb, 0, none⟩ (.int .i32 1)) g C q kd vb s E Tk qb cq zb zc U := hZ.same (fun k hk => Below.heap_setCell _ _ _ _ (fun e => hN ((show k = mb from e) ▸ hk)))
  have hB1 : (w.setCell ⟨mb, 0, none⟩ (.int .i32 1)).heap[mb]? = some (.cells #[.int .i32 1, x, P0 g.eb] 105 (0, 0)) := by simp [World.setCell, Array.getElem?_modify, hB]
  have hz1 : (w.setCell ⟨mb, 0, none⟩ (.int .i32 1)).heap.size = w.heap.size := by simp [World.setCell]
  refine (turn_face mb g.eb tk _ rfl w h0 f0 h2 (fun v w1 => v = .slice none 0 0 ∧ Only (fun k => k = g.eb ∨ Sbk g.sb g.pb g.n kd vb k) (w.setCell ⟨mb, 0, none⟩ (.int .i32 1)) w1 ∧ ∃ kd' vb' E', E' 43 = .slice none 0 0 ∧ Zzz w1 (g.tick (B.aft g.clk tk)) C q kd' vb' s E' Tk qb cq zb zc U ∧ Grew g.n kd vb kd' vb' (w.setCell ⟨mb, 0, none⟩ (.int .i32 1)).heap.size) ?_).mono ?_
  · refine (eturn_not tk g C q kd vb s E Tk qb cq zb zc U _ hZ1 h42 hU).mono ?_
    rintro e w1 ⟨rfl, hO, vb', E', hE1, hE2, hE3⟩
    have hb := hO.block hB1 hme
    exact ⟨none, 0, 0, rfl, by simp [World.cell?, hb], by simp [World.frozen?, hb], rfl, hO, _, vb', E', hE1, hE2, hE3⟩
  · rintro e w' ⟨v, w1, rfl, ⟨rfl, hO, kd', vb', E', hE42, hE, hv⟩, rfl⟩
    have hb := hO.block hB1 hme
    have hz2 := hO.size
    have hz3 : (w1.setCell ⟨mb, 0, none⟩ (.int .i32 0)).heap.size = w1.heap.size := by simp [World.setCell]
    have hN2 : ¬ FE (g.rows zb zc) qb kd' vb' mb := by
      rintro (h | h | h | h | h)
      · exact hN (Or.inl h)
      · exact hN (Or.inr (Or.inl h))
      · exact hN (Or.inr (Or.inr (Or.inl h)))
      · rcases hv mb h with x1 | x1
        · exact hN (Or.inr (Or.inr (Or.inr (Or.inl x1))))
        · omega
      · exact hN (Or.inr (Or.inr (Or.inr (Or.inr h))))
    refine ⟨rfl, ?_, fun k => k = mb ∨ FE (g.rows zb zc) qb kd' vb' k, ?_, g.tick (B.aft g.clk tk), kd', vb', E', Tk, qb, cq, zb, zc, rfl, rfl, rfl, hq, hE42, hE.same (fun k hk => Below.heap_setCell _ _ _ _ (fun e => hN2 ((show k = mb from e) ▸ hk))), ⟨x, by simp [World.setCell, Array.getElem?_modify, hb]; rfl⟩, Or.inl rfl, hN2, fun k hk => Or.inr hk⟩
    · exact only_setCell ((only_setCell (S := F) (only_refl F w) (Or.inl hF) _).trans hO (fun k h _ => hFE k (hsF k h))) (Or.inl hF) _
    · rintro k (rfl | h | h | h | h | h)
      · exact Or.inl hF
      · exact Or.inl (hFE k (Or.inl h))
      · exact Or.inl (hFE k (Or.inr (Or.inl h)))
      · exact Or.inl (hFE k (Or.inr (Or.inr (Or.inl h))))
      · rcases hv k h with x1 | x1
        · exact Or.inl (hFE k (Or.inr (Or.inr (Or.inr (Or.inl x1)))))
        · have := hE.hR.lt.2.2.2.2.2.2.2.2.2.2 k h
          exact Or.inr (by omega)
      · exact Or.inl (hFE k (Or.inr (Or.inr (Or.inr (Or.inr h)))))

theorem stateS {w : World} {mb : Nat} {F : Nat → Prop} {C : List B.In} {nr n q : Nat} {clk U : Int} {s : B.St} (h : Ms w mb F C nr n q clk s U) :
    Calls Tryz.prog 25 #[P0 mb] w fun e w' => e = .returned (.int .i64 2) ∧ Only F w w' ∧ Ms w' mb F C nr n q clk s U := by
  have hK := h
  obtain ⟨g, kd, vb, E, Tk, qb, cq, zb, zc, rfl, rfl, rfl, hq, h42, hZ, ⟨x, hB⟩, hF, hN, hFE⟩ := h
  have h0 : w.cell? ⟨mb, 0, none⟩ = some (.int .i32 0) := by simp [World.cell?, hB]
  have f0 : w.frozen? ⟨mb, 0, none⟩ = false := by simp [World.frozen?, hB]
  have h2 : w.cell? ⟨mb, 2, none⟩ = some (P0 g.eb) := by simp [World.cell?, hB]
  have hZ1 : Zzz (w.setCell ⟨mb, 0, none⟩ (.int .i32 1)) g C q kd vb s E Tk qb cq zb zc U := hZ.same (fun k hk => Below.heap_setCell _ _ _ _ (fun e => hN ((show k = mb from e) ▸ hk)))
  refine (state_face mb g.eb 2 w h0 f0 h2 ?_).mono ?_
  · exact estate_slp g.eb zb zc qb cq 1 g.cl (some ⟨g.lb, 0, none⟩) _ ((hZ1.hR.hE.cell 42 (by omega)).trans (by rw [hZ1.hR.eE.e41])) ((hZ1.hR.hE.cell 29 (by omega)).trans (by rw [hZ1.hR.eE.e28])) (by omega) ((hZ1.hR.hE.cell 32 (by omega)).trans (by rw [hZ1.e31])) ((hZ1.hR.hE.cell 33 (by omega)).trans (by rw [hZ1.e32])) hZ1.hR.hE.lt
  · rintro e w' ⟨rfl, rfl⟩
    have hw : ((w.setCell ⟨mb, 0, none⟩ (.int .i32 1)).setCell ⟨mb, 0, none⟩ (.int .i32 0)).heap[mb]? = w.heap[mb]? := by simp [World.setCell, Array.getElem?_modify, hB]
    refine ⟨rfl, only_setCell (only_setCell (only_refl F w) (Or.inl hF) _) (Or.inl hF) _, hK.keep (fun k _ => ?_)⟩
    by_cases e : k = mb
    · rw [e]; exact hw
    · exact (Below.heap_setCell _ _ _ _ e).trans (Below.heap_setCell _ _ _ _ e)

theorem clockS {w : World} {mb : Nat} {F : Nat → Prop} {C : List B.In} {nr n q : Nat} {clk U : Int} {s : B.St} (h : Ms w mb F C nr n q clk s U) :
    Calls Tryz.prog 28 #[P0 mb] w fun e w' => e = .returned (.int .i64 clk) ∧ Only F w w' ∧ Ms w' mb F C nr n q clk s U := by
  have hK := h
  obtain ⟨g, kd, vb, E, Tk, qb, cq, zb, zc, rfl, rfl, rfl, hq, h42, hZ, ⟨x, hB⟩, hF, hN, hFE⟩ := h
  have h0 : w.cell? ⟨mb, 0, none⟩ = some (.int .i32 0) := by simp [World.cell?, hB]
  have f0 : w.frozen? ⟨mb, 0, none⟩ = false := by simp [World.frozen?, hB]
  have h2 : w.cell? ⟨mb, 2, none⟩ = some (P0 g.eb) := by simp [World.cell?, hB]
  have hZ1 : Zzz (w.setCell ⟨mb, 0, none⟩ (.int .i32 1)) g C q kd vb s E Tk qb cq zb zc U := hZ.same (fun k hk => Below.heap_setCell _ _ _ _ (fun e => hN ((show k = mb from e) ▸ hk)))
  refine (clock_face mb g.eb g.clk w h0 f0 h2 ?_).mono ?_
  · exact eclock_any g.eb g.clk _ ((hZ1.hR.hE.cell 28 (by omega)).trans (by rw [hZ1.hR.eE.e27]))
  · rintro e w' ⟨rfl, rfl⟩
    have hw : ((w.setCell ⟨mb, 0, none⟩ (.int .i32 1)).setCell ⟨mb, 0, none⟩ (.int .i32 0)).heap[mb]? = w.heap[mb]? := by simp [World.setCell, Array.getElem?_modify, hB]
    refine ⟨rfl, only_setCell (only_setCell (only_refl F w) (Or.inl hF) _) (Or.inl hF) _, hK.keep (fun k _ => ?_)⟩
    by_cases e : k = mb
    · rw [e]; exact hw
    · exact (Below.heap_setCell _ _ _ _ e).trans (Below.heap_setCell _ _ _ _ e)
end Go.Proofs.YtnjiinbhbjpfkaaGreatDoor

/-
  The program of the law Asleep on the machine of one task.
-/
namespace Go.Proofs.YtnjiinbhbjpfkaaGreatDoor

namespace B
def slpC (h l : Nat) : List In := [(0, 2, h, l), (17, 2, 0, 0), (22, 2, 0, 0), (20, 2, 0, 0), (7, 0, 0, 0)]
/-- Where the program stands when it sleeps. -/
def slpI (h l : Nat) (s : St) : Prop := s.1 = 2 ∧ s.2.1 2 = (0, wide h l)

/-- Num, then Sleep. -/
theorem slp_tail {h l nr n m : Nat} {clk : Int} {R : Nat → V} {M : Nat → List V} {s' : St} {r : Nat} {ev : List Ev} (hR : Runs2 clk (slpC h l) nr n (m + 2) (0, R, M) s' r ev) : r = 4 ∧ ev = [] ∧ slpI h l s' := by
  obtain ⟨s1, r1, ev1, h1, h2⟩ := hR
  obtain ⟨rfl, rfl, rfl⟩ : r1 = 0 ∧ ev1 = [] ∧ s1 = (0 + 1, set R 2 (0, wide h l), M) := h1
  rcases h2 with ⟨_, ev2, h3, rfl⟩ | ⟨h3, _⟩
  · obtain ⟨s2, r2, ev3, h4, h5⟩ := h3
    have h6 : (if (set R 2 (0, wide h l) 2).1 = 0 then r2 = 4 ∧ ev3 = [] ∧ s2 = (0 + 1 + 1, set R 2 (0, wide h l), M) else r2 = 3) := h4
    rw [set_at, if_pos rfl] at h6
    obtain ⟨rfl, rfl, rfl⟩ := h6
    rcases h5 with ⟨h7, _⟩ | ⟨_, rfl, rfl, h8⟩
    · omega
    · have := h8 rfl
      subst this
      exact ⟨rfl, rfl, rfl, by show set R 2 (0, wide h l) 2 = _; exact set_at _ _ _⟩
  · exact absurd rfl h3
/-- From its beginning it sleeps at once. -/
theorem slp_first {h l nr n : Nat} {clk : Int} {s s' : St} {r : Nat} {ev : List Ev} (h0 : s.1 = 0) (hR : Runs2 clk (slpC h l) nr n 9 s s' r ev) : r = 4 ∧ ev = [] ∧ slpI h l s' := by
  obtain ⟨pc, R, M⟩ := s
  simp only at h0
  subst h0
  exact slp_tail (m := 7) hR
/-- When it wakes it tells the time, and sleeps again. -/
theorem slp_next {h l nr n : Nat} {clk : Int} {s s' : St} {r : Nat} {ev : List Ev} (hI : slpI h l s) (hR : Runs2 clk (slpC h l) nr n 9 s s' r ev) : r = 4 ∧ ev = [(1, clk)] ∧ slpI h l s' := by
  obtain ⟨pc, R, M⟩ := s
  obtain ⟨h0, _⟩ := hI
  simp only at h0
  subst h0
  obtain ⟨s1, r1, ev1, h1, h2⟩ := hR
  obtain ⟨rfl, rfl, rfl⟩ : r1 = 0 ∧ ev1 = [] ∧ s1 = (2 + 1, set R 2 (0, clk), M) := h1
  rcases h2 with ⟨_, ev2, h3, rfl⟩ | ⟨h3, _⟩
  · obtain ⟨s2, r2, ev3, h4, h5⟩ := h3
    have h6 : (if (set R 2 (0, clk) 2).1 = 0 then r2 = 0 ∧ ev3 = [(1, (set R 2 (0, clk) 2).2)] ∧ s2 = (2 + 1 + 1, set R 2 (0, clk), M) else r2 = 3) := h4
    rw [set_at, if_pos rfl] at h6
    obtain ⟨rfl, rfl, rfl⟩ := h6
    rcases h5 with ⟨_, ev4, h7, rfl⟩ | ⟨h7, _⟩
    · obtain ⟨s3, r3, ev5, h8, h9⟩ := h7
      obtain ⟨rfl, rfl, rfl⟩ : r3 = 0 ∧ ev5 = [] ∧ s3 = (256 * 0 + 0, set R 2 (0, clk), M) := h8
      rcases h9 with ⟨_, ev6, h10, rfl⟩ | ⟨h10, _⟩
      · obtain ⟨a, b, c⟩ := slp_tail (m := 4) h10
        subst b
        exact ⟨a, rfl, c⟩
      · exact absurd rfl h10
    · exact absurd rfl h7
  · exact absurd rfl h3
/-- Until when it sleeps. -/
theorem slp_until {h l n : Nat} (hn : 256 * h + l = n) (hn2 : n < 65536) {c : Int} (h0 : 0 ≤ c) (h1 : c ≤ 9223372036854775807) :
    aft c (wide h l) = if c ≤ 9223372036854775807 - (if n > 32767 then (0 : Int) else n) then c + (if n > 32767 then (0 : Int) else n) else 9223372036854775807 := by
  by_cases hb : n > 32767
  · have hW : wide h l = (n : Int) - 65536 := by unfold wide; rw [hn, if_neg (by omega)]
    rw [hW]
    unfold aft
    simp only [if_pos hb]
    rw [if_pos (show (n : Int) - 65536 ≤ 0 by omega), if_pos (show c ≤ 9223372036854775807 - (0 : Int) by omega)]; omega
  · have hW : wide h l = (n : Int) := by unfold wide; rw [hn, if_pos (by omega)]
    rw [hW]
    unfold aft
    simp only [if_neg hb]
    by_cases hz : n = 0
    · rw [if_pos (show (n : Int) ≤ 0 by omega), if_pos (show c ≤ 9223372036854775807 - (n : Int) by omega)]; omega
    · rw [if_neg (show ¬ (n : Int) ≤ 0 by omega)]
      by_cases hc : c ≤ 9223372036854775807 - (n : Int)
      · rw [if_pos (show (n : Int) ≤ 9223372036854775807 - c by omega), if_pos hc]
      · rw [if_neg (show ¬ (n : Int) ≤ 9223372036854775807 - c by omega), if_neg hc]
/-- The time as the law reckons it. -/
theorem aft_law (c t : Int) : aft c t = if t > 0 then (if c > 9223372036854775807 - t then 9223372036854775807 else c + t) else c := by
  unfold aft
  by_cases h : t ≤ 0
  · rw [if_pos h, if_neg (by omega)]
  · by_cases h2 : t ≤ 9223372036854775807 - c
    · rw [if_neg h, if_pos h2, if_pos (show t > 0 by omega), if_neg (show ¬ c > 9223372036854775807 - t by omega)]
    · rw [if_neg h, if_neg h2, if_pos (show t > 0 by omega), if_pos (show c > 9223372036854775807 - t by omega)]
end B
theorem okSlp {h l : Nat} (hh : h < 256) (hl : l < 256) : okCode2 3 (B.slpC h l) := by
  refine ⟨by omega, by omega, by show 1 ≤ 5; omega, by show 5 ≤ 200; omega, ?_⟩
  simp [B.slpC, okIn2, okIn]
  omega
end Go.Proofs.YtnjiinbhbjpfkaaGreatDoor

/-
  The law Asleep answers true for every input.
-/
namespace Go.Proofs.YtnjiinbhbjpfkaaGreatDoor
open Go.RowKit

/-- How the machine stands ahead of the turn I. -/
def slpS (wr : World) (mb : Nat) (F : Nat → Prop) (h l I : Nat) (N U : Int) : Prop :=
  (I = 0 ∧ N = 0 ∧ Mq wr mb F (B.slpC h l) 3 1 9 N (0, fun _ => (0, 0), fun _ => [])) ∨ (0 < I ∧ ∃ s, B.slpI h l s ∧ Ms wr mb F (B.slpC h l) 3 1 9 N s U)
theorem slpS.keep {w w' : World} {mb : Nat} {F : Nat → Prop} {h l I : Nat} {N U : Int} (hs : slpS w mb F h l I N U) (hk : ∀ k, F k → w'.heap[k]? = w.heap[k]?) : slpS w' mb F h l I N U := by
  rcases hs with ⟨a, b, c⟩ | ⟨a, s, b, c⟩
  · exact Or.inl ⟨a, b, c.keep hk⟩
  · exact Or.inr ⟨a, s, b, c.keep hk⟩

theorem slp_turn_any (h l I mb b : Nat) (F : Nat → Prop) (N U t : Int) (w0 w : World) (hS : slpS w mb F h l I N U) (hB : Below b w0 w) (hF : ∀ k, F k → b ≤ k ∧ k < w.heap.size) (hb : b ≤ w.heap.size) :
    Calls Tryz.prog 24 #[P0 mb, .int .i64 t, .slice none 0 0] w fun e w' => ∃ (F' : Nat → Prop) (s' : B.St) (ad : Option Addr) (len cap : Nat), e = .returned (.slice ad len cap) ∧ Hid (Below b w0 w') ∧ Hid (∀ k, F' k → b ≤ k ∧ k < w'.heap.size) ∧ Hid (B.slpI h l s') ∧
      ((I = 0 ∧ len = 0 ∧ Hid (Ms w' mb F' (B.slpC h l) 3 1 9 (B.aft N t) s' (B.aft (B.aft N t) (B.wide h l)))) ∨
       (0 < I ∧ ¬ U ≤ B.aft N t ∧ len = 0 ∧ Hid (Ms w' mb F' (B.slpC h l) 3 1 9 (B.aft N t) s' U)) ∨
       (0 < I ∧ U ≤ B.aft N t ∧ len = 1 ∧ (∃ g, ad = some ⟨g, 0, none⟩ ∧ g < w'.heap.size ∧ w'.cell? ⟨g, 0, none⟩ = some (.int .i64 1) ∧ w'.cell? ⟨g, 1, none⟩ = some (.int .i64 1) ∧ w'.cell? ⟨g, 2, none⟩ = some (.int .i64 (B.aft N t))) ∧ Hid (Ms w' mb F' (B.slpC h l) 3 1 9 (B.aft N t) s' (B.aft (B.aft N t) (B.wide h l))))) := by
  have hFF : ∀ (w' : World) (F' : Nat → Prop), Only F w w' → (∀ k, F' k → F k ∨ (w.heap.size ≤ k ∧ k < w'.heap.size)) → ∀ k, F' k → b ≤ k ∧ k < w'.heap.size := by
    intro w' F' hO h k hk
    rcases h k hk with h | h
    · have := hF k h; have := hO.size; omega
    · omega
  rcases hS with ⟨hI, _, hM⟩ | ⟨hI, s, hs, hM⟩
  · refine (turnS_q t hM).mono ?_
    rintro e w' ⟨v, rfl, F', s', r, ev, ad, len, cap, rfl, hml, hev, hO, hF', hR, hr⟩
    obtain ⟨rfl, rfl, hi⟩ := B.slp_first rfl hR
    obtain ⟨a, h1, h2, h3⟩ := hr rfl
    have ha : a = 2 := by
      rw [hi.1] at h1
      have : (some (17, 2, 0, 0) : Option B.In) = some (17, a, 0, 0) := h1
      injection this with this
      injection this with _ this
      injection this with this _
      exact this.symm
    subst ha
    rw [hi.2] at h3
    exact ⟨F', s', ad, len, cap, rfl, Only.below hB hO (fun k hk => (hF k hk).1) hb, hFF w' F' hO hF', hi, Or.inl ⟨hI, hev.1, h3⟩⟩
  · by_cases hU : U ≤ B.aft N t
    · refine (turnS_due t hM hU).mono ?_
      rintro e w' ⟨v, rfl, F', s', r, ev, ad, len, cap, rfl, hml, hev, hO, hF', hR, hr⟩
      obtain ⟨rfl, rfl, hi⟩ := B.slp_next hs hR
      obtain ⟨a, h1, h2, h3⟩ := hr rfl
      have ha : a = 2 := by
        rw [hi.1] at h1
        have : (some (17, 2, 0, 0) : Option B.In) = some (17, a, 0, 0) := h1
        injection this with this
        injection this with _ this
        injection this with this _
        exact this.symm
      subst ha
      rw [hi.2] at h3
      obtain ⟨g, hg1, hg2, hg3⟩ := hev.cells (by simp)
      obtain ⟨c0, c1, c2⟩ := hg3 0 _ rfl
      exact ⟨F', s', ad, len, cap, rfl, Only.below hB hO (fun k hk => (hF k hk).1) hb, hFF w' F' hO hF', hi, Or.inr (Or.inr ⟨hI, hU, hev.1, ⟨g, hg1, hg2, c0, c1, c2⟩, h3⟩)⟩
    · refine (turnS_not t hM hU).mono ?_
      rintro e w' ⟨rfl, hO, F', hF', hM'⟩
      exact ⟨F', s, none, 0, 0, rfl, Only.below hB hO (fun k hk => (hF k hk).1) hb, hFF w' F' hO hF', hs, Or.inr (Or.inl ⟨hI, hU, rfl, hM'⟩)⟩

theorem slp_bytes {h l : Nat} (hh : h < 256) (hl : l < 256) : ∀ j, j < 4 * 5 → ([0, 2, h, l, 17, 2, 0, 0, 22, 2, 0, 0, 20, 2, 0, 0, 7, 0, 0, 0] : List Nat).getD j 0 < 256 := by
  intro j hj
  have : ∀ y, y ∈ ([0, 2, h, l, 17, 2, 0, 0, 22, 2, 0, 0, 20, 2, 0, 0, 7, 0, 0, 0] : List Nat) → y < 256 := by simp; omega
  rw [List.getD_eq_getElem?_getD]
  cases hc : ([0, 2, h, l, 17, 2, 0, 0, 22, 2, 0, 0, 20, 2, 0, 0, 7, 0, 0, 0] : List Nat)[j]? with
  | none => simp
  | some y => exact this y (List.mem_of_getElem? hc)

set_option maxRecDepth 100000 in
set_option maxHeartbeats 4000000 in
theorem asleep_any (x0 : Int) (h0 : -9223372036854775808 ≤ x0 ∧ x0 ≤ 9223372036854775807) (ad : Option Addr) (len cap : Nat) (zs : Nat → Int) (w : World) (hG : Tab w) (hlen : len ≤ 9223372036854775807) (hzs : ∀ a, ad = some a → ∀ i, i < len → a.block < w.heap.size ∧ w.cell? (a.add i) = some (.int .i64 (zs i))) (hnone : ad = none → len = 0) (hin : ∀ i, i < len → -9223372036854775808 ≤ zs i ∧ zs i ≤ 9223372036854775807) :
    Calls Tryz.prog 10 #[.int .i64 x0, .slice ad len cap] w fun e w' => e = .returned (.bool true) ∧ Below w.heap.size w w' := by
  have HG : Hid (Tab w) := hG
  have HZ := hid hzs
  have HN := hid hnone
  have HIN := hid hin
  clear hG hzs hnone hin
  go_enter Tryz.func10, Tryz.ntmps10
  go_wp2_with fail
  refine (emits_any iface w HG.out).mono ?_
  rintro e w1 ⟨rfl, hB1⟩
  have KB1 : Hid (Below w.heap.size w w1) := hB1
  clear hB1
  go_wp2_with fail
  refine (pick_any x0 65536 (by omega) (by omega) h0.1 h0.2 w1).mono ?_
  rintro e w1' ⟨rfl, rfl⟩
  have ha := pk_lt x0 65536 (by omega)
  generalize pk x0 65536 = a at *
  obtain ⟨h, l, rfl, hh, hl⟩ : ∃ h l, 256 * h + l = a ∧ h < 256 ∧ l < 256 := ⟨a / 256, a % 256, by omega, by omega, by omega⟩
  have hdv : (256 * (h : Int) + (l : Int)) / 256 = (h : Int) := by omega
  have hmd : (l : Int) % 256 = (l : Int) := by omega
  have hmd2 : (256 * (h : Int) + (l : Int)) % 256 = (l : Int) := by omega
  have HU := hid (fun (c : Int) => B.slp_until (h := h) (l := l) (n := 256 * h + l) rfl ha (c := c))
  by_cases hb : 32767 < 256 * (h : Int) + (l : Int)
  · go_wp2_with fail
    refine (function_any 3 5 w1'.heap.size 5 37 20 (fun j => ([0, 2, h, l, 17, 2, 0, 0, 22, 2, 0, 0, 20, 2, 0, 0, 7, 0, 0, 0] : List Nat).getD j 0) _ (by omega) (by omega) (slp_bytes hh hl) ⟨_, heap_alloc_new _ _, rfl, fun j hj => full_list [0, 2, h, l, 17, 2, 0, 0, 22, 2, 0, 0, 20, 2, 0, 0, 7, 0, 0, 0] j hj⟩ (by omega)).mono ?_
    rintro e w2 ⟨rfl, hB2⟩
    have KB2 : Hid (Below w.heap.size w w2) := (KB1.out.alloc KB1.out.size _).trans (hB2.mono (by have := KB1.out.size; simp; omega))
    have htx : ({ data := #[1] } : ByteArray) ++ txt (3 :: 5 :: codeL (fun j => ([0, 2, h, l, 17, 2, 0, 0, 22, 2, 0, 0, 20, 2, 0, 0, 7, 0, 0, 0] : List Nat).getD j 0) 5) = txt (1 :: 3 :: (B.slpC h l).length :: flat (B.slpC h l)) := by rw [txt_cons]; rfl
    have hts : (txt (3 :: 5 :: codeL (fun j => ([0, 2, h, l, 17, 2, 0, 0, 22, 2, 0, 0, 20, 2, 0, 0, 7, 0, 0, 0] : List Nat).getD j 0) 5)).size = 22 := rfl
    clear hB2 KB1
    generalize txt (3 :: 5 :: codeL (fun j => ([0, 2, h, l, 17, 2, 0, 0, 22, 2, 0, 0, 20, 2, 0, 0, 7, 0, 0, 0] : List Nat).getD j 0) 5) = tx at *
    have HTX : Hid (({ data := #[1] } : ByteArray) ++ tx = txt (1 :: 3 :: (B.slpC h l).length :: flat (B.slpC h l))) := htx
    clear htx
    go_wp2_with fail
    generalize hty : ({ data := #[1] } : ByteArray) ++ tx = ty
    have HTY : ty = txt (1 :: 3 :: (B.slpC h l).length :: flat (B.slpC h l)) := hty.symm.trans HTX.out
    subst HTY
    clear hty HTX hts
    have hzw := KB2.out.size
    refine (load_que (B.slpC h l) 3 1 9 1 w2 (okSlp hh hl) (by omega) (by omega) (by omega) (by omega) (by omega) (by omega) (HG.out.below KB2.out)).mono ?_
    rintro e w3 ⟨mb, F, rfl, hB3, hF, hM⟩
    have KB3 : Hid (Below w.heap.size w w3) := KB2.out.trans (hB3.mono hzw)
    have KM3 : Hid (Mq w3 mb F (B.slpC h l) 3 1 9 0 (0, fun _ => (0, 0), fun _ => [])) := by obtain ⟨g, kd, vb, E, Tk, qb, cq, h1, h2, h3, _, _, h4⟩ := hM; exact ⟨g, kd, vb, E, Tk, qb, cq, h1, h2, h3, h4⟩
    have KF3 : Hid (∀ k, F k → w.heap.size ≤ k ∧ k < w3.heap.size) := fun k hk => ⟨by have := hF k hk; omega, (hF k hk).2⟩
    have hz3 := hB3.size
    clear hB3 hM hF KB2
    generalize txt (1 :: 3 :: (B.slpC h l).length :: flat (B.slpC h l)) = ty
    go_wp2_with fail
    generalize hw4 : w3.alloc (.cells #[.int .i64 0, .int .i64 0] 42) = w4
    have KB4 : Hid (Below w.heap.size w w4) := by show Below _ _ _; rw [← hw4]; exact KB3.out.alloc (by omega) _
    have hz4 : w4.heap.size = w3.heap.size + 1 := by rw [← hw4]; simp
    have KM4 : Hid (slpS w4 mb F h l 0 0 0) := by
      refine Or.inl ⟨rfl, rfl, ?_⟩
      rw [← hw4]
      exact KM3.out.keep (fun k hk => Below.heap_alloc _ _ _ (KF3.out k hk).2)
    have KF4 : Hid (∀ k, F k → w.heap.size ≤ k ∧ k < w4.heap.size) := fun k hk => ⟨(KF3.out k hk).1, by have := (KF3.out k hk).2; omega⟩
    clear hw4 KB3 KM3 KF3 hz4 hz3 hzw
    go_loopw [10, 11, 12, 13] (fun nw un sl i wr => ∃ (I : Nat) (F : Nat → Prop) (N U : Int), i = .int .i64 I ∧ I ≤ len ∧ nw = .int .i64 N ∧ un = .int .i64 U ∧ sl = .bool (decide (0 < I)) ∧ 0 ≤ N ∧ N ≤ 9223372036854775807 ∧ Hid (slpS wr mb F h l I N U) ∧ Hid (Below w.heap.size w wr) ∧ Hid (∀ k, F k → w.heap.size ≤ k ∧ k < wr.heap.size)) (fun _ _ _ i _ => len - (intOf i).toNat)
    case atStart => exact ⟨0, F, 0, 0, rfl, by omega, rfl, rfl, rfl, by omega, by omega, KM4, KB4, KF4⟩
    case round =>
      obtain ⟨I, F, N, U, rfl, hI, rfl, rfl, rfl, hN0, hN1, rS, rB, rF⟩ := hrel
      clear KM4 KB4 KF4
      by_cases hlt : I < len
      · obtain ⟨a, rfl⟩ : ∃ a, ad = some a := by
          cases ad with
          | none => have := HN.out rfl; omega
          | some a => exact ⟨a, rfl⟩
        have hz := HZ.out a rfl
        have hc : wr.cell? (a.add I) = some (.int .i64 (zs I)) := (rB.out.cell (p := a.add I) (by unfold Addr.add; split <;> exact (hz I hlt).1)).trans (hz I hlt).2
        have hlt2 : (I : Int) < (len : Int) := by omega
        have hti := HIN.out I hlt
        have hal := hid (B.aft_law N (zs I))
        have hai := B.aft_in (t := zs I) hN0 hN1
        generalize zs I = t at *
        generalize hN' : B.aft N t = N' at *
        have hzr : w.heap.size ≤ wr.heap.size := rB.out.size
        have hcs : (0 < t ∧ 9223372036854775807 - t < N ∧ N' = 9223372036854775807) ∨ (0 < t ∧ ¬ (9223372036854775807 - t < N) ∧ N' = N + t) ∨ (¬ (0 < t) ∧ N' = N) := by
          have e := hal.out
          by_cases c1 : t > 0
          · rw [if_pos c1] at e
            by_cases c2 : N > 9223372036854775807 - t
            · rw [if_pos c2] at e; exact Or.inl ⟨c1, c2, e⟩
            · rw [if_neg c2] at e; exact Or.inr (Or.inl ⟨c1, c2, e⟩)
          · rw [if_neg c1] at e; exact Or.inr (Or.inr ⟨c1, e⟩)
        have HN' := hid hN'
        have HUN : Hid (B.aft N' (B.wide h l) = if N' ≤ 9223372036854775807 - (0 : Int) then N' + (0 : Int) else 9223372036854775807) := by
          show _ = _
          rw [HU.out N' hai.1 hai.2]
          simp only [if_pos (show 256 * h + l > 32767 by omega)]
        clear hN' hal hz
        rcases hcs with ⟨c1, c2, c3⟩ | ⟨c1, c2, c3⟩ | ⟨c1, c3⟩
        · have hw2 : IntKind.i64.wrap (9223372036854775807 - t) = 9223372036854775807 - t := by simp [IntKind.wrap, IntKind.bits, IntKind.signed]; omega
          subst c3
          go_wp2_with fail
          refine (slp_turn_any h l I mb w.heap.size F N U t w wr rS.out rB.out rF.out hzr).mono ?_
          rintro e w5 ⟨F5, s5, ad5, len5, cap5, rfl, kB, kF, kI, hcase⟩
          rw [HN'.out] at hcase
          clear rS rB rF hc hti HN' c1 c2 hw2
          have hz5 := kB.out.size
          rcases hcase with ⟨hI0, hl0, kM⟩ | ⟨hI0, hU0, hl0, kM⟩ | ⟨hI0, hU0, hl0, ⟨g, rfl, hg, e0, e1, e2⟩, kM⟩
          · subst hl0
            have hd : decide (0 < I) = false := by simp; omega
            simp only [hd]
            go_wp2_with fail
            refine (clockS kM.out).mono ?_
            rintro e w6 ⟨rfl, hO6, hM6⟩
            have KB6 : Hid (Below w.heap.size w w6) := Only.below kB.out hO6 (fun k hk => (kF.out k hk).1) hz5
            have KF6 : Hid (∀ k, F5 k → w.heap.size ≤ k ∧ k < w6.heap.size) := fun k hk => ⟨(kF.out k hk).1, by have := (kF.out k hk).2; have := hO6.size; omega⟩
            have KM6 := hid hM6
            have hz6 := KB6.out.size
            clear hO6 hM6 kM kB kF hz5
            by_cases hcl : 9223372036854775807 ≤ 9223372036854775807 - (0 : Int)
            · have hUN : B.aft (9223372036854775807) (B.wide h l) = 9223372036854775807 + (0 : Int) := HUN.out.trans (if_pos hcl)
              have HUP := hid hUN
              clear hUN
              go_wp2_with fail
              refine (stateS KM6.out).mono ?_
              rintro e w7 ⟨rfl, hO7, hM7⟩
              have KB7 : Hid (Below w.heap.size w w7) := Only.below KB6.out hO7 (fun k hk => (KF6.out k hk).1) hz6
              have KF7 : Hid (∀ k, F5 k → w.heap.size ≤ k ∧ k < w7.heap.size) := fun k hk => ⟨(KF6.out k hk).1, by have := (KF6.out k hk).2; have := hO7.size; omega⟩
              have KM7 : Hid (slpS w7 mb F5 h l (I + 1) (9223372036854775807) (9223372036854775807 + (0 : Int))) := Or.inr ⟨by omega, s5, kI.out, by rw [HUP.out] at hM7; exact hM7⟩
              clear hO7 hM7 KM6 KB6 KF6 hz6
              go_wp2_with fail
              go_roundw
              case rel => exact ⟨I + 1, F5, (9223372036854775807), (9223372036854775807 + (0 : Int)), by go_num, by omega, rfl, (by first | rfl | simp), by simp, by omega, by omega, KM7, KB7, KF7⟩
              case measure => simp [intOf]; omega
            · omega
          · subst hl0
            have hd : decide (0 < I) = true := by simp; omega
            have hU1 : decide (U ≤ 9223372036854775807) = false := by simpa using hU0
            simp only [hd]
            go_wp2_with fail
            refine (clockS kM.out).mono ?_
            rintro e w6 ⟨rfl, hO6, hM6⟩
            have KB6 : Hid (Below w.heap.size w w6) := Only.below kB.out hO6 (fun k hk => (kF.out k hk).1) hz5
            have KF6 : Hid (∀ k, F5 k → w.heap.size ≤ k ∧ k < w6.heap.size) := fun k hk => ⟨(kF.out k hk).1, by have := (kF.out k hk).2; have := hO6.size; omega⟩
            have KM6 := hid hM6
            have hz6 := KB6.out.size
            clear hO6 hM6 kM kB kF hz5
            go_wp2_with fail
            refine (stateS KM6.out).mono ?_
            rintro e w7 ⟨rfl, hO7, hM7⟩
            have KB7 : Hid (Below w.heap.size w w7) := Only.below KB6.out hO7 (fun k hk => (KF6.out k hk).1) hz6
            have KF7 : Hid (∀ k, F5 k → w.heap.size ≤ k ∧ k < w7.heap.size) := fun k hk => ⟨(KF6.out k hk).1, by have := (KF6.out k hk).2; have := hO7.size; omega⟩
            have KM7 : Hid (slpS w7 mb F5 h l (I + 1) (9223372036854775807) U) := Or.inr ⟨by omega, s5, kI.out, hM7⟩
            clear hO7 hM7 KM6 KB6 KF6 hz6
            go_wp2_with fail
            go_roundw
            case rel => exact ⟨I + 1, F5, (9223372036854775807), U, by go_num, by omega, rfl, (by first | rfl | simp), by simp, by omega, by omega, KM7, KB7, KF7⟩
            case measure => simp [intOf]; omega
          · subst hl0
            have hd : decide (0 < I) = true := by simp; omega
            have hU1 : decide (U ≤ 9223372036854775807) = true := by simpa using hU0
            simp only [hd]
            go_wp2_with fail
            refine (clockS kM.out).mono ?_
            rintro e w6 ⟨rfl, hO6, hM6⟩
            have KB6 : Hid (Below w.heap.size w w6) := Only.below kB.out hO6 (fun k hk => (kF.out k hk).1) hz5
            have KF6 : Hid (∀ k, F5 k → w.heap.size ≤ k ∧ k < w6.heap.size) := fun k hk => ⟨(kF.out k hk).1, by have := (kF.out k hk).2; have := hO6.size; omega⟩
            have KM6 := hid hM6
            have hz6 := KB6.out.size
            clear hO6 hM6 kM kB kF hz5
            by_cases hcl : 9223372036854775807 ≤ 9223372036854775807 - (0 : Int)
            · have hUN : B.aft (9223372036854775807) (B.wide h l) = 9223372036854775807 + (0 : Int) := HUN.out.trans (if_pos hcl)
              have HUP := hid hUN
              clear hUN
              go_wp2_with fail
              refine (stateS KM6.out).mono ?_
              rintro e w7 ⟨rfl, hO7, hM7⟩
              have KB7 : Hid (Below w.heap.size w w7) := Only.below KB6.out hO7 (fun k hk => (KF6.out k hk).1) hz6
              have KF7 : Hid (∀ k, F5 k → w.heap.size ≤ k ∧ k < w7.heap.size) := fun k hk => ⟨(KF6.out k hk).1, by have := (KF6.out k hk).2; have := hO7.size; omega⟩
              have KM7 : Hid (slpS w7 mb F5 h l (I + 1) (9223372036854775807) (9223372036854775807 + (0 : Int))) := Or.inr ⟨by omega, s5, kI.out, by rw [HUP.out] at hM7; exact hM7⟩
              clear hO7 hM7 KM6 KB6 KF6 hz6
              go_wp2_with fail
              go_roundw
              case rel => exact ⟨I + 1, F5, (9223372036854775807), (9223372036854775807 + (0 : Int)), by go_num, by omega, rfl, (by first | rfl | simp), by simp, by omega, by omega, KM7, KB7, KF7⟩
              case measure => simp [intOf]; omega
            · omega
        · have hw2 : IntKind.i64.wrap (9223372036854775807 - t) = 9223372036854775807 - t := by simp [IntKind.wrap, IntKind.bits, IntKind.signed]; omega
          have hw3 : IntKind.i64.wrap (N + t) = N + t := by simp [IntKind.wrap, IntKind.bits, IntKind.signed]; omega
          subst c3
          go_wp2_with fail
          refine (slp_turn_any h l I mb w.heap.size F N U t w wr rS.out rB.out rF.out hzr).mono ?_
          rintro e w5 ⟨F5, s5, ad5, len5, cap5, rfl, kB, kF, kI, hcase⟩
          rw [HN'.out] at hcase
          clear rS rB rF hc hti HN' c1 c2 hw2 hw3
          have hz5 := kB.out.size
          rcases hcase with ⟨hI0, hl0, kM⟩ | ⟨hI0, hU0, hl0, kM⟩ | ⟨hI0, hU0, hl0, ⟨g, rfl, hg, e0, e1, e2⟩, kM⟩
          · subst hl0
            have hd : decide (0 < I) = false := by simp; omega
            simp only [hd]
            go_wp2_with fail
            refine (clockS kM.out).mono ?_
            rintro e w6 ⟨rfl, hO6, hM6⟩
            have KB6 : Hid (Below w.heap.size w w6) := Only.below kB.out hO6 (fun k hk => (kF.out k hk).1) hz5
            have KF6 : Hid (∀ k, F5 k → w.heap.size ≤ k ∧ k < w6.heap.size) := fun k hk => ⟨(kF.out k hk).1, by have := (kF.out k hk).2; have := hO6.size; omega⟩
            have KM6 := hid hM6
            have hz6 := KB6.out.size
            clear hO6 hM6 kM kB kF hz5
            by_cases hcl : N + t ≤ 9223372036854775807 - (0 : Int)
            · have hUN : B.aft (N + t) (B.wide h l) = N + t + (0 : Int) := HUN.out.trans (if_pos hcl)
              have HUP := hid hUN
              clear hUN
              go_wp2_with fail
              refine (stateS KM6.out).mono ?_
              rintro e w7 ⟨rfl, hO7, hM7⟩
              have KB7 : Hid (Below w.heap.size w w7) := Only.below KB6.out hO7 (fun k hk => (KF6.out k hk).1) hz6
              have KF7 : Hid (∀ k, F5 k → w.heap.size ≤ k ∧ k < w7.heap.size) := fun k hk => ⟨(KF6.out k hk).1, by have := (KF6.out k hk).2; have := hO7.size; omega⟩
              have KM7 : Hid (slpS w7 mb F5 h l (I + 1) (N + t) (N + t + (0 : Int))) := Or.inr ⟨by omega, s5, kI.out, by rw [HUP.out] at hM7; exact hM7⟩
              clear hO7 hM7 KM6 KB6 KF6 hz6
              go_wp2_with fail
              go_roundw
              case rel => exact ⟨I + 1, F5, (N + t), (N + t + (0 : Int)), by go_num, by omega, rfl, (by first | rfl | simp), by simp, by omega, by omega, KM7, KB7, KF7⟩
              case measure => simp [intOf]; omega
            · omega
          · subst hl0
            have hd : decide (0 < I) = true := by simp; omega
            have hU1 : decide (U ≤ N + t) = false := by simpa using hU0
            simp only [hd]
            go_wp2_with fail
            refine (clockS kM.out).mono ?_
            rintro e w6 ⟨rfl, hO6, hM6⟩
            have KB6 : Hid (Below w.heap.size w w6) := Only.below kB.out hO6 (fun k hk => (kF.out k hk).1) hz5
            have KF6 : Hid (∀ k, F5 k → w.heap.size ≤ k ∧ k < w6.heap.size) := fun k hk => ⟨(kF.out k hk).1, by have := (kF.out k hk).2; have := hO6.size; omega⟩
            have KM6 := hid hM6
            have hz6 := KB6.out.size
            clear hO6 hM6 kM kB kF hz5
            go_wp2_with fail
            refine (stateS KM6.out).mono ?_
            rintro e w7 ⟨rfl, hO7, hM7⟩
            have KB7 : Hid (Below w.heap.size w w7) := Only.below KB6.out hO7 (fun k hk => (KF6.out k hk).1) hz6
            have KF7 : Hid (∀ k, F5 k → w.heap.size ≤ k ∧ k < w7.heap.size) := fun k hk => ⟨(KF6.out k hk).1, by have := (KF6.out k hk).2; have := hO7.size; omega⟩
            have KM7 : Hid (slpS w7 mb F5 h l (I + 1) (N + t) U) := Or.inr ⟨by omega, s5, kI.out, hM7⟩
            clear hO7 hM7 KM6 KB6 KF6 hz6
            go_wp2_with fail
            go_roundw
            case rel => exact ⟨I + 1, F5, (N + t), U, by go_num, by omega, rfl, (by first | rfl | simp), by simp, by omega, by omega, KM7, KB7, KF7⟩
            case measure => simp [intOf]; omega
          · subst hl0
            have hd : decide (0 < I) = true := by simp; omega
            have hU1 : decide (U ≤ N + t) = true := by simpa using hU0
            simp only [hd]
            go_wp2_with fail
            refine (clockS kM.out).mono ?_
            rintro e w6 ⟨rfl, hO6, hM6⟩
            have KB6 : Hid (Below w.heap.size w w6) := Only.below kB.out hO6 (fun k hk => (kF.out k hk).1) hz5
            have KF6 : Hid (∀ k, F5 k → w.heap.size ≤ k ∧ k < w6.heap.size) := fun k hk => ⟨(kF.out k hk).1, by have := (kF.out k hk).2; have := hO6.size; omega⟩
            have KM6 := hid hM6
            have hz6 := KB6.out.size
            clear hO6 hM6 kM kB kF hz5
            by_cases hcl : N + t ≤ 9223372036854775807 - (0 : Int)
            · have hUN : B.aft (N + t) (B.wide h l) = N + t + (0 : Int) := HUN.out.trans (if_pos hcl)
              have HUP := hid hUN
              clear hUN
              go_wp2_with fail
              refine (stateS KM6.out).mono ?_
              rintro e w7 ⟨rfl, hO7, hM7⟩
              have KB7 : Hid (Below w.heap.size w w7) := Only.below KB6.out hO7 (fun k hk => (KF6.out k hk).1) hz6
              have KF7 : Hid (∀ k, F5 k → w.heap.size ≤ k ∧ k < w7.heap.size) := fun k hk => ⟨(KF6.out k hk).1, by have := (KF6.out k hk).2; have := hO7.size; omega⟩
              have KM7 : Hid (slpS w7 mb F5 h l (I + 1) (N + t) (N + t + (0 : Int))) := Or.inr ⟨by omega, s5, kI.out, by rw [HUP.out] at hM7; exact hM7⟩
              clear hO7 hM7 KM6 KB6 KF6 hz6
              go_wp2_with fail
              go_roundw
              case rel => exact ⟨I + 1, F5, (N + t), (N + t + (0 : Int)), by go_num, by omega, rfl, (by first | rfl | simp), by simp, by omega, by omega, KM7, KB7, KF7⟩
              case measure => simp [intOf]; omega
            · omega
        · subst c3
          go_wp2_with fail
          refine (slp_turn_any h l I mb w.heap.size F N' U t w wr rS.out rB.out rF.out hzr).mono ?_
          rintro e w5 ⟨F5, s5, ad5, len5, cap5, rfl, kB, kF, kI, hcase⟩
          rw [HN'.out] at hcase
          clear rS rB rF hc hti HN' c1
          have hz5 := kB.out.size
          rcases hcase with ⟨hI0, hl0, kM⟩ | ⟨hI0, hU0, hl0, kM⟩ | ⟨hI0, hU0, hl0, ⟨g, rfl, hg, e0, e1, e2⟩, kM⟩
          · subst hl0
            have hd : decide (0 < I) = false := by simp; omega
            simp only [hd]
            go_wp2_with fail
            refine (clockS kM.out).mono ?_
            rintro e w6 ⟨rfl, hO6, hM6⟩
            have KB6 : Hid (Below w.heap.size w w6) := Only.below kB.out hO6 (fun k hk => (kF.out k hk).1) hz5
            have KF6 : Hid (∀ k, F5 k → w.heap.size ≤ k ∧ k < w6.heap.size) := fun k hk => ⟨(kF.out k hk).1, by have := (kF.out k hk).2; have := hO6.size; omega⟩
            have KM6 := hid hM6
            have hz6 := KB6.out.size
            clear hO6 hM6 kM kB kF hz5
            by_cases hcl : N' ≤ 9223372036854775807 - (0 : Int)
            · have hUN : B.aft (N') (B.wide h l) = N' + (0 : Int) := HUN.out.trans (if_pos hcl)
              have HUP := hid hUN
              clear hUN
              go_wp2_with fail
              refine (stateS KM6.out).mono ?_
              rintro e w7 ⟨rfl, hO7, hM7⟩
              have KB7 : Hid (Below w.heap.size w w7) := Only.below KB6.out hO7 (fun k hk => (KF6.out k hk).1) hz6
              have KF7 : Hid (∀ k, F5 k → w.heap.size ≤ k ∧ k < w7.heap.size) := fun k hk => ⟨(KF6.out k hk).1, by have := (KF6.out k hk).2; have := hO7.size; omega⟩
              have KM7 : Hid (slpS w7 mb F5 h l (I + 1) (N') (N' + (0 : Int))) := Or.inr ⟨by omega, s5, kI.out, by rw [HUP.out] at hM7; exact hM7⟩
              clear hO7 hM7 KM6 KB6 KF6 hz6
              go_wp2_with fail
              go_roundw
              case rel => exact ⟨I + 1, F5, (N'), (N' + (0 : Int)), by go_num, by omega, rfl, (by first | rfl | simp), by simp, by omega, by omega, KM7, KB7, KF7⟩
              case measure => simp [intOf]; omega
            · omega
          · subst hl0
            have hd : decide (0 < I) = true := by simp; omega
            have hU1 : decide (U ≤ N') = false := by simpa using hU0
            simp only [hd]
            go_wp2_with fail
            refine (clockS kM.out).mono ?_
            rintro e w6 ⟨rfl, hO6, hM6⟩
            have KB6 : Hid (Below w.heap.size w w6) := Only.below kB.out hO6 (fun k hk => (kF.out k hk).1) hz5
            have KF6 : Hid (∀ k, F5 k → w.heap.size ≤ k ∧ k < w6.heap.size) := fun k hk => ⟨(kF.out k hk).1, by have := (kF.out k hk).2; have := hO6.size; omega⟩
            have KM6 := hid hM6
            have hz6 := KB6.out.size
            clear hO6 hM6 kM kB kF hz5
            go_wp2_with fail
            refine (stateS KM6.out).mono ?_
            rintro e w7 ⟨rfl, hO7, hM7⟩
            have KB7 : Hid (Below w.heap.size w w7) := Only.below KB6.out hO7 (fun k hk => (KF6.out k hk).1) hz6
            have KF7 : Hid (∀ k, F5 k → w.heap.size ≤ k ∧ k < w7.heap.size) := fun k hk => ⟨(KF6.out k hk).1, by have := (KF6.out k hk).2; have := hO7.size; omega⟩
            have KM7 : Hid (slpS w7 mb F5 h l (I + 1) (N') U) := Or.inr ⟨by omega, s5, kI.out, hM7⟩
            clear hO7 hM7 KM6 KB6 KF6 hz6
            go_wp2_with fail
            go_roundw
            case rel => exact ⟨I + 1, F5, (N'), U, by go_num, by omega, rfl, (by first | rfl | simp), by simp, by omega, by omega, KM7, KB7, KF7⟩
            case measure => simp [intOf]; omega
          · subst hl0
            have hd : decide (0 < I) = true := by simp; omega
            have hU1 : decide (U ≤ N') = true := by simpa using hU0
            simp only [hd]
            go_wp2_with fail
            refine (clockS kM.out).mono ?_
            rintro e w6 ⟨rfl, hO6, hM6⟩
            have KB6 : Hid (Below w.heap.size w w6) := Only.below kB.out hO6 (fun k hk => (kF.out k hk).1) hz5
            have KF6 : Hid (∀ k, F5 k → w.heap.size ≤ k ∧ k < w6.heap.size) := fun k hk => ⟨(kF.out k hk).1, by have := (kF.out k hk).2; have := hO6.size; omega⟩
            have KM6 := hid hM6
            have hz6 := KB6.out.size
            clear hO6 hM6 kM kB kF hz5
            by_cases hcl : N' ≤ 9223372036854775807 - (0 : Int)
            · have hUN : B.aft (N') (B.wide h l) = N' + (0 : Int) := HUN.out.trans (if_pos hcl)
              have HUP := hid hUN
              clear hUN
              go_wp2_with fail
              refine (stateS KM6.out).mono ?_
              rintro e w7 ⟨rfl, hO7, hM7⟩
              have KB7 : Hid (Below w.heap.size w w7) := Only.below KB6.out hO7 (fun k hk => (KF6.out k hk).1) hz6
              have KF7 : Hid (∀ k, F5 k → w.heap.size ≤ k ∧ k < w7.heap.size) := fun k hk => ⟨(KF6.out k hk).1, by have := (KF6.out k hk).2; have := hO7.size; omega⟩
              have KM7 : Hid (slpS w7 mb F5 h l (I + 1) (N') (N' + (0 : Int))) := Or.inr ⟨by omega, s5, kI.out, by rw [HUP.out] at hM7; exact hM7⟩
              clear hO7 hM7 KM6 KB6 KF6 hz6
              go_wp2_with fail
              go_roundw
              case rel => exact ⟨I + 1, F5, (N'), (N' + (0 : Int)), by go_num, by omega, rfl, (by first | rfl | simp), by simp, by omega, by omega, KM7, KB7, KF7⟩
              case measure => simp [intOf]; omega
            · omega
      · have hlt2 : ¬ ((I : Int) < (len : Int)) := by omega
        have KB := rB
        clear rS rF
        go_wp2_with fail
        go_ret
        exact ⟨rfl, KB.out⟩
  · go_wp2_with fail
    refine (function_any 3 5 w1'.heap.size 5 37 20 (fun j => ([0, 2, h, l, 17, 2, 0, 0, 22, 2, 0, 0, 20, 2, 0, 0, 7, 0, 0, 0] : List Nat).getD j 0) _ (by omega) (by omega) (slp_bytes hh hl) ⟨_, heap_alloc_new _ _, rfl, fun j hj => full_list [0, 2, h, l, 17, 2, 0, 0, 22, 2, 0, 0, 20, 2, 0, 0, 7, 0, 0, 0] j hj⟩ (by omega)).mono ?_
    rintro e w2 ⟨rfl, hB2⟩
    have KB2 : Hid (Below w.heap.size w w2) := (KB1.out.alloc KB1.out.size _).trans (hB2.mono (by have := KB1.out.size; simp; omega))
    have htx : ({ data := #[1] } : ByteArray) ++ txt (3 :: 5 :: codeL (fun j => ([0, 2, h, l, 17, 2, 0, 0, 22, 2, 0, 0, 20, 2, 0, 0, 7, 0, 0, 0] : List Nat).getD j 0) 5) = txt (1 :: 3 :: (B.slpC h l).length :: flat (B.slpC h l)) := by rw [txt_cons]; rfl
    have hts : (txt (3 :: 5 :: codeL (fun j => ([0, 2, h, l, 17, 2, 0, 0, 22, 2, 0, 0, 20, 2, 0, 0, 7, 0, 0, 0] : List Nat).getD j 0) 5)).size = 22 := rfl
    clear hB2 KB1
    generalize txt (3 :: 5 :: codeL (fun j => ([0, 2, h, l, 17, 2, 0, 0, 22, 2, 0, 0, 20, 2, 0, 0, 7, 0, 0, 0] : List Nat).getD j 0) 5) = tx at *
    have HTX : Hid (({ data := #[1] } : ByteArray) ++ tx = txt (1 :: 3 :: (B.slpC h l).length :: flat (B.slpC h l))) := htx
    clear htx
    go_wp2_with fail
    generalize hty : ({ data := #[1] } : ByteArray) ++ tx = ty
    have HTY : ty = txt (1 :: 3 :: (B.slpC h l).length :: flat (B.slpC h l)) := hty.symm.trans HTX.out
    subst HTY
    clear hty HTX hts
    have hzw := KB2.out.size
    refine (load_que (B.slpC h l) 3 1 9 1 w2 (okSlp hh hl) (by omega) (by omega) (by omega) (by omega) (by omega) (by omega) (HG.out.below KB2.out)).mono ?_
    rintro e w3 ⟨mb, F, rfl, hB3, hF, hM⟩
    have KB3 : Hid (Below w.heap.size w w3) := KB2.out.trans (hB3.mono hzw)
    have KM3 : Hid (Mq w3 mb F (B.slpC h l) 3 1 9 0 (0, fun _ => (0, 0), fun _ => [])) := by obtain ⟨g, kd, vb, E, Tk, qb, cq, h1, h2, h3, _, _, h4⟩ := hM; exact ⟨g, kd, vb, E, Tk, qb, cq, h1, h2, h3, h4⟩
    have KF3 : Hid (∀ k, F k → w.heap.size ≤ k ∧ k < w3.heap.size) := fun k hk => ⟨by have := hF k hk; omega, (hF k hk).2⟩
    have hz3 := hB3.size
    clear hB3 hM hF KB2
    generalize txt (1 :: 3 :: (B.slpC h l).length :: flat (B.slpC h l)) = ty
    go_wp2_with fail
    generalize hw4 : w3.alloc (.cells #[.int .i64 0, .int .i64 0] 42) = w4
    have KB4 : Hid (Below w.heap.size w w4) := by show Below _ _ _; rw [← hw4]; exact KB3.out.alloc (by omega) _
    have hz4 : w4.heap.size = w3.heap.size + 1 := by rw [← hw4]; simp
    have KM4 : Hid (slpS w4 mb F h l 0 0 0) := by
      refine Or.inl ⟨rfl, rfl, ?_⟩
      rw [← hw4]
      exact KM3.out.keep (fun k hk => Below.heap_alloc _ _ _ (KF3.out k hk).2)
    have KF4 : Hid (∀ k, F k → w.heap.size ≤ k ∧ k < w4.heap.size) := fun k hk => ⟨(KF3.out k hk).1, by have := (KF3.out k hk).2; omega⟩
    clear hw4 KB3 KM3 KF3 hz4 hz3 hzw
    go_loopw [10, 11, 12, 13] (fun nw un sl i wr => ∃ (I : Nat) (F : Nat → Prop) (N U : Int), i = .int .i64 I ∧ I ≤ len ∧ nw = .int .i64 N ∧ un = .int .i64 U ∧ sl = .bool (decide (0 < I)) ∧ 0 ≤ N ∧ N ≤ 9223372036854775807 ∧ Hid (slpS wr mb F h l I N U) ∧ Hid (Below w.heap.size w wr) ∧ Hid (∀ k, F k → w.heap.size ≤ k ∧ k < wr.heap.size)) (fun _ _ _ i _ => len - (intOf i).toNat)
    case atStart => exact ⟨0, F, 0, 0, rfl, by omega, rfl, rfl, rfl, by omega, by omega, KM4, KB4, KF4⟩
    case round =>
      obtain ⟨I, F, N, U, rfl, hI, rfl, rfl, rfl, hN0, hN1, rS, rB, rF⟩ := hrel
      clear KM4 KB4 KF4
      by_cases hlt : I < len
      · obtain ⟨a, rfl⟩ : ∃ a, ad = some a := by
          cases ad with
          | none => have := HN.out rfl; omega
          | some a => exact ⟨a, rfl⟩
        have hz := HZ.out a rfl
        have hc : wr.cell? (a.add I) = some (.int .i64 (zs I)) := (rB.out.cell (p := a.add I) (by unfold Addr.add; split <;> exact (hz I hlt).1)).trans (hz I hlt).2
        have hlt2 : (I : Int) < (len : Int) := by omega
        have hti := HIN.out I hlt
        have hal := hid (B.aft_law N (zs I))
        have hai := B.aft_in (t := zs I) hN0 hN1
        generalize zs I = t at *
        generalize hN' : B.aft N t = N' at *
        have hzr : w.heap.size ≤ wr.heap.size := rB.out.size
        have hcs : (0 < t ∧ 9223372036854775807 - t < N ∧ N' = 9223372036854775807) ∨ (0 < t ∧ ¬ (9223372036854775807 - t < N) ∧ N' = N + t) ∨ (¬ (0 < t) ∧ N' = N) := by
          have e := hal.out
          by_cases c1 : t > 0
          · rw [if_pos c1] at e
            by_cases c2 : N > 9223372036854775807 - t
            · rw [if_pos c2] at e; exact Or.inl ⟨c1, c2, e⟩
            · rw [if_neg c2] at e; exact Or.inr (Or.inl ⟨c1, c2, e⟩)
          · rw [if_neg c1] at e; exact Or.inr (Or.inr ⟨c1, e⟩)
        have HN' := hid hN'
        have HUN : Hid (B.aft N' (B.wide h l) = if N' ≤ 9223372036854775807 - (256 * (h : Int) + (l : Int)) then N' + (256 * (h : Int) + (l : Int)) else 9223372036854775807) := by
          show _ = _
          rw [HU.out N' hai.1 hai.2]
          simp only [if_neg (show ¬ 256 * h + l > 32767 by omega)]
          rfl
        clear hN' hal hz
        rcases hcs with ⟨c1, c2, c3⟩ | ⟨c1, c2, c3⟩ | ⟨c1, c3⟩
        · have hw2 : IntKind.i64.wrap (9223372036854775807 - t) = 9223372036854775807 - t := by simp [IntKind.wrap, IntKind.bits, IntKind.signed]; omega
          subst c3
          go_wp2_with fail
          refine (slp_turn_any h l I mb w.heap.size F N U t w wr rS.out rB.out rF.out hzr).mono ?_
          rintro e w5 ⟨F5, s5, ad5, len5, cap5, rfl, kB, kF, kI, hcase⟩
          rw [HN'.out] at hcase
          clear rS rB rF hc hti HN' c1 c2 hw2
          have hz5 := kB.out.size
          rcases hcase with ⟨hI0, hl0, kM⟩ | ⟨hI0, hU0, hl0, kM⟩ | ⟨hI0, hU0, hl0, ⟨g, rfl, hg, e0, e1, e2⟩, kM⟩
          · subst hl0
            have hd : decide (0 < I) = false := by simp; omega
            simp only [hd]
            go_wp2_with fail
            refine (clockS kM.out).mono ?_
            rintro e w6 ⟨rfl, hO6, hM6⟩
            have KB6 : Hid (Below w.heap.size w w6) := Only.below kB.out hO6 (fun k hk => (kF.out k hk).1) hz5
            have KF6 : Hid (∀ k, F5 k → w.heap.size ≤ k ∧ k < w6.heap.size) := fun k hk => ⟨(kF.out k hk).1, by have := (kF.out k hk).2; have := hO6.size; omega⟩
            have KM6 := hid hM6
            have hz6 := KB6.out.size
            clear hO6 hM6 kM kB kF hz5
            by_cases hcl : 9223372036854775807 ≤ 9223372036854775807 - (256 * (h : Int) + (l : Int))
            · have hUN : B.aft (9223372036854775807) (B.wide h l) = 9223372036854775807 + (256 * (h : Int) + (l : Int)) := HUN.out.trans (if_pos hcl)
              have HUP := hid hUN
              clear hUN
              go_wp2_with fail
              refine (stateS KM6.out).mono ?_
              rintro e w7 ⟨rfl, hO7, hM7⟩
              have KB7 : Hid (Below w.heap.size w w7) := Only.below KB6.out hO7 (fun k hk => (KF6.out k hk).1) hz6
              have KF7 : Hid (∀ k, F5 k → w.heap.size ≤ k ∧ k < w7.heap.size) := fun k hk => ⟨(KF6.out k hk).1, by have := (KF6.out k hk).2; have := hO7.size; omega⟩
              have KM7 : Hid (slpS w7 mb F5 h l (I + 1) (9223372036854775807) (9223372036854775807 + (256 * (h : Int) + (l : Int)))) := Or.inr ⟨by omega, s5, kI.out, by rw [HUP.out] at hM7; exact hM7⟩
              clear hO7 hM7 KM6 KB6 KF6 hz6
              go_wp2_with fail
              go_roundw
              case rel => exact ⟨I + 1, F5, (9223372036854775807), (9223372036854775807 + (256 * (h : Int) + (l : Int))), by go_num, by omega, rfl, (by first | rfl | simp), by simp, by omega, by omega, KM7, KB7, KF7⟩
              case measure => simp [intOf]; omega
            · have hcl2 : 9223372036854775807 - (256 * (h : Int) + (l : Int)) < 9223372036854775807 := by omega
              have hUN : B.aft (9223372036854775807) (B.wide h l) = 9223372036854775807 := HUN.out.trans (if_neg hcl)
              have HUP := hid hUN
              clear hUN
              go_wp2_with fail
              refine (stateS KM6.out).mono ?_
              rintro e w7 ⟨rfl, hO7, hM7⟩
              have KB7 : Hid (Below w.heap.size w w7) := Only.below KB6.out hO7 (fun k hk => (KF6.out k hk).1) hz6
              have KF7 : Hid (∀ k, F5 k → w.heap.size ≤ k ∧ k < w7.heap.size) := fun k hk => ⟨(KF6.out k hk).1, by have := (KF6.out k hk).2; have := hO7.size; omega⟩
              have KM7 : Hid (slpS w7 mb F5 h l (I + 1) (9223372036854775807) 9223372036854775807) := Or.inr ⟨by omega, s5, kI.out, by rw [HUP.out] at hM7; exact hM7⟩
              clear hO7 hM7 KM6 KB6 KF6 hz6
              go_wp2_with fail
              go_roundw
              case rel => exact ⟨I + 1, F5, (9223372036854775807), 9223372036854775807, by go_num, by omega, rfl, (by first | rfl | simp), by simp, by omega, by omega, KM7, KB7, KF7⟩
              case measure => simp [intOf]; omega
          · subst hl0
            have hd : decide (0 < I) = true := by simp; omega
            have hU1 : decide (U ≤ 9223372036854775807) = false := by simpa using hU0
            simp only [hd]
            go_wp2_with fail
            refine (clockS kM.out).mono ?_
            rintro e w6 ⟨rfl, hO6, hM6⟩
            have KB6 : Hid (Below w.heap.size w w6) := Only.below kB.out hO6 (fun k hk => (kF.out k hk).1) hz5
            have KF6 : Hid (∀ k, F5 k → w.heap.size ≤ k ∧ k < w6.heap.size) := fun k hk => ⟨(kF.out k hk).1, by have := (kF.out k hk).2; have := hO6.size; omega⟩
            have KM6 := hid hM6
            have hz6 := KB6.out.size
            clear hO6 hM6 kM kB kF hz5
            go_wp2_with fail
            refine (stateS KM6.out).mono ?_
            rintro e w7 ⟨rfl, hO7, hM7⟩
            have KB7 : Hid (Below w.heap.size w w7) := Only.below KB6.out hO7 (fun k hk => (KF6.out k hk).1) hz6
            have KF7 : Hid (∀ k, F5 k → w.heap.size ≤ k ∧ k < w7.heap.size) := fun k hk => ⟨(KF6.out k hk).1, by have := (KF6.out k hk).2; have := hO7.size; omega⟩
            have KM7 : Hid (slpS w7 mb F5 h l (I + 1) (9223372036854775807) U) := Or.inr ⟨by omega, s5, kI.out, hM7⟩
            clear hO7 hM7 KM6 KB6 KF6 hz6
            go_wp2_with fail
            go_roundw
            case rel => exact ⟨I + 1, F5, (9223372036854775807), U, by go_num, by omega, rfl, (by first | rfl | simp), by simp, by omega, by omega, KM7, KB7, KF7⟩
            case measure => simp [intOf]; omega
          · subst hl0
            have hd : decide (0 < I) = true := by simp; omega
            have hU1 : decide (U ≤ 9223372036854775807) = true := by simpa using hU0
            simp only [hd]
            go_wp2_with fail
            refine (clockS kM.out).mono ?_
            rintro e w6 ⟨rfl, hO6, hM6⟩
            have KB6 : Hid (Below w.heap.size w w6) := Only.below kB.out hO6 (fun k hk => (kF.out k hk).1) hz5
            have KF6 : Hid (∀ k, F5 k → w.heap.size ≤ k ∧ k < w6.heap.size) := fun k hk => ⟨(kF.out k hk).1, by have := (kF.out k hk).2; have := hO6.size; omega⟩
            have KM6 := hid hM6
            have hz6 := KB6.out.size
            clear hO6 hM6 kM kB kF hz5
            by_cases hcl : 9223372036854775807 ≤ 9223372036854775807 - (256 * (h : Int) + (l : Int))
            · have hUN : B.aft (9223372036854775807) (B.wide h l) = 9223372036854775807 + (256 * (h : Int) + (l : Int)) := HUN.out.trans (if_pos hcl)
              have HUP := hid hUN
              clear hUN
              go_wp2_with fail
              refine (stateS KM6.out).mono ?_
              rintro e w7 ⟨rfl, hO7, hM7⟩
              have KB7 : Hid (Below w.heap.size w w7) := Only.below KB6.out hO7 (fun k hk => (KF6.out k hk).1) hz6
              have KF7 : Hid (∀ k, F5 k → w.heap.size ≤ k ∧ k < w7.heap.size) := fun k hk => ⟨(KF6.out k hk).1, by have := (KF6.out k hk).2; have := hO7.size; omega⟩
              have KM7 : Hid (slpS w7 mb F5 h l (I + 1) (9223372036854775807) (9223372036854775807 + (256 * (h : Int) + (l : Int)))) := Or.inr ⟨by omega, s5, kI.out, by rw [HUP.out] at hM7; exact hM7⟩
              clear hO7 hM7 KM6 KB6 KF6 hz6
              go_wp2_with fail
              go_roundw
              case rel => exact ⟨I + 1, F5, (9223372036854775807), (9223372036854775807 + (256 * (h : Int) + (l : Int))), by go_num, by omega, rfl, (by first | rfl | simp), by simp, by omega, by omega, KM7, KB7, KF7⟩
              case measure => simp [intOf]; omega
            · have hcl2 : 9223372036854775807 - (256 * (h : Int) + (l : Int)) < 9223372036854775807 := by omega
              have hUN : B.aft (9223372036854775807) (B.wide h l) = 9223372036854775807 := HUN.out.trans (if_neg hcl)
              have HUP := hid hUN
              clear hUN
              go_wp2_with fail
              refine (stateS KM6.out).mono ?_
              rintro e w7 ⟨rfl, hO7, hM7⟩
              have KB7 : Hid (Below w.heap.size w w7) := Only.below KB6.out hO7 (fun k hk => (KF6.out k hk).1) hz6
              have KF7 : Hid (∀ k, F5 k → w.heap.size ≤ k ∧ k < w7.heap.size) := fun k hk => ⟨(KF6.out k hk).1, by have := (KF6.out k hk).2; have := hO7.size; omega⟩
              have KM7 : Hid (slpS w7 mb F5 h l (I + 1) (9223372036854775807) 9223372036854775807) := Or.inr ⟨by omega, s5, kI.out, by rw [HUP.out] at hM7; exact hM7⟩
              clear hO7 hM7 KM6 KB6 KF6 hz6
              go_wp2_with fail
              go_roundw
              case rel => exact ⟨I + 1, F5, (9223372036854775807), 9223372036854775807, by go_num, by omega, rfl, (by first | rfl | simp), by simp, by omega, by omega, KM7, KB7, KF7⟩
              case measure => simp [intOf]; omega
        · have hw2 : IntKind.i64.wrap (9223372036854775807 - t) = 9223372036854775807 - t := by simp [IntKind.wrap, IntKind.bits, IntKind.signed]; omega
          have hw3 : IntKind.i64.wrap (N + t) = N + t := by simp [IntKind.wrap, IntKind.bits, IntKind.signed]; omega
          subst c3
          go_wp2_with fail
          refine (slp_turn_any h l I mb w.heap.size F N U t w wr rS.out rB.out rF.out hzr).mono ?_
          rintro e w5 ⟨F5, s5, ad5, len5, cap5, rfl, kB, kF, kI, hcase⟩
          rw [HN'.out] at hcase
          clear rS rB rF hc hti HN' c1 c2 hw2 hw3
          have hz5 := kB.out.size
          rcases hcase with ⟨hI0, hl0, kM⟩ | ⟨hI0, hU0, hl0, kM⟩ | ⟨hI0, hU0, hl0, ⟨g, rfl, hg, e0, e1, e2⟩, kM⟩
          · subst hl0
            have hd : decide (0 < I) = false := by simp; omega
            simp only [hd]
            go_wp2_with fail
            refine (clockS kM.out).mono ?_
            rintro e w6 ⟨rfl, hO6, hM6⟩
            have KB6 : Hid (Below w.heap.size w w6) := Only.below kB.out hO6 (fun k hk => (kF.out k hk).1) hz5
            have KF6 : Hid (∀ k, F5 k → w.heap.size ≤ k ∧ k < w6.heap.size) := fun k hk => ⟨(kF.out k hk).1, by have := (kF.out k hk).2; have := hO6.size; omega⟩
            have KM6 := hid hM6
            have hz6 := KB6.out.size
            clear hO6 hM6 kM kB kF hz5
            by_cases hcl : N + t ≤ 9223372036854775807 - (256 * (h : Int) + (l : Int))
            · have hUN : B.aft (N + t) (B.wide h l) = N + t + (256 * (h : Int) + (l : Int)) := HUN.out.trans (if_pos hcl)
              have HUP := hid hUN
              clear hUN
              go_wp2_with fail
              refine (stateS KM6.out).mono ?_
              rintro e w7 ⟨rfl, hO7, hM7⟩
              have KB7 : Hid (Below w.heap.size w w7) := Only.below KB6.out hO7 (fun k hk => (KF6.out k hk).1) hz6
              have KF7 : Hid (∀ k, F5 k → w.heap.size ≤ k ∧ k < w7.heap.size) := fun k hk => ⟨(KF6.out k hk).1, by have := (KF6.out k hk).2; have := hO7.size; omega⟩
              have KM7 : Hid (slpS w7 mb F5 h l (I + 1) (N + t) (N + t + (256 * (h : Int) + (l : Int)))) := Or.inr ⟨by omega, s5, kI.out, by rw [HUP.out] at hM7; exact hM7⟩
              clear hO7 hM7 KM6 KB6 KF6 hz6
              go_wp2_with fail
              go_roundw
              case rel => exact ⟨I + 1, F5, (N + t), (N + t + (256 * (h : Int) + (l : Int))), by go_num, by omega, rfl, (by first | rfl | simp), by simp, by omega, by omega, KM7, KB7, KF7⟩
              case measure => simp [intOf]; omega
            · have hcl2 : 9223372036854775807 - (256 * (h : Int) + (l : Int)) < N + t := by omega
              have hUN : B.aft (N + t) (B.wide h l) = 9223372036854775807 := HUN.out.trans (if_neg hcl)
              have HUP := hid hUN
              clear hUN
              go_wp2_with fail
              refine (stateS KM6.out).mono ?_
              rintro e w7 ⟨rfl, hO7, hM7⟩
              have KB7 : Hid (Below w.heap.size w w7) := Only.below KB6.out hO7 (fun k hk => (KF6.out k hk).1) hz6
              have KF7 : Hid (∀ k, F5 k → w.heap.size ≤ k ∧ k < w7.heap.size) := fun k hk => ⟨(KF6.out k hk).1, by have := (KF6.out k hk).2; have := hO7.size; omega⟩
              have KM7 : Hid (slpS w7 mb F5 h l (I + 1) (N + t) 9223372036854775807) := Or.inr ⟨by omega, s5, kI.out, by rw [HUP.out] at hM7; exact hM7⟩
              clear hO7 hM7 KM6 KB6 KF6 hz6
              go_wp2_with fail
              go_roundw
              case rel => exact ⟨I + 1, F5, (N + t), 9223372036854775807, by go_num, by omega, rfl, (by first | rfl | simp), by simp, by omega, by omega, KM7, KB7, KF7⟩
              case measure => simp [intOf]; omega
          · subst hl0
            have hd : decide (0 < I) = true := by simp; omega
            have hU1 : decide (U ≤ N + t) = false := by simpa using hU0
            simp only [hd]
            go_wp2_with fail
            refine (clockS kM.out).mono ?_
            rintro e w6 ⟨rfl, hO6, hM6⟩
            have KB6 : Hid (Below w.heap.size w w6) := Only.below kB.out hO6 (fun k hk => (kF.out k hk).1) hz5
            have KF6 : Hid (∀ k, F5 k → w.heap.size ≤ k ∧ k < w6.heap.size) := fun k hk => ⟨(kF.out k hk).1, by have := (kF.out k hk).2; have := hO6.size; omega⟩
            have KM6 := hid hM6
            have hz6 := KB6.out.size
            clear hO6 hM6 kM kB kF hz5
            go_wp2_with fail
            refine (stateS KM6.out).mono ?_
            rintro e w7 ⟨rfl, hO7, hM7⟩
            have KB7 : Hid (Below w.heap.size w w7) := Only.below KB6.out hO7 (fun k hk => (KF6.out k hk).1) hz6
            have KF7 : Hid (∀ k, F5 k → w.heap.size ≤ k ∧ k < w7.heap.size) := fun k hk => ⟨(KF6.out k hk).1, by have := (KF6.out k hk).2; have := hO7.size; omega⟩
            have KM7 : Hid (slpS w7 mb F5 h l (I + 1) (N + t) U) := Or.inr ⟨by omega, s5, kI.out, hM7⟩
            clear hO7 hM7 KM6 KB6 KF6 hz6
            go_wp2_with fail
            go_roundw
            case rel => exact ⟨I + 1, F5, (N + t), U, by go_num, by omega, rfl, (by first | rfl | simp), by simp, by omega, by omega, KM7, KB7, KF7⟩
            case measure => simp [intOf]; omega
          · subst hl0
            have hd : decide (0 < I) = true := by simp; omega
            have hU1 : decide (U ≤ N + t) = true := by simpa using hU0
            simp only [hd]
            go_wp2_with fail
            refine (clockS kM.out).mono ?_
            rintro e w6 ⟨rfl, hO6, hM6⟩
            have KB6 : Hid (Below w.heap.size w w6) := Only.below kB.out hO6 (fun k hk => (kF.out k hk).1) hz5
            have KF6 : Hid (∀ k, F5 k → w.heap.size ≤ k ∧ k < w6.heap.size) := fun k hk => ⟨(kF.out k hk).1, by have := (kF.out k hk).2; have := hO6.size; omega⟩
            have KM6 := hid hM6
            have hz6 := KB6.out.size
            clear hO6 hM6 kM kB kF hz5
            by_cases hcl : N + t ≤ 9223372036854775807 - (256 * (h : Int) + (l : Int))
            · have hUN : B.aft (N + t) (B.wide h l) = N + t + (256 * (h : Int) + (l : Int)) := HUN.out.trans (if_pos hcl)
              have HUP := hid hUN
              clear hUN
              go_wp2_with fail
              refine (stateS KM6.out).mono ?_
              rintro e w7 ⟨rfl, hO7, hM7⟩
              have KB7 : Hid (Below w.heap.size w w7) := Only.below KB6.out hO7 (fun k hk => (KF6.out k hk).1) hz6
              have KF7 : Hid (∀ k, F5 k → w.heap.size ≤ k ∧ k < w7.heap.size) := fun k hk => ⟨(KF6.out k hk).1, by have := (KF6.out k hk).2; have := hO7.size; omega⟩
              have KM7 : Hid (slpS w7 mb F5 h l (I + 1) (N + t) (N + t + (256 * (h : Int) + (l : Int)))) := Or.inr ⟨by omega, s5, kI.out, by rw [HUP.out] at hM7; exact hM7⟩
              clear hO7 hM7 KM6 KB6 KF6 hz6
              go_wp2_with fail
              go_roundw
              case rel => exact ⟨I + 1, F5, (N + t), (N + t + (256 * (h : Int) + (l : Int))), by go_num, by omega, rfl, (by first | rfl | simp), by simp, by omega, by omega, KM7, KB7, KF7⟩
              case measure => simp [intOf]; omega
            · have hcl2 : 9223372036854775807 - (256 * (h : Int) + (l : Int)) < N + t := by omega
              have hUN : B.aft (N + t) (B.wide h l) = 9223372036854775807 := HUN.out.trans (if_neg hcl)
              have HUP := hid hUN
              clear hUN
              go_wp2_with fail
              refine (stateS KM6.out).mono ?_
              rintro e w7 ⟨rfl, hO7, hM7⟩
              have KB7 : Hid (Below w.heap.size w w7) := Only.below KB6.out hO7 (fun k hk => (KF6.out k hk).1) hz6
              have KF7 : Hid (∀ k, F5 k → w.heap.size ≤ k ∧ k < w7.heap.size) := fun k hk => ⟨(KF6.out k hk).1, by have := (KF6.out k hk).2; have := hO7.size; omega⟩
              have KM7 : Hid (slpS w7 mb F5 h l (I + 1) (N + t) 9223372036854775807) := Or.inr ⟨by omega, s5, kI.out, by rw [HUP.out] at hM7; exact hM7⟩
              clear hO7 hM7 KM6 KB6 KF6 hz6
              go_wp2_with fail
              go_roundw
              case rel => exact ⟨I + 1, F5, (N + t), 9223372036854775807, by go_num, by omega, rfl, (by first | rfl | simp), by simp, by omega, by omega, KM7, KB7, KF7⟩
              case measure => simp [intOf]; omega
        · subst c3
          go_wp2_with fail
          refine (slp_turn_any h l I mb w.heap.size F N' U t w wr rS.out rB.out rF.out hzr).mono ?_
          rintro e w5 ⟨F5, s5, ad5, len5, cap5, rfl, kB, kF, kI, hcase⟩
          rw [HN'.out] at hcase
          clear rS rB rF hc hti HN' c1
          have hz5 := kB.out.size
          rcases hcase with ⟨hI0, hl0, kM⟩ | ⟨hI0, hU0, hl0, kM⟩ | ⟨hI0, hU0, hl0, ⟨g, rfl, hg, e0, e1, e2⟩, kM⟩
          · subst hl0
            have hd : decide (0 < I) = false := by simp; omega
            simp only [hd]
            go_wp2_with fail
            refine (clockS kM.out).mono ?_
            rintro e w6 ⟨rfl, hO6, hM6⟩
            have KB6 : Hid (Below w.heap.size w w6) := Only.below kB.out hO6 (fun k hk => (kF.out k hk).1) hz5
            have KF6 : Hid (∀ k, F5 k → w.heap.size ≤ k ∧ k < w6.heap.size) := fun k hk => ⟨(kF.out k hk).1, by have := (kF.out k hk).2; have := hO6.size; omega⟩
            have KM6 := hid hM6
            have hz6 := KB6.out.size
            clear hO6 hM6 kM kB kF hz5
            by_cases hcl : N' ≤ 9223372036854775807 - (256 * (h : Int) + (l : Int))
            · have hUN : B.aft (N') (B.wide h l) = N' + (256 * (h : Int) + (l : Int)) := HUN.out.trans (if_pos hcl)
              have HUP := hid hUN
              clear hUN
              go_wp2_with fail
              refine (stateS KM6.out).mono ?_
              rintro e w7 ⟨rfl, hO7, hM7⟩
              have KB7 : Hid (Below w.heap.size w w7) := Only.below KB6.out hO7 (fun k hk => (KF6.out k hk).1) hz6
              have KF7 : Hid (∀ k, F5 k → w.heap.size ≤ k ∧ k < w7.heap.size) := fun k hk => ⟨(KF6.out k hk).1, by have := (KF6.out k hk).2; have := hO7.size; omega⟩
              have KM7 : Hid (slpS w7 mb F5 h l (I + 1) (N') (N' + (256 * (h : Int) + (l : Int)))) := Or.inr ⟨by omega, s5, kI.out, by rw [HUP.out] at hM7; exact hM7⟩
              clear hO7 hM7 KM6 KB6 KF6 hz6
              go_wp2_with fail
              go_roundw
              case rel => exact ⟨I + 1, F5, (N'), (N' + (256 * (h : Int) + (l : Int))), by go_num, by omega, rfl, (by first | rfl | simp), by simp, by omega, by omega, KM7, KB7, KF7⟩
              case measure => simp [intOf]; omega
            · have hcl2 : 9223372036854775807 - (256 * (h : Int) + (l : Int)) < N' := by omega
              have hUN : B.aft (N') (B.wide h l) = 9223372036854775807 := HUN.out.trans (if_neg hcl)
              have HUP := hid hUN
              clear hUN
              go_wp2_with fail
              refine (stateS KM6.out).mono ?_
              rintro e w7 ⟨rfl, hO7, hM7⟩
              have KB7 : Hid (Below w.heap.size w w7) := Only.below KB6.out hO7 (fun k hk => (KF6.out k hk).1) hz6
              have KF7 : Hid (∀ k, F5 k → w.heap.size ≤ k ∧ k < w7.heap.size) := fun k hk => ⟨(KF6.out k hk).1, by have := (KF6.out k hk).2; have := hO7.size; omega⟩
              have KM7 : Hid (slpS w7 mb F5 h l (I + 1) (N') 9223372036854775807) := Or.inr ⟨by omega, s5, kI.out, by rw [HUP.out] at hM7; exact hM7⟩
              clear hO7 hM7 KM6 KB6 KF6 hz6
              go_wp2_with fail
              go_roundw
              case rel => exact ⟨I + 1, F5, (N'), 9223372036854775807, by go_num, by omega, rfl, (by first | rfl | simp), by simp, by omega, by omega, KM7, KB7, KF7⟩
              case measure => simp [intOf]; omega
          · subst hl0
            have hd : decide (0 < I) = true := by simp; omega
            have hU1 : decide (U ≤ N') = false := by simpa using hU0
            simp only [hd]
            go_wp2_with fail
            refine (clockS kM.out).mono ?_
            rintro e w6 ⟨rfl, hO6, hM6⟩
            have KB6 : Hid (Below w.heap.size w w6) := Only.below kB.out hO6 (fun k hk => (kF.out k hk).1) hz5
            have KF6 : Hid (∀ k, F5 k → w.heap.size ≤ k ∧ k < w6.heap.size) := fun k hk => ⟨(kF.out k hk).1, by have := (kF.out k hk).2; have := hO6.size; omega⟩
            have KM6 := hid hM6
            have hz6 := KB6.out.size
            clear hO6 hM6 kM kB kF hz5
            go_wp2_with fail
            refine (stateS KM6.out).mono ?_
            rintro e w7 ⟨rfl, hO7, hM7⟩
            have KB7 : Hid (Below w.heap.size w w7) := Only.below KB6.out hO7 (fun k hk => (KF6.out k hk).1) hz6
            have KF7 : Hid (∀ k, F5 k → w.heap.size ≤ k ∧ k < w7.heap.size) := fun k hk => ⟨(KF6.out k hk).1, by have := (KF6.out k hk).2; have := hO7.size; omega⟩
            have KM7 : Hid (slpS w7 mb F5 h l (I + 1) (N') U) := Or.inr ⟨by omega, s5, kI.out, hM7⟩
            clear hO7 hM7 KM6 KB6 KF6 hz6
            go_wp2_with fail
            go_roundw
            case rel => exact ⟨I + 1, F5, (N'), U, by go_num, by omega, rfl, (by first | rfl | simp), by simp, by omega, by omega, KM7, KB7, KF7⟩
            case measure => simp [intOf]; omega
          · subst hl0
            have hd : decide (0 < I) = true := by simp; omega
            have hU1 : decide (U ≤ N') = true := by simpa using hU0
            simp only [hd]
            go_wp2_with fail
            refine (clockS kM.out).mono ?_
            rintro e w6 ⟨rfl, hO6, hM6⟩
            have KB6 : Hid (Below w.heap.size w w6) := Only.below kB.out hO6 (fun k hk => (kF.out k hk).1) hz5
            have KF6 : Hid (∀ k, F5 k → w.heap.size ≤ k ∧ k < w6.heap.size) := fun k hk => ⟨(kF.out k hk).1, by have := (kF.out k hk).2; have := hO6.size; omega⟩
            have KM6 := hid hM6
            have hz6 := KB6.out.size
            clear hO6 hM6 kM kB kF hz5
            by_cases hcl : N' ≤ 9223372036854775807 - (256 * (h : Int) + (l : Int))
            · have hUN : B.aft (N') (B.wide h l) = N' + (256 * (h : Int) + (l : Int)) := HUN.out.trans (if_pos hcl)
              have HUP := hid hUN
              clear hUN
              go_wp2_with fail
              refine (stateS KM6.out).mono ?_
              rintro e w7 ⟨rfl, hO7, hM7⟩
              have KB7 : Hid (Below w.heap.size w w7) := Only.below KB6.out hO7 (fun k hk => (KF6.out k hk).1) hz6
              have KF7 : Hid (∀ k, F5 k → w.heap.size ≤ k ∧ k < w7.heap.size) := fun k hk => ⟨(KF6.out k hk).1, by have := (KF6.out k hk).2; have := hO7.size; omega⟩
              have KM7 : Hid (slpS w7 mb F5 h l (I + 1) (N') (N' + (256 * (h : Int) + (l : Int)))) := Or.inr ⟨by omega, s5, kI.out, by rw [HUP.out] at hM7; exact hM7⟩
              clear hO7 hM7 KM6 KB6 KF6 hz6
              go_wp2_with fail
              go_roundw
              case rel => exact ⟨I + 1, F5, (N'), (N' + (256 * (h : Int) + (l : Int))), by go_num, by omega, rfl, (by first | rfl | simp), by simp, by omega, by omega, KM7, KB7, KF7⟩
              case measure => simp [intOf]; omega
            · have hcl2 : 9223372036854775807 - (256 * (h : Int) + (l : Int)) < N' := by omega
              have hUN : B.aft (N') (B.wide h l) = 9223372036854775807 := HUN.out.trans (if_neg hcl)
              have HUP := hid hUN
              clear hUN
              go_wp2_with fail
              refine (stateS KM6.out).mono ?_
              rintro e w7 ⟨rfl, hO7, hM7⟩
              have KB7 : Hid (Below w.heap.size w w7) := Only.below KB6.out hO7 (fun k hk => (KF6.out k hk).1) hz6
              have KF7 : Hid (∀ k, F5 k → w.heap.size ≤ k ∧ k < w7.heap.size) := fun k hk => ⟨(KF6.out k hk).1, by have := (KF6.out k hk).2; have := hO7.size; omega⟩
              have KM7 : Hid (slpS w7 mb F5 h l (I + 1) (N') 9223372036854775807) := Or.inr ⟨by omega, s5, kI.out, by rw [HUP.out] at hM7; exact hM7⟩
              clear hO7 hM7 KM6 KB6 KF6 hz6
              go_wp2_with fail
              go_roundw
              case rel => exact ⟨I + 1, F5, (N'), 9223372036854775807, by go_num, by omega, rfl, (by first | rfl | simp), by simp, by omega, by omega, KM7, KB7, KF7⟩
              case measure => simp [intOf]; omega
      · have hlt2 : ¬ ((I : Int) < (len : Int)) := by omega
        have KB := rB
        clear rS rF
        go_wp2_with fail
        go_ret
        exact ⟨rfl, KB.out⟩
end Go.Proofs.YtnjiinbhbjpfkaaGreatDoor

/-
  The card of Asleep.
-/
namespace Go.Proofs.YtnjiinbhbjpfkaaGreatDoor
open Go.ChangeShapes Go.WideShapes Go.ChangeAt Go.RowKit

theorem Tryz.laidOut : laidOutB Tryz.prog = true := by kernel_rfl
theorem Tryz.cells2 : Tryz.prog.cellsOf 2 = 1 := by kernel_rfl

theorem asleep_met (os : Os) (args : Array Value) : laidMetH Tryz.prog Rows.asleepRow.laid ((World.doorLaid Tryz.prog 400 os).forCall (fun _ _ => 0) ⟨#[], args, []⟩).memory :=
  laidMetH_of_parts3 (fuel := 8) (laidMet_of_run' 8 (by kernel_rfl) (by kernel_rfl)) (by kernel_rfl) (by kernel_rfl)

set_option maxRecDepth 100000 in
theorem asleep_lifted (os : Os) (started : os.Started) (H : Type) (enc : TypeId × Value → H) :
    ReturnsInHanded {} Tryz.checked os 10 .any (fun w args => (Rows.asleepSpec.pre enc Tryz.prog Tryz.f10 [] false w args ∧ laidMetH Tryz.prog Rows.asleepRow.laid w) ∧ sizedMet enc Tryz.prog Tryz.f10 (OpenSpec.ofChange Rows.asleepSpec) false w args)
      (Rows.asleepSpec.post enc Tryz.prog Tryz.f10 false true false false) := by
  refine returnsInHanded_of_change_and (C := Tryz.checked) (X := fun w _ => laidMetH Tryz.prog Rows.asleepRow.laid w) (fun _ _ _ hh h => h.of_heap hh) own started (by kernel_rfl) Tryz.func10
    (ChangeSpec.witness_shaped (enc := enc) (C := Tryz.checked) (os := os) (X := fun w _ => laidMetH Tryz.prog Rows.asleepRow.laid w) false (World.doorLaid Tryz.prog 400 os) #[.int .i64 0, .slice none 0 0] 8 rfl (World.shaped_of_RefB (by kernel_rfl) (by kernel_rfl)) (by kernel_rfl) (by kernel_rfl) (by kernel_rfl) (asleep_met os _)) ?_
  intro W base args ds gs before hval0 hW hcnd hsz0 hL _
  have hW' := hW
  obtain ⟨p, q, hA0, hV, rfl, hfz, hnd⟩ := hW
  have hA : DataW.TrodAll enc Tryz.prog W 0 (fun _ => true) true Tryz.f10.params.toList args.toList ds p := hA0
  rw [Tryz.params10] at hA
  obtain ⟨v0, v1, d0, d1, p0, p1, rfl, rfl, rfl, h0, h1⟩ := trodAll_two hA
  obtain ⟨rfl, rfl⟩ := trodVars_none hV
  have hT : Tab W := tab_of_laid hL
  have hval : ∀ (j : Nat) t v, Tryz.f10.params[j]? = some t → #[v0, v1][j]? = some v → Value.okWide Tryz.prog W .any base t v := hval0
  rw [Tryz.params10] at hval
  obtain ⟨c0, rfl, rfl, rfl, wc0⟩ := open_int Tryz.underlying3 (hval 0 3 v0 rfl rfl) h0
  obtain ⟨a0, len, cap, rfl⟩ := okWide_slice Tryz.underlying61 (hval 1 61 v1 rfl rfl)
  have h1k := h1
  obtain ⟨fuel, hf⟩ := h1
  clear hA0 hval0
  simp only [List.append_nil, List.nil_append] at hW'
  have hlt : ∀ x ∈ p1, x.block < W.heap.size := fun x hx => by simpa using hW'.lt x (by simp [hx])
  have hargs : ∀ (W' : World), Below W.heap.size W W' → DataW.Trod enc Tryz.prog W' 0 (fun b => decide (b < W.heap.size)) true 61 (.slice a0 len cap) d1 p1 :=
    fun W' hn => Below.trod Tryz.laidOut (by kernel_rfl) (of_decide_eq_true (by kernel_rfl)) h1k hn hlt
  obtain ⟨zs, hlen, hz, hno, hin⟩ : ∃ zs : Nat → Int, len ≤ 9223372036854775807 ∧ (∀ a, a0 = some a → ∀ i, i < len → a.block < W.heap.size ∧ W.cell? (a.add i) = some (.int .i64 (zs i))) ∧ (a0 = none → len = 0) ∧ ∀ i, i < len → -9223372036854775808 ≤ zs i ∧ zs i ≤ 9223372036854775807 := by
    rcases open_ints Tryz.underlying61 Tryz.underlying2 Tryz.cells2 hf with ⟨hcs, hx⟩ | ⟨a, len', cap', zs, hcs, _, hl, hm, hz, hx, hcell, hwz⟩
    · simp [Value.cells] at hcs
      obtain ⟨rfl, rfl, rfl⟩ := hcs
      exact ⟨fun _ => 0, by omega, fun a e => (by cases e), fun _ => rfl, fun i hi => absurd hi (Nat.not_lt_zero i)⟩
    · simp [Value.cells] at hcs
      obtain ⟨rfl, rfl, rfl⟩ := hcs
      simp only [if_true] at hz
      refine ⟨fun i => zs.getD i 0, by unfold maxLen at hm; omega, fun b hb i hi => ?_, fun e => (by cases e), fun i hi => ?_⟩
      · injection hb with hb
        subst hb
        have hc := hcell i (by omega)
        refine ⟨?_, hc⟩
        have := World.block_lt_of_cell? W _ hc
        have e : (a.add i).block = a.block := by unfold Addr.add; split <;> rfl
        rw [e] at this; exact this
      · have hi2 : i < zs.length := by omega
        refine wf64 (hwz _ ?_)
        show zs.getD i 0 ∈ zs
        rw [List.getD_eq_getElem?_getD, List.getElem?_eq_getElem hi2]
        exact List.getElem_mem hi2
  refine (asleep_any c0 (wf64 wc0) a0 len cap zs W hT hlen hz hno hin).mono fun e W' ⟨he, hB⟩ => ?_
  subst he
  refine ⟨_, rfl, [.lit (.int .i64 c0), d1], [], _, [], _, [], hW', ?_, trodAll_mk2 (shut_int Tryz.underlying3 wc0) (hargs _ hB), rfl, hB.frame _, fun h => by cases h⟩
  exact trodAll_mk1 (shut_bool Tryz.underlying4 _)

theorem asleep_said : Rows.AsleepSaid :=
  OpenClaim.holds_of_wide 10 Tryz.f10 rfl rfl rfl rfl rfl rfl rfl ⟨rfl, rfl, rfl, rfl, rfl⟩ rfl rfl rfl rfl rfl (by kernel_rfl) Tryz.func10 (by kernel_rfl)
    (of_decide_eq_true (by kernel_rfl)) (by unfold Func.isWrapper; first | (rw [if_pos (by decide +kernel)]; kernel_rfl) | (rw [if_neg (by decide +kernel)]; exact ⟨rfl, rfl⟩))
    (fun os started H enc _ => asleep_lifted os started H enc)

theorem asleep_plain (f : FuncId) (fn : Func) (hf : Tryz.pinned.checked.prog.funcNamed Rows.asleepRow.func = some f) (hfn : Tryz.pinned.checked.prog.funcs[f]? = some fn) :
    false = Tryz.pinned.checked.prog.looks [] ∧ ∀ (j : Nat) t, fn.params[j]? = some t → Tryz.pinned.checked.prog.wantsStandIn t = false := by
  obtain rfl : f = 10 := Option.some.inj ((show Tryz.prog.funcNamed Rows.asleepRow.func = some 10 by kernel_rfl).symm.trans hf) |>.symm
  obtain rfl : fn = Tryz.f10 := (Option.some.inj (Tryz.func10.symm.trans hfn)).symm
  refine ⟨by kernel_rfl, fun j t ht => ?_⟩
  rw [Tryz.params10] at ht
  have hm : t ∈ [3, 61] := by simpa using Array.mem_of_getElem? ht
  have hall : ([3, 61].all fun u => !Tryz.prog.wantsStandIn u) = true := by kernel_rfl
  exact (show Tryz.prog.wantsStandIn t = false by simpa using List.all_eq_true.1 hall t hm)

theorem asleep_card : Rows.AsleepCardSaid :=
  Claim7.holds_tied_plain_at .later [] _ _ _ _ asleep_said (fun _ h => by cases h) (by kernel_rfl) (fun _ h => by cases h) asleep_row_tie rfl ⟨rfl, rfl⟩ (by kernel_rfl) rfl asleep_plain (by kernel_rfl)
end Go.Proofs.YtnjiinbhbjpfkaaGreatDoor

namespace Go.Proofs.YtnjiinbhbjpfkaaGreatDoor
theorem asleep_holds : Rows.AsleepCardSaid := asleep_card
end Go.Proofs.YtnjiinbhbjpfkaaGreatDoor
