/-
  What the closures of the table do: those whose a is a value that can always be told (the function's number is 79).
-/
import Derived.Test.YtbmjlbcaplgfmaaGreatDoorPartC
import Derived.Test.YtbmjlbcaplgfmaaGreatDoorPartH
namespace Go.Proofs.YtbmjlbcaplgfmaaGreatDoor
open Go.RowKit

set_option maxRecDepth 100000 in
set_option maxHeartbeats 2000000 in
theorem gives79_any (op a b c fb tb eb cb L nx rb nr vb : Nat) (back : Value) (R : Nat → B.V) (y : B.V) (ha : a < nr) (w : World) (hF : Fr w fb cb L nx rb nr back R) (hv : w.cell? ⟨vb, 0, none⟩ = some (Fv 79 #[])) (hvb : vb < w.heap.size)
    (hn : Hid (∀ w', w.grownBy w' none → Calls Tryz.prog 79 #[stepV op a b c fb tb eb] w' fun e w'' => e = .returned (vA y) ∧ w'.grownBy w'' none)) :
    Calls Tryz.prog 137 #[stepV op a b c fb tb eb, P0 vb] w fun e w' => e = .returned (.tuple #[]) ∧ w.grownBy w' (some rb) ∧ Fr w' fb cb L nx rb nr back (B.set R a y) := by
  have KF : Hid (Fr w fb cb L nx rb nr back R) := hF
  clear hF
  go_enter Tryz.func137, Tryz.ntmps137
  go_wp2_with fail
  go_region_with (first | (go_at_call 79; refine (hn.out _ (by repeat (first | exact grown_refl _ _ | refine grown_drew ?_ | refine grown_alloc ?_ _))).mono ?_; rintro e w1 ⟨rfl, hg1⟩; obtain ⟨s0, s1, s2, s3, s4, s5, s6, s7⟩ := box7 hg1; have KG1 : Hid (w.grownBy w1 none) := grown_trans (by repeat (first | exact grown_refl _ _ | refine grown_drew ?_ | refine grown_alloc ?_ _)) hg1; clear hg1) | (go_at_call 138; refine (set_any op a b c fb tb eb cb L nx rb nr back R y w1 (KF.out.kept KG1.out).1 (KF.out.kept KG1.out).2.1 ha).mono ?_; rintro e w2 ⟨rfl, hg2, hf2⟩))
  all_goals
    go_wp2_with fail
    go_end0
    refine ⟨rfl, grown_trans (grown_of_none KG1.out) hg2, grown_heap hg2 (KF.out.kept KG1.out).1 (by intro e; injection e with e; exact KF.out.2.2 e), hf2, KF.out.2.2⟩

set_option maxRecDepth 100000 in
theorem actg79_any (op a b c fb tb eb cb L nx rb nr wb vb : Nat) (back : Value) (R : Nat → B.V) (y : B.V) (ha : a < nr) (w : World) (hF : Fr w fb cb L nx rb nr back R) (hw : w.cell? ⟨wb, 0, none⟩ = some (Fv 137 #[P0 vb])) (hv : w.cell? ⟨vb, 0, none⟩ = some (Fv 79 #[])) (hwb : wb < w.heap.size) (hvb : vb < w.heap.size)
    (hn : Hid (∀ w', w.grownBy w' none → Calls Tryz.prog 79 #[stepV op a b c fb tb eb] w' fun e w'' => e = .returned (vA y) ∧ w'.grownBy w'' none)) :
    Calls Tryz.prog 150 #[stepV op a b c fb tb eb, P0 wb] w fun e w' => e = .returned (.int .i64 0) ∧ w.grownBy w' (some rb) ∧ Fr w' fb cb L nx rb nr back (B.set R a y) := by
  have KF : Hid (Fr w fb cb L nx rb nr back R) := hF
  clear hF
  go_enter Tryz.func150, Tryz.ntmps150
  go_wp2_with fail
  refine (gives79_any op a b c fb tb eb cb L nx rb nr vb back R y ha _ (KF.out.kept (World.grownBy_alloc _ _ _)) (by simp [go_sem, hvb, hv]) (by simp; omega) (fun w' hg => hn.out w' (grown_trans (World.grownBy_alloc _ _ _) hg))).mono ?_
  rintro e w1 ⟨rfl, hg1, hF1⟩
  have KF1 := hid hF1
  have KG1 : Hid (w.grownBy w1 (some rb)) := grown_trans (World.grownBy_alloc _ _ _) hg1
  clear hF1 hg1
  go_wp2_with fail
  go_ret
  exact ⟨rfl, KG1.out, KF1.out⟩

end Go.Proofs.YtbmjlbcaplgfmaaGreatDoor

/-
  What the closures of the table do: those whose a is a value that can always be told (the function's number is 86).
-/
namespace Go.Proofs.YtbmjlbcaplgfmaaGreatDoor
open Go.RowKit

set_option maxRecDepth 100000 in
set_option maxHeartbeats 2000000 in
theorem gives86_any (op a b c fb tb eb cb L nx rb nr vb : Nat) (back : Value) (R : Nat → B.V) (y : B.V) (ha : a < nr) (w : World) (hF : Fr w fb cb L nx rb nr back R) (hv : w.cell? ⟨vb, 0, none⟩ = some (Fv 86 #[])) (hvb : vb < w.heap.size)
    (hn : Hid (∀ w', w.grownBy w' none → Calls Tryz.prog 86 #[stepV op a b c fb tb eb] w' fun e w'' => e = .returned (vA y) ∧ w'.grownBy w'' none)) :
    Calls Tryz.prog 137 #[stepV op a b c fb tb eb, P0 vb] w fun e w' => e = .returned (.tuple #[]) ∧ w.grownBy w' (some rb) ∧ Fr w' fb cb L nx rb nr back (B.set R a y) := by
  have KF : Hid (Fr w fb cb L nx rb nr back R) := hF
  clear hF
  go_enter Tryz.func137, Tryz.ntmps137
  go_wp2_with fail
  go_region_with (first | (go_at_call 86; refine (hn.out _ (by repeat (first | exact grown_refl _ _ | refine grown_drew ?_ | refine grown_alloc ?_ _))).mono ?_; rintro e w1 ⟨rfl, hg1⟩; obtain ⟨s0, s1, s2, s3, s4, s5, s6, s7⟩ := box7 hg1; have KG1 : Hid (w.grownBy w1 none) := grown_trans (by repeat (first | exact grown_refl _ _ | refine grown_drew ?_ | refine grown_alloc ?_ _)) hg1; clear hg1) | (go_at_call 138; refine (set_any op a b c fb tb eb cb L nx rb nr back R y w1 (KF.out.kept KG1.out).1 (KF.out.kept KG1.out).2.1 ha).mono ?_; rintro e w2 ⟨rfl, hg2, hf2⟩))
  all_goals
    go_wp2_with fail
    go_end0
    refine ⟨rfl, grown_trans (grown_of_none KG1.out) hg2, grown_heap hg2 (KF.out.kept KG1.out).1 (by intro e; injection e with e; exact KF.out.2.2 e), hf2, KF.out.2.2⟩

set_option maxRecDepth 100000 in
theorem actg86_any (op a b c fb tb eb cb L nx rb nr wb vb : Nat) (back : Value) (R : Nat → B.V) (y : B.V) (ha : a < nr) (w : World) (hF : Fr w fb cb L nx rb nr back R) (hw : w.cell? ⟨wb, 0, none⟩ = some (Fv 137 #[P0 vb])) (hv : w.cell? ⟨vb, 0, none⟩ = some (Fv 86 #[])) (hwb : wb < w.heap.size) (hvb : vb < w.heap.size)
    (hn : Hid (∀ w', w.grownBy w' none → Calls Tryz.prog 86 #[stepV op a b c fb tb eb] w' fun e w'' => e = .returned (vA y) ∧ w'.grownBy w'' none)) :
    Calls Tryz.prog 150 #[stepV op a b c fb tb eb, P0 wb] w fun e w' => e = .returned (.int .i64 0) ∧ w.grownBy w' (some rb) ∧ Fr w' fb cb L nx rb nr back (B.set R a y) := by
  have KF : Hid (Fr w fb cb L nx rb nr back R) := hF
  clear hF
  go_enter Tryz.func150, Tryz.ntmps150
  go_wp2_with fail
  refine (gives86_any op a b c fb tb eb cb L nx rb nr vb back R y ha _ (KF.out.kept (World.grownBy_alloc _ _ _)) (by simp [go_sem, hvb, hv]) (by simp; omega) (fun w' hg => hn.out w' (grown_trans (World.grownBy_alloc _ _ _) hg))).mono ?_
  rintro e w1 ⟨rfl, hg1, hF1⟩
  have KF1 := hid hF1
  have KG1 : Hid (w.grownBy w1 (some rb)) := grown_trans (World.grownBy_alloc _ _ _) hg1
  clear hF1 hg1
  go_wp2_with fail
  go_ret
  exact ⟨rfl, KG1.out, KF1.out⟩

end Go.Proofs.YtbmjlbcaplgfmaaGreatDoor

/-
  What each instruction of the table leaves of a machine of one task.
-/
namespace Go.Proofs.YtbmjlbcaplgfmaaGreatDoor
open Go.RowKit

section
variable {w w' : World} {g : Geo} {C : List B.In} {q : Nat} {kd : Nat → Bool} {vb : Nat → Nat} {s : B.St} {E Tk : Nat → Value} {bs qb cq : Nat} {ad : Option Addr} {ne cap : Nat} {ev : List B.Ev}

theorem ite_yes {p a b : Prop} [Decidable p] (h : p) (ha : a) : if p then a else b := by rw [if_pos h]; exact ha
theorem ite_no {p a b : Prop} [Decidable p] (h : ¬ p) (hb : b) : if p then a else b := by rw [if_neg h]; exact hb
theorem Kon.box (h : Kon w g C Tk) (k : Nat) (x : Value × TypeId) (hx : (actB (g.ac + 1))[k]? = some x) : w.cell? ⟨g.ac + 1 + k, 0, none⟩ = some x.1 ∧ g.ac + 1 + k < w.heap.size := by
  have := h.hA k x hx
  exact ⟨by simp [World.cell?, this], heap_lt this⟩

theorem after_regs {R : Nat → B.V} (hR : Run w g C q kd vb (s.1 + 1, s.2.1, s.2.2) E Tk) (hm : Mid w E Tk bs qb cq ad ne cap ev) (hg : w.grownBy w' (some g.rb)) (hF : Fr w' g.fb g.cb C.length (s.1 + 1) g.rb g.nr (Fv 113 #[P0 g.xe, P0 g.xt]) R) (hH : B.Held kd g.nr g.n (s.1 + 1, R, s.2.2)) :
    After w w' g C q kd vb Tk bs qb cq ad ne cap ev (s.1 + 1, R, s.2.2) 0 [] := by
  refine ⟨only_grown hg (by unfold Wr; omega), Or.inl ⟨rfl, kd, vb, E, ad, ne, cap, hR.regs hg hF hH, ?_, by omega, fun p _ _ h => Or.inl ⟨h, rfl⟩⟩⟩
  rw [List.append_nil]; exact hm.rb hR hg
theorem after_next {y : Nat} (hR : Run w g C q kd vb (s.1 + 1, s.2.1, s.2.2) E Tk) (hm : Mid w E Tk bs qb cq ad ne cap ev) (hg : w.grownBy w' (some g.fb)) (hF : Fr w' g.fb g.cb C.length y g.rb g.nr (Fv 113 #[P0 g.xe, P0 g.xt]) s.2.1) (hy : y ≤ C.length) :
    After w w' g C q kd vb Tk bs qb cq ad ne cap ev (y, s.2.1, s.2.2) 0 [] := by
  refine ⟨only_grown hg (by unfold Wr; omega), Or.inl ⟨rfl, kd, vb, E, ad, ne, cap, hR.next hg hF hy, ?_, by omega, fun p _ _ h => Or.inl ⟨h, rfl⟩⟩⟩
  rw [List.append_nil]; exact hm.fb hR hg

theorem do0 (a b c : Nat) (hR : Run w g C q kd vb (s.1 + 1, s.2.1, s.2.2) E Tk) (hm : Mid w E Tk bs qb cq ad ne cap ev) (hi : okIn g.nr C.length (0, a, b, c) = true) :
    Calls Tryz.prog 150 #[stepV 0 a b c g.fb g.tb g.eb, P0 (g.ac + 2)] w fun e w' => ∃ why : Nat, e = .returned (.int .i64 why) ∧ Acted w w' g C q kd vb Tk bs qb cq ad ne cap ev s (0, a, b, c) why := by
  have hi' : a < g.nr ∧ b ≤ 255 ∧ c ≤ 255 := by simpa [okIn] using hi
  obtain ⟨b1, l1⟩ := hR.hK.box 1 _ rfl
  obtain ⟨b0, l0⟩ := hR.hK.box 0 _ rfl
  refine (act0_any 0 a b c g.fb g.tb g.eb g.cb C.length (s.1 + 1) g.rb g.nr (g.ac + 2) (g.ac + 1) _ s.2.1 (by omega) (by omega) hi'.1 w hR.hF l1 b1 b0 l0).mono ?_
  rintro e w' ⟨rfl, hg, hF⟩
  exact ⟨0, rfl, Or.inl ⟨rfl, _, 0, [], ⟨rfl, rfl, rfl⟩, after_regs hR hm hg hF (B.held_set hR.hH _ _ _ (B.vok_num _ _ _))⟩⟩

theorem do1 (a b c : Nat) (hR : Run w g C q kd vb (s.1 + 1, s.2.1, s.2.2) E Tk) (hm : Mid w E Tk bs qb cq ad ne cap ev) (hi : okIn g.nr C.length (1, a, b, c) = true) :
    Calls Tryz.prog 150 #[stepV 1 a b c g.fb g.tb g.eb, P0 (g.ac + 4)] w fun e w' => ∃ why : Nat, e = .returned (.int .i64 why) ∧ Acted w w' g C q kd vb Tk bs qb cq ad ne cap ev s (1, a, b, c) why := by
  have hi' : a < g.nr ∧ b < g.nr ∧ c = 0 := by simpa [okIn] using hi
  obtain ⟨b1, l1⟩ := hR.hK.box 3 _ rfl
  obtain ⟨b0, l0⟩ := hR.hK.box 2 _ rfl
  refine (actg79_any 1 a b c g.fb g.tb g.eb g.cb C.length (s.1 + 1) g.rb g.nr (g.ac + 4) (g.ac + 3) _ s.2.1 (s.2.1 b) hi'.1 w hR.hF b1 b0 l1 l0 (fun w1 hg => b_any 1 a b c g.fb g.tb g.eb g.cb C.length (s.1 + 1) g.rb g.nr _ s.2.1 w1 (hR.hF.kept hg).1 (hR.hF.kept hg).2.1 hi'.2.1)).mono ?_
  rintro e w' ⟨rfl, hg, hF⟩
  exact ⟨0, rfl, Or.inl ⟨rfl, _, 0, [], ⟨rfl, rfl, rfl⟩, after_regs hR hm hg hF (B.held_set hR.hH _ _ _ (hR.hH.1 b hi'.2.1))⟩⟩

theorem do3 (a b c : Nat) (hR : Run w g C q kd vb (s.1 + 1, s.2.1, s.2.2) E Tk) (hm : Mid w E Tk bs qb cq ad ne cap ev) (hi : okIn g.nr C.length (3, a, b, c) = true) :
    Calls Tryz.prog 140 #[stepV 3 a b c g.fb g.tb g.eb, P0 (g.ac + 6)] w fun e w' => ∃ why : Nat, e = .returned (.int .i64 why) ∧ Acted w w' g C q kd vb Tk bs qb cq ad ne cap ev s (3, a, b, c) why := by
  have hi' : a < g.nr ∧ b < g.nr ∧ c < g.nr := by simpa [okIn] using hi
  refine (act3_any 3 a b c g.fb g.tb g.eb g.cb C.length (s.1 + 1) g.rb g.nr (g.ac + 6) _ s.2.1 hi'.1 hi'.2.1 hi'.2.2 w hR.hF (hR.hK.hA 5 _ rfl)).mono ?_
  rintro e w' (⟨h, rfl, hg, hF⟩ | ⟨h, rfl, hg⟩)
  · refine ⟨0, rfl, Or.inl ⟨rfl, _, 0, [], ?_, after_regs hR hm hg hF (B.held_set hR.hH _ _ _ (B.vok_num _ _ _))⟩⟩
    show (if _ then _ else _)
    refine ite_yes ?_ ⟨rfl, rfl, rfl⟩
    exact h
  · refine ⟨1, rfl, Or.inr ⟨by omega, by omega, fun s' ev1 => ?_, hg⟩⟩
    show (if _ then _ else _)
    refine ite_no ?_ rfl
    exact h

theorem do6 (a b c : Nat) (hR : Run w g C q kd vb (s.1 + 1, s.2.1, s.2.2) E Tk) (hm : Mid w E Tk bs qb cq ad ne cap ev) (hi : okIn g.nr C.length (6, a, b, c) = true) :
    Calls Tryz.prog 150 #[stepV 6 a b c g.fb g.tb g.eb, P0 (g.ac + 10)] w fun e w' => ∃ why : Nat, e = .returned (.int .i64 why) ∧ Acted w w' g C q kd vb Tk bs qb cq ad ne cap ev s (6, a, b, c) why := by
  have hi' : a < g.nr ∧ b < g.nr ∧ c < g.nr := by simpa [okIn] using hi
  obtain ⟨b1, l1⟩ := hR.hK.box 9 _ rfl
  obtain ⟨b0, l0⟩ := hR.hK.box 8 _ rfl
  refine (actg86_any 6 a b c g.fb g.tb g.eb g.cb C.length (s.1 + 1) g.rb g.nr (g.ac + 10) (g.ac + 9) _ s.2.1 (0, if s.2.1 b = s.2.1 c then 1 else 0) hi'.1 w hR.hF b1 b0 l1 l0 (fun w1 hg => same_any 6 a b c g.fb g.tb g.eb g.cb C.length (s.1 + 1) g.rb g.nr _ s.2.1 hi'.2.1 hi'.2.2 w1 (hR.hF.kept hg))).mono ?_
  rintro e w' ⟨rfl, hg, hF⟩
  exact ⟨0, rfl, Or.inl ⟨rfl, _, 0, [], ⟨rfl, rfl, rfl⟩, after_regs hR hm hg hF (B.held_set hR.hH _ _ _ (B.vok_num _ _ _))⟩⟩

theorem do7 (a b c : Nat) (hR : Run w g C q kd vb (s.1 + 1, s.2.1, s.2.2) E Tk) (hm : Mid w E Tk bs qb cq ad ne cap ev) (hi : okIn g.nr C.length (7, a, b, c) = true) :
    Calls Tryz.prog 150 #[stepV 7 a b c g.fb g.tb g.eb, P0 (g.ac + 12)] w fun e w' => ∃ why : Nat, e = .returned (.int .i64 why) ∧ Acted w w' g C q kd vb Tk bs qb cq ad ne cap ev s (7, a, b, c) why := by
  have hi' : a = 0 ∧ b = 0 ∧ c ≤ C.length ∧ c ≤ 255 := by simpa [okIn] using hi
  obtain ⟨b1, l1⟩ := hR.hK.box 11 _ rfl
  obtain ⟨b0, l0⟩ := hR.hK.box 10 _ rfl
  refine (actj89_any 7 a b c g.fb g.tb g.eb g.cb C.length (s.1 + 1) g.rb g.nr (g.ac + 12) (g.ac + 11) _ s.2.1 true (256 * b + c) rfl (by omega) (by omega) w hR.hF b1 b0 l1 l0 (fun w1 hg => true_any 7 a b c g.fb g.tb g.eb w1)).mono ?_
  rintro e w' ⟨rfl, hg, hF⟩
  exact ⟨0, rfl, Or.inl ⟨rfl, _, 0, [], ⟨rfl, rfl, rfl⟩, after_next hR hm hg hF (by show 256 * b + c ≤ C.length; omega)⟩⟩

theorem do8 (a b c : Nat) (hR : Run w g C q kd vb (s.1 + 1, s.2.1, s.2.2) E Tk) (hm : Mid w E Tk bs qb cq ad ne cap ev) (hi : okIn g.nr C.length (8, a, b, c) = true) :
    Calls Tryz.prog 150 #[stepV 8 a b c g.fb g.tb g.eb, P0 (g.ac + 14)] w fun e w' => ∃ why : Nat, e = .returned (.int .i64 why) ∧ Acted w w' g C q kd vb Tk bs qb cq ad ne cap ev s (8, a, b, c) why := by
  have hi' : a < g.nr ∧ b = 0 ∧ c ≤ C.length ∧ c ≤ 255 := by simpa [okIn] using hi
  obtain ⟨b1, l1⟩ := hR.hK.box 13 _ rfl
  obtain ⟨b0, l0⟩ := hR.hK.box 12 _ rfl
  refine (actj90_any 8 a b c g.fb g.tb g.eb g.cb C.length (s.1 + 1) g.rb g.nr (g.ac + 14) (g.ac + 13) _ s.2.1 (decide (s.2.1 a = (0, 0))) (if s.2.1 a = (0, 0) then 256 * b + c else s.1 + 1) (by show _ = _; simp) (by omega) (by omega) w hR.hF b1 b0 l1 l0 (fun w1 hg => zero_any 8 a b c g.fb g.tb g.eb g.cb C.length (s.1 + 1) g.rb g.nr _ s.2.1 hi'.1 w1 (hR.hF.kept hg))).mono ?_
  rintro e w' ⟨rfl, hg, hF⟩
  refine ⟨0, rfl, Or.inl ⟨rfl, _, 0, [], ⟨rfl, rfl, rfl⟩, after_next hR hm hg hF ?_⟩⟩
  have := hR.hp
  simp only at this
  show (if s.2.1 a = (0, 0) then 256 * b + c else s.1 + 1) ≤ C.length
  split <;> omega

theorem do10 (a b c : Nat) (hR : Run w g C q kd vb (s.1 + 1, s.2.1, s.2.2) E Tk) (hm : Mid w E Tk bs qb cq ad ne cap ev) (hi : okIn g.nr C.length (10, a, b, c) = true) :
    Calls Tryz.prog 94 #[stepV 10 a b c g.fb g.tb g.eb] w fun e w' => ∃ why : Nat, e = .returned (.int .i64 why) ∧ Acted w w' g C q kd vb Tk bs qb cq ad ne cap ev s (10, a, b, c) why := by
  have hi' : a < g.nr ∧ b < g.nr ∧ c < g.nr := by simpa [okIn] using hi
  refine (act10_any 10 a b c g.fb g.tb g.eb g.cb C.length (s.1 + 1) g.rb g.nr g.sb g.pb g.n _ kd vb (s.1 + 1, s.2.1, s.2.2) w hR.hF hR.hS hR.hH hR.hn hi'.1 hi'.2.1 hi'.2.2 ((hR.hE.cell 26 (by omega)).trans (by rw [hR.eE.e26])) hR.hE.lt (fun p x y z => (hR.hvr p x y z).1)).mono ?_
  rintro e w' (⟨h, rfl, hg, hF⟩ | ⟨h, why, h1, h2, rfl, hg⟩)
  · have hv : B.Vok kd g.n ((s.2.2 (s.2.1 b).1).getD (s.2.1 c).2.toNat (0, 0)) := by
      rcases hR.hH.1 b hi'.2.1 with h0 | ⟨_, _, hkd, _⟩
      · exact absurd h0 h.1
      · exact B.held_get hR.hH hkd _
    refine ⟨0, rfl, Or.inl ⟨rfl, _, 0, [], ?_, after_regs hR hm hg hF (B.held_set hR.hH _ _ _ hv)⟩⟩
    show (if _ then _ else _)
    refine ite_yes ?_ ⟨rfl, rfl, rfl⟩
    exact h
  · refine ⟨why, rfl, Or.inr ⟨h1, h2, fun s' ev1 => ?_, hg⟩⟩
    show (if _ then _ else _)
    refine ite_no ?_ rfl
    exact h

theorem do11 (a b c : Nat) (hR : Run w g C q kd vb (s.1 + 1, s.2.1, s.2.2) E Tk) (hm : Mid w E Tk bs qb cq ad ne cap ev) (hi : okIn g.nr C.length (11, a, b, c) = true) :
    Calls Tryz.prog 95 #[stepV 11 a b c g.fb g.tb g.eb] w fun e w' => ∃ why : Nat, e = .returned (.int .i64 why) ∧ Acted w w' g C q kd vb Tk bs qb cq ad ne cap ev s (11, a, b, c) why := by
  have hi' : a < g.nr ∧ b < g.nr ∧ c < g.nr := by simpa [okIn] using hi
  refine (act11_any 11 a b c g.fb g.tb g.eb g.cb C.length (s.1 + 1) g.rb g.nr g.sb g.pb g.n _ kd vb (s.1 + 1, s.2.1, s.2.2) w hR.hF hR.hS hR.hH hR.hn hi'.1 hi'.2.1 hi'.2.2 ((hR.hE.cell 26 (by omega)).trans (by rw [hR.eE.e26])) hR.hE.lt).mono ?_
  rintro e w' (⟨h, rfl, hg, hS⟩ | ⟨h, why, h1, h2, rfl, hg⟩)
  · obtain ⟨hp1, hp2, hkd⟩ : 1 ≤ (s.2.1 a).1 ∧ (s.2.1 a).1 ≤ g.n ∧ kd (s.2.1 a).1 = true := by
      rcases hR.hH.1 a hi'.1 with h0 | ⟨x, y, z, _⟩
      · exact absurd h0 h.1
      · exact ⟨x, y, z⟩
    obtain ⟨y1, y2, y3, y4, y5, y6, y7, y8, y9, y10⟩ := hR.ty
    have hy := y10 _ hp1 hp2 hkd
    have hv := hR.hvr _ hp1 hp2 hkd
    have hO : Only (fun k => k = vb (s.2.1 a).1) w w' := only_grown hg rfl
    refine ⟨0, rfl, Or.inl ⟨rfl, (s.1 + 1, s.2.1, B.lay s.2.2 (s.2.1 a).1 ((s.2.2 (s.2.1 a).1).set (s.2.1 b).2.toNat (s.2.1 c))), 0, [], ?_, only_grown hg (by unfold Wr; exact Or.inr (Or.inr (Or.inr (Or.inr (Or.inr (Or.inr (Or.inr (Or.inr (Or.inl ⟨_, hp1, hp2, hkd, rfl⟩))))))))), Or.inl ⟨rfl, kd, vb, E, ad, ne, cap, ?_, ?_, by omega, fun p _ _ h => Or.inl ⟨h, rfl⟩⟩⟩⟩
    · show (if _ then _ else _)
      refine ite_yes ?_ ⟨rfl, rfl, rfl⟩
      exact h
    · exact { hK := hR.hK.kept hO (fun k hk _ => by subst hk; exact ⟨hv.2, Or.inr (Or.inl hy)⟩), hE := hR.hE.only hO (ne_ty y1 hy (by decide)), eE := hR.eE, hF := hR.hF.keep hO (ne_ty y3 hy (by decide)) (fun e => hv.1 e.symm), hS := hS, hH := B.held_put hR.hH _ _ _ _ hkd (hR.hH.1 c hi'.2.2), ok := hR.ok, hn := hR.hn, hp := hR.hp, hvr := hR.hvr, hro := hR.hro }
    · rw [List.append_nil]
      refine hm.keep hO (fun k hk e => ?_)
      subst e; rw [hy] at hk; exact absurd hk (by decide)
  · refine ⟨why, rfl, Or.inr ⟨h1, h2, fun s' ev1 => ?_, hg⟩⟩
    show (if _ then _ else _)
    refine ite_no ?_ rfl
    exact h

/-- A task's life has ended. -/
theorem after_left {w1 : World} {ev1 : List B.Ev} {r : Nat} (hR : Run w g C q kd vb s E Tk) (hO : Only (fun k => k = g.tb ∨ k = g.kb) w w1) (hL : Left w1 w' g.eb g.tb g.lb g.ob bs ne ad cap (ev ++ ev1) E) (hr : r = 1 ∨ r = 3) (s' : B.St) :
    After w w' g C q kd vb Tk bs qb cq ad ne cap ev s' r ev1 := by
  obtain ⟨E', x, c, a', c', h1, h2, h3, h4, h5, h6, h7, h8, h9⟩ := hL
  refine ⟨?_, Or.inr ⟨by omega, E', _, _, _, h1, ⟨h3.trans hR.eE.e27, fun _ => ⟨⟨_, _, h4⟩, h5.trans hR.eE.e41⟩, fun e => by omega⟩, h2.trans hR.eE.e1, h6, h7, by omega, h8⟩⟩
  refine (hO.mono (fun k hk _ => by unfold Wr; omega)).trans h9 (fun k hk _ => ?_)
  unfold Wr
  rcases hk with h | h | h | h | h
  · exact Or.inl h
  · exact Or.inr (Or.inl h)
  · exact Or.inr (Or.inr (Or.inl h))
  · exact Or.inr (Or.inr (Or.inr (Or.inl h)))
  · exact Or.inr (Or.inr (Or.inr (Or.inr (Or.inr (Or.inr (Or.inr (Or.inr (Or.inr h))))))))

theorem do14 (a b c : Nat) (hR : Run w g C q kd vb (s.1 + 1, s.2.1, s.2.2) E Tk) (hm : Mid w E Tk bs qb cq ad ne cap ev) (hne : ne ≤ 100000) (hi : okIn g.nr C.length (14, a, b, c) = true) :
    Calls Tryz.prog 150 #[stepV 14 a b c g.fb g.tb g.eb, P0 (g.ac + 19)] w fun e w' => ∃ why : Nat, e = .returned (.int .i64 why) ∧ Acted w w' g C q kd vb Tk bs qb cq ad ne cap ev s (14, a, b, c) why := by
  have hi' : a < g.nr ∧ b = 0 ∧ c = 0 := by simpa [okIn] using hi
  refine (act14_any 14 a b c g.eb g.tb g.lb g.cl g.ob g.co bs g.xe g.xt g.kb g.ck g.fb g.cb C.length (s.1 + 1) g.rb g.nr (g.ac + 19) s.2.1 hi'.1 ad ne cap ev E Tk w (hR.leav hm hne) hR.hK.hxe hR.hK.hxt hR.hK.t1 hR.hK.oK hR.hF (hR.hK.hA 18 _ rfl)).mono ?_
  rintro e w' ⟨rfl, w1, hL, hO⟩
  refine ⟨0, rfl, Or.inl ⟨rfl, s, 1, [(2, (s.2.1 a).2)], ⟨rfl, ?_⟩, after_left hR hO hL (Or.inl rfl) s⟩⟩
  rcases hR.hH.1 a hi'.1 with h0 | ⟨_, _, _, h0⟩
  · show _ = [(2, if (s.2.1 a).1 = 0 then _ else _)]
    rw [if_pos h0]
  · have h0' : (s.2.1 a).2 = 0 := h0
    show _ = [(2, if (s.2.1 a).1 = 0 then (s.2.1 a).2 else 0)]
    rw [h0']; split <;> rfl

theorem do20 (a b c : Nat) (hR : Run w g C q kd vb (s.1 + 1, s.2.1, s.2.2) E Tk) (hm : Mid w E Tk bs qb cq ad ne cap ev) (hne : ne ≤ 100000) (hi : okIn g.nr C.length (20, a, b, c) = true) :
    Calls Tryz.prog 154 #[stepV 20 a b c g.fb g.tb g.eb, P0 (g.ac + 27), P0 (g.ac + 28)] w fun e w' => ∃ why : Nat, e = .returned (.int .i64 why) ∧ Acted w w' g C q kd vb Tk bs qb cq ad ne cap ev s (20, a, b, c) why := by
  have hi' : a < g.nr ∧ b = 0 ∧ c = 0 := by simpa [okIn] using hi
  refine (act20_any 20 a b c g.fb g.tb g.eb g.cb C.length (s.1 + 1) g.rb g.nr bs (g.ac + 27) (g.ac + 28) _ s.2.1 hi'.1 ad ne cap ev E Tk w hR.hF hR.hE hm.e42 hR.hK.hT hR.hK.t0 hm.o42 hm.hb hne (hR.hK.hA 26 _ rfl) (hR.hK.hA 27 _ rfl)).mono ?_
  rintro e w' (⟨h, rfl, x, c', ho, hE, hO⟩ | ⟨h, rfl, hg⟩)
  · obtain ⟨y1, y2, y3, y4, y5, y6, y7, y8, y9, y10⟩ := hR.ty
    have hS : ∀ k, (k = g.eb ∨ (Value.slice ad ne cap).ownBlock = some k) → kty w k = 143 ∨ kty w k = 48 := by
      rintro k (rfl | h)
      · exact Or.inl y1
      · exact Or.inr (kty_own hm.o42 h)
    have hN : ∀ k, kty w k ≠ 143 → kty w k ≠ 48 → ¬ (k = g.eb ∨ (Value.slice ad ne cap).ownBlock = some k) := fun k h1 h2 h3 => by
      rcases hS k h3 with h | h
      · exact h1 h
      · exact h2 h
    refine ⟨0, rfl, Or.inl ⟨rfl, (s.1 + 1, s.2.1, s.2.2), 0, [(1, (s.2.1 a).2)], ?_, hO.mono (fun k hk _ => by unfold Wr; rcases hk with h | h <;> simp [h]), Or.inl ⟨rfl, kd, vb, upd E 42 (.slice (some ⟨x, 0, none⟩) (ne + 1) c'), some ⟨x, 0, none⟩, ne + 1, c', ?_, ?_, Nat.le_refl _, fun p _ _ h => Or.inl ⟨h, rfl⟩⟩⟩⟩
    · show (if _ then _ else _)
      refine ite_yes ?_ ⟨rfl, rfl, rfl⟩
      exact h
    · exact { hK := hR.hK.kept hO (fun k hk _ => by
                have := hS k hk
                refine ⟨fun e => ?_, by unfold KT; rcases this with h | h <;> simp [h]⟩
                subst e; rw [y8] at this; exact absurd this (by decide)), hE := hE, eE := hR.eE.upd 42 _ (Or.inr rfl), hF := hR.hF.keep hO (hN _ (by rw [y3]; decide) (by rw [y3]; decide)) (hN _ (by rw [y4]; decide) (by rw [y4]; decide)),
              hS := hR.hS.keep hO (hN _ (by rw [y5]; decide) (by rw [y5]; decide)) (hN _ (by rw [y6]; decide) (by rw [y6]; decide)) (fun p h1 h2 h3 => hN _ (by rw [y10 p h1 h2 h3]; decide) (by rw [y10 p h1 h2 h3]; decide)), hH := hR.hH, ok := hR.ok, hn := hR.hn, hp := hR.hp, hvr := hR.hvr, hro := hR.hro }
    · exact { t2 := hm.t2, t3 := hm.t3, e31 := (upd_off _ _ _ _ (by omega)).trans hm.e31, o31 := own_of hm.o31 (fun k hk => hO.same (own_ty hm.o31 k hk).2.1 (hN k (by rw [kty_own hm.o31 hk]; decide) (by rw [kty_own hm.o31 hk]; decide))), e42 := upd_at _ _ _, o42 := ho, hb := Nat.le_trans hm.hb hO.size }
  · refine ⟨1, rfl, Or.inr ⟨by omega, by omega, fun s' ev1 => ?_, hg⟩⟩
    show (if _ then _ else _)
    refine ite_no ?_ rfl
    exact h

theorem do9 (a b c : Nat) (hR : Run w g C q kd vb (s.1 + 1, s.2.1, s.2.2) E Tk) (hm : Mid w E Tk bs qb cq ad ne cap ev) (hne : ne ≤ 100000) (hi : okIn g.nr C.length (9, a, b, c) = true) :
    Calls Tryz.prog 150 #[stepV 9 a b c g.fb g.tb g.eb, P0 (g.ac + 16)] w fun e w' => ∃ why : Nat, e = .returned (.int .i64 why) ∧ Acted w w' g C q kd vb Tk bs qb cq ad ne cap ev s (9, a, b, c) why := by
  have hi' : a < g.nr ∧ b ≤ 8 ∧ c = 0 := by simpa [okIn] using hi
  refine (act9_any 9 a b c g.eb g.lb g.cl g.tb g.kb g.ck g.fb g.cb C.length (s.1 + 1) g.rb g.nr bs (g.ac + 15) (g.ac + 16) _ g.sb g.pb g.n kd vb (s.1 + 1, s.2.1, s.2.2) ad ne cap ev E Tk w hR.rts hi'.2.1 hi'.1 hR.hE hR.hK.hT hR.eE.e26 hm.e42 hm.o42 hR.hK.t0 hm.hb hne (fun p x y z => (hR.hvr p x y z).1) (hR.hK.hA 14 _ rfl) (hR.hK.hA 15 _ rfl)).mono ?_
  obtain ⟨y1, y2, y3, y4, y5, y6, y7, y8, y9, y10⟩ := hR.ty
  obtain ⟨l1, l2, l3, l4, l5, l6, l7, l8, l9, l10, l11⟩ := hR.lt
  rintro e w' ⟨rfl, (⟨k, vg, kd1, h1, h2, h3, h4, h5, h6, h7, h8, hO⟩ | ⟨⟨m, hm1, hm2⟩, x, c', ho, hE, hT, hO⟩)⟩
  · have hd := B.does_cell (s := s) (kd := kd1) (nr := g.nr) (n := g.n) h3 a (k + 1) b (by omega) (by omega) h2 c
    have hN : ∀ k, kty w k ≠ 148 → kty w k ≠ 278 → ¬ (k = g.pb ∨ k = g.rb) := by
      rintro k h1 h2 (rfl | rfl)
      · exact h2 y6
      · exact h1 y4
    refine ⟨0, rfl, Or.inl ⟨rfl, _, 0, [], hd, hO.mono (fun k hk _ => by unfold Wr; omega), Or.inl ⟨rfl, B.mark kd1 (k + 1), fun p => if p = k + 1 then vg else vb p, E, ad, ne, cap, ?_, ?_, by omega, fun p x y z => ?_⟩⟩⟩
    · exact { hK := hR.hK.kept hO (fun k hk _ => by
                rcases hk with rfl | rfl
                · exact ⟨ne_ty y6 y8 (by decide), by rw [y6]; unfold KT; decide⟩
                · exact ⟨hR.hro, Or.inr (Or.inl y4)⟩), hE := hR.hE.only hO (hN _ (by rw [y1]; decide) (by rw [y1]; decide)), eE := hR.eE, hF := h8, hS := h7, hH := B.held_new h3 _ _ _ _ (by omega) (by omega), ok := hR.ok, hn := hR.hn, hp := hR.hp, hro := hR.hro,
              hvr := fun p x y z => by
                by_cases e : p = k + 1
                · simp only [if_pos e]; omega
                · simp only [if_neg e]
                  rw [B.mark_off _ _ _ e] at z
                  exact hR.hvr p x y (h4 p z) }
    · rw [List.append_nil]
      refine hm.keep hO (fun k hk => hN k (by rcases hk with h | h <;> rw [h] <;> decide) (by rcases hk with h | h <;> rw [h] <;> decide))
    · by_cases e : p = k + 1
      · simp only [if_pos e]; exact Or.inr h5
      · simp only [if_neg e]
        rw [B.mark_off _ _ _ e] at z
        exact Or.inl ⟨h4 p z, trivial⟩
  · have hd := B.does_spend (s := s) (kd := kd) (nr := g.nr) (n := g.n) hm1 hm2 a b c s
    refine ⟨0, rfl, Or.inl ⟨rfl, _, 2, [(5, 0)], hd, hO.mono (fun k hk _ => ?_), Or.inr ⟨by omega, upd (upd E 41 (.bool true)) 42 (.slice (some ⟨x, 0, none⟩) (ne + 1) c'), some ⟨x, 0, none⟩, ne + 1, c', hE, ⟨?_, fun e => by omega, fun _ => ⟨⟨some ⟨g.lb, 0, none⟩, 1, g.cl, ?_⟩, ?_⟩⟩, ?_, upd_at _ _ _, ho, Nat.le_refl _, ?_⟩⟩⟩
    · unfold Wr
      rcases hk with h | h | h | h <;> simp [h]
    · rw [upd_off _ _ _ _ (by omega), upd_off _ _ _ _ (by omega)]; exact hR.eE.e27
    · rw [upd_off _ _ _ _ (by omega), upd_off _ _ _ _ (by omega)]; exact hR.eE.e28
    · rw [upd_off _ _ _ _ (by omega), upd_at]
    · rw [upd_off _ _ _ _ (by omega), upd_off _ _ _ _ (by omega)]; exact hR.eE.e1
    · rw [hT.cell 2 (by omega), upd_at]
end
end Go.Proofs.YtbmjlbcaplgfmaaGreatDoor

/-
  One instruction of a task.
-/
namespace Go.Proofs.YtbmjlbcaplgfmaaGreatDoor
open Go.RowKit

section
variable {w w' : World} {g : Geo} {C : List B.In} {q : Nat} {kd : Nat → Bool} {vb : Nat → Nat} {s : B.St} {E Tk : Nat → Value} {bs qb cq : Nat} {ad : Option Addr} {ne cap : Nat} {ev : List B.Ev}
theorem After.pre {w1 : World} {s' : B.St} {r : Nat} {ev1 : List B.Ev} (hO : Only (fun k => k = g.fb) w w1) (h : After w1 w' g C q kd vb Tk bs qb cq ad ne cap ev s' r ev1) : After w w' g C q kd vb Tk bs qb cq ad ne cap ev s' r ev1 := by
  obtain ⟨h1, h2⟩ := h
  refine ⟨(hO.mono (fun k hk _ => by unfold Wr; omega)).trans h1 (fun _ h _ => h), ?_⟩
  rcases h2 with ⟨hr, kd', vb', E', ad', ne', cap', a, b, c, d⟩ | h2
  · exact Or.inl ⟨hr, kd', vb', E', ad', ne', cap', a, b, c, fun p x y z => (d p x y z).imp id (fun h => Nat.le_trans hO.size h)⟩
  · exact Or.inr h2

/-- What one instruction leaves. -/
def Oned (w w' : World) (g : Geo) (C : List B.In) (q : Nat) (kd : Nat → Bool) (vb : Nat → Nat) (Tk : Nat → Value) (bs qb cq : Nat) (ad : Option Addr) (ne cap : Nat) (ev : List B.Ev) (s : B.St) : Prop :=
  ∃ s' r ev1, B.Step C g.nr g.n s s' r ev1 ∧ After w w' g C q kd vb Tk bs qb cq ad ne cap ev s' r ev1
end

set_option maxRecDepth 100000 in
set_option maxHeartbeats 4000000 in
theorem oneEnd (g : Geo) (C : List B.In) (q : Nat) (kd : Nat → Bool) (vb : Nat → Nat) (s : B.St) (E Tk : Nat → Value) (bs qb cq : Nat) (ad : Option Addr) (ne cap : Nat) (ev : List B.Ev) (w : World) (hR : Run w g C q kd vb s E Tk) (hm : Mid w E Tk bs qb cq ad ne cap ev) (hne : ne ≤ 100000) (hs : s.1 = C.length) :
    Calls Tryz.prog 127 #[P0 g.eb, P0 g.tb] w fun e w' => e = .returned (.tuple #[]) ∧ Oned w w' g C q kd vb Tk bs qb cq ad ne cap ev s := by
  have KR := hid hR
  have KM := hid hm
  have c1 := hR.hK.hT.cell 1 (by omega)
  rw [hR.hK.t1] at c1
  have ck := own_cell hR.hK.oK
  have lt := hR.hK.hT.lt
  have HS : Hid (s.1 = C.length) := hs
  have HN : Hid (ne ≤ 100000) := hne
  clear hR hm hs hne
  go_enter Tryz.func127, Tryz.ntmps127
  go_wp2_with fail
  go_loopw [] (fun wr => wr = w) (fun _ => 0)
  case atStart => rfl
  case round =>
    subst hrel
    go_wp2_with fail
    refine (top_any g.tb g.kb g.ck g.fb _ c1 ck).mono ?_
    rintro e w1 ⟨rfl, hg1⟩
    have KG1 := hid hg1
    clear hg1
    go_wp2_with fail
    refine (atEnd_any g.fb g.cb C.length s.1 g.rb g.nr _ w1 (KR.out.grown KG1.out).hF.1).mono ?_
    rintro e w2 ⟨rfl, hg2⟩
    have KG2 := hid (grown_trans KG1.out hg2)
    clear hg2
    have hd : decide (s.1 = C.length) = true := by simpa using HS.out
    simp only [hd]
    clear hd
    go_wp2_with fail
    refine (number_any 0 _).mono ?_
    rintro e w3 ⟨rfl, rfl⟩
    go_wp2_with fail
    have KG3 := hid (grown_alloc KG2.out (.cells #[.int .i64 0, .int .i64 0] 148))
    refine (giveBack_any g.eb g.tb g.lb g.cl g.ob g.co bs g.xe g.xt g.kb g.ck g.fb g.cb C.length s.1 g.rb g.nr (0, 0) ad ne cap ev E Tk _ ((KR.out.grown KG3.out).leav (KM.out.grown KG3.out) HN.out) (KR.out.grown KG3.out).hK.hxe (KR.out.grown KG3.out).hK.hxt KR.out.hK.t1 (KR.out.grown KG3.out).hK.oK (KR.out.grown KG3.out).hF.1).mono ?_
    rintro e w4 ⟨rfl, w5, hL, hO⟩
    have hA : After _ w4 g C q kd vb Tk bs qb cq ad ne cap ev s 1 [(2, 0)] := after_left (KR.out.grown KG3.out) hO hL (Or.inl rfl) s
    have HA := hid (After.pre (only_none KG3.out) hA)
    obtain ⟨E', x, c, a', c', h1, h2, h3, h4, h5, h6, h7, h8, h9⟩ := hL
    have lt4 : g.tb < w4.heap.size := by have := HA.out.1.size; omega
    clear hA h1 h2 h3 h4 h5 h6 h7 h9 hO
    go_wp2_with fail
    refine bodyPost_ret (results_none rfl _ _ _) rfl ?_
    refine ⟨rfl, s, 1, _, ?_, HA.out⟩
    unfold B.Step
    rw [List.getElem?_eq_none (by rw [HS.out]; exact Nat.le_refl _)]
    exact ⟨rfl, rfl⟩
end Go.Proofs.YtbmjlbcaplgfmaaGreatDoor

/-
  The bytes of a program of one function are read as one, and what is read are its instructions.
-/
namespace Go.Proofs.YtbmjlbcaplgfmaaGreatDoor

theorem bt_txt (l : List Nat) (h : ∀ y, y ∈ l → y < 256) (p : Nat) : M.bt (txt l) p = l.getD p 0 := by
  unfold M.bt txt
  by_cases hp : p < l.length
  · have hy : l[p] < 256 := h _ (List.getElem_mem hp)
    simp [hp, List.getD, UInt8.toNat_ofNat']
    omega
  · simp [hp, List.getD]
theorem size_txt (l : List Nat) : (txt l).size = l.length := by
  show (List.map UInt8.ofNat l).toArray.size = _
  simp

/-- The bytes of an instruction lie at a place. -/
def At (s : ByteArray) (p : Nat) (i : B.In) : Prop := M.bt s p = i.1 ∧ M.bt s (p + 1) = i.2.1 ∧ M.bt s (p + 2) = i.2.2.1 ∧ M.bt s (p + 3) = i.2.2.2

theorem tk_yes {s : ByteArray} {p lo hi : Nat} (h1 : p < s.size) (h2 : lo ≤ M.bt s p) (h3 : M.bt s p ≤ hi) : M.tk s p lo hi = true := by simp [M.tk, h1, h2, h3]

theorem opn_r {s : ByteArray} {p op nr L a b c : Nat} (hs : p + 3 ≤ s.size) (h0 : M.bt s p = a) (h1 : M.bt s (p + 1) = b) (h2 : M.bt s (p + 2) = c) (k1 : M.k1 op ≠ 116) (a1 : a ≤ M.hiOf nr 1 (M.k0 op)) (b1 : b ≤ M.hiOf nr 1 (M.k1 op)) (c1 : c ≤ M.hiOf nr 1 (M.k2 op)) : M.opn s p op nr 1 L = (p + 3, true) := by
  unfold M.opn
  rw [if_pos (tk_yes (by omega) (by omega) (by omega)), if_neg k1, if_pos (tk_yes (by omega) (by omega) (by omega)), if_pos (tk_yes (by omega) (by omega) (by omega))]
theorem opn_t {s : ByteArray} {p op nr L a b c : Nat} (hs : p + 3 ≤ s.size) (h0 : M.bt s p = a) (h1 : M.bt s (p + 1) = b) (h2 : M.bt s (p + 2) = c) (k1 : M.k1 op = 116) (a1 : a ≤ M.hiOf nr 1 (M.k0 op)) (b1 : 256 * b + c ≤ L) : M.opn s p op nr 1 L = (p + 3, true) := by
  unfold M.opn
  rw [if_pos (tk_yes (by omega) (by omega) (by omega)), if_pos k1]
  unfold M.tgt
  rw [if_neg (by omega), if_neg (by rw [h1, show p + 1 + 1 = p + 2 by omega, h2]; omega)]

theorem ins_ok {s : ByteArray} {p nr L : Nat} {i : B.In} (hn : 2 ≤ nr) (hs : p + 4 ≤ s.size) (hA : At s p i) (h : okIn nr L i = true) : M.ins s p nr 1 L = (p + 4, true) := by
  obtain ⟨op, a, b, c⟩ := i
  obtain ⟨h0, h1, h2, h3⟩ := hA
  simp only at h0 h1 h2 h3
  have e : M.ins s p nr 1 L = M.opn s (p + 1) op nr 1 L := by
    unfold M.ins
    have : op ≤ 22 := by
      unfold okIn at h
      split at h <;> simp_all
    rw [if_pos (tk_yes (by omega) (by omega) (by omega)), h0]
  rw [e]
  have hs' : p + 1 + 3 ≤ s.size := by omega
  have t1 : M.bt s (p + 1 + 1) = b := by rw [← h2]
  have t2 : M.bt s (p + 1 + 2) = c := by rw [← h3]
  have hr : M.hiOf nr 1 114 = nr - 1 := rfl
  unfold okIn at h
  split at h
  all_goals (first | (simp at h; done) | skip)
  all_goals
    rename_i heq
    obtain ⟨rfl, rfl, rfl, rfl⟩ := heq
    simp only [decide_eq_true_eq] at h
    first
    | exact opn_r hs' h1 t1 t2 (by decide) (by simp [M.k0, M.kd, M.hiOf]; omega) (by simp [M.k1, M.kd, M.hiOf]; omega) (by simp [M.k2, M.kd, M.hiOf]; omega)
    | exact opn_t hs' h1 t1 t2 (by decide) (by simp [M.k0, M.kd, M.hiOf]; omega) (by omega)

theorem code_ok {s : ByteArray} {nr L : Nat} (hn : 2 ≤ nr) : ∀ (C : List B.In) (p : Nat), (∀ i x, C[i]? = some x → At s (p + 4 * i) x) → C.all (okIn nr L) = true → p + 4 * C.length ≤ s.size → M.code s nr 1 L p C.length = (p + 4 * C.length, true)
  | [], p, _, _, _ => rfl
  | i :: C, p, hA, hok, hs => by
    simp only [List.all_cons, Bool.and_eq_true] at hok
    simp only [List.length_cons] at hs ⊢
    have h1 := ins_ok (s := s) (p := p) hn (by omega) (by simpa using hA 0 i rfl) hok.1
    unfold M.code
    rw [h1]
    simp only [if_true]
    rw [code_ok hn C (p + 4) (fun k x hx => by
      have := hA (k + 1) x (by simpa using hx)
      rwa [show p + 4 * (k + 1) = p + 4 + 4 * k by omega] at this) hok.2 (by omega)]
    congr 1; omega

theorem flat_len : ∀ C : List B.In, (flat C).length = 4 * C.length
  | [] => rfl
  | i :: C => by
    have e : flat (i :: C) = [i.1, i.2.1, i.2.2.1, i.2.2.2] ++ flat C := rfl
    rw [e, List.length_append, flat_len C]; simp; omega
theorem flat_at : ∀ (C : List B.In) (i : Nat) (x : B.In), C[i]? = some x → (flat C).getD (4 * i) 0 = x.1 ∧ (flat C).getD (4 * i + 1) 0 = x.2.1 ∧ (flat C).getD (4 * i + 2) 0 = x.2.2.1 ∧ (flat C).getD (4 * i + 3) 0 = x.2.2.2
  | [], i, x, h => by simp at h
  | y :: C, 0, x, h => by
    simp at h; subst h
    exact ⟨rfl, rfl, rfl, rfl⟩
  | y :: C, i + 1, x, h => by
    have e : flat (y :: C) = [y.1, y.2.1, y.2.2.1, y.2.2.2] ++ flat C := rfl
    have := flat_at C i x (by simpa using h)
    rw [e, show 4 * (i + 1) = 4 * i + 4 by omega]
    exact this

theorem ok_lt {nr L : Nat} {i : B.In} (hn : nr ≤ 8) (h : okIn nr L i = true) : i.1 < 256 ∧ i.2.1 < 256 ∧ i.2.2.1 < 256 ∧ i.2.2.2 < 256 := by
  obtain ⟨op, a, b, c⟩ := i
  unfold okIn at h
  split at h
  all_goals (first | (simp at h; done) | skip)
  all_goals
    rename_i heq
    obtain ⟨rfl, rfl, rfl, rfl⟩ := heq
    simp only [decide_eq_true_eq] at h
    simp only
    omega
theorem flat_lt {nr L : Nat} (hn : nr ≤ 8) : ∀ C : List B.In, C.all (okIn nr L) = true → ∀ y, y ∈ flat C → y < 256
  | [], _, y, hy => by simp [flat] at hy
  | i :: C, h, y, hy => by
    simp only [List.all_cons, Bool.and_eq_true] at h
    have e : flat (i :: C) = [i.1, i.2.1, i.2.2.1, i.2.2.2] ++ flat C := rfl
    rw [e, List.mem_append] at hy
    rcases hy with hy | hy
    · have := ok_lt hn h.1
      simp at hy
      rcases hy with rfl | rfl | rfl | rfl <;> omega
    · exact flat_lt hn C h.2 y hy

/-- The text of a program of one function. -/
abbrev oneT (nr : Nat) (C : List B.In) : ByteArray := txt (1 :: nr :: C.length :: flat C)
theorem one_bytes {nr : Nat} {C : List B.In} (h : okCode nr C) : ∀ y, y ∈ (1 :: nr :: C.length :: flat C) → y < 256 := by
  obtain ⟨h1, h2, h3, h4, h5⟩ := h
  intro y hy
  rcases List.mem_cons.1 hy with rfl | hy
  · omega
  · rcases List.mem_cons.1 hy with rfl | hy
    · omega
    · rcases List.mem_cons.1 hy with rfl | hy
      · omega
      · exact flat_lt h2 C h5 y hy
theorem one_bt {nr : Nat} {C : List B.In} (h : okCode nr C) (p : Nat) : M.bt (oneT nr C) p = (1 :: nr :: C.length :: flat C).getD p 0 := bt_txt _ (one_bytes h) p
theorem one_at {nr : Nat} {C : List B.In} (h : okCode nr C) (i : Nat) (x : B.In) (hx : C[i]? = some x) : At (oneT nr C) (3 + 4 * i) x := by
  obtain ⟨a, b, c, d⟩ := flat_at C i x hx
  unfold At
  rw [one_bt h, one_bt h, one_bt h, one_bt h]
  rw [show 3 + 4 * i = (4 * i) + 1 + 1 + 1 by omega, show 4 * i + 1 + 1 + 1 + 1 = (4 * i + 1) + 1 + 1 + 1 by omega, show 4 * i + 1 + 1 + 1 + 2 = (4 * i + 2) + 1 + 1 + 1 by omega, show 4 * i + 1 + 1 + 1 + 3 = (4 * i + 3) + 1 + 1 + 1 by omega]
  simp only [List.getD_cons_succ]
  exact ⟨a, b, c, d⟩
theorem one_size (nr : Nat) (C : List B.In) : (oneT nr C).size = 3 + 4 * C.length := by
  rw [size_txt]; simp [flat_len]; omega

/-- It is a program. -/
theorem one_prg {nr : Nat} {C : List B.In} (h : okCode nr C) : M.prg (oneT nr C) = (3 + 4 * C.length, true) := by
  have hz := one_size nr C
  have b0 : M.bt (oneT nr C) 0 = 1 := one_bt h 0
  have b1 : M.bt (oneT nr C) 1 = nr := one_bt h 1
  have b2 : M.bt (oneT nr C) (1 + 1) = C.length := one_bt h 2
  have h' := h
  obtain ⟨h1, h2, h3, h4, h5⟩ := h'
  have hf : M.fn (oneT nr C) 1 1 = (3 + 4 * C.length, true) := by
    unfold M.fn
    rw [if_pos (tk_yes (by omega) (by omega) (by omega)), if_pos (tk_yes (by omega) (by omega) (by omega)), b1, b2]
    exact code_ok h1 C 3 (fun i x hx => one_at h i x hx) h5 (by omega)
  unfold M.prg
  rw [if_pos (tk_yes (by omega) (by omega) (by omega)), b0]
  have e : M.fns (oneT nr C) 1 1 1 = (3 + 4 * C.length, true) := by
    unfold M.fns
    rw [hf]
    simp [M.fns]
  rw [e, hz]
  simp

end Go.Proofs.YtbmjlbcaplgfmaaGreatDoor

/-
  One instruction of a task, out of the table: its value is a closure of one variable.
-/
namespace Go.Proofs.YtbmjlbcaplgfmaaGreatDoor
open Go.RowKit

section
variable {w w' : World} {g : Geo} {C : List B.In} {q : Nat} {kd : Nat → Bool} {vb : Nat → Nat} {s : B.St} {E Tk : Nat → Value} {bs qb cq : Nat} {ad : Option Addr} {ne cap : Nat} {ev : List B.Ev}
/-- The instruction's bytes. -/
theorem Kon.bytes (h : Kon w g C Tk) {i : Nat} {x : B.In} (hx : C[i]? = some x) : w.cell? ⟨g.cb, i * 4, none⟩ = some (.int .u8 x.1) ∧ w.cell? ⟨g.cb, i * 4 + 1, none⟩ = some (.int .u8 x.2.1) ∧ w.cell? ⟨g.cb, i * 4 + 2, none⟩ = some (.int .u8 x.2.2.1) ∧ w.cell? ⟨g.cb, i * 4 + 3, none⟩ = some (.int .u8 x.2.2.2) := by
  have hl := (List.getElem?_eq_some_iff.1 hx).1
  obtain ⟨a0, a1, a2, a3⟩ := flat_at C i x hx
  refine ⟨(h.hC.cell _ (by omega)).trans ?_, (h.hC.cell _ (by omega)).trans ?_, (h.hC.cell _ (by omega)).trans ?_, (h.hC.cell _ (by omega)).trans ?_⟩
  · unfold cdP; rw [Nat.mul_comm, a0]
  · unfold cdP; rw [Nat.mul_comm, a1]
  · unfold cdP; rw [Nat.mul_comm, a2]
  · unfold cdP; rw [Nat.mul_comm, a3]
/-- A failure, told as one instruction. -/
theorem oned_fail {i : B.In} {why : Nat} (hi : C[s.1]? = some i) (hd : ∀ s' ev1, B.Does g.nr g.n i s s' 3 ev1) (hA : After w w' g C q kd vb Tk bs qb cq ad ne cap ev s 3 [(3, (why : Int))]) : Oned w w' g C q kd vb Tk bs qb cq ad ne cap ev s := by
  refine ⟨s, 3, _, ?_, hA⟩
  unfold B.Step
  rw [hi]
  exact hd _ _
theorem oned_does {i : B.In} {s' : B.St} {r : Nat} {ev1 : List B.Ev} (hi : C[s.1]? = some i) (hd : B.Does g.nr g.n i s s' r ev1) (hA : After w w' g C q kd vb Tk bs qb cq ad ne cap ev s' r ev1) : Oned w w' g C q kd vb Tk bs qb cq ad ne cap ev s := by
  refine ⟨s', r, _, ?_, hA⟩
  unfold B.Step
  rw [hi]
  exact hd
end

set_option maxRecDepth 100000 in
set_option maxHeartbeats 4000000 in
theorem one150 (op a b c wb : Nat) (g : Geo) (C : List B.In) (q : Nat) (kd : Nat → Bool) (vb : Nat → Nat) (s : B.St) (E Tk : Nat → Value) (bs qb cq : Nat) (ad : Option Addr) (ne cap : Nat) (ev : List B.Ev) (w : World) (hR : Run w g C q kd vb s E Tk) (hm : Mid w E Tk bs qb cq ad ne cap ev) (hne : ne ≤ 100000) (hi : C[s.1]? = some (op, a, b, c)) (hop : op < 23) (ht : E (3 + op) = Fv 150 #[P0 wb])
    (hc : Hid (∀ w1, Run w1 g C q kd vb (s.1 + 1, s.2.1, s.2.2) E Tk → Mid w1 E Tk bs qb cq ad ne cap ev → Calls Tryz.prog 150 #[stepV op a b c g.fb g.tb g.eb, P0 wb] w1 fun e w' => ∃ why : Nat, e = .returned (.int .i64 why) ∧ Acted w1 w' g C q kd vb Tk bs qb cq ad ne cap ev s (op, a, b, c) why)) :
    Calls Tryz.prog 127 #[P0 g.eb, P0 g.tb] w fun e w' => e = .returned (.tuple #[]) ∧ Oned w w' g C q kd vb Tk bs qb cq ad ne cap ev s := by
  have KR := hid hR
  have KM := hid hm
  have HI := hid hi
  have hlt : s.1 < C.length := (List.getElem?_eq_some_iff.1 hi).1
  have hL : C.length ≤ 200 := hR.ok.2.2.2.1
  have c1 := hR.hK.hT.cell 1 (by omega)
  rw [hR.hK.t1] at c1
  have ck := own_cell hR.hK.oK
  have HT := hid ht
  have HN : Hid (ne ≤ 100000) := hne
  have HLT := hid (And.intro hlt hL)
  have hd : decide (s.1 = C.length) = false := by simp; omega
  have HD := hid hd
  clear hR hm hne hi ht hlt hL hd
  go_enter Tryz.func127, Tryz.ntmps127
  go_wp2_with fail
  go_loopw [] (fun wr => wr = w) (fun _ => 0)
  case atStart => rfl
  case round =>
    subst hrel
    go_wp2_with fail
    refine (top_any g.tb g.kb g.ck g.fb _ c1 ck).mono ?_
    rintro e w1 ⟨rfl, hg1⟩
    have KG1 := hid hg1
    clear hg1
    go_wp2_with fail
    refine (atEnd_any g.fb g.cb C.length s.1 g.rb g.nr _ w1 (KR.out.grown KG1.out).hF.1).mono ?_
    rintro e w2 ⟨rfl, hg2⟩
    have KG2 := hid (grown_trans KG1.out hg2)
    clear hg2 c1 ck
    simp only [HD.out]
    have hR2 := KR.out.grown KG2.out
    have c1 := hR2.hK.hT.cell 1 (by omega)
    rw [hR2.hK.t1] at c1
    have ck := own_cell hR2.hK.oK
    clear hR2
    go_wp2_with fail
    refine (top_any g.tb g.kb g.ck g.fb _ c1 ck).mono ?_
    rintro e w3 ⟨rfl, hg3⟩
    have KG3 := hid (grown_trans KG2.out hg3)
    clear hg3 c1 ck
    go_wp2_with fail
    have hR3 := KR.out.grown KG3.out
    obtain ⟨k0, k1, k2, k3⟩ := hR3.hK.bytes HI.out
    refine (take_any g.fb g.cb C.length s.1 g.rb g.nr op a b c _ w3 hR3.hF.1 HLT.out.1 HLT.out.2 hR3.hK.hC.lt k0 k1 k2 k3).mono ?_
    rintro e w4 ⟨rfl, hg4, hf4⟩
    have hR4 : Run w4 g C q kd vb (s.1 + 1, s.2.1, s.2.2) E Tk := hR3.next hg4 ⟨hf4, hR3.hF.2.1.block (hg4.block _ hR3.hF.2.1.lt (by intro e; injection e with e; exact hR3.hF.2.2 e.symm)), hR3.hF.2.2⟩ (by have := HLT.out.1; omega)
    have hm4 := (KM.out.grown KG3.out).fb hR3 hg4
    have KR4 := hid hR4
    have KM4 := hid hm4
    have KO4 := hid ((only_none (S := fun k => k = g.fb) KG3.out).trans (only_grown (S := fun k => k = g.fb) hg4 rfl) (fun _ h _ => h))
    clear hR3 k0 k1 k2 k3 hg4 hf4 hR4 hm4
    go_wp2_with fail
    have HX := hid (s7_new w4 op a b c g.fb g.tb g.eb)
    have KG5 := hid (World.grownBy_alloc w4 (.cells #[.int .u8 (op : Int), .int .u8 (a : Int), .int .u8 (b : Int), .int .u8 (c : Int), P0 g.fb, P0 g.tb, P0 g.eb] 184) none)
    have hz5 : (w4.alloc (.cells #[.int .u8 (op : Int), .int .u8 (a : Int), .int .u8 (b : Int), .int .u8 (c : Int), P0 g.fb, P0 g.tb, P0 g.eb] 184)).heap.size = w4.heap.size + 1 := by simp
    generalize hW : w4.alloc (.cells #[.int .u8 (op : Int), .int .u8 (a : Int), .int .u8 (b : Int), .int .u8 (c : Int), P0 g.fb, P0 g.tb, P0 g.eb] 184) = w5 at *
    clear hW
    obtain ⟨x0, x1, x2, x3, x4, x5, x6⟩ := s7_of HX.out
    have lx := heap_lt HX.out
    have KR5 := hid (KR4.out.grown KG5.out)
    have KM5 := hid (KM4.out.grown KG5.out)
    have e5 := KR5.out.hE.cell (3 + op) (by omega)
    rw [HT.out] at e5
    have le5 := KR5.out.hE.lt
    have hop2 : (op : Int) < 23 := by omega
    go_region_with (go_at_call 150; refine (hc.out w5.drew (KR5.out.grown (grown_drew (grown_refl _ _))) (KM5.out.grown (grown_drew (grown_refl _ _)))).mono ?_; rintro e w6 ⟨why, rfl, hA6⟩; have HA6 := hid hA6; clear hA6)
    all_goals
      have KO5 : Hid (Only (fun k => k = g.fb) wr w5.drew) := only_drew (KO4.out.then0 KG5.out)
      rcases HA6.out with ⟨hw, s', r, ev1, hd, hA⟩ | ⟨hw1, hw2, hd, hg⟩
      · subst hw
        have HR := hid (oned_does HI.out hd (After.pre KO5.out hA))
        clear hd hA HA6 e5 x0 x1 x2 x3 x4 x5 x6
        go_wp2_with fail
        go_end0
        exact ⟨rfl, HR.out⟩
      · have hwz : ¬ ((why : Int) = 0) := by omega
        have KG6 := hid (grown_trans (grown_drew (grown_refl w5 none)) hg)
        have KGd := hid hg
        have KD := hid hd
        clear hd hg HA6 e5 x0 x1 x2 x3 x4 x5 x6
        go_wp2_with fail
        refine (fail_any g.eb g.tb g.lb g.cl g.ob g.co bs why hw2 ad ne cap ev E Tk w6 ((KR5.out.grown KG6.out).leav (KM5.out.grown KG6.out) HN.out)).mono ?_
        rintro e w7 ⟨rfl, hL⟩
        have hA : After w6 w7 g C q kd vb Tk bs qb cq ad ne cap ev s 3 [(3, (why : Int))] := after_left (KR5.out.grown KG6.out) (only_refl _ _) hL (Or.inr rfl) s
        have HR := hid (oned_fail HI.out KD.out (After.pre (KO5.out.then0 KGd.out) hA))
        clear hL hA
        go_wp2_with fail
        go_end0
        exact ⟨rfl, HR.out⟩
end Go.Proofs.YtbmjlbcaplgfmaaGreatDoor

/-
  One instruction of a task, out of the table: it makes a number of two.
-/
namespace Go.Proofs.YtbmjlbcaplgfmaaGreatDoor
open Go.RowKit

set_option maxRecDepth 100000 in
set_option maxHeartbeats 4000000 in
theorem one140 (op a b c wb : Nat) (g : Geo) (C : List B.In) (q : Nat) (kd : Nat → Bool) (vb : Nat → Nat) (s : B.St) (E Tk : Nat → Value) (bs qb cq : Nat) (ad : Option Addr) (ne cap : Nat) (ev : List B.Ev) (w : World) (hR : Run w g C q kd vb s E Tk) (hm : Mid w E Tk bs qb cq ad ne cap ev) (hne : ne ≤ 100000) (hi : C[s.1]? = some (op, a, b, c)) (hop : op < 23) (ht : E (3 + op) = Fv 140 #[P0 wb])
    (hc : Hid (∀ w1, Run w1 g C q kd vb (s.1 + 1, s.2.1, s.2.2) E Tk → Mid w1 E Tk bs qb cq ad ne cap ev → Calls Tryz.prog 140 #[stepV op a b c g.fb g.tb g.eb, P0 wb] w1 fun e w' => ∃ why : Nat, e = .returned (.int .i64 why) ∧ Acted w1 w' g C q kd vb Tk bs qb cq ad ne cap ev s (op, a, b, c) why)) :
    Calls Tryz.prog 127 #[P0 g.eb, P0 g.tb] w fun e w' => e = .returned (.tuple #[]) ∧ Oned w w' g C q kd vb Tk bs qb cq ad ne cap ev s := by
  have KR := hid hR
  have KM := hid hm
  have HI := hid hi
  have hlt : s.1 < C.length := (List.getElem?_eq_some_iff.1 hi).1
  have hL : C.length ≤ 200 := hR.ok.2.2.2.1
  have c1 := hR.hK.hT.cell 1 (by omega)
  rw [hR.hK.t1] at c1
  have ck := own_cell hR.hK.oK
  have HT := hid ht
  have HN : Hid (ne ≤ 100000) := hne
  have HLT := hid (And.intro hlt hL)
  have hd : decide (s.1 = C.length) = false := by simp; omega
  have HD := hid hd
  clear hR hm hne hi ht hlt hL hd
  go_enter Tryz.func127, Tryz.ntmps127
  go_wp2_with fail
  go_loopw [] (fun wr => wr = w) (fun _ => 0)
  case atStart => rfl
  case round =>
    subst hrel
    go_wp2_with fail
    refine (top_any g.tb g.kb g.ck g.fb _ c1 ck).mono ?_
    rintro e w1 ⟨rfl, hg1⟩
    have KG1 := hid hg1
    clear hg1
    go_wp2_with fail
    refine (atEnd_any g.fb g.cb C.length s.1 g.rb g.nr _ w1 (KR.out.grown KG1.out).hF.1).mono ?_
    rintro e w2 ⟨rfl, hg2⟩
    have KG2 := hid (grown_trans KG1.out hg2)
    clear hg2 c1 ck
    simp only [HD.out]
    have hR2 := KR.out.grown KG2.out
    have c1 := hR2.hK.hT.cell 1 (by omega)
    rw [hR2.hK.t1] at c1
    have ck := own_cell hR2.hK.oK
    clear hR2
    go_wp2_with fail
    refine (top_any g.tb g.kb g.ck g.fb _ c1 ck).mono ?_
    rintro e w3 ⟨rfl, hg3⟩
    have KG3 := hid (grown_trans KG2.out hg3)
    clear hg3 c1 ck
    go_wp2_with fail
    have hR3 := KR.out.grown KG3.out
    obtain ⟨k0, k1, k2, k3⟩ := hR3.hK.bytes HI.out
    refine (take_any g.fb g.cb C.length s.1 g.rb g.nr op a b c _ w3 hR3.hF.1 HLT.out.1 HLT.out.2 hR3.hK.hC.lt k0 k1 k2 k3).mono ?_
    rintro e w4 ⟨rfl, hg4, hf4⟩
    have hR4 : Run w4 g C q kd vb (s.1 + 1, s.2.1, s.2.2) E Tk := hR3.next hg4 ⟨hf4, hR3.hF.2.1.block (hg4.block _ hR3.hF.2.1.lt (by intro e; injection e with e; exact hR3.hF.2.2 e.symm)), hR3.hF.2.2⟩ (by have := HLT.out.1; omega)
    have hm4 := (KM.out.grown KG3.out).fb hR3 hg4
    have KR4 := hid hR4
    have KM4 := hid hm4
    have KO4 := hid ((only_none (S := fun k => k = g.fb) KG3.out).trans (only_grown (S := fun k => k = g.fb) hg4 rfl) (fun _ h _ => h))
    clear hR3 k0 k1 k2 k3 hg4 hf4 hR4 hm4
    go_wp2_with fail
    have HX := hid (s7_new w4 op a b c g.fb g.tb g.eb)
    have KG5 := hid (World.grownBy_alloc w4 (.cells #[.int .u8 (op : Int), .int .u8 (a : Int), .int .u8 (b : Int), .int .u8 (c : Int), P0 g.fb, P0 g.tb, P0 g.eb] 184) none)
    have hz5 : (w4.alloc (.cells #[.int .u8 (op : Int), .int .u8 (a : Int), .int .u8 (b : Int), .int .u8 (c : Int), P0 g.fb, P0 g.tb, P0 g.eb] 184)).heap.size = w4.heap.size + 1 := by simp
    generalize hW : w4.alloc (.cells #[.int .u8 (op : Int), .int .u8 (a : Int), .int .u8 (b : Int), .int .u8 (c : Int), P0 g.fb, P0 g.tb, P0 g.eb] 184) = w5 at *
    clear hW
    obtain ⟨x0, x1, x2, x3, x4, x5, x6⟩ := s7_of HX.out
    have lx := heap_lt HX.out
    have KR5 := hid (KR4.out.grown KG5.out)
    have KM5 := hid (KM4.out.grown KG5.out)
    have e5 := KR5.out.hE.cell (3 + op) (by omega)
    rw [HT.out] at e5
    have le5 := KR5.out.hE.lt
    have hop2 : (op : Int) < 23 := by omega
    go_region_with (go_at_call 140; refine (hc.out w5.drew (KR5.out.grown (grown_drew (grown_refl _ _))) (KM5.out.grown (grown_drew (grown_refl _ _)))).mono ?_; rintro e w6 ⟨why, rfl, hA6⟩; have HA6 := hid hA6; clear hA6)
    all_goals
      have KO5 : Hid (Only (fun k => k = g.fb) wr w5.drew) := only_drew (KO4.out.then0 KG5.out)
      rcases HA6.out with ⟨hw, s', r, ev1, hd, hA⟩ | ⟨hw1, hw2, hd, hg⟩
      · subst hw
        have HR := hid (oned_does HI.out hd (After.pre KO5.out hA))
        clear hd hA HA6 e5 x0 x1 x2 x3 x4 x5 x6
        go_wp2_with fail
        go_end0
        exact ⟨rfl, HR.out⟩
      · have hwz : ¬ ((why : Int) = 0) := by omega
        have KG6 := hid (grown_trans (grown_drew (grown_refl w5 none)) hg)
        have KGd := hid hg
        have KD := hid hd
        clear hd hg HA6 e5 x0 x1 x2 x3 x4 x5 x6
        go_wp2_with fail
        refine (fail_any g.eb g.tb g.lb g.cl g.ob g.co bs why hw2 ad ne cap ev E Tk w6 ((KR5.out.grown KG6.out).leav (KM5.out.grown KG6.out) HN.out)).mono ?_
        rintro e w7 ⟨rfl, hL⟩
        have hA : After w6 w7 g C q kd vb Tk bs qb cq ad ne cap ev s 3 [(3, (why : Int))] := after_left (KR5.out.grown KG6.out) (only_refl _ _) hL (Or.inr rfl) s
        have HR := hid (oned_fail HI.out KD.out (After.pre (KO5.out.then0 KGd.out) hA))
        clear hL hA
        go_wp2_with fail
        go_end0
        exact ⟨rfl, HR.out⟩
end Go.Proofs.YtbmjlbcaplgfmaaGreatDoor

/-
  One instruction of a task, out of the table: it reads a slot.
-/
namespace Go.Proofs.YtbmjlbcaplgfmaaGreatDoor
open Go.RowKit

set_option maxRecDepth 100000 in
set_option maxHeartbeats 4000000 in
theorem one94 (op a b c : Nat) (g : Geo) (C : List B.In) (q : Nat) (kd : Nat → Bool) (vb : Nat → Nat) (s : B.St) (E Tk : Nat → Value) (bs qb cq : Nat) (ad : Option Addr) (ne cap : Nat) (ev : List B.Ev) (w : World) (hR : Run w g C q kd vb s E Tk) (hm : Mid w E Tk bs qb cq ad ne cap ev) (hne : ne ≤ 100000) (hi : C[s.1]? = some (op, a, b, c)) (hop : op < 23) (ht : E (3 + op) = Fv 94 #[])
    (hc : Hid (∀ w1, Run w1 g C q kd vb (s.1 + 1, s.2.1, s.2.2) E Tk → Mid w1 E Tk bs qb cq ad ne cap ev → Calls Tryz.prog 94 #[stepV op a b c g.fb g.tb g.eb] w1 fun e w' => ∃ why : Nat, e = .returned (.int .i64 why) ∧ Acted w1 w' g C q kd vb Tk bs qb cq ad ne cap ev s (op, a, b, c) why)) :
    Calls Tryz.prog 127 #[P0 g.eb, P0 g.tb] w fun e w' => e = .returned (.tuple #[]) ∧ Oned w w' g C q kd vb Tk bs qb cq ad ne cap ev s := by
  have KR := hid hR
  have KM := hid hm
  have HI := hid hi
  have hlt : s.1 < C.length := (List.getElem?_eq_some_iff.1 hi).1
  have hL : C.length ≤ 200 := hR.ok.2.2.2.1
  have c1 := hR.hK.hT.cell 1 (by omega)
  rw [hR.hK.t1] at c1
  have ck := own_cell hR.hK.oK
  have HT := hid ht
  have HN : Hid (ne ≤ 100000) := hne
  have HLT := hid (And.intro hlt hL)
  have hd : decide (s.1 = C.length) = false := by simp; omega
  have HD := hid hd
  clear hR hm hne hi ht hlt hL hd
  go_enter Tryz.func127, Tryz.ntmps127
  go_wp2_with fail
  go_loopw [] (fun wr => wr = w) (fun _ => 0)
  case atStart => rfl
  case round =>
    subst hrel
    go_wp2_with fail
    refine (top_any g.tb g.kb g.ck g.fb _ c1 ck).mono ?_
    rintro e w1 ⟨rfl, hg1⟩
    have KG1 := hid hg1
    clear hg1
    go_wp2_with fail
    refine (atEnd_any g.fb g.cb C.length s.1 g.rb g.nr _ w1 (KR.out.grown KG1.out).hF.1).mono ?_
    rintro e w2 ⟨rfl, hg2⟩
    have KG2 := hid (grown_trans KG1.out hg2)
    clear hg2 c1 ck
    simp only [HD.out]
    have hR2 := KR.out.grown KG2.out
    have c1 := hR2.hK.hT.cell 1 (by omega)
    rw [hR2.hK.t1] at c1
    have ck := own_cell hR2.hK.oK
    clear hR2
    go_wp2_with fail
    refine (top_any g.tb g.kb g.ck g.fb _ c1 ck).mono ?_
    rintro e w3 ⟨rfl, hg3⟩
    have KG3 := hid (grown_trans KG2.out hg3)
    clear hg3 c1 ck
    go_wp2_with fail
    have hR3 := KR.out.grown KG3.out
    obtain ⟨k0, k1, k2, k3⟩ := hR3.hK.bytes HI.out
    refine (take_any g.fb g.cb C.length s.1 g.rb g.nr op a b c _ w3 hR3.hF.1 HLT.out.1 HLT.out.2 hR3.hK.hC.lt k0 k1 k2 k3).mono ?_
    rintro e w4 ⟨rfl, hg4, hf4⟩
    have hR4 : Run w4 g C q kd vb (s.1 + 1, s.2.1, s.2.2) E Tk := hR3.next hg4 ⟨hf4, hR3.hF.2.1.block (hg4.block _ hR3.hF.2.1.lt (by intro e; injection e with e; exact hR3.hF.2.2 e.symm)), hR3.hF.2.2⟩ (by have := HLT.out.1; omega)
    have hm4 := (KM.out.grown KG3.out).fb hR3 hg4
    have KR4 := hid hR4
    have KM4 := hid hm4
    have KO4 := hid ((only_none (S := fun k => k = g.fb) KG3.out).trans (only_grown (S := fun k => k = g.fb) hg4 rfl) (fun _ h _ => h))
    clear hR3 k0 k1 k2 k3 hg4 hf4 hR4 hm4
    go_wp2_with fail
    have HX := hid (s7_new w4 op a b c g.fb g.tb g.eb)
    have KG5 := hid (World.grownBy_alloc w4 (.cells #[.int .u8 (op : Int), .int .u8 (a : Int), .int .u8 (b : Int), .int .u8 (c : Int), P0 g.fb, P0 g.tb, P0 g.eb] 184) none)
    have hz5 : (w4.alloc (.cells #[.int .u8 (op : Int), .int .u8 (a : Int), .int .u8 (b : Int), .int .u8 (c : Int), P0 g.fb, P0 g.tb, P0 g.eb] 184)).heap.size = w4.heap.size + 1 := by simp
    generalize hW : w4.alloc (.cells #[.int .u8 (op : Int), .int .u8 (a : Int), .int .u8 (b : Int), .int .u8 (c : Int), P0 g.fb, P0 g.tb, P0 g.eb] 184) = w5 at *
    clear hW
    obtain ⟨x0, x1, x2, x3, x4, x5, x6⟩ := s7_of HX.out
    have lx := heap_lt HX.out
    have KR5 := hid (KR4.out.grown KG5.out)
    have KM5 := hid (KM4.out.grown KG5.out)
    have e5 := KR5.out.hE.cell (3 + op) (by omega)
    rw [HT.out] at e5
    have le5 := KR5.out.hE.lt
    have hop2 : (op : Int) < 23 := by omega
    go_region_with (go_at_call 94; refine (hc.out w5.drew (KR5.out.grown (grown_drew (grown_refl _ _))) (KM5.out.grown (grown_drew (grown_refl _ _)))).mono ?_; rintro e w6 ⟨why, rfl, hA6⟩; have HA6 := hid hA6; clear hA6)
    all_goals
      have KO5 : Hid (Only (fun k => k = g.fb) wr w5.drew) := only_drew (KO4.out.then0 KG5.out)
      rcases HA6.out with ⟨hw, s', r, ev1, hd, hA⟩ | ⟨hw1, hw2, hd, hg⟩
      · subst hw
        have HR := hid (oned_does HI.out hd (After.pre KO5.out hA))
        clear hd hA HA6 e5 x0 x1 x2 x3 x4 x5 x6
        go_wp2_with fail
        go_end0
        exact ⟨rfl, HR.out⟩
      · have hwz : ¬ ((why : Int) = 0) := by omega
        have KG6 := hid (grown_trans (grown_drew (grown_refl w5 none)) hg)
        have KGd := hid hg
        have KD := hid hd
        clear hd hg HA6 e5 x0 x1 x2 x3 x4 x5 x6
        go_wp2_with fail
        refine (fail_any g.eb g.tb g.lb g.cl g.ob g.co bs why hw2 ad ne cap ev E Tk w6 ((KR5.out.grown KG6.out).leav (KM5.out.grown KG6.out) HN.out)).mono ?_
        rintro e w7 ⟨rfl, hL⟩
        have hA : After w6 w7 g C q kd vb Tk bs qb cq ad ne cap ev s 3 [(3, (why : Int))] := after_left (KR5.out.grown KG6.out) (only_refl _ _) hL (Or.inr rfl) s
        have HR := hid (oned_fail HI.out KD.out (After.pre (KO5.out.then0 KGd.out) hA))
        clear hL hA
        go_wp2_with fail
        go_end0
        exact ⟨rfl, HR.out⟩
end Go.Proofs.YtbmjlbcaplgfmaaGreatDoor
