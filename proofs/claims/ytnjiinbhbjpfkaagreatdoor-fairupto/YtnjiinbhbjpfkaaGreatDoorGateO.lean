/-
  What the closures of the table do: those whose a is a value that can always be told (the function's number is 110).
-/
import Derived.Test.YtnjiinbhbjpfkaaGreatDoorGateN
namespace Go.Proofs.YtnjiinbhbjpfkaaGreatDoor
open Go.RowKit
set_option maxRecDepth 100000 in
set_option maxHeartbeats 2000000 in
theorem gives110_any (op a b c fb tb eb cb L nx rb nr vb : Nat) (back : Value) (R : Nat → B.V) (y : B.V) (ha : a < nr) (w : World) (hF : Fr w fb cb L nx rb nr back R) (hv : w.cell? ⟨vb, 0, none⟩ = some (Fv 117 #[])) (hvb : vb < w.heap.size)
    (hn : Hid (∀ w', w.grownBy w' none → Calls Tryz.prog 117 #[stepV op a b c fb tb eb] w' fun e w'' => e = .returned (vA y) ∧ w'.grownBy w'' none)) :
    Calls Tryz.prog 148 #[stepV op a b c fb tb eb, P0 vb] w fun e w' => e = .returned (.tuple #[]) ∧ w.grownBy w' (some rb) ∧ Fr w' fb cb L nx rb nr back (B.set R a y) := by
  have KF : Hid (Fr w fb cb L nx rb nr back R) := hF
  clear hF
  go_enter Tryz.func148, Tryz.ntmps148
  go_wp2_with fail
  go_region_with (first | (go_at_call 117; refine (hn.out _ (by repeat (first | exact grown_refl _ _ | refine grown_drew ?_ | refine grown_alloc ?_ _))).mono ?_; rintro e w1 ⟨rfl, hg1⟩; obtain ⟨s0, s1, s2, s3, s4, s5, s6, s7⟩ := box7 hg1; have KG1 : Hid (w.grownBy w1 none) := grown_trans (by repeat (first | exact grown_refl _ _ | refine grown_drew ?_ | refine grown_alloc ?_ _)) hg1; clear hg1) | (go_at_call 149; refine (set_any op a b c fb tb eb cb L nx rb nr back R y w1 (KF.out.kept KG1.out).1 (KF.out.kept KG1.out).2.1 ha).mono ?_; rintro e w2 ⟨rfl, hg2, hf2⟩))
  all_goals
    go_wp2_with fail
    go_end0
    refine ⟨rfl, grown_trans (grown_of_none KG1.out) hg2, grown_heap hg2 (KF.out.kept KG1.out).1 (by intro e; injection e with e; exact KF.out.2.2 e), hf2, KF.out.2.2⟩
set_option maxRecDepth 100000 in
theorem actg110_any (op a b c fb tb eb cb L nx rb nr wb vb : Nat) (back : Value) (R : Nat → B.V) (y : B.V) (ha : a < nr) (w : World) (hF : Fr w fb cb L nx rb nr back R) (hw : w.cell? ⟨wb, 0, none⟩ = some (Fv 148 #[P0 vb])) (hv : w.cell? ⟨vb, 0, none⟩ = some (Fv 117 #[])) (hwb : wb < w.heap.size) (hvb : vb < w.heap.size)
    (hn : Hid (∀ w', w.grownBy w' none → Calls Tryz.prog 117 #[stepV op a b c fb tb eb] w' fun e w'' => e = .returned (vA y) ∧ w'.grownBy w'' none)) :
    Calls Tryz.prog 163 #[stepV op a b c fb tb eb, P0 wb] w fun e w' => e = .returned (.int .i64 0) ∧ w.grownBy w' (some rb) ∧ Fr w' fb cb L nx rb nr back (B.set R a y) := by
  have KF : Hid (Fr w fb cb L nx rb nr back R) := hF
  clear hF
  go_enter Tryz.func163, Tryz.ntmps163
  go_wp2_with fail
  refine (gives110_any op a b c fb tb eb cb L nx rb nr vb back R y ha _ (KF.out.kept (World.grownBy_alloc _ _ _)) (by simp [go_sem, hvb, hv]) (by simp; omega) (fun w' hg => hn.out w' (grown_trans (World.grownBy_alloc _ _ _) hg))).mono ?_
  rintro e w1 ⟨rfl, hg1, hF1⟩
  have KF1 := hid hF1
  have KG1 : Hid (w.grownBy w1 (some rb)) := grown_trans (World.grownBy_alloc _ _ _) hg1
  clear hF1 hg1
  go_wp2_with fail
  go_ret
  exact ⟨rfl, KG1.out, KF1.out⟩
set_option maxRecDepth 100000 in
set_option maxHeartbeats 1000000 in
theorem takes98_112 (op a b c fb tb eb v1 v2 : Nat) (y : B.V) (R : Int → World → Prop) (w : World) (c1 : w.cell? ⟨v1, 0, none⟩ = some (Fv 98 #[])) (c2 : w.cell? ⟨v2, 0, none⟩ = some (Fv 112 #[]))
    (H1 : ∀ w1, w.grownBy w1 none → Calls Tryz.prog 98 #[stepV op a b c fb tb eb] w1 fun e w' => e = .returned (vA y) ∧ w1.grownBy w' none)
    (H2 : y.1 = 0 → ∀ w1, w.grownBy w1 none → Calls Tryz.prog 112 #[stepV op a b c fb tb eb, .int .i64 y.2] w1 fun e w' => ∃ why : Int, e = .returned (.int .i64 why) ∧ R why w')
    (H3 : y.1 ≠ 0 → ∀ w1, w.grownBy w1 none → R 1 w1) :
    Calls Tryz.prog 167 #[stepV op a b c fb tb eb, P0 v1, P0 v2] w fun e w' => ∃ why : Int, e = .returned (.int .i64 why) ∧ R why w' := by
  have HH1 := hid H1
  have HH2 := hid H2
  have HH3 := hid H3
  have lv1 := cell_lt c1
  have lv2 := cell_lt c2
  clear H1 H2 H3
  go_enter Tryz.func167, Tryz.ntmps167
  go_wp2_with fail
  have HX1 := hid (s7_new w op a b c fb tb eb)
  have KG1 := hid (World.grownBy_alloc w (.cells #[.int .u8 (op : Int), .int .u8 (a : Int), .int .u8 (b : Int), .int .u8 (c : Int), P0 fb, P0 tb, P0 eb] 186) none)
  generalize hW : w.alloc (.cells #[.int .u8 (op : Int), .int .u8 (a : Int), .int .u8 (b : Int), .int .u8 (c : Int), P0 fb, P0 tb, P0 eb] 186) = w1 at *
  clear hW
  refine (HH1.out w1 KG1.out).mono ?_
  rintro e w2 ⟨rfl, hg2⟩
  have KG2 := hid (grown_trans KG1.out hg2)
  have HX2 := hid (grown_out hg2 HX1.out)
  clear hg2
  go_wp2_with fail
  refine (vnumber_any y _).mono ?_
  rintro e w3 ⟨rfl, hg3⟩
  have KG3 := hid (grown_trans KG2.out hg3)
  have HX3 := hid (grown_out hg3 HX2.out)
  clear hg3
  by_cases h0 : y.1 = 0
  · have hd : decide (y.1 = 0) = true := by simpa using h0
    simp only [hd]
    have H0 := hid h0
    clear h0 hd
    obtain ⟨x0, x1, x2, x3, x4, x5, x6⟩ := s7_of HX3.out
    have lx := heap_lt HX3.out
    have d2 := (grown_cell KG3.out (a := ⟨v2, 0, none⟩) lv2).1.trans c2
    have ld2 : v2 < w3.heap.size := Nat.lt_of_lt_of_le lv2 KG3.out.size
    go_wp2_with fail
    refine (HH2.out H0.out w3 KG3.out).mono ?_
    rintro e w4 ⟨why, rfl, hR4⟩
    have HR4 := hid hR4
    clear hR4
    go_wp2_with fail
    go_ret
    exact ⟨why, rfl, HR4.out⟩
  · have hd : decide (y.1 = 0) = false := by simpa using h0
    simp only [hd]
    have H0 := hid h0
    clear h0 hd
    go_wp2_with fail
    go_ret
    exact ⟨1, rfl, HH3.out H0.out w3 KG3.out⟩
set_option maxRecDepth 100000 in
set_option maxHeartbeats 1000000 in
theorem takes86_113 (op a b c fb tb eb v1 v2 : Nat) (y : B.V) (R : Int → World → Prop) (w : World) (c1 : w.cell? ⟨v1, 0, none⟩ = some (Fv 86 #[])) (c2 : w.cell? ⟨v2, 0, none⟩ = some (Fv 113 #[]))
    (H1 : ∀ w1, w.grownBy w1 none → Calls Tryz.prog 86 #[stepV op a b c fb tb eb] w1 fun e w' => e = .returned (vA y) ∧ w1.grownBy w' none)
    (H2 : y.1 = 0 → ∀ w1, w.grownBy w1 none → Calls Tryz.prog 113 #[stepV op a b c fb tb eb, .int .i64 y.2] w1 fun e w' => ∃ why : Int, e = .returned (.int .i64 why) ∧ R why w')
    (H3 : y.1 ≠ 0 → ∀ w1, w.grownBy w1 none → R 1 w1) :
    Calls Tryz.prog 167 #[stepV op a b c fb tb eb, P0 v1, P0 v2] w fun e w' => ∃ why : Int, e = .returned (.int .i64 why) ∧ R why w' := by
  have HH1 := hid H1
  have HH2 := hid H2
  have HH3 := hid H3
  have lv1 := cell_lt c1
  have lv2 := cell_lt c2
  clear H1 H2 H3
  go_enter Tryz.func167, Tryz.ntmps167
  go_wp2_with fail
  have HX1 := hid (s7_new w op a b c fb tb eb)
  have KG1 := hid (World.grownBy_alloc w (.cells #[.int .u8 (op : Int), .int .u8 (a : Int), .int .u8 (b : Int), .int .u8 (c : Int), P0 fb, P0 tb, P0 eb] 186) none)
  generalize hW : w.alloc (.cells #[.int .u8 (op : Int), .int .u8 (a : Int), .int .u8 (b : Int), .int .u8 (c : Int), P0 fb, P0 tb, P0 eb] 186) = w1 at *
  clear hW
  refine (HH1.out w1 KG1.out).mono ?_
  rintro e w2 ⟨rfl, hg2⟩
  have KG2 := hid (grown_trans KG1.out hg2)
  have HX2 := hid (grown_out hg2 HX1.out)
  clear hg2
  go_wp2_with fail
  refine (vnumber_any y _).mono ?_
  rintro e w3 ⟨rfl, hg3⟩
  have KG3 := hid (grown_trans KG2.out hg3)
  have HX3 := hid (grown_out hg3 HX2.out)
  clear hg3
  by_cases h0 : y.1 = 0
  · have hd : decide (y.1 = 0) = true := by simpa using h0
    simp only [hd]
    have H0 := hid h0
    clear h0 hd
    obtain ⟨x0, x1, x2, x3, x4, x5, x6⟩ := s7_of HX3.out
    have lx := heap_lt HX3.out
    have d2 := (grown_cell KG3.out (a := ⟨v2, 0, none⟩) lv2).1.trans c2
    have ld2 : v2 < w3.heap.size := Nat.lt_of_lt_of_le lv2 KG3.out.size
    go_wp2_with fail
    refine (HH2.out H0.out w3 KG3.out).mono ?_
    rintro e w4 ⟨why, rfl, hR4⟩
    have HR4 := hid hR4
    clear hR4
    go_wp2_with fail
    go_ret
    exact ⟨why, rfl, HR4.out⟩
  · have hd : decide (y.1 = 0) = false := by simpa using h0
    simp only [hd]
    have H0 := hid h0
    clear h0 hd
    go_wp2_with fail
    go_ret
    exact ⟨1, rfl, HH3.out H0.out w3 KG3.out⟩
set_option maxRecDepth 100000 in
set_option maxHeartbeats 1000000 in
theorem takes98_114 (op a b c fb tb eb v1 v2 : Nat) (y : B.V) (R : Int → World → Prop) (w : World) (c1 : w.cell? ⟨v1, 0, none⟩ = some (Fv 98 #[])) (c2 : w.cell? ⟨v2, 0, none⟩ = some (Fv 114 #[]))
    (H1 : ∀ w1, w.grownBy w1 none → Calls Tryz.prog 98 #[stepV op a b c fb tb eb] w1 fun e w' => e = .returned (vA y) ∧ w1.grownBy w' none)
    (H2 : y.1 = 0 → ∀ w1, w.grownBy w1 none → Calls Tryz.prog 114 #[stepV op a b c fb tb eb, .int .i64 y.2] w1 fun e w' => ∃ why : Int, e = .returned (.int .i64 why) ∧ R why w')
    (H3 : y.1 ≠ 0 → ∀ w1, w.grownBy w1 none → R 1 w1) :
    Calls Tryz.prog 167 #[stepV op a b c fb tb eb, P0 v1, P0 v2] w fun e w' => ∃ why : Int, e = .returned (.int .i64 why) ∧ R why w' := by
  have HH1 := hid H1
  have HH2 := hid H2
  have HH3 := hid H3
  have lv1 := cell_lt c1
  have lv2 := cell_lt c2
  clear H1 H2 H3
  go_enter Tryz.func167, Tryz.ntmps167
  go_wp2_with fail
  have HX1 := hid (s7_new w op a b c fb tb eb)
  have KG1 := hid (World.grownBy_alloc w (.cells #[.int .u8 (op : Int), .int .u8 (a : Int), .int .u8 (b : Int), .int .u8 (c : Int), P0 fb, P0 tb, P0 eb] 186) none)
  generalize hW : w.alloc (.cells #[.int .u8 (op : Int), .int .u8 (a : Int), .int .u8 (b : Int), .int .u8 (c : Int), P0 fb, P0 tb, P0 eb] 186) = w1 at *
  clear hW
  refine (HH1.out w1 KG1.out).mono ?_
  rintro e w2 ⟨rfl, hg2⟩
  have KG2 := hid (grown_trans KG1.out hg2)
  have HX2 := hid (grown_out hg2 HX1.out)
  clear hg2
  go_wp2_with fail
  refine (vnumber_any y _).mono ?_
  rintro e w3 ⟨rfl, hg3⟩
  have KG3 := hid (grown_trans KG2.out hg3)
  have HX3 := hid (grown_out hg3 HX2.out)
  clear hg3
  by_cases h0 : y.1 = 0
  · have hd : decide (y.1 = 0) = true := by simpa using h0
    simp only [hd]
    have H0 := hid h0
    clear h0 hd
    obtain ⟨x0, x1, x2, x3, x4, x5, x6⟩ := s7_of HX3.out
    have lx := heap_lt HX3.out
    have d2 := (grown_cell KG3.out (a := ⟨v2, 0, none⟩) lv2).1.trans c2
    have ld2 : v2 < w3.heap.size := Nat.lt_of_lt_of_le lv2 KG3.out.size
    go_wp2_with fail
    refine (HH2.out H0.out w3 KG3.out).mono ?_
    rintro e w4 ⟨why, rfl, hR4⟩
    have HR4 := hid hR4
    clear hR4
    go_wp2_with fail
    go_ret
    exact ⟨why, rfl, HR4.out⟩
  · have hd : decide (y.1 = 0) = false := by simpa using h0
    simp only [hd]
    have H0 := hid h0
    clear h0 hd
    go_wp2_with fail
    go_ret
    exact ⟨1, rfl, HH3.out H0.out w3 KG3.out⟩
set_option maxRecDepth 100000 in
set_option maxHeartbeats 1000000 in
theorem takes98_115 (op a b c fb tb eb v1 v2 : Nat) (y : B.V) (R : Int → World → Prop) (w : World) (c1 : w.cell? ⟨v1, 0, none⟩ = some (Fv 98 #[])) (c2 : w.cell? ⟨v2, 0, none⟩ = some (Fv 115 #[]))
    (H1 : ∀ w1, w.grownBy w1 none → Calls Tryz.prog 98 #[stepV op a b c fb tb eb] w1 fun e w' => e = .returned (vA y) ∧ w1.grownBy w' none)
    (H2 : y.1 = 0 → ∀ w1, w.grownBy w1 none → Calls Tryz.prog 115 #[stepV op a b c fb tb eb, .int .i64 y.2] w1 fun e w' => ∃ why : Int, e = .returned (.int .i64 why) ∧ R why w')
    (H3 : y.1 ≠ 0 → ∀ w1, w.grownBy w1 none → R 1 w1) :
    Calls Tryz.prog 167 #[stepV op a b c fb tb eb, P0 v1, P0 v2] w fun e w' => ∃ why : Int, e = .returned (.int .i64 why) ∧ R why w' := by
  have HH1 := hid H1
  have HH2 := hid H2
  have HH3 := hid H3
  have lv1 := cell_lt c1
  have lv2 := cell_lt c2
  clear H1 H2 H3
  go_enter Tryz.func167, Tryz.ntmps167
  go_wp2_with fail
  have HX1 := hid (s7_new w op a b c fb tb eb)
  have KG1 := hid (World.grownBy_alloc w (.cells #[.int .u8 (op : Int), .int .u8 (a : Int), .int .u8 (b : Int), .int .u8 (c : Int), P0 fb, P0 tb, P0 eb] 186) none)
  generalize hW : w.alloc (.cells #[.int .u8 (op : Int), .int .u8 (a : Int), .int .u8 (b : Int), .int .u8 (c : Int), P0 fb, P0 tb, P0 eb] 186) = w1 at *
  clear hW
  refine (HH1.out w1 KG1.out).mono ?_
  rintro e w2 ⟨rfl, hg2⟩
  have KG2 := hid (grown_trans KG1.out hg2)
  have HX2 := hid (grown_out hg2 HX1.out)
  clear hg2
  go_wp2_with fail
  refine (vnumber_any y _).mono ?_
  rintro e w3 ⟨rfl, hg3⟩
  have KG3 := hid (grown_trans KG2.out hg3)
  have HX3 := hid (grown_out hg3 HX2.out)
  clear hg3
  by_cases h0 : y.1 = 0
  · have hd : decide (y.1 = 0) = true := by simpa using h0
    simp only [hd]
    have H0 := hid h0
    clear h0 hd
    obtain ⟨x0, x1, x2, x3, x4, x5, x6⟩ := s7_of HX3.out
    have lx := heap_lt HX3.out
    have d2 := (grown_cell KG3.out (a := ⟨v2, 0, none⟩) lv2).1.trans c2
    have ld2 : v2 < w3.heap.size := Nat.lt_of_lt_of_le lv2 KG3.out.size
    go_wp2_with fail
    refine (HH2.out H0.out w3 KG3.out).mono ?_
    rintro e w4 ⟨why, rfl, hR4⟩
    have HR4 := hid hR4
    clear hR4
    go_wp2_with fail
    go_ret
    exact ⟨why, rfl, HR4.out⟩
  · have hd : decide (y.1 = 0) = false := by simpa using h0
    simp only [hd]
    have H0 := hid h0
    clear h0 hd
    go_wp2_with fail
    go_ret
    exact ⟨1, rfl, HH3.out H0.out w3 KG3.out⟩
set_option maxRecDepth 100000 in
set_option maxHeartbeats 1000000 in
theorem takes86_116 (op a b c fb tb eb v1 v2 : Nat) (y : B.V) (R : Int → World → Prop) (w : World) (c1 : w.cell? ⟨v1, 0, none⟩ = some (Fv 86 #[])) (c2 : w.cell? ⟨v2, 0, none⟩ = some (Fv 116 #[]))
    (H1 : ∀ w1, w.grownBy w1 none → Calls Tryz.prog 86 #[stepV op a b c fb tb eb] w1 fun e w' => e = .returned (vA y) ∧ w1.grownBy w' none)
    (H2 : y.1 = 0 → ∀ w1, w.grownBy w1 none → Calls Tryz.prog 116 #[stepV op a b c fb tb eb, .int .i64 y.2] w1 fun e w' => ∃ why : Int, e = .returned (.int .i64 why) ∧ R why w')
    (H3 : y.1 ≠ 0 → ∀ w1, w.grownBy w1 none → R 1 w1) :
    Calls Tryz.prog 167 #[stepV op a b c fb tb eb, P0 v1, P0 v2] w fun e w' => ∃ why : Int, e = .returned (.int .i64 why) ∧ R why w' := by
  have HH1 := hid H1
  have HH2 := hid H2
  have HH3 := hid H3
  have lv1 := cell_lt c1
  have lv2 := cell_lt c2
  clear H1 H2 H3
  go_enter Tryz.func167, Tryz.ntmps167
  go_wp2_with fail
  have HX1 := hid (s7_new w op a b c fb tb eb)
  have KG1 := hid (World.grownBy_alloc w (.cells #[.int .u8 (op : Int), .int .u8 (a : Int), .int .u8 (b : Int), .int .u8 (c : Int), P0 fb, P0 tb, P0 eb] 186) none)
  generalize hW : w.alloc (.cells #[.int .u8 (op : Int), .int .u8 (a : Int), .int .u8 (b : Int), .int .u8 (c : Int), P0 fb, P0 tb, P0 eb] 186) = w1 at *
  clear hW
  refine (HH1.out w1 KG1.out).mono ?_
  rintro e w2 ⟨rfl, hg2⟩
  have KG2 := hid (grown_trans KG1.out hg2)
  have HX2 := hid (grown_out hg2 HX1.out)
  clear hg2
  go_wp2_with fail
  refine (vnumber_any y _).mono ?_
  rintro e w3 ⟨rfl, hg3⟩
  have KG3 := hid (grown_trans KG2.out hg3)
  have HX3 := hid (grown_out hg3 HX2.out)
  clear hg3
  by_cases h0 : y.1 = 0
  · have hd : decide (y.1 = 0) = true := by simpa using h0
    simp only [hd]
    have H0 := hid h0
    clear h0 hd
    obtain ⟨x0, x1, x2, x3, x4, x5, x6⟩ := s7_of HX3.out
    have lx := heap_lt HX3.out
    have d2 := (grown_cell KG3.out (a := ⟨v2, 0, none⟩) lv2).1.trans c2
    have ld2 : v2 < w3.heap.size := Nat.lt_of_lt_of_le lv2 KG3.out.size
    go_wp2_with fail
    refine (HH2.out H0.out w3 KG3.out).mono ?_
    rintro e w4 ⟨why, rfl, hR4⟩
    have HR4 := hid hR4
    clear hR4
    go_wp2_with fail
    go_ret
    exact ⟨why, rfl, HR4.out⟩
  · have hd : decide (y.1 = 0) = false := by simpa using h0
    simp only [hd]
    have H0 := hid h0
    clear h0 hd
    go_wp2_with fail
    go_ret
    exact ⟨1, rfl, HH3.out H0.out w3 KG3.out⟩
set_option maxRecDepth 100000 in
theorem does106 (op a b c fb tb eb wb : Nat) (R : World → Prop) (w : World) (hw : w.cell? ⟨wb, 0, none⟩ = some (Fv 106 #[]))
    (H : ∀ w1, w.grownBy w1 none → Calls Tryz.prog 106 #[stepV op a b c fb tb eb] w1 fun e w' => e = .returned (.tuple #[]) ∧ R w') :
    Calls Tryz.prog 163 #[stepV op a b c fb tb eb, P0 wb] w fun e w' => e = .returned (.int .i64 0) ∧ R w' := by
  have HH := hid H
  have lw := cell_lt hw
  clear H
  go_enter Tryz.func163, Tryz.ntmps163
  go_wp2_with fail
  refine (HH.out _ (World.grownBy_alloc _ _ _)).mono ?_
  rintro e w2 ⟨rfl, hR2⟩
  have HR2 := hid hR2
  clear hR2
  go_wp2_with fail
  go_ret
  exact ⟨rfl, HR2.out⟩
set_option maxRecDepth 100000 in
theorem does109 (op a b c fb tb eb wb : Nat) (R : World → Prop) (w : World) (hw : w.cell? ⟨wb, 0, none⟩ = some (Fv 109 #[]))
    (H : ∀ w1, w.grownBy w1 none → Calls Tryz.prog 109 #[stepV op a b c fb tb eb] w1 fun e w' => e = .returned (.tuple #[]) ∧ R w') :
    Calls Tryz.prog 163 #[stepV op a b c fb tb eb, P0 wb] w fun e w' => e = .returned (.int .i64 0) ∧ R w' := by
  have HH := hid H
  have lw := cell_lt hw
  clear H
  go_enter Tryz.func163, Tryz.ntmps163
  go_wp2_with fail
  refine (HH.out _ (World.grownBy_alloc _ _ _)).mono ?_
  rintro e w2 ⟨rfl, hR2⟩
  have HR2 := hid hR2
  clear hR2
  go_wp2_with fail
  go_ret
  exact ⟨rfl, HR2.out⟩
set_option maxRecDepth 100000 in
theorem yieldL (op a b c fb tb eb : Nat) (R : World → Prop) (w : World) (le : eb < w.heap.size) (H : ∀ w1, w.grownBy w1 none → Calls Tryz.prog 110 #[Pt eb 32, P0 tb] w1 fun e w' => e = .returned (.tuple #[]) ∧ R w') :
    Calls Tryz.prog 109 #[stepV op a b c fb tb eb] w fun e w' => e = .returned (.tuple #[]) ∧ R w' := by
  have HJ := hid H
  clear H
  go_enter Tryz.func109, Tryz.ntmps109
  go_wp2_with fail
  have HX1 := hid (s7_new w op a b c fb tb eb)
  have KG1 := hid (World.grownBy_alloc w (.cells #[.int .u8 (op : Int), .int .u8 (a : Int), .int .u8 (b : Int), .int .u8 (c : Int), P0 fb, P0 tb, P0 eb] 186) none)
  generalize hW : w.alloc (.cells #[.int .u8 (op : Int), .int .u8 (a : Int), .int .u8 (b : Int), .int .u8 (c : Int), P0 fb, P0 tb, P0 eb] 186) = w1 at *
  have le1 : eb < w1.heap.size := Nat.lt_of_lt_of_le le KG1.out.size
  clear hW
  obtain ⟨x0, x1, x2, x3, x4, x5, x6⟩ := s7_of HX1.out
  have lx := heap_lt HX1.out
  go_region_with (go_at_call 110; refine (HJ.out w1.drew (grown_drew KG1.out)).mono ?_; rintro e w2 ⟨rfl, hJ⟩; have HR := hid hJ; clear hJ)
  all_goals
    go_wp2_with fail
    go_end0
    exact ⟨rfl, HR.out⟩
set_option maxRecDepth 100000 in
theorem emitL (op a b c fb tb eb : Nat) (x : Int) (R : World → Prop) (w : World) (H : ∀ w1, w.grownBy w1 none → Calls Tryz.prog 173 #[P0 eb, .int .i64 1, P0 tb, .int .i64 x] w1 fun e w' => e = .returned (.tuple #[]) ∧ R w') :
    Calls Tryz.prog 115 #[stepV op a b c fb tb eb, .int .i64 x] w fun e w' => e = .returned (.int .i64 0) ∧ R w' := by
  have HH := hid H
  clear H
  go_enter Tryz.func115, Tryz.ntmps115
  go_wp2_with fail
  refine (HH.out _ (World.grownBy_alloc _ _ _)).mono ?_
  rintro e w2 ⟨rfl, hR2⟩
  have HR2 := hid hR2
  clear hR2
  go_wp2_with fail
  go_ret
  exact ⟨rfl, HR2.out⟩
set_option maxRecDepth 100000 in
theorem ssleepL (op a b c fb tb eb : Nat) (x : Int) (R : World → Prop) (w : World) (H : ∀ w1, w.grownBy w1 none → Calls Tryz.prog 168 #[P0 eb, P0 tb, .int .i64 x] w1 fun e w' => e = .returned (.tuple #[]) ∧ R w') :
    Calls Tryz.prog 112 #[stepV op a b c fb tb eb, .int .i64 x] w fun e w' => e = .returned (.int .i64 0) ∧ R w' := by
  have HH := hid H
  clear H
  go_enter Tryz.func112, Tryz.ntmps112
  go_wp2_with fail
  refine (HH.out _ (World.grownBy_alloc _ _ _)).mono ?_
  rintro e w2 ⟨rfl, hR2⟩
  have HR2 := hid hR2
  clear hR2
  go_wp2_with fail
  go_ret
  exact ⟨rfl, HR2.out⟩
set_option maxRecDepth 100000 in
theorem retL (op a b c fb tb eb : Nat) (y : B.V) (R : World → Prop) (w : World) (H1 : ∀ w1, w.grownBy w1 none → Calls Tryz.prog 98 #[stepV op a b c fb tb eb] w1 fun e w' => e = .returned (vA y) ∧ w1.grownBy w' none)
    (H : ∀ w1, w.grownBy w1 none → Calls Tryz.prog 107 #[P0 tb, vA y] w1 fun e w' => e = .returned (.tuple #[]) ∧ R w' ∧ ∀ k, w.heap.size ≤ k → k < w1.heap.size → w'.heap[k]? = w1.heap[k]?) :
    Calls Tryz.prog 106 #[stepV op a b c fb tb eb] w fun e w' => e = .returned (.tuple #[]) ∧ R w' := by
  have HH1 := hid H1
  have HH := hid H
  clear H H1
  go_enter Tryz.func106, Tryz.ntmps106
  go_wp2_with fail
  have HX1 := hid (s7_new w op a b c fb tb eb)
  have KG1 := hid (World.grownBy_alloc w (.cells #[.int .u8 (op : Int), .int .u8 (a : Int), .int .u8 (b : Int), .int .u8 (c : Int), P0 fb, P0 tb, P0 eb] 186) none)
  generalize hW : w.alloc (.cells #[.int .u8 (op : Int), .int .u8 (a : Int), .int .u8 (b : Int), .int .u8 (c : Int), P0 fb, P0 tb, P0 eb] 186) = w1 at *
  clear hW
  go_region_held3 (fun w' => w'.cell? ⟨w.heap.size, 0, none⟩ = some (.int .u8 (op : Int)) ∧ w'.cell? ⟨w.heap.size, 1, none⟩ = some (.int .u8 (a : Int)) ∧ w'.cell? ⟨w.heap.size, 2, none⟩ = some (.int .u8 (b : Int)) ∧ w'.cell? ⟨w.heap.size, 3, none⟩ = some (.int .u8 (c : Int)) ∧ w'.cell? ⟨w.heap.size, 4, none⟩ = some (P0 fb) ∧ w'.cell? ⟨w.heap.size, 5, none⟩ = some (P0 tb) ∧ w'.cell? ⟨w.heap.size, 6, none⟩ = some (P0 eb)) (first | exact s7_of HX1.out | exact s7_of HX2.out | exact s7_of HX3.out) (first | (go_at_call 98; refine (HH1.out w1.drew (grown_drew KG1.out)).mono ?_; rintro e w2 ⟨rfl, hg2⟩; have KG2 : Hid (w.grownBy w2 none) := grown_trans (grown_drew KG1.out) hg2; have HX2 := hid (grown_out hg2 (show w1.drew.heap[w.heap.size]? = _ from HX1.out)); clear hg2) | (go_at_call 107; refine (HH.out w2 KG2.out).mono ?_; rintro e w3 ⟨rfl, hR3, hk3⟩; have HR3 := hid hR3; have HX3 : Hid (w3.heap[w.heap.size]? = some (stpB op a b c fb tb eb)) := (hk3 w.heap.size (Nat.le_refl _) (heap_lt HX2.out)).trans HX2.out; clear hR3 hk3))
  all_goals
    go_wp2_with fail
    go_end0
    exact ⟨rfl, HR3.out⟩
end Go.Proofs.YtnjiinbhbjpfkaaGreatDoor
namespace Go.Proofs.YtnjiinbhbjpfkaaGreatDoor.F
open Go.RowKit
structure In (s : Pl) (t : Nat) : Prop where
  ht : isT s t
  hi : topN s t < (s.T t).fr.length
abbrev topF (s : Pl) (t : Nat) : Frm := frAt s t (topN s t)
abbrev stpV (p : Prm) (s : Pl) (g : Geo) (t : Nat) (k : Nat × Nat × Nat × Nat) : Value := stepV k.1 k.2.1 k.2.2.1 k.2.2.2 (g.fb t (topN s t)) (g.tb t) p.eb
section
variable {p : Prm} {s : Pl} {g : Geo} {w : World} {t : Nat} (h : Rep p s g w) (hI : In s t)
include h hI
theorem In.set {w' : World} {a : Nat} {v : B.V} (hg : w.grownBy w' (some (g.rb t (topN s t)))) (hF : Fr w' (g.fb t (topN s t)) (p.cb (topF s t).f) (p.len (topF s t).f) (topF s t).nx (g.rb t (topN s t)) (p.rg (topF s t).f) (bkV p g t (topN s t) (topF s t).bk) (B.set (topF s t).R a v)) : Tr p s g w (s.setF t (topN s t) ((topF s t).set a v)) g w' :=
  frR (f := (topF s t).set a v) h hI.ht hI.hi rfl rfl hF (only_grown hg (Or.inr rfl))
theorem In.next {w' : World} {y : Nat} (hg : w.grownBy w' (some (g.fb t (topN s t)))) (hF : Fr w' (g.fb t (topN s t)) (p.cb (topF s t).f) (p.len (topF s t).f) y (g.rb t (topN s t)) (p.rg (topF s t).f) (bkV p g t (topN s t) (topF s t).bk) (topF s t).R) : Tr p s g w (s.setF t (topN s t) { topF s t with nx := y }) g w' :=
  frR (f := { topF s t with nx := y }) h hI.ht hI.hi rfl rfl hF (only_grown hg (Or.inl rfl))
theorem In.fr : Fr w (g.fb t (topN s t)) (p.cb (topF s t).f) (p.len (topF s t).f) (topF s t).nx (g.rb t (topN s t)) (p.rg (topF s t).f) (bkV p g t (topN s t) (topF s t).bk) (topF s t).R := h.Fr hI.ht hI.hi
theorem In.a (op a b c : Nat) (tb eb : Nat) (ha : a < p.rg (topF s t).f) : ∀ w1, w.grownBy w1 none → Calls Tryz.prog 98 #[stepV op a b c (g.fb t (topN s t)) tb eb] w1 fun e w' => e = .returned (vA ((topF s t).R a)) ∧ w1.grownBy w' none := fun w1 hg => by
  have hf := (h.kept hg).Fr hI.ht hI.hi
  exact a_any op a b c _ tb eb _ _ _ _ _ _ _ w1 hf.1 hf.2.1 ha
theorem In.b (op a b c : Nat) (tb eb : Nat) (hb : b < p.rg (topF s t).f) : ∀ w1, w.grownBy w1 none → Calls Tryz.prog 86 #[stepV op a b c (g.fb t (topN s t)) tb eb] w1 fun e w' => e = .returned (vA ((topF s t).R b)) ∧ w1.grownBy w' none := fun w1 hg => by
  have hf := (h.kept hg).Fr hI.ht hI.hi
  exact b_any op a b c _ tb eb _ _ _ _ _ _ _ w1 hf.1 hf.2.1 hb
theorem In.c (op a b c : Nat) (tb eb : Nat) (hc : c < p.rg (topF s t).f) : ∀ w1, w.grownBy w1 none → Calls Tryz.prog 94 #[stepV op a b c (g.fb t (topN s t)) tb eb] w1 fun e w' => e = .returned (vA ((topF s t).R c)) ∧ w1.grownBy w' none := fun w1 hg => by
  have hf := (h.kept hg).Fr hI.ht hI.hi
  exact c_any op a b c _ tb eb _ _ _ _ _ _ _ w1 hf.1 hf.2.1 hc
end
theorem PW.box {p : Prm} (hP : PW p) {w : World} (hX : Fix p w) {j : Nat} (hj : j < 32) {v : Value} {T : TypeId} (e : (actB p.ac).getD j (undef, 0) = (v, T)) : w.cell? ⟨p.ac + j, 0, none⟩ = some v ∧ w.heap[p.ac + j]? = some (.cells #[v] T (0, 0)) := by
  have := hP.bx w hX j hj
  rw [e] at this
  exact this
def numS (s : Pl) (t a : Nat) (x : Int) : Pl := s.setF t (topN s t) ((topF s t).set a (0, x))
theorem i0 {p : Prm} {s : Pl} {g : Geo} {w : World} {t op a b c : Nat} (h : Rep p s g w) (hP : PW p) (hI : In s t) (ha : a < p.rg (topF s t).f) (hb : b < 256) (hc : c < 256) :
    Calls Tryz.prog 163 #[stpV p s g t (op, a, b, c), P0 (p.ac + 1)] w fun e w' => e = .returned (.int .i64 0) ∧ Tr p s g w (numS s t a (B.wide b c)) g w' := by
  have h1 := hP.box h.fix (j := 1) (by omega) rfl
  have h0 := hP.box h.fix (j := 0) (by omega) rfl
  refine (act0_any op a b c _ _ _ _ _ _ _ _ (p.ac + 1) p.ac _ _ hb hc ha w (In.fr h hI) (heap_lt h1.2) h1.1 h0.1 (heap_lt h0.2)).mono ?_
  rintro e w' ⟨rfl, k1, k2⟩
  exact ⟨rfl, In.set h hI k1 k2⟩
theorem i1 {p : Prm} {s : Pl} {g : Geo} {w : World} {t op a b c : Nat} (h : Rep p s g w) (hP : PW p) (hI : In s t) (ha : a < p.rg (topF s t).f) (hb : b < p.rg (topF s t).f) :
    Calls Tryz.prog 163 #[stpV p s g t (op, a, b, c), P0 (p.ac + 3)] w fun e w' => e = .returned (.int .i64 0) ∧ Tr p s g w (s.setF t (topN s t) ((topF s t).set a ((topF s t).R b))) g w' := by
  have h1 := hP.box h.fix (j := 3) (by omega) rfl
  have h0 := hP.box h.fix (j := 2) (by omega) rfl
  refine (actg79_any op a b c _ _ _ _ _ _ _ _ (p.ac + 3) (p.ac + 2) _ _ _ ha w (In.fr h hI) h1.1 h0.1 (heap_lt h1.2) (heap_lt h0.2) (In.b h hI op a b c _ _ hb)).mono ?_
  rintro e w' ⟨rfl, k1, k2⟩
  exact ⟨rfl, In.set h hI k1 k2⟩
theorem i6 {p : Prm} {s : Pl} {g : Geo} {w : World} {t op a b c : Nat} (h : Rep p s g w) (hP : PW p) (hI : In s t) (ha : a < p.rg (topF s t).f) (hb : b < p.rg (topF s t).f) (hc : c < p.rg (topF s t).f) :
    Calls Tryz.prog 163 #[stpV p s g t (op, a, b, c), P0 (p.ac + 9)] w fun e w' => e = .returned (.int .i64 0) ∧ Tr p s g w (numS s t a (if (topF s t).R b = (topF s t).R c then 1 else 0)) g w' := by
  have h1 := hP.box h.fix (j := 9) (by omega) rfl
  have h0 := hP.box h.fix (j := 8) (by omega) rfl
  refine (actg86_any op a b c _ _ _ _ _ _ _ _ (p.ac + 9) (p.ac + 8) _ _ _ ha w (In.fr h hI) h1.1 h0.1 (heap_lt h1.2) (heap_lt h0.2) (fun w1 hg => same_any op a b c _ _ _ _ _ _ _ _ _ _ hb hc w1 (In.fr (h.kept hg) hI))).mono ?_
  rintro e w' ⟨rfl, k1, k2⟩
  exact ⟨rfl, In.set h hI k1 k2⟩
theorem i7 {p : Prm} {s : Pl} {g : Geo} {w : World} {t op a b c : Nat} (h : Rep p s g w) (hP : PW p) (hI : In s t) (hb : b < 256) (hc : c < 256) :
    Calls Tryz.prog 163 #[stpV p s g t (op, a, b, c), P0 (p.ac + 11)] w fun e w' => e = .returned (.int .i64 0) ∧ Tr p s g w (s.setF t (topN s t) { topF s t with nx := 256 * b + c }) g w' := by
  have h1 := hP.box h.fix (j := 11) (by omega) rfl
  have h0 := hP.box h.fix (j := 10) (by omega) rfl
  refine (actj89_any op a b c _ _ _ _ _ _ _ _ (p.ac + 11) (p.ac + 10) _ _ true (256 * b + c) rfl hb hc w (In.fr h hI) h1.1 h0.1 (heap_lt h1.2) (heap_lt h0.2) (fun w1 _ => true_any op a b c _ _ _ w1)).mono ?_
  rintro e w' ⟨rfl, k1, k2⟩
  exact ⟨rfl, In.next h hI k1 k2⟩
theorem i8 {p : Prm} {s : Pl} {g : Geo} {w : World} {t op a b c : Nat} (h : Rep p s g w) (hP : PW p) (hI : In s t) (ha : a < p.rg (topF s t).f) (hb : b < 256) (hc : c < 256) :
    Calls Tryz.prog 163 #[stpV p s g t (op, a, b, c), P0 (p.ac + 13)] w fun e w' => e = .returned (.int .i64 0) ∧ Tr p s g w (s.setF t (topN s t) { topF s t with nx := if (topF s t).R a = (0, 0) then 256 * b + c else (topF s t).nx }) g w' := by
  have h1 := hP.box h.fix (j := 13) (by omega) rfl
  have h0 := hP.box h.fix (j := 12) (by omega) rfl
  refine (actj90_any op a b c _ _ _ _ _ _ _ _ (p.ac + 13) (p.ac + 12) _ _ (decide ((topF s t).R a = (0, 0))) (if (topF s t).R a = (0, 0) then 256 * b + c else (topF s t).nx) (by show _ = _; by_cases e : (topF s t).R a = (0, 0) <;> simp [e]) hb hc w (In.fr h hI) h1.1 h0.1 (heap_lt h1.2) (heap_lt h0.2) (fun w1 hg => zero_any op a b c _ _ _ _ _ _ _ _ _ _ ha w1 (In.fr (h.kept hg) hI))).mono ?_
  rintro e w' ⟨rfl, k1, k2⟩
  exact ⟨rfl, In.next h hI k1 k2⟩
def arith (o : Nat) (x y : Int) : Int := if o = 2 then B.wrap (x + y) else if o = 3 then B.wrap (x - y) else if o = 4 then B.wrap (x * y) else lessV x y
def twoN (s : Pl) (t b c : Nat) : Prop := ((topF s t).R b).1 = 0 ∧ ((topF s t).R c).1 = 0
theorem i25 {p : Prm} {s : Pl} {g : Geo} {w : World} {t o a b c : Nat} (op : Nat) (h : Rep p s g w) (hP : PW p) (hI : In s t) (ho : o = 2 ∨ o = 3 ∨ o = 4 ∨ o = 5) (ha : a < p.rg (topF s t).f) (hb : b < p.rg (topF s t).f) (hc : c < p.rg (topF s t).f) :
    Calls Tryz.prog 151 #[stpV p s g t (op, a, b, c), P0 (p.ac + (o + 2))] w fun e w' => (twoN s t b c ∧ e = .returned (.int .i64 0) ∧ Tr p s g w (numS s t a (arith o ((topF s t).R b).2 ((topF s t).R c).2)) g w') ∨ (¬ twoN s t b c ∧ e = .returned (.int .i64 1) ∧ w.grownBy w' none) := by
  rcases ho with rfl | rfl | rfl | rfl
  · have h0 := hP.box h.fix (j := 4) (by omega) rfl
    refine (act2_any op a b c _ _ _ _ _ _ _ _ (p.ac + 4) _ _ ha hb hc w (In.fr h hI) h0.2).mono ?_
    rintro e w' (⟨k0, rfl, k1, k2⟩ | ⟨k0, rfl, k1⟩)
    · exact Or.inl ⟨k0, rfl, In.set h hI k1 k2⟩
    · exact Or.inr ⟨k0, rfl, k1⟩
  · have h0 := hP.box h.fix (j := 5) (by omega) rfl
    refine (act3_any op a b c _ _ _ _ _ _ _ _ (p.ac + 5) _ _ ha hb hc w (In.fr h hI) h0.2).mono ?_
    rintro e w' (⟨k0, rfl, k1, k2⟩ | ⟨k0, rfl, k1⟩)
    · exact Or.inl ⟨k0, rfl, In.set h hI k1 k2⟩
    · exact Or.inr ⟨k0, rfl, k1⟩
  · have h0 := hP.box h.fix (j := 6) (by omega) rfl
    refine (act4_any op a b c _ _ _ _ _ _ _ _ (p.ac + 6) _ _ ha hb hc w (In.fr h hI) h0.2).mono ?_
    rintro e w' (⟨k0, rfl, k1, k2⟩ | ⟨k0, rfl, k1⟩)
    · exact Or.inl ⟨k0, rfl, In.set h hI k1 k2⟩
    · exact Or.inr ⟨k0, rfl, k1⟩
  · have h0 := hP.box h.fix (j := 7) (by omega) rfl
    refine (act5_any op a b c _ _ _ _ _ _ _ _ (p.ac + 7) _ _ ha hb hc w (In.fr h hI) h0.2).mono ?_
    rintro e w' (⟨k0, rfl, k1, k2⟩ | ⟨k0, rfl, k1⟩)
    · exact Or.inl ⟨k0, rfl, In.set h hI k1 k2⟩
    · exact Or.inr ⟨k0, rfl, k1⟩
theorem Tr.between {p : Prm} {s s' : Pl} {g g' : Geo} {w w1 w' : World} (h : Rep p s g w) (hT : Tr p s g w1 s' g' w') (k : Nat) (h1 : w.heap.size ≤ k) (h2 : k < w1.heap.size) : w'.heap[k]? = w1.heap[k]? := hT.o.same h2 (fun hm => by have := h.lt hm; omega)
def fnOf (s : Pl) (x : B.V) : Nat × B.V × Bool := if x.1 = 0 ∨ s.ck x.1 = 0 then (0, (0, 0), false) else (s.ck x.1 - 1, (s.M x.1).getD 0 (0, 0), true)
theorem funcV_of (s : Pl) (g : Geo) (x : B.V) : funcV x (vsOf s g).f s.M = .tuple #[.int .i64 ((fnOf s x).1 : Int), vA (fnOf s x).2.1, .bool (fnOf s x).2.2] := by
  unfold funcV fnOf
  by_cases e : x.1 = 0 ∨ s.ck x.1 = 0
  · have e' : x.1 = 0 ∨ (vsOf s g).f.k x.1 = 0 := e
    rw [if_pos e, if_pos e']; rfl
  · have e' : ¬ (x.1 = 0 ∨ (vsOf s g).f.k x.1 = 0) := e
    rw [if_neg e, if_neg e']; rfl
theorem functionR {p : Prm} {s : Pl} {g : Geo} {w : World} (h : Rep p s g w) (hP : PW p) {x : B.V} (hv : B.Vok s.kd.on p.n x) : ∀ w1, w.grownBy w1 none → Calls Tryz.prog 162 #[P0 p.sb, vA x] w1 fun e w' => e = .returned (.tuple #[.int .i64 ((fnOf s x).1 : Int), vA (fnOf s x).2.1, .bool (fnOf s x).2.2]) ∧ w1.grownBy w' none := fun w1 hg => by
  refine (function_any p.sb p.pb p.eb p.n x s.kd (vsOf s g) s.M w1 (h.kept hg).S hP.n2 hv).mono ?_
  rintro e w' ⟨k1, rfl⟩
  exact ⟨by rw [funcV_of], k1⟩
theorem Rep.e27 {p : Prm} {s : Pl} {g : Geo} {w : World} (h : Rep p s g w) (hP : PW p) : w.cell? ⟨p.eb, 27, none⟩ = some (P0 p.sb) := by
  rw [h.E.cell 27 (by omega)]
  show some (p.E0 27) = _
  rw [hP.e27]
theorem top_len {s : Pl} {t : Nat} (hI : In s t) : (s.T t).fr.length = topN s t + 1 := by have := hI.hi; unfold topN at *; omega
def callS (s : Pl) (t : Nat) (k : Nat × Nat × Nat × Nat) : Pl := if (fnOf s ((topF s t).R k.2.2.1)).2.2 = true ∧ (s.T t).fr.length ≠ 20 then s.push t ⟨(fnOf s ((topF s t).R k.2.2.1)).1, 0, reg0 ((topF s t).R k.2.2.2) (fnOf s ((topF s t).R k.2.2.1)).2.1, k⟩ else s
theorem i13 {p : Prm} {s : Pl} {g : Geo} {w : World} {t op a b c : Nat} (h : Rep p s g w) (hP : PW p) (hI : In s t) (hb : b < p.rg (topF s t).f) (hc : c < p.rg (topF s t).f) (hv : B.Vok s.kd.on p.n ((topF s t).R b)) (hlf : (s.T t).lf = none) (hm : (s.T t).fr.length ≤ 1000) (hfn : (fnOf s ((topF s t).R b)).2.2 = true → (fnOf s ((topF s t).R b)).1 < p.nf) :
    Calls Tryz.prog 104 #[stpV p s g t (op, a, b, c)] w fun e w' => e = .returned (.int .i64 (callR (fnOf s ((topF s t).R b)).2.2 (s.T t).fr.length)) ∧ ∃ g', Tr p s g w (callS s t (op, a, b, c)) g' w' := by
  have hl := top_len hI
  refine callL op a b c (g.fb t (topN s t)) (g.tb t) p.eb p.sb (s.T t).fr.length (g.ro 12 t).2 (fnOf s ((topF s t).R b)).1 ((topF s t).R b) ((topF s t).R c) (fnOf s ((topF s t).R b)).2.1 (fnOf s ((topF s t).R b)).2.2 (g.ro 12 t).1 (fun w' => ∃ g', Tr p s g w (callS s t (op, a, b, c)) g' w') w (In.b h hI op a b c _ _ hb) (functionR h hP hv) (In.c h hI op a b c _ _ hc) ?_ ?_ (h.e27 hP) ?_
  · intro hok hne w1 hg1
    have hcall := enterR (k := .func 149) (ka := #[stepV op a b c (g.fb t (topN s t)) (g.tb t) p.eb]) (kc := #[]) (op, a, b, c) ((topF s t).R c) (fnOf s ((topF s t).R b)).2.1 (h.kept hg1) hP hI.ht hlf (hfn hok) hm (by
      unfold bkV
      rw [if_neg (by omega), hl]
      rfl)
    refine hcall.mono ?_
    rintro e w' ⟨rfl, fb, rb, r, h2⟩
    refine ⟨rfl, ⟨g.push t (s.T t).fr.length fb rb r, ?_⟩, h2.between h⟩
    unfold callS
    rw [if_pos ⟨hok, hne⟩]
    exact h2.ahead hg1
  · intro w1 hg1 hno
    refine ⟨g, ?_⟩
    unfold callS
    rw [if_neg (fun e => hno.elim (fun h => by rw [h] at e; exact absurd e.1 (by decide)) e.2)]
    exact (Tr.refl h).kept hg1
  · exact (h.tk hI.ht).cell 1 (by omega)
theorem born_T (s : Pl) (f : Nat) (u v : B.V) {t : Nat} (ht : isT s t) : (s.born f u v).T t = s.T t := by
  have e : t ≠ s.nt + 1 := by have := ht.2; omega
  unfold Pl.born
  rw [join1_T _ e]
  show ((s.more.push (s.nt + 1) _).T t) = _
  unfold Pl.push
  rw [setT_off _ _ e]
  exact new_T s e
theorem born_nt (s : Pl) (f : Nat) (u v : B.V) : (s.born f u v).nt = s.nt + 1 := join1_nt _ _ _ _
def spawnS (p : Prm) (s : Pl) (t : Nat) (k : Nat × Nat × Nat × Nat) : Pl := if (fnOf s ((topF s t).R k.2.2.1)).2.2 = true ∧ s.lv.length ≠ p.mt then (s.born (fnOf s ((topF s t).R k.2.2.1)).1 ((topF s t).R k.2.2.2) (fnOf s ((topF s t).R k.2.2.1)).2.1).setF t (topN s t) ((topF s t).set k.2.1 (0, ((s.nt + 1 : Nat) : Int))) else s
theorem i15 {p : Prm} {s : Pl} {g : Geo} {w : World} {t op a b c : Nat} (h : Rep p s g w) (hP : PW p) (hI : In s t) (ha : a < p.rg (topF s t).f) (hb : b < p.rg (topF s t).f) (hc : c < p.rg (topF s t).f) (hv : B.Vok s.kd.on p.n ((topF s t).R b)) (hfn : (fnOf s ((topF s t).R b)).2.2 = true → (fnOf s ((topF s t).R b)).1 < p.nf)
    (hW : LW s) (hnd : s.lv.Nodup) (hlt : ∀ u, u ∈ s.lv → isT s u) (ho : s.out.length = s.nt) (hn : s.nt + 1 ≤ 500000000) :
    Calls Tryz.prog 108 #[stpV p s g t (op, a, b, c)] w fun e w' => e = .returned (.int .i64 (spawnR (fnOf s ((topF s t).R b)).2.2 s.lv.length p.mt)) ∧ ∃ g', Tr p s g w (spawnS p s t (op, a, b, c)) g' w' := by
  refine spawnL op a b c (g.fb t (topN s t)) (g.tb t) p.eb p.sb s.lv.length (g.ro 6 0).2 (fnOf s ((topF s t).R b)).1 p.mt (s.nt + 1) ((topF s t).R b) ((topF s t).R c) (fnOf s ((topF s t).R b)).2.1 (fnOf s ((topF s t).R b)).2.2 (g.ro 6 0).1 (fun w' => ∃ g', Tr p s g w (spawnS p s t (op, a, b, c)) g' w')
    (fun w' => (fnOf s ((topF s t).R b)).2.2 = true ∧ s.lv.length ≠ p.mt ∧ w.heap.size < w'.heap.size ∧ ∃ g', Tr p s g w (s.born (fnOf s ((topF s t).R b)).1 ((topF s t).R c) (fnOf s ((topF s t).R b)).2.1) g' w' ∧ (∀ a i, isT s a → g'.fb a i = g.fb a i) ∧ ¬ Mine p (s.born (fnOf s ((topF s t).R b)).1 ((topF s t).R c) (fnOf s ((topF s t).R b)).2.1) g' w.heap.size) w (In.b h hI op a b c _ _ hb) (functionR h hP hv) (In.c h hI op a b c _ _ hc) ?_ ?_ ?_ (h.e27 hP) ?_ ?_
  · intro hok hne w1 hg1 hlt1
    refine (beginR ((topF s t).R c) (fnOf s ((topF s t).R b)).2.1 (h.kept hg1) hP hW hnd hlt ho (hfn hok) hn).mono ?_
    rintro e w' ⟨rfl, g', h2, hfb⟩
    exact ⟨rfl, ⟨hok, hne, by have := h2.o.size; omega, g', h2.ahead hg1, hfb, fun hm => (h2.m _ hm).elim (fun h1 => by have := h.lt h1; omega) (fun h1 => by omega)⟩, h2.between h⟩
  · rintro w1 w2 ⟨hok, hne, hz1, g', h1, hfb, hnm⟩ hg2
    have ht2 : isT (s.born (fnOf s ((topF s t).R b)).1 ((topF s t).R c) (fnOf s ((topF s t).R b)).2.1) t := ⟨hI.ht.1, by rw [born_nt]; have := hI.ht.2; omega⟩
    have hT2 := born_T s (fnOf s ((topF s t).R b)).1 ((topF s t).R c) (fnOf s ((topF s t).R b)).2.1 hI.ht
    have hfr : frAt (s.born (fnOf s ((topF s t).R b)).1 ((topF s t).R c) (fnOf s ((topF s t).R b)).2.1) t (topN s t) = topF s t := frAt_fr (by rw [hT2])
    have hcall := setR (t := t) (i := topN s t) (a := a) op b c (g.tb t) p.eb (0, ((s.nt + 1 : Nat) : Int)) (h1.r.kept hg2) ht2 (by rw [hT2]; exact hI.hi) (by rw [hfr]; exact ha)
    rw [hfb t _ hI.ht] at hcall
    refine hcall.mono ?_
    rintro e w' ⟨rfl, h3⟩
    rw [hfr] at h3
    have h13 := (h1.kept hg2).trans h3
    refine ⟨rfl, ⟨g', ?_⟩, ?_⟩
    · unfold spawnS
      rw [if_pos ⟨hok, hne⟩]
      exact h13
    · exact h3.o.same (Nat.lt_of_lt_of_le hz1 hg2.size) hnm
  · intro w1 hg1 hno
    refine ⟨g, ?_⟩
    unfold spawnS
    rw [if_neg (fun e => hno.elim (fun h => by rw [h] at e; exact absurd e.1 (by decide)) e.2)]
    exact (Tr.refl h).kept hg1
  · exact h.E.cell 29 (by omega)
  · rw [h.E.cell 3 (by omega)]
    show some (p.E0 3) = _
    rw [hP.e3]
theorem i14 {p : Prm} {s : Pl} {g : Geo} {w : World} {t op a b c : Nat} (h : Rep p s g w) (hP : PW p) (hI : In s t) (ha : a < p.rg (topF s t).f) (hW : LW s) (hWW : WW p s) (hlf : (s.T t).lf = none) (hwh : (s.T t).wh = none) (hm : (s.T t).fr.length ≤ 1000) (hlv : t ∈ s.lv) (hnd : s.lv.Nodup) (hlt : ∀ u, u ∈ s.lv → isT s u) (ho : s.out.length = s.nt) (hk : s.kp.length ≤ 1000000) (hev : s.ev.length ≤ 100000) (hba : topN s t ≠ 0 → (topF s t).bk.2.1 < p.rg (frAt s t (topN s t - 1)).f) :
    Calls Tryz.prog 163 #[stpV p s g t (op, a, b, c), P0 (p.ac + 18)] w fun e w' => e = .returned (.int .i64 0) ∧ ∃ g', Tr p s g w (s.back t ((topF s t).R a)) g' w' := by
  have h0 := hP.box h.fix (j := 18) (by omega) rfl
  refine does106 op a b c _ _ _ (p.ac + 18) _ w h0.1 (fun w1 hg1 => ?_)
  refine retL op a b c _ _ _ ((topF s t).R a) _ w1 (fun w2 hg2 => In.a h hI op a b c _ _ ha w2 (grown_trans hg1 hg2)) (fun w2 hg2 => ?_)
  have hfr : (s.T t).fr ≠ [] := fun e => by have := hI.hi; rw [e] at this; exact Nat.not_lt_zero _ this
  refine (giveBackR ((topF s t).R a) (h.kept (grown_trans hg1 hg2)) hW hWW hI.ht hlf hwh hfr hm hlv hnd hlt ho hk hev hba).mono ?_
  rintro e w' ⟨rfl, g', h3⟩
  exact ⟨rfl, ⟨g', h3.ahead (grown_trans hg1 hg2)⟩, h3.between (h.kept hg1)⟩
theorem i16 {p : Prm} {s : Pl} {g : Geo} {w : World} {t op a b c : Nat} (h : Rep p s g w) (hP : PW p) (hI : In s t) (hW : LW s) (hwh : (s.T t).wh = none) :
    Calls Tryz.prog 163 #[stpV p s g t (op, a, b, c), P0 (p.ac + 19)] w fun e w' => e = .returned (.int .i64 0) ∧ ∃ g', Tr p s g w (s.join1 2 0 t) g' w' := by
  have h0 := hP.box h.fix (j := 19) (by omega) rfl
  refine does109 op a b c _ _ _ (p.ac + 19) _ w h0.1 (fun w1 hg1 => ?_)
  refine yieldL op a b c _ _ _ _ w1 (h.kept hg1).E.lt (fun w2 hg2 => ?_)
  refine (joinR (x := 2) (y := 0) (h.kept (grown_trans hg1 hg2)) hW (Or.inl ⟨rfl, rfl⟩) hI.ht (by omega) (by rw [hwh]; intro e; cases e)).mono ?_
  rintro e w' ⟨rfl, r, h3⟩
  exact ⟨rfl, _, h3.ahead (grown_trans hg1 hg2)⟩
def emitS (s : Pl) (t a : Nat) : Int × Pl := if ((topF s t).R a).1 = 0 then (0, s.told 1 t ((topF s t).R a).2) else (1, s)
theorem i20 {p : Prm} {s : Pl} {g : Geo} {w : World} {t op a b c : Nat} (h : Rep p s g w) (hP : PW p) (hI : In s t) (ha : a < p.rg (topF s t).f) (hev : s.ev.length ≤ 100000) :
    Calls Tryz.prog 167 #[stpV p s g t (op, a, b, c), P0 (p.ac + 26), P0 (p.ac + 27)] w fun e w' => ∃ why : Int, e = .returned (.int .i64 why) ∧ why = (emitS s t a).1 ∧ ∃ g', Tr p s g w (emitS s t a).2 g' w' := by
  have h1 := hP.box h.fix (j := 26) (by omega) rfl
  have h2 := hP.box h.fix (j := 27) (by omega) rfl
  refine takes98_115 op a b c _ _ _ (p.ac + 26) (p.ac + 27) ((topF s t).R a) (fun why w' => why = (emitS s t a).1 ∧ ∃ g', Tr p s g w (emitS s t a).2 g' w') w h1.1 h2.1 (In.a h hI op a b c _ _ ha) (fun h0 w1 hg1 => ?_) (fun h0 w1 hg1 => ?_)
  · refine (emitL op a b c _ _ _ ((topF s t).R a).2 (fun w' => ∃ g', Tr p s g w (emitS s t a).2 g' w') w1 (fun w2 hg2 => ?_)).mono ?_
    · refine (tellR 1 ((topF s t).R a).2 (h.kept (grown_trans hg1 hg2)) hI.ht hev).mono ?_
      rintro e w' ⟨rfl, r, h3⟩
      refine ⟨rfl, g.at 9 0 r, ?_⟩
      unfold emitS
      rw [if_pos h0]
      exact h3.ahead (grown_trans hg1 hg2)
    · rintro e w' ⟨rfl, h3⟩
      exact ⟨0, rfl, by unfold emitS; rw [if_pos h0], h3⟩
  · unfold emitS
    rw [if_neg h0]
    exact ⟨rfl, g, (Tr.refl h).kept hg1⟩
end Go.Proofs.YtnjiinbhbjpfkaaGreatDoor.F
namespace Go.Proofs.YtnjiinbhbjpfkaaGreatDoor
open Go.RowKit
def B.aft (c t : Int) : Int := if t ≤ 0 then c else if t ≤ 9223372036854775807 - c then c + t else 9223372036854775807
theorem B.aft_in {c t : Int} (h0 : 0 ≤ c) (h1 : c ≤ 9223372036854775807) : 0 ≤ B.aft c t ∧ B.aft c t ≤ 9223372036854775807 := by
  unfold B.aft
  split
  · omega
  · split <;> omega
set_option maxRecDepth 100000 in
theorem after_gen (eb : Nat) (c t : Int) (w : World) (h : w.cell? ⟨eb, 28, none⟩ = some (.int .i64 c)) (h0 : 0 ≤ c) (h1 : c ≤ 9223372036854775807) :
    Calls Tryz.prog 64 #[P0 eb, .int .i64 t] w fun e w' => e = .returned (.int .i64 (B.aft c t)) ∧ w' = w := by
  generalize hy : B.aft c t = y
  have HY := hid hy
  clear hy
  have hw1 : IntKind.i64.wrap (9223372036854775807 - c) = 9223372036854775807 - c := by simp [IntKind.wrap, IntKind.bits, IntKind.signed]; omega
  by_cases ht : t < 0
  · have hy0 : y = c := by rw [← HY.out]; unfold B.aft; rw [if_pos (by omega)]
    subst hy0
    have hl : (0 : Int) ≤ 9223372036854775807 - y := by omega
    have hl2 : ¬ (9223372036854775807 - y < 0) := by omega
    clear HY
    go_enter Tryz.func64, Tryz.ntmps64
    go_wp2_with fail
    go_ret
    exact ⟨rfl, rfl⟩
  · by_cases hl : t ≤ 9223372036854775807 - c
    · have hy0 : c + t = y := by
        rw [← HY.out]; unfold B.aft
        by_cases h : t ≤ 0
        · rw [if_pos h]; omega
        · rw [if_neg h, if_pos hl]
      have hl2 : ¬ (9223372036854775807 - c < t) := by omega
      have hw2 : IntKind.i64.wrap (c + t) = c + t := by simp [IntKind.wrap, IntKind.bits, IntKind.signed]; omega
      clear HY
      go_enter Tryz.func64, Tryz.ntmps64
      go_wp2_with fail
      go_ret
      exact ⟨by rw [← hy0]; rfl, rfl⟩
    · have hy0 : c + (9223372036854775807 - c) = y := by
        rw [← HY.out]; unfold B.aft
        rw [if_neg (by omega), if_neg hl]; omega
      have hl2 : 9223372036854775807 - c < t := by omega
      have hw2 : IntKind.i64.wrap (c + (9223372036854775807 - c)) = c + (9223372036854775807 - c) := by simp [IntKind.wrap, IntKind.bits, IntKind.signed]; omega
      clear HY
      go_enter Tryz.func64, Tryz.ntmps64
      go_wp2_with fail
      go_ret
      exact ⟨by rw [← hy0]; rfl, rfl⟩
set_option maxRecDepth 100000 in
theorem now_any (op a b c fb tb eb : Nat) (x : Int) (w : World) (h : w.cell? ⟨eb, 28, none⟩ = some (.int .i64 x)) (le : eb < w.heap.size) :
    Calls Tryz.prog 117 #[stepV op a b c fb tb eb] w fun e w' => e = .returned (vA (0, x)) ∧ w.grownBy w' none := by
  have l1 : eb < w.heap.size + 1 := by omega
  have l2 : eb < w.heap.size + 1 + 1 := by omega
  go_enter Tryz.func117, Tryz.ntmps117
  go_wp2_with fail
  refine (number_any x _).mono ?_
  rintro e w2 ⟨rfl, rfl⟩
  go_wp2_with fail
  refine bodyPost_ret (v := vA (0, x)) (by simp [results, Tryz.results117, go_sem]) rfl ⟨rfl, ?_⟩
  repeat (first | exact grown_refl _ _ | refine grown_alloc ?_ _ | refine grown_setCell ?_ (Or.inr (by simp)) _)
def fst (p : Nat → Bool) (xs : List Nat) : Int := if xs.findIdx p < xs.length then (xs.findIdx p : Nat) else -1
set_option maxRecDepth 100000 in
theorem sidxP204 (g c n xb : Nat) (ad : Option Addr) (p : Nat → Bool) (xs : List Nat) (w : World) (hn : n = xs.length) (hn2 : n ≤ 1000000000) (had : ∀ j x, xs[j]? = some x → ad = some ⟨g, 0, none⟩ ∧ w.cell? ⟨g, j, none⟩ = some (P0 x)) (lg : xs ≠ [] → g < w.heap.size)
    (H : ∀ w1, w.grownBy w1 none → ∀ x, x ∈ xs → Calls Tryz.prog 204 #[P0 x, P0 xb] w1 fun e w' => e = .returned (.bool (p x)) ∧ w1.grownBy w' none) :
    Calls Tryz.prog 205 #[.slice ad n c, Fv 204 #[P0 xb]] w fun e w' => e = .returned (.int .i64 (fst p xs)) ∧ w.grownBy w' none := by
  have HC := hid had
  have HH := hid H
  have HN := hid hn
  have HG := hid lg
  have hle : xs.findIdx p ≤ xs.length := List.findIdx_le_length
  have HL := hid hle
  clear had H hn hle lg
  go_enter Tryz.func205, Tryz.ntmps205
  go_wp2_with fail
  go_loopw [8] (fun i wr => ∃ j : Nat, i = .int .i64 j ∧ j ≤ xs.findIdx p ∧ Hid (w.grownBy wr none)) (fun i _ => xs.length - (intOf i).toNat)
  case atStart => exact ⟨0, rfl, by omega, grown_refl _ _⟩
  case round =>
    obtain ⟨j, rfl, hj, rG⟩ := hrel
    by_cases hjn : j < n
    · obtain ⟨x, hx⟩ : ∃ x, xs[j]? = some x := ⟨_, List.getElem?_eq_getElem (by have := HN.out; omega)⟩
      obtain ⟨rfl, cj0⟩ := HC.out j x hx
      have hmx := List.mem_of_getElem? hx
      have cj : wr.cell? ⟨g, j, none⟩ = some (P0 x) := (grown_cell rG.out (a := ⟨g, j, none⟩) (HG.out (by intro e; rw [e] at hmx; cases hmx))).1.trans cj0
      have hl1 := HH.out wr rG.out x hmx
      obtain ⟨hxl, hxe⟩ := List.getElem?_eq_some_iff.1 hx
      have HL1 := hid hl1
      clear hl1 cj0 hmx
      by_cases hjt : j = xs.findIdx p
      · have hpx : p x = true := by
          subst hjt
          rw [← hxe]; exact List.findIdx_getElem (w := hxl)
        have HJ := hid hjt
        rw [hpx] at HL1
        clear hjt hpx hxe hxl
        go_wp2_with fail
        refine HL1.out.mono ?_
        rintro e w1 ⟨rfl, hg1⟩
        have HG1 := hid (grown_trans rG.out hg1)
        clear hg1
        go_wp2_with fail
        go_ret
        refine ⟨?_, HG1.out⟩
        have h1 := HJ.out
        have h2 := HN.out
        unfold fst
        rw [if_pos (by omega), ← h1]
        rfl
      · have hpx : p x = false := by
          rw [← hxe]
          have := List.not_of_lt_findIdx (p := p) (xs := xs) (i := j) (by omega)
          simpa using this
        rw [hpx] at HL1
        clear hpx hxe hxl
        go_wp2_with fail
        refine HL1.out.mono ?_
        rintro e w1 ⟨rfl, hg1⟩
        have HG1 := hid (grown_trans rG.out hg1)
        clear hg1
        go_wp2_with fail
        go_roundw
        case rel => exact ⟨j + 1, by go_num, by omega, HG1⟩
        case measure => simp [intOf]; have := HN.out; omega
    · have hjn2 : ¬ (j : Int) < (n : Int) := by omega
      go_wp2_with fail
      go_ret
      refine ⟨?_, rG.out⟩
      have h1 := HL.out
      have h2 := HN.out
      unfold fst
      rw [if_neg (by omega)]
      rfl
set_option maxRecDepth 100000 in
theorem sidxP206 (g c n xb : Nat) (ad : Option Addr) (p : Nat → Bool) (xs : List Nat) (w : World) (hn : n = xs.length) (hn2 : n ≤ 1000000000) (had : ∀ j x, xs[j]? = some x → ad = some ⟨g, 0, none⟩ ∧ w.cell? ⟨g, j, none⟩ = some (P0 x)) (lg : xs ≠ [] → g < w.heap.size)
    (H : ∀ w1, w.grownBy w1 none → ∀ x, x ∈ xs → Calls Tryz.prog 206 #[P0 x, P0 xb] w1 fun e w' => e = .returned (.bool (p x)) ∧ w1.grownBy w' none) :
    Calls Tryz.prog 205 #[.slice ad n c, Fv 206 #[P0 xb]] w fun e w' => e = .returned (.int .i64 (fst p xs)) ∧ w.grownBy w' none := by
  have HC := hid had
  have HH := hid H
  have HN := hid hn
  have HG := hid lg
  have hle : xs.findIdx p ≤ xs.length := List.findIdx_le_length
  have HL := hid hle
  clear had H hn hle lg
  go_enter Tryz.func205, Tryz.ntmps205
  go_wp2_with fail
  go_loopw [8] (fun i wr => ∃ j : Nat, i = .int .i64 j ∧ j ≤ xs.findIdx p ∧ Hid (w.grownBy wr none)) (fun i _ => xs.length - (intOf i).toNat)
  case atStart => exact ⟨0, rfl, by omega, grown_refl _ _⟩
  case round =>
    obtain ⟨j, rfl, hj, rG⟩ := hrel
    by_cases hjn : j < n
    · obtain ⟨x, hx⟩ : ∃ x, xs[j]? = some x := ⟨_, List.getElem?_eq_getElem (by have := HN.out; omega)⟩
      obtain ⟨rfl, cj0⟩ := HC.out j x hx
      have hmx := List.mem_of_getElem? hx
      have cj : wr.cell? ⟨g, j, none⟩ = some (P0 x) := (grown_cell rG.out (a := ⟨g, j, none⟩) (HG.out (by intro e; rw [e] at hmx; cases hmx))).1.trans cj0
      have hl1 := HH.out wr rG.out x hmx
      obtain ⟨hxl, hxe⟩ := List.getElem?_eq_some_iff.1 hx
      have HL1 := hid hl1
      clear hl1 cj0 hmx
      by_cases hjt : j = xs.findIdx p
      · have hpx : p x = true := by
          subst hjt
          rw [← hxe]; exact List.findIdx_getElem (w := hxl)
        have HJ := hid hjt
        rw [hpx] at HL1
        clear hjt hpx hxe hxl
        go_wp2_with fail
        refine HL1.out.mono ?_
        rintro e w1 ⟨rfl, hg1⟩
        have HG1 := hid (grown_trans rG.out hg1)
        clear hg1
        go_wp2_with fail
        go_ret
        refine ⟨?_, HG1.out⟩
        have h1 := HJ.out
        have h2 := HN.out
        unfold fst
        rw [if_pos (by omega), ← h1]
        rfl
      · have hpx : p x = false := by
          rw [← hxe]
          have := List.not_of_lt_findIdx (p := p) (xs := xs) (i := j) (by omega)
          simpa using this
        rw [hpx] at HL1
        clear hpx hxe hxl
        go_wp2_with fail
        refine HL1.out.mono ?_
        rintro e w1 ⟨rfl, hg1⟩
        have HG1 := hid (grown_trans rG.out hg1)
        clear hg1
        go_wp2_with fail
        go_roundw
        case rel => exact ⟨j + 1, by go_num, by omega, HG1⟩
        case measure => simp [intOf]; have := HN.out; omega
    · have hjn2 : ¬ (j : Int) < (n : Int) := by omega
      go_wp2_with fail
      go_ret
      refine ⟨?_, rG.out⟩
      have h1 := HL.out
      have h2 := HN.out
      unfold fst
      rw [if_neg (by omega)]
      rfl
set_option maxRecDepth 100000 in
theorem alive1L (x xb : Nat) (a b : Int) (w : World) (h : w.cell? ⟨xb, 0, none⟩ = some (.int .i64 b)) (hx : w.cell? ⟨x, 0, none⟩ = some (.int .i64 a)) :
    Calls Tryz.prog 206 #[P0 x, P0 xb] w fun e w' => e = .returned (.bool (a == b)) ∧ w.grownBy w' none := by
  go_enter Tryz.func206, Tryz.ntmps206
  go_wp2_with fail
  go_quiet (fail)
  go_wp2_with fail
  go_ret
  exact ⟨rfl, grown_drewN (grown_refl _ _) _⟩
set_option maxRecDepth 100000 in
theorem later1L (x xb tb : Nat) (a b : Int) (w : World) (h : w.cell? ⟨xb, 0, none⟩ = some (P0 tb)) (hx : w.cell? ⟨x, 5, none⟩ = some (.int .i64 a)) (ht : w.cell? ⟨tb, 5, none⟩ = some (.int .i64 b)) :
    Calls Tryz.prog 204 #[P0 x, P0 xb] w fun e w' => e = .returned (.bool (decide (b < a))) ∧ w.grownBy w' none := by
  go_enter Tryz.func204, Tryz.ntmps204
  go_wp2_with fail
  go_quiet (fail)
  go_wp2_with fail
  go_ret
  exact ⟨rfl, grown_drewN (grown_refl _ _) _⟩
def aliveV (xs : List Nat) (nm : Nat → Int) (z : Int) : Value :=
  match xs.find? (fun x => nm x == z) with
  | some x => .tuple #[P0 x, .bool true]
  | none => .tuple #[.pointer none, .bool false]
set_option maxRecDepth 100000 in
theorem aliveL (eb g c n : Nat) (ad : Option Addr) (z : Int) (nm : Nat → Int) (xs : List Nat) (w : World) (he : w.cell? ⟨eb, 29, none⟩ = some (.slice ad n c)) (le : eb < w.heap.size) (hn : n = xs.length) (hn2 : n ≤ 1000000000) (had : ∀ j x, xs[j]? = some x → ad = some ⟨g, 0, none⟩ ∧ w.cell? ⟨g, j, none⟩ = some (P0 x)) (lg : xs ≠ [] → g < w.heap.size)
    (hnm : ∀ x, x ∈ xs → w.cell? ⟨x, 0, none⟩ = some (.int .i64 (nm x)) ∧ x < w.heap.size) :
    Calls Tryz.prog 170 #[P0 eb, .int .i64 z] w fun e w' => e = .returned (aliveV xs nm z) ∧ w.grownBy w' none := by
  have le1 : eb < w.heap.size + 1 := by omega
  have HX : Hid (Calls Tryz.prog 205 #[.slice ad n c, Fv 206 #[P0 w.heap.size]] (w.alloc (.cells #[.int .i64 z] 2)) fun e w' => e = .returned (.int .i64 (fst (fun x => nm x == z) xs)) ∧ (w.alloc (.cells #[.int .i64 z] 2)).grownBy w' none) := by
    have hA := World.grownBy_alloc w (.cells #[.int .i64 z] 2) none
    refine sidxP206 g c n w.heap.size ad (fun x => nm x == z) xs _ hn hn2 (fun j x hx => ⟨(had j x hx).1, ?_⟩) (fun h => by have := lg h; simp; omega) (fun w1 hg x hxm => ?_)
    · have hmx := List.mem_of_getElem? hx
      exact (grown_cell hA (a := ⟨g, j, none⟩) (lg (by intro e; rw [e] at hmx; cases hmx))).1.trans (had j x hx).2
    · refine alive1L x w.heap.size (nm x) z w1 ?_ ?_
      · have := grown_heap hg (heap_alloc_new w (.cells #[.int .i64 z] 2)) (by intro e; cases e)
        simp [World.cell?, this]
      · exact (grown_cell (grown_trans hA hg) (a := ⟨x, 0, none⟩) (hnm x hxm).2).1.trans (hnm x hxm).1
  have HC := hid had
  have HN := hid hn
  have HG := hid lg
  clear had hn lg hnm
  go_enter Tryz.func170, Tryz.ntmps170
  go_wp2_with fail
  refine HX.out.mono ?_
  rintro e w1 ⟨rfl, hg1⟩
  have hG := grown_trans (World.grownBy_alloc w (.cells #[.int .i64 z] 2) none) hg1
  have he1 : w1.cell? ⟨eb, 29, none⟩ = some (.slice ad n c) := (grown_cell hG (a := ⟨eb, 29, none⟩) le).1.trans he
  have le2 : eb < w1.heap.size := Nat.lt_of_lt_of_le le hG.size
  have KG := hid hG
  clear hg1 hG he
  by_cases hf : xs.findIdx (fun x => nm x == z) < xs.length
  · obtain ⟨x, hx⟩ : ∃ x, xs[xs.findIdx (fun x => nm x == z)]? = some x := ⟨_, List.getElem?_eq_getElem hf⟩
    obtain ⟨rfl, cj0⟩ := HC.out _ x hx
    have hmx := List.mem_of_getElem? hx
    have hfs : fst (fun x => nm x == z) xs = ((xs.findIdx (fun x => nm x == z) : Nat) : Int) := by unfold fst; rw [if_pos hf]
    have hv : aliveV xs nm z = .tuple #[P0 x, .bool true] := by
      have : xs.find? (fun x => nm x == z) = some x := by
        rw [List.find?_eq_some_iff_getElem]
        obtain ⟨h1, h2⟩ := List.getElem?_eq_some_iff.1 hx
        have h3 := List.findIdx_getElem (p := fun x => nm x == z) (xs := xs) (w := hf)
        refine ⟨by rw [← h2]; exact h3, _, h1, h2, fun j hj => ?_⟩
        have := List.not_of_lt_findIdx hj
        simpa using this
      unfold aliveV; rw [this]
    have HV := hid hv
    rw [hfs]
    generalize xs.findIdx (fun x => nm x == z) = ix at *
    have cj : w1.cell? ⟨g, ix, none⟩ = some (P0 x) := (grown_cell KG.out (a := ⟨g, ix, none⟩) (HG.out (by intro e; rw [e] at hmx; cases hmx))).1.trans cj0
    have hin : (ix : Int) < (n : Int) := by have := HN.out; omega
    clear hv hfs hx cj0 hmx hf
    go_wp2_with fail
    go_ret2
    exact ⟨by rw [HV.out]; rfl, KG.out⟩
  · have hfs : fst (fun x => nm x == z) xs = -1 := by unfold fst; rw [if_neg hf]
    have hv : aliveV xs nm z = .tuple #[.pointer none, .bool false] := by
      have : xs.find? (fun x => nm x == z) = none := by
        rw [List.find?_eq_none]
        intro x hx hp
        exact hf (List.findIdx_lt_length_of_exists ⟨x, hx, hp⟩)
      unfold aliveV; rw [this]
    have HV := hid hv
    rw [hfs]
    clear hv hfs hf
    go_wp2_with fail
    go_ret2
    exact ⟨by rw [HV.out]; rfl, KG.out⟩
end Go.Proofs.YtnjiinbhbjpfkaaGreatDoor
