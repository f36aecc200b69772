/-
  The instruction Put.
-/
import Derived.Test.YtbmjlbcaplgfmaaGreatDoorPartH
import Derived.Test.YtbmjlbcaplgfmaaGreatDoorPartF
import Derived.Test.YtbmjlbcaplgfmaaGreatDoorPartC
namespace Go.Proofs.YtbmjlbcaplgfmaaGreatDoor
open Go.RowKit

/-- A slot is written. -/
theorem str_put {w : World} {sb pb eb n p i : Nat} {kd : Nat → Bool} {vb : Nat → Nat} {M : Nat → List B.V} (v : B.V) (h : Str w sb pb eb n kd vb M) (h1 : 1 ≤ p) (h2 : p ≤ n) (h3 : kd p = true) (hi : i < (M p).length) :
    Str ((w.setCell ⟨vb p, i * 2, none⟩ (.int .i64 (v.1 : Int))).setCell ⟨vb p, i * 2 + 1, none⟩ (.int .i64 v.2)) sb pb eb n kd vb (B.lay M p ((M p).set i v)) := by
  obtain ⟨s1, s2, s3, s4, s5⟩ := h
  have hF := s3 p h1 h2 h3
  obtain ⟨cur, hV, _⟩ := id hF
  obtain ⟨curP, hP, _⟩ := id s2
  have e1 : sb ≠ vb p := cells_ne s1 hV (by decide)
  have e2 : pb ≠ vb p := cells_ne hP hV (by decide)
  refine ⟨((Below.heap_setCell _ _ _ _ e1).trans (Below.heap_setCell _ _ _ _ e1)).trans s1, ((s2.off e2).off e2).congr (fun j _ => ?_), fun q a b c => ?_, s4, fun q a => ?_⟩
  · unfold plcP
    by_cases e : j / 3 + 1 = p
    · rw [e, B.lay_at]; simp
    · rw [B.lay_off _ _ _ _ e]
  · by_cases e : q = p
    · subst e
      rw [B.lay_at]
      simp only [List.length_set]
      refine (hF.reg i v).congr (fun j _ => ?_)
      have hs : ∀ x, B.set (slots M q) i v x = slots (B.lay M q ((M q).set i v)) q x := by
        intro x
        unfold slots
        rw [B.lay_at, List.getD_eq_getElem?_getD, List.getElem?_set]
        by_cases ex : x = i
        · subst ex; rw [B.set_at, if_pos rfl, if_pos hi]; rfl
        · rw [B.set_off _ _ _ _ ex, if_neg (fun h => ex h.symm), List.getD_eq_getElem?_getD]
      unfold regP
      rw [hs]
    · have hne : vb q ≠ vb p := fun h => e (s4 q p a b h1 h2 c h3 h)
      rw [B.lay_off _ _ _ _ e]
      refine (((s3 q a b c).off hne).off hne).congr (fun j _ => ?_)
      unfold regP slots
      rw [B.lay_off _ _ _ _ e]
  · by_cases e : q = p
    · subst e; rw [B.lay_at, List.length_set]; exact s5 q a
    · rw [B.lay_off _ _ _ _ e]; exact s5 q a

set_option maxRecDepth 100000 in
set_option maxHeartbeats 2000000 in
/-- Put. -/
theorem act11_any (op a b c fb tb eb cb L nx rb nr sb pb n : Nat) (back : Value) (kd : Nat → Bool) (vb : Nat → Nat) (s : B.St) (w : World) (hF : Fr w fb cb L nx rb nr back s.2.1) (hS : Str w sb pb eb n kd vb s.2.2) (hH : B.Held kd nr n s) (hn : n ≤ 200) (ha : a < nr) (hb : b < nr) (hc : c < nr) (h26 : w.cell? ⟨eb, 26, none⟩ = some (P0 sb)) (le : eb < w.heap.size) :
    Calls Tryz.prog 95 #[stepV op a b c fb tb eb] w fun e w' => (okSlot s.2.2 (s.2.1 a) (s.2.1 b) ∧ e = .returned (.int .i64 0) ∧ w.grownBy w' (some (vb (s.2.1 a).1)) ∧ Str w' sb pb eb n kd vb (B.lay s.2.2 (s.2.1 a).1 ((s.2.2 (s.2.1 a).1).set (s.2.1 b).2.toNat (s.2.1 c)))) ∨ (¬ okSlot s.2.2 (s.2.1 a) (s.2.1 b) ∧ ∃ why : Nat, 1 ≤ why ∧ why ≤ 8 ∧ e = .returned (.int .i64 why) ∧ w.grownBy w' none) := by
  have KF := hid hF
  have KS := hid hS
  have HH := hid hH
  clear hF hS hH
  go_enter Tryz.func95, Tryz.ntmps95
  go_wp2_with fail
  have HX1 := hid (s7_new w op a b c fb tb eb)
  have KG1 := hid (World.grownBy_alloc w (.cells #[.int .u8 (op : Int), .int .u8 (a : Int), .int .u8 (b : Int), .int .u8 (c : Int), P0 fb, P0 tb, P0 eb] 184) none)
  generalize hW : w.alloc (.cells #[.int .u8 (op : Int), .int .u8 (a : Int), .int .u8 (b : Int), .int .u8 (c : Int), P0 fb, P0 tb, P0 eb] 184) = w1 at *
  have hz1 : w1.heap.size = w.heap.size + 1 := by rw [← hW]; simp
  clear hW
  go_region_held3 (fun w' => w'.cell? ⟨w.heap.size, 0, none⟩ = some (.int .u8 (op : Int)) ∧ w'.cell? ⟨w.heap.size, 1, none⟩ = some (.int .u8 (a : Int)) ∧ w'.cell? ⟨w.heap.size, 2, none⟩ = some (.int .u8 (b : Int)) ∧ w'.cell? ⟨w.heap.size, 3, none⟩ = some (.int .u8 (c : Int)) ∧ w'.cell? ⟨w.heap.size, 4, none⟩ = some (P0 fb) ∧ w'.cell? ⟨w.heap.size, 5, none⟩ = some (P0 tb) ∧ w'.cell? ⟨w.heap.size, 6, none⟩ = some (P0 eb)) (first | exact s7_of HX1.out | exact s7_of HX2.out | exact s7_of HX3.out | exact s7_of HX4.out) (first | (go_at_call 91; refine (a_any op a b c fb tb eb cb L nx rb nr back s.2.1 w1.drew (KF.out.kept (grown_drew KG1.out)).1 (KF.out.kept (grown_drew KG1.out)).2.1 ha).mono ?_; rintro e w2 ⟨rfl, hg2⟩; have KG2 : Hid (w.grownBy w2 none) := grown_trans (grown_drew KG1.out) hg2; have HX2 := hid (grown_out hg2 (show w1.drew.heap[w.heap.size]? = _ from HX1.out)); clear hg2) | (go_at_call 79; refine (b_any op a b c fb tb eb cb L nx rb nr back s.2.1 w2 (KF.out.kept KG2.out).1 (KF.out.kept KG2.out).2.1 hb).mono ?_; rintro e w3 ⟨rfl, hg3⟩; have KG3 : Hid (w.grownBy w3 none) := grown_trans KG2.out hg3; have HX3 := hid (grown_out hg3 HX2.out); clear hg3) | (go_at_call 147; refine (slot_any op a b c fb tb eb sb pb n (s.2.1 a) (s.2.1 b) kd vb s.2.2 w3 (KS.out.kept KG3.out) hn (HH.out.1 a ha) ((grown_cell KG3.out (a := ⟨eb, 26, none⟩) le).1.trans h26) (Nat.lt_of_lt_of_le le KG3.out.size)).mono ?_; rintro e w4 ⟨v, rfl, hg4, hsl⟩; have KG4 : Hid (w.grownBy w4 none) := grown_trans KG3.out hg4; have HX4 := hid (grown_out hg4 HX3.out); obtain ⟨pv, wy, rfl⟩ : ∃ (pv : Value) (wy : Int), v = .tuple #[pv, .int .i64 wy] := (by rcases hsl with ⟨_, h⟩ | ⟨_, y, _, _, h⟩; exact ⟨_, _, h⟩; exact ⟨_, _, h⟩); have HSL := hid hsl; clear hg4 hsl))

  all_goals
    rcases HSL.out with ⟨hok, he⟩ | ⟨hok, why, hw1, hw2, he⟩
    · have HOK := hid hok
      obtain ⟨o1, o2, o3, o4⟩ := id hok
      have hp : 1 ≤ (s.2.1 a).1 ∧ (s.2.1 a).1 ≤ n ∧ kd (s.2.1 a).1 = true := by
        rcases HH.out.1 a ha with h | h
        · exact absurd h o1
        · exact ⟨h.1, h.2.1, h.2.2.1⟩
      injection he with he
      injection he with he
      injection he with he1 he2
      injection he2 with he2 _
      injection he2 with _ he2
      subst he1 he2
      generalize hi : (s.2.1 b).2.toNat = i at *
      have hil : i < (s.2.2 (s.2.1 a).1).length := by omega
      have HP := hid (And.intro hp hil)
      have HI := hid hi
      obtain ⟨x0, x1, x2, x3, x4, x5, x6⟩ := s7_of HX4.out
      have lx := heap_lt HX4.out
      clear hok o1 o2 o3 o4 hp hi
      go_wp2_with fail
      refine (c_any op a b c fb tb eb cb L nx rb nr back s.2.1 w4 (KF.out.kept KG4.out).1 (KF.out.kept KG4.out).2.1 hc).mono ?_
      rintro e w5 ⟨rfl, hg5⟩
      have KG5 := hid (grown_trans KG4.out hg5)
      have KS5 := hid (KS.out.kept KG5.out)
      have hFu := KS5.out.2.2.1 _ HP.out.1.1 HP.out.1.2.1 HP.out.1.2.2
      obtain ⟨r0, z0⟩ := hFu.cells (i * 2) (by omega)
      obtain ⟨r1, z1⟩ := hFu.cells (i * 2 + 1) (by omega)
      have lv := hFu.lt
      have HR : Hid (w.grownBy ((w5.setCell ⟨vb (s.2.1 a).1, i * 2, none⟩ (.int .i64 ((s.2.1 c).1 : Int))).setCell ⟨vb (s.2.1 a).1, i * 2 + 1, none⟩ (.int .i64 (s.2.1 c).2)) (some (vb (s.2.1 a).1)) ∧ Str ((w5.setCell ⟨vb (s.2.1 a).1, i * 2, none⟩ (.int .i64 ((s.2.1 c).1 : Int))).setCell ⟨vb (s.2.1 a).1, i * 2 + 1, none⟩ (.int .i64 (s.2.1 c).2)) sb pb eb n kd vb (B.lay s.2.2 (s.2.1 a).1 ((s.2.2 (s.2.1 a).1).set i (s.2.1 c)))) :=
        ⟨grown_setCell (a := ⟨vb (s.2.1 a).1, i * 2 + 1, none⟩) (grown_setCell (a := ⟨vb (s.2.1 a).1, i * 2, none⟩) (grown_of_none KG5.out) (Or.inl rfl) _) (Or.inl rfl) _, str_put (s.2.1 c) KS5.out HP.out.1.1 HP.out.1.2.1 HP.out.1.2.2 hil⟩
      generalize regP (slots s.2.2 (s.2.1 a).1) (i * 2) = y0 at r0
      generalize regP (slots s.2.2 (s.2.1 a).1) (i * 2 + 1) = y1 at r1
      clear hg5 hFu x0 x1 x2 x3 x4 x5 x6 lx
      go_wp2_with fail
      go_ret
      exact Or.inl ⟨HOK.out, rfl, HR.out.1, by rw [HI.out]; exact HR.out.2⟩
    · injection he with he
      injection he with he
      injection he with he1 he2
      injection he2 with he2 _
      injection he2 with _ he2
      subst he1 he2
      have HOK := hid hok
      have hne0 : ¬ ((why : Int) = 0) := by omega
      clear hok
      go_wp2_with fail
      go_ret
      exact Or.inr ⟨HOK.out, why, hw1, hw2, rfl, KG4.out⟩
end Go.Proofs.YtbmjlbcaplgfmaaGreatDoor

/-
  What the closures of the table do: numbers that two numbers make.
-/
namespace Go.Proofs.YtbmjlbcaplgfmaaGreatDoor
open Go.RowKit

theorem sub_any (x y : Int) (w : World) : Calls Tryz.prog 82 #[.int .i64 x, .int .i64 y] w fun e w' => e = .returned (.int .i64 (B.wrap (x - y))) ∧ w' = w := by
  have hw : IntKind.i64.wrap (x - y) = B.wrap (x - y) := by simp [IntKind.wrap, IntKind.bits, IntKind.signed, B.wrap]; omega
  go_enter Tryz.func82, Tryz.ntmps82
  go_wp2_with fail
  go_ret
  exact ⟨by rw [← hw]; rfl, rfl⟩

set_option maxRecDepth 100000 in
set_option maxHeartbeats 2000000 in
/-- Sub. -/
theorem act3_any (op a b c fb tb eb cb L nx rb nr vb : Nat) (back : Value) (R : Nat → B.V) (ha : a < nr) (hb : b < nr) (hc : c < nr) (w : World) (hF : Fr w fb cb L nx rb nr back R) (hv : w.heap[vb]? = some (.cells #[Fv 82 #[]] 188 (0, 0))) :
    Calls Tryz.prog 140 #[stepV op a b c fb tb eb, P0 vb] w fun e w' => (((R b).1 = 0 ∧ (R c).1 = 0) ∧ e = .returned (.int .i64 0) ∧ w.grownBy w' (some rb) ∧ Fr w' fb cb L nx rb nr back (B.set R a (0, B.wrap ((R b).2 - (R c).2)))) ∨ (¬ ((R b).1 = 0 ∧ (R c).1 = 0) ∧ e = .returned (.int .i64 1) ∧ w.grownBy w' none) := by
  have KF := hid hF
  have HV := hid hv
  clear hF hv
  go_enter Tryz.func140, Tryz.ntmps140
  go_wp2_with fail
  have HX1 := hid (s7_new w op a b c fb tb eb)
  have KG1 := hid (World.grownBy_alloc w (.cells #[.int .u8 (op : Int), .int .u8 (a : Int), .int .u8 (b : Int), .int .u8 (c : Int), P0 fb, P0 tb, P0 eb] 184) none)
  refine (b_any op a b c fb tb eb cb L nx rb nr back R _ (KF.out.kept KG1.out).1 (KF.out.kept KG1.out).2.1 hb).mono ?_
  rintro e w1 ⟨rfl, hg1⟩
  have KG2 := hid (grown_trans KG1.out hg1)
  have HX2 := hid (grown_out hg1 HX1.out)
  clear hg1 HX1 KG1
  go_wp2_with fail
  refine (vnumber_any (R b) _).mono ?_
  rintro e w2 ⟨rfl, hg2⟩
  have KG3 := hid (grown_trans KG2.out hg2)
  have HX3 := hid (grown_out hg2 HX2.out)
  clear hg2 HX2 KG2
  obtain ⟨x0, x1, x2, x3, x4, x5, x6⟩ := s7_of HX3.out
  have lx := heap_lt HX3.out
  go_wp2_with fail
  refine (c_any op a b c fb tb eb cb L nx rb nr back R w2 (KF.out.kept KG3.out).1 (KF.out.kept KG3.out).2.1 hc).mono ?_
  rintro e w3 ⟨rfl, hg3⟩
  have KG4 := hid (grown_trans KG3.out hg3)
  have HX4 := hid (grown_out hg3 HX3.out)
  clear hg3 HX3 KG3 x0 x1 x2 x3 x4 x5 x6 lx
  go_wp2_with fail
  refine (vnumber_any (R c) _).mono ?_
  rintro e w4 ⟨rfl, hg4⟩
  have KG5 := hid (grown_trans KG4.out hg4)
  have HX5 := hid (grown_out hg4 HX4.out)
  clear hg4 HX4 KG4
  obtain ⟨x0, x1, x2, x3, x4, x5, x6⟩ := s7_of HX5.out
  have lx := heap_lt HX5.out
  have hv5 := grown_out KG5.out HV.out
  have v5 : w4.cell? ⟨vb, 0, none⟩ = some (Fv 82 #[]) := by simp [World.cell?, hv5]
  have lv := heap_lt hv5
  clear hv5
  by_cases h1 : (R b).1 = 0
  · by_cases h2 : (R c).1 = 0
    · have d1 : decide ((R b).1 = 0) = true := by simpa using h1
      have d2 : decide ((R c).1 = 0) = true := by simpa using h2
      simp only [d1, d2]
      have HP := hid (And.intro h1 h2)
      clear h1 h2 d1 d2
      generalize hyy : B.wrap ((R b).2 - (R c).2) = y
      have hs := sub_any (R b).2 (R c).2
      rw [hyy] at hs
      have HS := hid hs
      have HYY := hid hyy
      clear hs hyy
      go_wp2_with fail
      go_region_with (first | (go_at_call 82; refine (HS.out _).mono ?_; rintro e w5 ⟨rfl, rfl⟩) | (go_at_call 56; refine (number_any y _).mono ?_; rintro e w6 ⟨rfl, rfl⟩) | (go_at_call 138; refine (set_any op a b c fb tb eb cb L nx rb nr back R (0, y) _ (KF.out.kept (by repeat (first | exact KG5.out | refine grown_drew ?_ | refine grown_alloc ?_ _))).1 (KF.out.kept (by repeat (first | exact KG5.out | refine grown_drew ?_ | refine grown_alloc ?_ _))).2.1 ha).mono ?_; rintro e w7 ⟨rfl, hg7, hf7⟩))
      all_goals
        have hg : w.grownBy w7 (some rb) := grown_trans (by repeat (first | exact grown_of_none KG5.out | refine grown_drew ?_ | refine grown_alloc ?_ _)) hg7
        have HH := hid (And.intro hg (And.intro (grown_heap hg KF.out.1 (by intro e; injection e with e; exact KF.out.2.2 e)) hf7))
        clear hg hg7 hf7
        go_wp2_with fail
        go_ret
        exact Or.inl ⟨HP.out, rfl, HH.out.1, HH.out.2.1, by rw [HYY.out]; exact HH.out.2.2, KF.out.2.2⟩
    · have d1 : decide ((R b).1 = 0) = true := by simpa using h1
      have d2 : decide ((R c).1 = 0) = false := by simpa using h2
      simp only [d1, d2]
      have HP := hid (show ¬ ((R b).1 = 0 ∧ (R c).1 = 0) from fun h => h2 h.2)
      clear h1 h2 d1 d2
      go_wp2_with fail
      go_ret
      exact Or.inr ⟨HP.out, rfl, KG5.out⟩
  · have d1 : decide ((R b).1 = 0) = false := by simpa using h1
    simp only [d1]
    have HP := hid (show ¬ ((R b).1 = 0 ∧ (R c).1 = 0) from fun h => h1 h.1)
    clear h1 d1
    go_wp2_with fail
    go_ret
    exact Or.inr ⟨HP.out, rfl, KG5.out⟩
end Go.Proofs.YtbmjlbcaplgfmaaGreatDoor

/-
  What the closures of the table do: those that go on elsewhere.
-/
namespace Go.Proofs.YtbmjlbcaplgfmaaGreatDoor
open Go.RowKit

theorem true_any (op a b c fb tb eb : Nat) (w : World) : Calls Tryz.prog 89 #[stepV op a b c fb tb eb] w fun e w' => e = .returned (.bool true) ∧ w.grownBy w' none := by
  go_enter Tryz.func89, Tryz.ntmps89
  go_wp2_with fail
  go_ret
  exact ⟨rfl, World.grownBy_alloc _ _ _⟩

set_option maxRecDepth 100000 in
theorem zero_any (op a b c fb tb eb cb L nx rb nr : Nat) (back : Value) (R : Nat → B.V) (ha : a < nr) (w : World) (hF : Fr w fb cb L nx rb nr back R) : Calls Tryz.prog 90 #[stepV op a b c fb tb eb] w fun e w' => e = .returned (.bool (decide (R a = (0, 0)))) ∧ w.grownBy w' none := by
  have KF := hid hF
  clear hF
  have heq := eqV (R a) (0, 0)
  generalize decide (R a = (0, 0)) = d at *
  go_enter Tryz.func90, Tryz.ntmps90
  go_wp2_with fail
  refine (a_any op a b c fb tb eb cb L nx rb nr back R _ (KF.out.kept (World.grownBy_alloc _ _ _)).1 (KF.out.kept (World.grownBy_alloc _ _ _)).2.1 ha).mono ?_
  rintro e w1 ⟨rfl, hg1⟩
  have KG1 := hid (grown_trans (World.grownBy_alloc w _ none) hg1)
  clear hg1
  go_wp2_with fail
  refine (number_any 0 _).mono ?_
  rintro e w2 ⟨rfl, rfl⟩
  go_wp2_with fail
  go_ret
  exact ⟨rfl, grown_alloc KG1.out _⟩


set_option maxRecDepth 100000 in
set_option maxHeartbeats 2000000 in
theorem goes89_any (op a b c fb tb eb cb L nx rb nr vb : Nat) (back : Value) (R : Nat → B.V) (d : Bool) (y : Nat) (hy : Hid (y = if d = true then 256 * b + c else nx)) (hb : b < 256) (hc : c < 256) (w : World) (hF : Fr w fb cb L nx rb nr back R) (hv : w.cell? ⟨vb, 0, none⟩ = some (Fv 89 #[])) (hvb : vb < w.heap.size)
    (hn : Hid (∀ w', w.grownBy w' none → Calls Tryz.prog 89 #[stepV op a b c fb tb eb] w' fun e w'' => e = .returned (.bool d) ∧ w'.grownBy w'' none)) :
    Calls Tryz.prog 142 #[stepV op a b c fb tb eb, P0 vb] w fun e w' => e = .returned (.tuple #[]) ∧ w.grownBy w' (some fb) ∧ Fr w' fb cb L y rb nr back R := by
  have KF := hid hF
  clear hF
  have ht := target_any op a b c hb hc
  go_enter Tryz.func142, Tryz.ntmps142
  go_wp2_with fail
  refine (hn.out _ (World.grownBy_alloc _ _ _)).mono ?_
  rintro e w1 ⟨rfl, hg1⟩
  have KG1 := hid (grown_trans (World.grownBy_alloc w _ none) hg1)
  have HX1 := hid (grown_out hg1 (s7_new w op a b c fb tb eb))
  clear hg1
  have HF1 := hid (KF.out.kept KG1.out)
  cases d
  · have hy' : y = nx := by have := hy.out; simpa using this
    subst hy'
    go_wp2_with fail
    go_end0
    exact ⟨rfl, grown_of_none KG1.out, HF1.out⟩
  · have hy' : 256 * b + c = y := by have := hy.out; simpa using this.symm
    rw [hy'] at ht
    clear hy hy'
    have HT := hid ht
    clear ht
    obtain ⟨x0, x1, x2, x3, x4, x5, x6⟩ := s7_of HX1.out
    have lx := heap_lt HX1.out
    go_wp2_with fail
    go_region_with (go_at_call 143; refine (HT.out w1.drew).mono ?_; rintro e w2 ⟨rfl, hg2'⟩; have hg2 : w1.grownBy w2 none := ⟨hg2'.os, hg2'.tape, hg2'.output, hg2'.size, hg2'.block⟩; clear hg2'; have HF2 := hid (HF1.out.kept hg2); have HG2 := hid (grown_trans KG1.out hg2); obtain ⟨x0, x1, x2, x3, x4, x5, x6⟩ := s7_of (grown_out hg2 HX1.out); obtain ⟨_, f1, _, _, z1⟩ := frm_cells HF2.out.1; have lf := heap_lt HF2.out.1; clear hg2)
    all_goals
      go_wp2_with fail
      go_end0
      refine ⟨rfl, grown_setCell (grown_of_none HG2.out) (Or.inl rfl) _, frm_next HF2.out.1 y, HF2.out.2.1.off (fun e => HF2.out.2.2 e.symm), HF2.out.2.2⟩

set_option maxRecDepth 100000 in
theorem actj89_any (op a b c fb tb eb cb L nx rb nr wb vb : Nat) (back : Value) (R : Nat → B.V) (d : Bool) (y : Nat) (hy : Hid (y = if d = true then 256 * b + c else nx)) (hb : b < 256) (hc : c < 256) (w : World) (hF : Fr w fb cb L nx rb nr back R) (hw : w.cell? ⟨wb, 0, none⟩ = some (Fv 142 #[P0 vb])) (hv : w.cell? ⟨vb, 0, none⟩ = some (Fv 89 #[])) (hwb : wb < w.heap.size) (hvb : vb < w.heap.size)
    (hn : Hid (∀ w', w.grownBy w' none → Calls Tryz.prog 89 #[stepV op a b c fb tb eb] w' fun e w'' => e = .returned (.bool d) ∧ w'.grownBy w'' none)) :
    Calls Tryz.prog 150 #[stepV op a b c fb tb eb, P0 wb] w fun e w' => e = .returned (.int .i64 0) ∧ w.grownBy w' (some fb) ∧ Fr w' fb cb L y rb nr back R := by
  have KF := hid hF
  clear hF
  go_enter Tryz.func150, Tryz.ntmps150
  go_wp2_with fail
  refine (goes89_any op a b c fb tb eb cb L nx rb nr vb back R d y hy hb hc _ (KF.out.kept (World.grownBy_alloc _ _ _)) (by simp [go_sem, hvb, hv]) (by simp; omega) (fun w' hg => hn.out w' (grown_trans (World.grownBy_alloc _ _ _) hg))).mono ?_
  rintro e w1 ⟨rfl, hg1, hF1⟩
  have KF1 := hid hF1
  have KG1 : Hid (w.grownBy w1 (some fb)) := grown_trans (World.grownBy_alloc _ _ _) hg1
  clear hF1 hg1
  go_wp2_with fail
  go_ret
  exact ⟨rfl, KG1.out, KF1.out⟩

set_option maxRecDepth 100000 in
set_option maxHeartbeats 2000000 in
theorem goes90_any (op a b c fb tb eb cb L nx rb nr vb : Nat) (back : Value) (R : Nat → B.V) (d : Bool) (y : Nat) (hy : Hid (y = if d = true then 256 * b + c else nx)) (hb : b < 256) (hc : c < 256) (w : World) (hF : Fr w fb cb L nx rb nr back R) (hv : w.cell? ⟨vb, 0, none⟩ = some (Fv 90 #[])) (hvb : vb < w.heap.size)
    (hn : Hid (∀ w', w.grownBy w' none → Calls Tryz.prog 90 #[stepV op a b c fb tb eb] w' fun e w'' => e = .returned (.bool d) ∧ w'.grownBy w'' none)) :
    Calls Tryz.prog 142 #[stepV op a b c fb tb eb, P0 vb] w fun e w' => e = .returned (.tuple #[]) ∧ w.grownBy w' (some fb) ∧ Fr w' fb cb L y rb nr back R := by
  have KF := hid hF
  clear hF
  have ht := target_any op a b c hb hc
  go_enter Tryz.func142, Tryz.ntmps142
  go_wp2_with fail
  refine (hn.out _ (World.grownBy_alloc _ _ _)).mono ?_
  rintro e w1 ⟨rfl, hg1⟩
  have KG1 := hid (grown_trans (World.grownBy_alloc w _ none) hg1)
  have HX1 := hid (grown_out hg1 (s7_new w op a b c fb tb eb))
  clear hg1
  have HF1 := hid (KF.out.kept KG1.out)
  cases d
  · have hy' : y = nx := by have := hy.out; simpa using this
    subst hy'
    go_wp2_with fail
    go_end0
    exact ⟨rfl, grown_of_none KG1.out, HF1.out⟩
  · have hy' : 256 * b + c = y := by have := hy.out; simpa using this.symm
    rw [hy'] at ht
    clear hy hy'
    have HT := hid ht
    clear ht
    obtain ⟨x0, x1, x2, x3, x4, x5, x6⟩ := s7_of HX1.out
    have lx := heap_lt HX1.out
    go_wp2_with fail
    go_region_with (go_at_call 143; refine (HT.out w1.drew).mono ?_; rintro e w2 ⟨rfl, hg2'⟩; have hg2 : w1.grownBy w2 none := ⟨hg2'.os, hg2'.tape, hg2'.output, hg2'.size, hg2'.block⟩; clear hg2'; have HF2 := hid (HF1.out.kept hg2); have HG2 := hid (grown_trans KG1.out hg2); obtain ⟨x0, x1, x2, x3, x4, x5, x6⟩ := s7_of (grown_out hg2 HX1.out); obtain ⟨_, f1, _, _, z1⟩ := frm_cells HF2.out.1; have lf := heap_lt HF2.out.1; clear hg2)
    all_goals
      go_wp2_with fail
      go_end0
      refine ⟨rfl, grown_setCell (grown_of_none HG2.out) (Or.inl rfl) _, frm_next HF2.out.1 y, HF2.out.2.1.off (fun e => HF2.out.2.2 e.symm), HF2.out.2.2⟩

set_option maxRecDepth 100000 in
theorem actj90_any (op a b c fb tb eb cb L nx rb nr wb vb : Nat) (back : Value) (R : Nat → B.V) (d : Bool) (y : Nat) (hy : Hid (y = if d = true then 256 * b + c else nx)) (hb : b < 256) (hc : c < 256) (w : World) (hF : Fr w fb cb L nx rb nr back R) (hw : w.cell? ⟨wb, 0, none⟩ = some (Fv 142 #[P0 vb])) (hv : w.cell? ⟨vb, 0, none⟩ = some (Fv 90 #[])) (hwb : wb < w.heap.size) (hvb : vb < w.heap.size)
    (hn : Hid (∀ w', w.grownBy w' none → Calls Tryz.prog 90 #[stepV op a b c fb tb eb] w' fun e w'' => e = .returned (.bool d) ∧ w'.grownBy w'' none)) :
    Calls Tryz.prog 150 #[stepV op a b c fb tb eb, P0 wb] w fun e w' => e = .returned (.int .i64 0) ∧ w.grownBy w' (some fb) ∧ Fr w' fb cb L y rb nr back R := by
  have KF := hid hF
  clear hF
  go_enter Tryz.func150, Tryz.ntmps150
  go_wp2_with fail
  refine (goes90_any op a b c fb tb eb cb L nx rb nr vb back R d y hy hb hc _ (KF.out.kept (World.grownBy_alloc _ _ _)) (by simp [go_sem, hvb, hv]) (by simp; omega) (fun w' hg => hn.out w' (grown_trans (World.grownBy_alloc _ _ _) hg))).mono ?_
  rintro e w1 ⟨rfl, hg1, hF1⟩
  have KF1 := hid hF1
  have KG1 : Hid (w.grownBy w1 (some fb)) := grown_trans (World.grownBy_alloc _ _ _) hg1
  clear hF1 hg1
  go_wp2_with fail
  go_ret
  exact ⟨rfl, KG1.out, KF1.out⟩

end Go.Proofs.YtbmjlbcaplgfmaaGreatDoor

/-
  What the closures of the table do: those whose a is a value that can always be told (the function's number is 79).
-/
namespace Go.Proofs.YtbmjlbcaplgfmaaGreatDoor
open Go.RowKit

set_option maxRecDepth 100000 in
set_option maxHeartbeats 2000000 in
theorem gives79_any (op a b c fb tb eb cb L nx rb nr vb : Nat) (back : Value) (R : Nat → B.V) (y : B.V) (ha : a < nr) (w : World) (hF : Fr w fb cb L nx rb nr back R) (hv : w.cell? ⟨vb, 0, none⟩ = some (Fv 79 #[])) (hvb : vb < w.heap.size)
    (hn : Hid (∀ w', w.grownBy w' none → Calls Tryz.prog 79 #[stepV op a b c fb tb eb] w' fun e w'' => e = .returned (vA y) ∧ w'.grownBy w'' none)) :
    Calls Tryz.prog 137 #[stepV op a b c fb tb eb, P0 vb] w fun e w' => e = .returned (.tuple #[]) ∧ w.grownBy w' (some rb) ∧ Fr w' fb cb L nx rb nr back (B.set R a y) := by
  have KF : Hid (Fr w fb cb L nx rb nr back R) := hF
  clear hF
  go_enter Tryz.func137, Tryz.ntmps137
  go_wp2_with fail
  go_region_with (first | (go_at_call 79; refine (hn.out _ (by repeat (first | exact grown_refl _ _ | refine grown_drew ?_ | refine grown_alloc ?_ _))).mono ?_; rintro e w1 ⟨rfl, hg1⟩; obtain ⟨s0, s1, s2, s3, s4, s5, s6, s7⟩ := box7 hg1; have KG1 : Hid (w.grownBy w1 none) := grown_trans (by repeat (first | exact grown_refl _ _ | refine grown_drew ?_ | refine grown_alloc ?_ _)) hg1; clear hg1) | (go_at_call 138; refine (set_any op a b c fb tb eb cb L nx rb nr back R y w1 (KF.out.kept KG1.out).1 (KF.out.kept KG1.out).2.1 ha).mono ?_; rintro e w2 ⟨rfl, hg2, hf2⟩))
  all_goals
    go_wp2_with fail
    go_end0
    refine ⟨rfl, grown_trans (grown_of_none KG1.out) hg2, grown_heap hg2 (KF.out.kept KG1.out).1 (by intro e; injection e with e; exact KF.out.2.2 e), hf2, KF.out.2.2⟩

set_option maxRecDepth 100000 in
theorem actg79_any (op a b c fb tb eb cb L nx rb nr wb vb : Nat) (back : Value) (R : Nat → B.V) (y : B.V) (ha : a < nr) (w : World) (hF : Fr w fb cb L nx rb nr back R) (hw : w.cell? ⟨wb, 0, none⟩ = some (Fv 137 #[P0 vb])) (hv : w.cell? ⟨vb, 0, none⟩ = some (Fv 79 #[])) (hwb : wb < w.heap.size) (hvb : vb < w.heap.size)
    (hn : Hid (∀ w', w.grownBy w' none → Calls Tryz.prog 79 #[stepV op a b c fb tb eb] w' fun e w'' => e = .returned (vA y) ∧ w'.grownBy w'' none)) :
    Calls Tryz.prog 150 #[stepV op a b c fb tb eb, P0 wb] w fun e w' => e = .returned (.int .i64 0) ∧ w.grownBy w' (some rb) ∧ Fr w' fb cb L nx rb nr back (B.set R a y) := by
  have KF : Hid (Fr w fb cb L nx rb nr back R) := hF
  clear hF
  go_enter Tryz.func150, Tryz.ntmps150
  go_wp2_with fail
  refine (gives79_any op a b c fb tb eb cb L nx rb nr vb back R y ha _ (KF.out.kept (World.grownBy_alloc _ _ _)) (by simp [go_sem, hvb, hv]) (by simp; omega) (fun w' hg => hn.out w' (grown_trans (World.grownBy_alloc _ _ _) hg))).mono ?_
  rintro e w1 ⟨rfl, hg1, hF1⟩
  have KF1 := hid hF1
  have KG1 : Hid (w.grownBy w1 (some rb)) := grown_trans (World.grownBy_alloc _ _ _) hg1
  clear hF1 hg1
  go_wp2_with fail
  go_ret
  exact ⟨rfl, KG1.out, KF1.out⟩

end Go.Proofs.YtbmjlbcaplgfmaaGreatDoor

/-
  What the closures of the table do: those whose a is a value that can always be told (the function's number is 86).
-/
namespace Go.Proofs.YtbmjlbcaplgfmaaGreatDoor
open Go.RowKit

set_option maxRecDepth 100000 in
set_option maxHeartbeats 2000000 in
theorem gives86_any (op a b c fb tb eb cb L nx rb nr vb : Nat) (back : Value) (R : Nat → B.V) (y : B.V) (ha : a < nr) (w : World) (hF : Fr w fb cb L nx rb nr back R) (hv : w.cell? ⟨vb, 0, none⟩ = some (Fv 86 #[])) (hvb : vb < w.heap.size)
    (hn : Hid (∀ w', w.grownBy w' none → Calls Tryz.prog 86 #[stepV op a b c fb tb eb] w' fun e w'' => e = .returned (vA y) ∧ w'.grownBy w'' none)) :
    Calls Tryz.prog 137 #[stepV op a b c fb tb eb, P0 vb] w fun e w' => e = .returned (.tuple #[]) ∧ w.grownBy w' (some rb) ∧ Fr w' fb cb L nx rb nr back (B.set R a y) := by
  have KF : Hid (Fr w fb cb L nx rb nr back R) := hF
  clear hF
  go_enter Tryz.func137, Tryz.ntmps137
  go_wp2_with fail
  go_region_with (first | (go_at_call 86; refine (hn.out _ (by repeat (first | exact grown_refl _ _ | refine grown_drew ?_ | refine grown_alloc ?_ _))).mono ?_; rintro e w1 ⟨rfl, hg1⟩; obtain ⟨s0, s1, s2, s3, s4, s5, s6, s7⟩ := box7 hg1; have KG1 : Hid (w.grownBy w1 none) := grown_trans (by repeat (first | exact grown_refl _ _ | refine grown_drew ?_ | refine grown_alloc ?_ _)) hg1; clear hg1) | (go_at_call 138; refine (set_any op a b c fb tb eb cb L nx rb nr back R y w1 (KF.out.kept KG1.out).1 (KF.out.kept KG1.out).2.1 ha).mono ?_; rintro e w2 ⟨rfl, hg2, hf2⟩))
  all_goals
    go_wp2_with fail
    go_end0
    refine ⟨rfl, grown_trans (grown_of_none KG1.out) hg2, grown_heap hg2 (KF.out.kept KG1.out).1 (by intro e; injection e with e; exact KF.out.2.2 e), hf2, KF.out.2.2⟩

set_option maxRecDepth 100000 in
theorem actg86_any (op a b c fb tb eb cb L nx rb nr wb vb : Nat) (back : Value) (R : Nat → B.V) (y : B.V) (ha : a < nr) (w : World) (hF : Fr w fb cb L nx rb nr back R) (hw : w.cell? ⟨wb, 0, none⟩ = some (Fv 137 #[P0 vb])) (hv : w.cell? ⟨vb, 0, none⟩ = some (Fv 86 #[])) (hwb : wb < w.heap.size) (hvb : vb < w.heap.size)
    (hn : Hid (∀ w', w.grownBy w' none → Calls Tryz.prog 86 #[stepV op a b c fb tb eb] w' fun e w'' => e = .returned (vA y) ∧ w'.grownBy w'' none)) :
    Calls Tryz.prog 150 #[stepV op a b c fb tb eb, P0 wb] w fun e w' => e = .returned (.int .i64 0) ∧ w.grownBy w' (some rb) ∧ Fr w' fb cb L nx rb nr back (B.set R a y) := by
  have KF : Hid (Fr w fb cb L nx rb nr back R) := hF
  clear hF
  go_enter Tryz.func150, Tryz.ntmps150
  go_wp2_with fail
  refine (gives86_any op a b c fb tb eb cb L nx rb nr vb back R y ha _ (KF.out.kept (World.grownBy_alloc _ _ _)) (by simp [go_sem, hvb, hv]) (by simp; omega) (fun w' hg => hn.out w' (grown_trans (World.grownBy_alloc _ _ _) hg))).mono ?_
  rintro e w1 ⟨rfl, hg1, hF1⟩
  have KF1 := hid hF1
  have KG1 : Hid (w.grownBy w1 (some rb)) := grown_trans (World.grownBy_alloc _ _ _) hg1
  clear hF1 hg1
  go_wp2_with fail
  go_ret
  exact ⟨rfl, KG1.out, KF1.out⟩

end Go.Proofs.YtbmjlbcaplgfmaaGreatDoor

/-
  What each instruction of the table leaves of a machine of one task.
-/
namespace Go.Proofs.YtbmjlbcaplgfmaaGreatDoor
open Go.RowKit

section
variable {w w' : World} {g : Geo} {C : List B.In} {q : Nat} {kd : Nat → Bool} {vb : Nat → Nat} {s : B.St} {E Tk : Nat → Value} {bs qb cq : Nat} {ad : Option Addr} {ne cap : Nat} {ev : List B.Ev}

theorem ite_yes {p a b : Prop} [Decidable p] (h : p) (ha : a) : if p then a else b := by rw [if_pos h]; exact ha
theorem ite_no {p a b : Prop} [Decidable p] (h : ¬ p) (hb : b) : if p then a else b := by rw [if_neg h]; exact hb
theorem Kon.box (h : Kon w g C Tk) (k : Nat) (x : Value × TypeId) (hx : (actB (g.ac + 1))[k]? = some x) : w.cell? ⟨g.ac + 1 + k, 0, none⟩ = some x.1 ∧ g.ac + 1 + k < w.heap.size := by
  have := h.hA k x hx
  exact ⟨by simp [World.cell?, this], heap_lt this⟩

theorem after_regs {R : Nat → B.V} (hR : Run w g C q kd vb (s.1 + 1, s.2.1, s.2.2) E Tk) (hm : Mid w g E Tk bs qb cq ad ne cap ev) (hg : w.grownBy w' (some g.rb)) (hF : Fr w' g.fb g.cb C.length (s.1 + 1) g.rb g.nr (Fv 113 #[P0 g.xe, P0 g.xt]) R) (hH : B.Held kd g.nr g.n (s.1 + 1, R, s.2.2)) :
    After w w' g C q kd vb Tk bs qb cq ad ne cap ev (s.1 + 1, R, s.2.2) 0 [] := by
  refine ⟨only_grown hg (by unfold Wr; omega), Or.inl ⟨rfl, kd, vb, E, ad, ne, cap, hR.regs hg hF hH, ?_, by omega, fun p _ _ h => Or.inl ⟨h, rfl⟩⟩⟩
  rw [List.append_nil]; exact hm.rb hR hg
theorem after_next {y : Nat} (hR : Run w g C q kd vb (s.1 + 1, s.2.1, s.2.2) E Tk) (hm : Mid w g E Tk bs qb cq ad ne cap ev) (hg : w.grownBy w' (some g.fb)) (hF : Fr w' g.fb g.cb C.length y g.rb g.nr (Fv 113 #[P0 g.xe, P0 g.xt]) s.2.1) (hy : y ≤ C.length) :
    After w w' g C q kd vb Tk bs qb cq ad ne cap ev (y, s.2.1, s.2.2) 0 [] := by
  refine ⟨only_grown hg (by unfold Wr; omega), Or.inl ⟨rfl, kd, vb, E, ad, ne, cap, hR.next hg hF hy, ?_, by omega, fun p _ _ h => Or.inl ⟨h, rfl⟩⟩⟩
  rw [List.append_nil]; exact hm.fb hR hg

theorem do0 (a b c : Nat) (hR : Run w g C q kd vb (s.1 + 1, s.2.1, s.2.2) E Tk) (hm : Mid w g E Tk bs qb cq ad ne cap ev) (hi : okIn g.nr C.length (0, a, b, c) = true) :
    Calls Tryz.prog 150 #[stepV 0 a b c g.fb g.tb g.eb, P0 (g.ac + 2)] w fun e w' => ∃ why : Nat, e = .returned (.int .i64 why) ∧ Acted w w' g C q kd vb Tk bs qb cq ad ne cap ev s (0, a, b, c) why := by
  have hi' : a < g.nr ∧ b ≤ 255 ∧ c ≤ 255 := by simpa [okIn] using hi
  obtain ⟨b1, l1⟩ := hR.hK.box 1 _ rfl
  obtain ⟨b0, l0⟩ := hR.hK.box 0 _ rfl
  refine (act0_any 0 a b c g.fb g.tb g.eb g.cb C.length (s.1 + 1) g.rb g.nr (g.ac + 2) (g.ac + 1) _ s.2.1 (by omega) (by omega) hi'.1 w hR.hF l1 b1 b0 l0).mono ?_
  rintro e w' ⟨rfl, hg, hF⟩
  exact ⟨0, rfl, Or.inl ⟨rfl, _, 0, [], ⟨rfl, rfl, rfl⟩, after_regs hR hm hg hF (B.held_set hR.hH _ _ _ (B.vok_num _ _ _))⟩⟩

theorem do1 (a b c : Nat) (hR : Run w g C q kd vb (s.1 + 1, s.2.1, s.2.2) E Tk) (hm : Mid w g E Tk bs qb cq ad ne cap ev) (hi : okIn g.nr C.length (1, a, b, c) = true) :
    Calls Tryz.prog 150 #[stepV 1 a b c g.fb g.tb g.eb, P0 (g.ac + 4)] w fun e w' => ∃ why : Nat, e = .returned (.int .i64 why) ∧ Acted w w' g C q kd vb Tk bs qb cq ad ne cap ev s (1, a, b, c) why := by
  have hi' : a < g.nr ∧ b < g.nr ∧ c = 0 := by simpa [okIn] using hi
  obtain ⟨b1, l1⟩ := hR.hK.box 3 _ rfl
  obtain ⟨b0, l0⟩ := hR.hK.box 2 _ rfl
  refine (actg79_any 1 a b c g.fb g.tb g.eb g.cb C.length (s.1 + 1) g.rb g.nr (g.ac + 4) (g.ac + 3) _ s.2.1 (s.2.1 b) hi'.1 w hR.hF b1 b0 l1 l0 (fun w1 hg => b_any 1 a b c g.fb g.tb g.eb g.cb C.length (s.1 + 1) g.rb g.nr _ s.2.1 w1 (hR.hF.kept hg).1 (hR.hF.kept hg).2.1 hi'.2.1)).mono ?_
  rintro e w' ⟨rfl, hg, hF⟩
  exact ⟨0, rfl, Or.inl ⟨rfl, _, 0, [], ⟨rfl, rfl, rfl⟩, after_regs hR hm hg hF (B.held_set hR.hH _ _ _ (hR.hH.1 b hi'.2.1))⟩⟩

theorem do3 (a b c : Nat) (hR : Run w g C q kd vb (s.1 + 1, s.2.1, s.2.2) E Tk) (hm : Mid w g E Tk bs qb cq ad ne cap ev) (hi : okIn g.nr C.length (3, a, b, c) = true) :
    Calls Tryz.prog 140 #[stepV 3 a b c g.fb g.tb g.eb, P0 (g.ac + 6)] w fun e w' => ∃ why : Nat, e = .returned (.int .i64 why) ∧ Acted w w' g C q kd vb Tk bs qb cq ad ne cap ev s (3, a, b, c) why := by
  have hi' : a < g.nr ∧ b < g.nr ∧ c < g.nr := by simpa [okIn] using hi
  refine (act3_any 3 a b c g.fb g.tb g.eb g.cb C.length (s.1 + 1) g.rb g.nr (g.ac + 6) _ s.2.1 hi'.1 hi'.2.1 hi'.2.2 w hR.hF (hR.hK.hA 5 _ rfl)).mono ?_
  rintro e w' (⟨h, rfl, hg, hF⟩ | ⟨h, rfl, hg⟩)
  · refine ⟨0, rfl, Or.inl ⟨rfl, _, 0, [], ?_, after_regs hR hm hg hF (B.held_set hR.hH _ _ _ (B.vok_num _ _ _))⟩⟩
    show (if _ then _ else _)
    refine ite_yes ?_ ⟨rfl, rfl, rfl⟩
    exact h
  · refine ⟨1, rfl, Or.inr ⟨by omega, by omega, fun s' ev1 => ?_, hg⟩⟩
    show (if _ then _ else _)
    refine ite_no ?_ rfl
    exact h

theorem do6 (a b c : Nat) (hR : Run w g C q kd vb (s.1 + 1, s.2.1, s.2.2) E Tk) (hm : Mid w g E Tk bs qb cq ad ne cap ev) (hi : okIn g.nr C.length (6, a, b, c) = true) :
    Calls Tryz.prog 150 #[stepV 6 a b c g.fb g.tb g.eb, P0 (g.ac + 10)] w fun e w' => ∃ why : Nat, e = .returned (.int .i64 why) ∧ Acted w w' g C q kd vb Tk bs qb cq ad ne cap ev s (6, a, b, c) why := by
  have hi' : a < g.nr ∧ b < g.nr ∧ c < g.nr := by simpa [okIn] using hi
  obtain ⟨b1, l1⟩ := hR.hK.box 9 _ rfl
  obtain ⟨b0, l0⟩ := hR.hK.box 8 _ rfl
  refine (actg86_any 6 a b c g.fb g.tb g.eb g.cb C.length (s.1 + 1) g.rb g.nr (g.ac + 10) (g.ac + 9) _ s.2.1 (0, if s.2.1 b = s.2.1 c then 1 else 0) hi'.1 w hR.hF b1 b0 l1 l0 (fun w1 hg => same_any 6 a b c g.fb g.tb g.eb g.cb C.length (s.1 + 1) g.rb g.nr _ s.2.1 hi'.2.1 hi'.2.2 w1 (hR.hF.kept hg))).mono ?_
  rintro e w' ⟨rfl, hg, hF⟩
  exact ⟨0, rfl, Or.inl ⟨rfl, _, 0, [], ⟨rfl, rfl, rfl⟩, after_regs hR hm hg hF (B.held_set hR.hH _ _ _ (B.vok_num _ _ _))⟩⟩

theorem do7 (a b c : Nat) (hR : Run w g C q kd vb (s.1 + 1, s.2.1, s.2.2) E Tk) (hm : Mid w g E Tk bs qb cq ad ne cap ev) (hi : okIn g.nr C.length (7, a, b, c) = true) :
    Calls Tryz.prog 150 #[stepV 7 a b c g.fb g.tb g.eb, P0 (g.ac + 12)] w fun e w' => ∃ why : Nat, e = .returned (.int .i64 why) ∧ Acted w w' g C q kd vb Tk bs qb cq ad ne cap ev s (7, a, b, c) why := by
  have hi' : a = 0 ∧ b = 0 ∧ c ≤ C.length ∧ c ≤ 255 := by simpa [okIn] using hi
  obtain ⟨b1, l1⟩ := hR.hK.box 11 _ rfl
  obtain ⟨b0, l0⟩ := hR.hK.box 10 _ rfl
  refine (actj89_any 7 a b c g.fb g.tb g.eb g.cb C.length (s.1 + 1) g.rb g.nr (g.ac + 12) (g.ac + 11) _ s.2.1 true (256 * b + c) rfl (by omega) (by omega) w hR.hF b1 b0 l1 l0 (fun w1 hg => true_any 7 a b c g.fb g.tb g.eb w1)).mono ?_
  rintro e w' ⟨rfl, hg, hF⟩
  exact ⟨0, rfl, Or.inl ⟨rfl, _, 0, [], ⟨rfl, rfl, rfl⟩, after_next hR hm hg hF (by show 256 * b + c ≤ C.length; omega)⟩⟩

theorem do8 (a b c : Nat) (hR : Run w g C q kd vb (s.1 + 1, s.2.1, s.2.2) E Tk) (hm : Mid w g E Tk bs qb cq ad ne cap ev) (hi : okIn g.nr C.length (8, a, b, c) = true) :
    Calls Tryz.prog 150 #[stepV 8 a b c g.fb g.tb g.eb, P0 (g.ac + 14)] w fun e w' => ∃ why : Nat, e = .returned (.int .i64 why) ∧ Acted w w' g C q kd vb Tk bs qb cq ad ne cap ev s (8, a, b, c) why := by
  have hi' : a < g.nr ∧ b = 0 ∧ c ≤ C.length ∧ c ≤ 255 := by simpa [okIn] using hi
  obtain ⟨b1, l1⟩ := hR.hK.box 13 _ rfl
  obtain ⟨b0, l0⟩ := hR.hK.box 12 _ rfl
  refine (actj90_any 8 a b c g.fb g.tb g.eb g.cb C.length (s.1 + 1) g.rb g.nr (g.ac + 14) (g.ac + 13) _ s.2.1 (decide (s.2.1 a = (0, 0))) (if s.2.1 a = (0, 0) then 256 * b + c else s.1 + 1) (by show _ = _; simp) (by omega) (by omega) w hR.hF b1 b0 l1 l0 (fun w1 hg => zero_any 8 a b c g.fb g.tb g.eb g.cb C.length (s.1 + 1) g.rb g.nr _ s.2.1 hi'.1 w1 (hR.hF.kept hg))).mono ?_
  rintro e w' ⟨rfl, hg, hF⟩
  refine ⟨0, rfl, Or.inl ⟨rfl, _, 0, [], ⟨rfl, rfl, rfl⟩, after_next hR hm hg hF ?_⟩⟩
  have := hR.hp
  simp only at this
  show (if s.2.1 a = (0, 0) then 256 * b + c else s.1 + 1) ≤ C.length
  split <;> omega

theorem do10 (a b c : Nat) (hR : Run w g C q kd vb (s.1 + 1, s.2.1, s.2.2) E Tk) (hm : Mid w g E Tk bs qb cq ad ne cap ev) (hi : okIn g.nr C.length (10, a, b, c) = true) :
    Calls Tryz.prog 94 #[stepV 10 a b c g.fb g.tb g.eb] w fun e w' => ∃ why : Nat, e = .returned (.int .i64 why) ∧ Acted w w' g C q kd vb Tk bs qb cq ad ne cap ev s (10, a, b, c) why := by
  have hi' : a < g.nr ∧ b < g.nr ∧ c < g.nr := by simpa [okIn] using hi
  refine (act10_any 10 a b c g.fb g.tb g.eb g.cb C.length (s.1 + 1) g.rb g.nr g.sb g.pb g.n _ kd vb (s.1 + 1, s.2.1, s.2.2) w hR.hF hR.hS hR.hH hR.hn hi'.1 hi'.2.1 hi'.2.2 ((hR.hE.cell 26 (by omega)).trans (by rw [hR.eE.e26])) hR.hE.lt (fun p x y z => (hR.hvr p x y z).1)).mono ?_
  rintro e w' (⟨h, rfl, hg, hF⟩ | ⟨h, why, h1, h2, rfl, hg⟩)
  · have hv : B.Vok kd g.n ((s.2.2 (s.2.1 b).1).getD (s.2.1 c).2.toNat (0, 0)) := by
      rcases hR.hH.1 b hi'.2.1 with h0 | ⟨_, _, hkd, _⟩
      · exact absurd h0 h.1
      · exact B.held_get hR.hH hkd _
    refine ⟨0, rfl, Or.inl ⟨rfl, _, 0, [], ?_, after_regs hR hm hg hF (B.held_set hR.hH _ _ _ hv)⟩⟩
    show (if _ then _ else _)
    refine ite_yes ?_ ⟨rfl, rfl, rfl⟩
    exact h
  · refine ⟨why, rfl, Or.inr ⟨h1, h2, fun s' ev1 => ?_, hg⟩⟩
    show (if _ then _ else _)
    refine ite_no ?_ rfl
    exact h

theorem do11 (a b c : Nat) (hR : Run w g C q kd vb (s.1 + 1, s.2.1, s.2.2) E Tk) (hm : Mid w g E Tk bs qb cq ad ne cap ev) (hi : okIn g.nr C.length (11, a, b, c) = true) :
    Calls Tryz.prog 95 #[stepV 11 a b c g.fb g.tb g.eb] w fun e w' => ∃ why : Nat, e = .returned (.int .i64 why) ∧ Acted w w' g C q kd vb Tk bs qb cq ad ne cap ev s (11, a, b, c) why := by
  have hi' : a < g.nr ∧ b < g.nr ∧ c < g.nr := by simpa [okIn] using hi
  refine (act11_any 11 a b c g.fb g.tb g.eb g.cb C.length (s.1 + 1) g.rb g.nr g.sb g.pb g.n _ kd vb (s.1 + 1, s.2.1, s.2.2) w hR.hF hR.hS hR.hH hR.hn hi'.1 hi'.2.1 hi'.2.2 ((hR.hE.cell 26 (by omega)).trans (by rw [hR.eE.e26])) hR.hE.lt).mono ?_
  rintro e w' (⟨h, rfl, hg, hS⟩ | ⟨h, why, h1, h2, rfl, hg⟩)
  · obtain ⟨hp1, hp2, hkd⟩ : 1 ≤ (s.2.1 a).1 ∧ (s.2.1 a).1 ≤ g.n ∧ kd (s.2.1 a).1 = true := by
      rcases hR.hH.1 a hi'.1 with h0 | ⟨x, y, z, _⟩
      · exact absurd h0 h.1
      · exact ⟨x, y, z⟩
    obtain ⟨y1, y2, y3, y4, y5, y6, y7, y8, y9, y10⟩ := hR.ty
    have hy := y10 _ hp1 hp2 hkd
    have hv := hR.hvr _ hp1 hp2 hkd
    have hO : Only (fun k => k = vb (s.2.1 a).1) w w' := only_grown hg rfl
    refine ⟨0, rfl, Or.inl ⟨rfl, (s.1 + 1, s.2.1, B.lay s.2.2 (s.2.1 a).1 ((s.2.2 (s.2.1 a).1).set (s.2.1 b).2.toNat (s.2.1 c))), 0, [], ?_, only_grown hg (by unfold Wr; exact Or.inr (Or.inr (Or.inr (Or.inr (Or.inr (Or.inr (Or.inr (Or.inr (Or.inl ⟨_, hp1, hp2, hkd, rfl⟩))))))))), Or.inl ⟨rfl, kd, vb, E, ad, ne, cap, ?_, ?_, by omega, fun p _ _ h => Or.inl ⟨h, rfl⟩⟩⟩⟩
    · show (if _ then _ else _)
      refine ite_yes ?_ ⟨rfl, rfl, rfl⟩
      exact h
    · exact { hK := hR.hK.kept hO (fun k hk _ => by subst hk; exact ⟨hv.2, Or.inr (Or.inl hy)⟩), hE := hR.hE.only hO (ne_ty y1 hy (by decide)), eE := hR.eE, hF := hR.hF.keep hO (ne_ty y3 hy (by decide)) (fun e => hv.1 e.symm), hS := hS, hH := B.held_put hR.hH _ _ _ _ hkd (hR.hH.1 c hi'.2.2), ok := hR.ok, hn := hR.hn, hp := hR.hp, hvr := hR.hvr, hro := hR.hro }
    · rw [List.append_nil]
      refine hm.keep hO (fun k hk e => ?_)
      subst e; rw [hy] at hk; exact absurd hk (by decide)
  · refine ⟨why, rfl, Or.inr ⟨h1, h2, fun s' ev1 => ?_, hg⟩⟩
    show (if _ then _ else _)
    refine ite_no ?_ rfl
    exact h

/-- A task's life has ended. -/
theorem after_left {w1 : World} {ev1 : List B.Ev} {r : Nat} (hR : Run w g C q kd vb s E Tk) (hO : Only (fun k => k = g.tb ∨ k = g.kb) w w1) (hL : Left w1 w' g.eb g.tb g.lb g.ob bs ne ad cap (ev ++ ev1) E) (hr : r = 1 ∨ r = 3) (s' : B.St) :
    After w w' g C q kd vb Tk bs qb cq ad ne cap ev s' r ev1 := by
  obtain ⟨E', x, c, a', c', h1, h2, h3, h4, h5, h6, h7, h8, h9⟩ := hL
  refine ⟨?_, Or.inr ⟨by omega, E', _, _, _, h1, ⟨h3.trans hR.eE.e27, fun _ => ⟨⟨_, _, h4⟩, h5.trans hR.eE.e41⟩, fun e => by omega⟩, h2.trans hR.eE.e1, h6, h7, by omega, h8, fun e => by omega⟩⟩
  refine (hO.mono (fun k hk _ => by unfold Wr; omega)).trans h9 (fun k hk _ => ?_)
  unfold Wr
  rcases hk with h | h | h | h | h
  · exact Or.inl h
  · exact Or.inr (Or.inl h)
  · exact Or.inr (Or.inr (Or.inl h))
  · exact Or.inr (Or.inr (Or.inr (Or.inl h)))
  · exact Or.inr (Or.inr (Or.inr (Or.inr (Or.inr (Or.inr (Or.inr (Or.inr (Or.inr (Or.inl h)))))))))

theorem do14 (a b c : Nat) (hR : Run w g C q kd vb (s.1 + 1, s.2.1, s.2.2) E Tk) (hm : Mid w g E Tk bs qb cq ad ne cap ev) (hne : ne ≤ 100000) (hi : okIn g.nr C.length (14, a, b, c) = true) :
    Calls Tryz.prog 150 #[stepV 14 a b c g.fb g.tb g.eb, P0 (g.ac + 19)] w fun e w' => ∃ why : Nat, e = .returned (.int .i64 why) ∧ Acted w w' g C q kd vb Tk bs qb cq ad ne cap ev s (14, a, b, c) why := by
  have hi' : a < g.nr ∧ b = 0 ∧ c = 0 := by simpa [okIn] using hi
  refine (act14_any 14 a b c g.eb g.tb g.lb g.cl g.ob g.co bs g.xe g.xt g.kb g.ck g.fb g.cb C.length (s.1 + 1) g.rb g.nr (g.ac + 19) s.2.1 hi'.1 ad ne cap ev E Tk w (hR.leav hm hne) hR.hK.hxe hR.hK.hxt hR.hK.t1 hR.hK.oK hR.hF (hR.hK.hA 18 _ rfl)).mono ?_
  rintro e w' ⟨rfl, w1, hL, hO⟩
  refine ⟨0, rfl, Or.inl ⟨rfl, s, 1, [(2, (s.2.1 a).2)], ⟨rfl, ?_⟩, after_left hR hO hL (Or.inl rfl) s⟩⟩
  rcases hR.hH.1 a hi'.1 with h0 | ⟨_, _, _, h0⟩
  · show _ = [(2, if (s.2.1 a).1 = 0 then _ else _)]
    rw [if_pos h0]
  · have h0' : (s.2.1 a).2 = 0 := h0
    show _ = [(2, if (s.2.1 a).1 = 0 then (s.2.1 a).2 else 0)]
    rw [h0']; split <;> rfl

theorem do20 (a b c : Nat) (hR : Run w g C q kd vb (s.1 + 1, s.2.1, s.2.2) E Tk) (hm : Mid w g E Tk bs qb cq ad ne cap ev) (hne : ne ≤ 100000) (hi : okIn g.nr C.length (20, a, b, c) = true) :
    Calls Tryz.prog 154 #[stepV 20 a b c g.fb g.tb g.eb, P0 (g.ac + 27), P0 (g.ac + 28)] w fun e w' => ∃ why : Nat, e = .returned (.int .i64 why) ∧ Acted w w' g C q kd vb Tk bs qb cq ad ne cap ev s (20, a, b, c) why := by
  have hi' : a < g.nr ∧ b = 0 ∧ c = 0 := by simpa [okIn] using hi
  refine (act20_any 20 a b c g.fb g.tb g.eb g.cb C.length (s.1 + 1) g.rb g.nr bs (g.ac + 27) (g.ac + 28) _ s.2.1 hi'.1 ad ne cap ev E Tk w hR.hF hR.hE hm.e42 hR.hK.hT hR.hK.t0 hm.o42 hm.hb hne (hR.hK.hA 26 _ rfl) (hR.hK.hA 27 _ rfl)).mono ?_
  rintro e w' (⟨h, rfl, x, c', ho, hE, hO⟩ | ⟨h, rfl, hg⟩)
  · obtain ⟨y1, y2, y3, y4, y5, y6, y7, y8, y9, y10⟩ := hR.ty
    have hS : ∀ k, (k = g.eb ∨ (Value.slice ad ne cap).ownBlock = some k) → kty w k = 143 ∨ kty w k = 48 := by
      rintro k (rfl | h)
      · exact Or.inl y1
      · exact Or.inr (kty_own hm.o42 h)
    have hN : ∀ k, kty w k ≠ 143 → kty w k ≠ 48 → ¬ (k = g.eb ∨ (Value.slice ad ne cap).ownBlock = some k) := fun k h1 h2 h3 => by
      rcases hS k h3 with h | h
      · exact h1 h
      · exact h2 h
    refine ⟨0, rfl, Or.inl ⟨rfl, (s.1 + 1, s.2.1, s.2.2), 0, [(1, (s.2.1 a).2)], ?_, hO.mono (fun k hk _ => by unfold Wr; rcases hk with h | h <;> simp [h]), Or.inl ⟨rfl, kd, vb, upd E 42 (.slice (some ⟨x, 0, none⟩) (ne + 1) c'), some ⟨x, 0, none⟩, ne + 1, c', ?_, ?_, Nat.le_refl _, fun p _ _ h => Or.inl ⟨h, rfl⟩⟩⟩⟩
    · show (if _ then _ else _)
      refine ite_yes ?_ ⟨rfl, rfl, rfl⟩
      exact h
    · exact { hK := hR.hK.kept hO (fun k hk _ => by
                have := hS k hk
                refine ⟨fun e => ?_, by unfold KT; rcases this with h | h <;> simp [h]⟩
                subst e; rw [y8] at this; exact absurd this (by decide)), hE := hE, eE := hR.eE.upd 42 _ (Or.inr (Or.inr rfl)), hF := hR.hF.keep hO (hN _ (by rw [y3]; decide) (by rw [y3]; decide)) (hN _ (by rw [y4]; decide) (by rw [y4]; decide)),
              hS := hR.hS.keep hO (hN _ (by rw [y5]; decide) (by rw [y5]; decide)) (hN _ (by rw [y6]; decide) (by rw [y6]; decide)) (fun p h1 h2 h3 => hN _ (by rw [y10 p h1 h2 h3]; decide) (by rw [y10 p h1 h2 h3]; decide)), hH := hR.hH, ok := hR.ok, hn := hR.hn, hp := hR.hp, hvr := hR.hvr, hro := hR.hro }
    · exact { t2 := hm.t2, t3 := hm.t3, e31 := (upd_off _ _ _ _ (by omega)).trans hm.e31, o31 := own_of hm.o31 (fun k hk => hO.same (own_ty hm.o31 k hk).2.1 (hN k (by rw [kty_own hm.o31 hk]; decide) (by rw [kty_own hm.o31 hk]; decide))), e42 := upd_at _ _ _, o42 := ho, hb := Nat.le_trans hm.hb hO.size, e32 := (upd_off _ _ _ _ (by omega)).trans hm.e32, h32 := hm.h32, n32 := hm.n32, nqb := hm.nqb, hcq := hm.hcq, o32 := own_of hm.o32 (fun k hk => hO.same (own_ty hm.o32 k hk).2.1 (hN k (by rw [kty_own hm.o32 hk]; decide) (by rw [kty_own hm.o32 hk]; decide))) }
  · refine ⟨1, rfl, Or.inr ⟨by omega, by omega, fun s' ev1 => ?_, hg⟩⟩
    show (if _ then _ else _)
    refine ite_no ?_ rfl
    exact h

theorem do9 (a b c : Nat) (hR : Run w g C q kd vb (s.1 + 1, s.2.1, s.2.2) E Tk) (hm : Mid w g E Tk bs qb cq ad ne cap ev) (hne : ne ≤ 100000) (hi : okIn g.nr C.length (9, a, b, c) = true) :
    Calls Tryz.prog 150 #[stepV 9 a b c g.fb g.tb g.eb, P0 (g.ac + 16)] w fun e w' => ∃ why : Nat, e = .returned (.int .i64 why) ∧ Acted w w' g C q kd vb Tk bs qb cq ad ne cap ev s (9, a, b, c) why := by
  have hi' : a < g.nr ∧ b ≤ 8 ∧ c = 0 := by simpa [okIn] using hi
  refine (act9_any 9 a b c g.eb g.lb g.cl g.tb g.kb g.ck g.fb g.cb C.length (s.1 + 1) g.rb g.nr bs (g.ac + 15) (g.ac + 16) _ g.sb g.pb g.n kd vb (s.1 + 1, s.2.1, s.2.2) ad ne cap ev E Tk w hR.rts hi'.2.1 hi'.1 hR.hE hR.hK.hT hR.eE.e26 hm.e42 hm.o42 hR.hK.t0 hm.hb hne (fun p x y z => (hR.hvr p x y z).1) (hR.hK.hA 14 _ rfl) (hR.hK.hA 15 _ rfl)).mono ?_
  obtain ⟨y1, y2, y3, y4, y5, y6, y7, y8, y9, y10⟩ := hR.ty
  obtain ⟨l1, l2, l3, l4, l5, l6, l7, l8, l9, l10, l11⟩ := hR.lt
  rintro e w' ⟨rfl, (⟨k, vg, kd1, h1, h2, h3, h4, h5, h6, h7, h8, hO⟩ | ⟨⟨m, hm1, hm2⟩, x, c', ho, hE, hT, hO⟩)⟩
  · have hd := B.does_cell (s := s) (kd := kd1) (nr := g.nr) (n := g.n) h3 a (k + 1) b (by omega) (by omega) h2 c
    have hN : ∀ k, kty w k ≠ 148 → kty w k ≠ 278 → ¬ (k = g.pb ∨ k = g.rb) := by
      rintro k h1 h2 (rfl | rfl)
      · exact h2 y6
      · exact h1 y4
    refine ⟨0, rfl, Or.inl ⟨rfl, _, 0, [], hd, hO.mono (fun k hk _ => by unfold Wr; omega), Or.inl ⟨rfl, B.mark kd1 (k + 1), fun p => if p = k + 1 then vg else vb p, E, ad, ne, cap, ?_, ?_, by omega, fun p x y z => ?_⟩⟩⟩
    · exact { hK := hR.hK.kept hO (fun k hk _ => by
                rcases hk with rfl | rfl
                · exact ⟨ne_ty y6 y8 (by decide), by rw [y6]; unfold KT; decide⟩
                · exact ⟨hR.hro, Or.inr (Or.inl y4)⟩), hE := hR.hE.only hO (hN _ (by rw [y1]; decide) (by rw [y1]; decide)), eE := hR.eE, hF := h8, hS := h7, hH := B.held_new h3 _ _ _ _ (by omega) (by omega), ok := hR.ok, hn := hR.hn, hp := hR.hp, hro := hR.hro,
              hvr := fun p x y z => by
                by_cases e : p = k + 1
                · simp only [if_pos e]; omega
                · simp only [if_neg e]
                  rw [B.mark_off _ _ _ e] at z
                  exact hR.hvr p x y (h4 p z) }
    · rw [List.append_nil]
      refine hm.keep hO (fun k hk => hN k (by rcases hk with h | h <;> rw [h] <;> decide) (by rcases hk with h | h <;> rw [h] <;> decide))
    · by_cases e : p = k + 1
      · simp only [if_pos e]; exact Or.inr h5
      · simp only [if_neg e]
        rw [B.mark_off _ _ _ e] at z
        exact Or.inl ⟨h4 p z, trivial⟩
  · have hd := B.does_spend (s := s) (kd := kd) (nr := g.nr) (n := g.n) hm1 hm2 a b c s
    refine ⟨0, rfl, Or.inl ⟨rfl, _, 2, [(5, 0)], hd, hO.mono (fun k hk _ => ?_), Or.inr ⟨by omega, upd (upd E 41 (.bool true)) 42 (.slice (some ⟨x, 0, none⟩) (ne + 1) c'), some ⟨x, 0, none⟩, ne + 1, c', hE, ⟨?_, fun e => by omega, fun _ => ⟨⟨some ⟨g.lb, 0, none⟩, 1, g.cl, ?_⟩, ?_⟩⟩, ?_, upd_at _ _ _, ho, Nat.le_refl _, ?_, fun e => by omega⟩⟩⟩
    · unfold Wr
      rcases hk with h | h | h | h <;> simp [h]
    · rw [upd_off _ _ _ _ (by omega), upd_off _ _ _ _ (by omega)]; exact hR.eE.e27
    · rw [upd_off _ _ _ _ (by omega), upd_off _ _ _ _ (by omega)]; exact hR.eE.e28
    · rw [upd_off _ _ _ _ (by omega), upd_at]
    · rw [upd_off _ _ _ _ (by omega), upd_off _ _ _ _ (by omega)]; exact hR.eE.e1
    · rw [hT.cell 2 (by omega), upd_at]
end
end Go.Proofs.YtbmjlbcaplgfmaaGreatDoor

/-
  Lines of tasks are written: what stays of a machine of one task.
-/
namespace Go.Proofs.YtbmjlbcaplgfmaaGreatDoor
open Go.RowKit

theorem actB_kt2 (b k : Nat) (x : Value × TypeId) (h : (actB b)[k]? = some x) : x.2 ≠ 143 ∧ x.2 ≠ 158 ∧ x.2 ≠ 153 := by
  have hm := List.mem_of_getElem? h
  have e : (actB b).map (·.2) = [185, 197, 185, 197, 188, 188, 188, 188, 185, 197, 191, 197, 191, 197, 193, 197, 193, 197, 197, 197, 185, 200, 185, 200, 185, 200, 185, 200, 185, 200, 185, 197] := rfl
  have : ∀ y : TypeId, y ∈ ([185, 197, 185, 197, 188, 188, 188, 188, 185, 197, 191, 197, 191, 197, 193, 197, 193, 197, 197, 197, 185, 200, 185, 200, 185, 200, 185, 200, 185, 200, 185, 197] : List TypeId) → y ≠ 143 ∧ y ≠ 158 ∧ y ≠ 153 := by decide
  exact this _ (e ▸ List.mem_map_of_mem hm)

section
variable {w w' : World} {g : Geo} {C : List B.In} {q : Nat} {kd : Nat → Bool} {vb : Nat → Nat} {s : B.St} {E E' Tk Tk' : Nat → Value} {bs qb cq : Nat} {ad : Option Addr} {ne cap : Nat} {ev : List B.Ev}
theorem Run.lines {Z : Nat → Prop} (h : Run w g C q kd vb s E Tk) (hO : Only (fun k => k = g.eb ∨ k = g.tb ∨ Z k) w w') (hq : ∀ k, Z k → kty w k = 153) (h1 : ¬ Z g.lb) (h2 : ¬ Z g.xt) (hE : Full w' g.eb 143 43 43 E') (eE : Egn g q E') (hT : Full w' g.tb 158 7 7 Tk') (t0 : Tk' 0 = Tk 0) (t1 : Tk' 1 = Tk 1) (t6 : Tk' 6 = Tk 6) : Run w' g C q kd vb s E' Tk' := by
  obtain ⟨y1, y2, y3, y4, y5, y6, y7, y8, y9, y10⟩ := h.ty
  have hs : ∀ (k : Nat) (cur : Array Value) (T : TypeId) (f : Nat × Nat), w.heap[k]? = some (.cells cur T f) → T ≠ 143 → T ≠ 158 → ¬ Z k → w'.heap[k]? = w.heap[k]? := by
    intro k cur T f hk n1 n2 n3
    refine hO.same (heap_lt hk) ?_
    have := kty_of hk
    rintro (rfl | rfl | hz)
    · exact n1 (this.symm.trans y1)
    · exact n2 (this.symm.trans y2)
    · exact n3 hz
  have hs' : ∀ (k : Nat) (cur : Array Value) (T : TypeId) (f : Nat × Nat), w.heap[k]? = some (.cells cur T f) → T ≠ 143 → T ≠ 158 → T ≠ 153 → w'.heap[k]? = w.heap[k]? := by
    intro k cur T f hk n1 n2 n3
    exact hs k cur T f hk n1 n2 (fun e => n3 (by rw [← kty_of hk, hq k e]))
  have hf : ∀ {b n m : Nat} {T : TypeId} {P : Nat → Value}, Full w b T n m P → T ≠ 143 → T ≠ 158 → T ≠ 153 → Full w' b T n m P := by
    intro b n m T P h1 n1 n2 n3
    obtain ⟨cur, h3, _⟩ := id h1
    exact h1.block (hs' b _ _ _ h3 n1 n2 n3)
  have ho : ∀ {base size n : Nat} {e : TypeId} {b m c : Nat} {xs : List Value}, w.ownsRow base e size (.slice (some ⟨b, 0, none⟩) m c) n xs → e ≠ 143 → e ≠ 158 → ¬ Z b → w'.ownsRow base e size (.slice (some ⟨b, 0, none⟩) m c) n xs := by
    intro base size n e b m c xs h1 n1 n2 n3
    refine own_of h1 (fun k hb => ?_)
    have : b = k := by injection hb
    subst this
    obtain ⟨_, _, cur, h3⟩ := own_ty h1 b rfl
    exact hs b _ _ _ h3 n1 n2 n3
  have hK := h.hK
  exact {
    hK := { hT := hT, t0 := t0.trans hK.t0, t1 := t1.trans hK.t1, t6 := t6.trans hK.t6, o28 := ho hK.o28 (by decide) (by decide) h1, o29 := ho hK.o29 (by decide) (by decide) (fun e => absurd (y8.symm.trans (hq _ e)) (by decide)), oK := ho hK.oK (by decide) (by decide) (fun e => absurd (y9.symm.trans (hq _ e)) (by decide)),
            hxe := (hs' _ _ _ _ hK.hxe (by decide) (by decide) (by decide)).trans hK.hxe, hxt := (hs _ _ _ _ hK.hxt (by decide) (by decide) h2).trans hK.hxt, hC := hf hK.hC (by decide) (by decide) (by decide),
            hA := fun k x hx => by
              have hb := hK.hA k x hx
              have := actB_kt2 _ k x hx
              exact (hs' _ _ _ _ hb this.1 this.2.1 this.2.2).trans hb }
    hE := hE
    eE := eE
    hF := ⟨(hs' _ _ _ _ h.hF.1 (by decide) (by decide) (by decide)).trans h.hF.1, hf h.hF.2.1 (by decide) (by decide) (by decide), h.hF.2.2⟩
    hS := ⟨(hs' _ _ _ _ h.hS.1 (by decide) (by decide) (by decide)).trans h.hS.1, hf h.hS.2.1 (by decide) (by decide) (by decide), fun p a b c => hf (h.hS.2.2.1 p a b c) (by decide) (by decide) (by decide), h.hS.2.2.2⟩
    hH := h.hH, ok := h.ok, hn := h.hn, hp := h.hp, hvr := h.hvr, hro := h.hro }
theorem Run.line (h : Run w g C q kd vb s E Tk) (hO : Only (fun k => k = g.eb ∨ k = g.tb ∨ k = qb) w w') (hq : kty w qb = 153) (h1 : g.lb ≠ qb) (h2 : g.xt ≠ qb) (hE : Full w' g.eb 143 43 43 E') (eE : Egn g q E') (hT : Full w' g.tb 158 7 7 Tk') (t0 : Tk' 0 = Tk 0) (t1 : Tk' 1 = Tk 1) (t6 : Tk' 6 = Tk 6) : Run w' g C q kd vb s E' Tk' :=
  h.lines (Z := fun k => k = qb) hO (fun _ e => e ▸ hq) h1 h2 hE eE hT t0 t1 t6
end
end Go.Proofs.YtbmjlbcaplgfmaaGreatDoor
