/-
  One instruction of a task, out of the table: it reads a slot.
-/
import Derived.Test.YtbmjlbcaplgfmaaGreatDoorPartJ
import Derived.Test.YtbmjlbcaplgfmaaGreatDoorPartH
import Derived.Test.YtbmjlbcaplgfmaaGreatDoorPartI
namespace Go.Proofs.YtbmjlbcaplgfmaaGreatDoor
open Go.RowKit

set_option maxRecDepth 100000 in
set_option maxHeartbeats 4000000 in
theorem one94 (op a b c : Nat) (g : Geo) (C : List B.In) (q : Nat) (kd : Nat → Bool) (vb : Nat → Nat) (s : B.St) (E Tk : Nat → Value) (bs qb cq : Nat) (ad : Option Addr) (ne cap : Nat) (ev : List B.Ev) (w : World) (hR : Run w g C q kd vb s E Tk) (hm : Mid w g E Tk bs qb cq ad ne cap ev) (hne : ne ≤ 100000) (hi : C[s.1]? = some (op, a, b, c)) (hop : op < 23) (ht : E (3 + op) = Fv 94 #[])
    (hc : Hid (∀ w1, Run w1 g C q kd vb (s.1 + 1, s.2.1, s.2.2) E Tk → Mid w1 g E Tk bs qb cq ad ne cap ev → Calls Tryz.prog 94 #[stepV op a b c g.fb g.tb g.eb] w1 fun e w' => ∃ why : Nat, e = .returned (.int .i64 why) ∧ Acted w1 w' g C q kd vb Tk bs qb cq ad ne cap ev s (op, a, b, c) why)) :
    Calls Tryz.prog 127 #[P0 g.eb, P0 g.tb] w fun e w' => e = .returned (.tuple #[]) ∧ Oned w w' g C q kd vb Tk bs qb cq ad ne cap ev s := by
  have KR := hid hR
  have KM := hid hm
  have HI := hid hi
  have hlt : s.1 < C.length := (List.getElem?_eq_some_iff.1 hi).1
  have hL : C.length ≤ 200 := hR.ok.2.2.2.1
  have c1 := hR.hK.hT.cell 1 (by omega)
  rw [hR.hK.t1] at c1
  have ck := own_cell hR.hK.oK
  have HT := hid ht
  have HN : Hid (ne ≤ 100000) := hne
  have HLT := hid (And.intro hlt hL)
  have hd : decide (s.1 = C.length) = false := by simp; omega
  have HD := hid hd
  clear hR hm hne hi ht hlt hL hd
  go_enter Tryz.func127, Tryz.ntmps127
  go_wp2_with fail
  go_loopw [] (fun wr => wr = w) (fun _ => 0)
  case atStart => rfl
  case round =>
    subst hrel
    go_wp2_with fail
    refine (top_any g.tb g.kb g.ck g.fb _ c1 ck).mono ?_
    rintro e w1 ⟨rfl, hg1⟩
    have KG1 := hid hg1
    clear hg1
    go_wp2_with fail
    refine (atEnd_any g.fb g.cb C.length s.1 g.rb g.nr _ w1 (KR.out.grown KG1.out).hF.1).mono ?_
    rintro e w2 ⟨rfl, hg2⟩
    have KG2 := hid (grown_trans KG1.out hg2)
    clear hg2 c1 ck
    simp only [HD.out]
    have hR2 := KR.out.grown KG2.out
    have c1 := hR2.hK.hT.cell 1 (by omega)
    rw [hR2.hK.t1] at c1
    have ck := own_cell hR2.hK.oK
    clear hR2
    go_wp2_with fail
    refine (top_any g.tb g.kb g.ck g.fb _ c1 ck).mono ?_
    rintro e w3 ⟨rfl, hg3⟩
    have KG3 := hid (grown_trans KG2.out hg3)
    clear hg3 c1 ck
    go_wp2_with fail
    have hR3 := KR.out.grown KG3.out
    obtain ⟨k0, k1, k2, k3⟩ := hR3.hK.bytes HI.out
    refine (take_any g.fb g.cb C.length s.1 g.rb g.nr op a b c _ w3 hR3.hF.1 HLT.out.1 HLT.out.2 hR3.hK.hC.lt k0 k1 k2 k3).mono ?_
    rintro e w4 ⟨rfl, hg4, hf4⟩
    have hR4 : Run w4 g C q kd vb (s.1 + 1, s.2.1, s.2.2) E Tk := hR3.next hg4 ⟨hf4, hR3.hF.2.1.block (hg4.block _ hR3.hF.2.1.lt (by intro e; injection e with e; exact hR3.hF.2.2 e.symm)), hR3.hF.2.2⟩ (by have := HLT.out.1; omega)
    have hm4 := (KM.out.grown KG3.out).fb hR3 hg4
    have KR4 := hid hR4
    have KM4 := hid hm4
    have KO4 := hid ((only_none (S := fun k => k = g.fb) KG3.out).trans (only_grown (S := fun k => k = g.fb) hg4 rfl) (fun _ h _ => h))
    clear hR3 k0 k1 k2 k3 hg4 hf4 hR4 hm4
    go_wp2_with fail
    have HX := hid (s7_new w4 op a b c g.fb g.tb g.eb)
    have KG5 := hid (World.grownBy_alloc w4 (.cells #[.int .u8 (op : Int), .int .u8 (a : Int), .int .u8 (b : Int), .int .u8 (c : Int), P0 g.fb, P0 g.tb, P0 g.eb] 184) none)
    have hz5 : (w4.alloc (.cells #[.int .u8 (op : Int), .int .u8 (a : Int), .int .u8 (b : Int), .int .u8 (c : Int), P0 g.fb, P0 g.tb, P0 g.eb] 184)).heap.size = w4.heap.size + 1 := by simp
    generalize hW : w4.alloc (.cells #[.int .u8 (op : Int), .int .u8 (a : Int), .int .u8 (b : Int), .int .u8 (c : Int), P0 g.fb, P0 g.tb, P0 g.eb] 184) = w5 at *
    clear hW
    obtain ⟨x0, x1, x2, x3, x4, x5, x6⟩ := s7_of HX.out
    have lx := heap_lt HX.out
    have KR5 := hid (KR4.out.grown KG5.out)
    have KM5 := hid (KM4.out.grown KG5.out)
    have e5 := KR5.out.hE.cell (3 + op) (by omega)
    rw [HT.out] at e5
    have le5 := KR5.out.hE.lt
    have hop2 : (op : Int) < 23 := by omega
    go_region_with (go_at_call 94; refine (hc.out w5.drew (KR5.out.grown (grown_drew (grown_refl _ _))) (KM5.out.grown (grown_drew (grown_refl _ _)))).mono ?_; rintro e w6 ⟨why, rfl, hA6⟩; have HA6 := hid hA6; clear hA6)
    all_goals
      have KO5 : Hid (Only (fun k => k = g.fb) wr w5.drew) := only_drew (KO4.out.then0 KG5.out)
      rcases HA6.out with ⟨hw, s', r, ev1, hd, hA⟩ | ⟨hw1, hw2, hd, hg⟩
      · subst hw
        have HR := hid (oned_does HI.out hd (After.pre KO5.out hA))
        clear hd hA HA6 e5 x0 x1 x2 x3 x4 x5 x6
        go_wp2_with fail
        go_end0
        exact ⟨rfl, HR.out⟩
      · have hwz : ¬ ((why : Int) = 0) := by omega
        have KG6 := hid (grown_trans (grown_drew (grown_refl w5 none)) hg)
        have KGd := hid hg
        have KD := hid hd
        clear hd hg HA6 e5 x0 x1 x2 x3 x4 x5 x6
        go_wp2_with fail
        refine (fail_any g.eb g.tb g.lb g.cl g.ob g.co bs why hw2 ad ne cap ev E Tk w6 ((KR5.out.grown KG6.out).leav (KM5.out.grown KG6.out) HN.out)).mono ?_
        rintro e w7 ⟨rfl, hL⟩
        have hA : After w6 w7 g C q kd vb Tk bs qb cq ad ne cap ev s 3 [(3, (why : Int))] := after_left (KR5.out.grown KG6.out) (only_refl _ _) hL (Or.inr rfl) s
        have HR := hid (oned_fail HI.out KD.out (After.pre (KO5.out.then0 KGd.out) hA))
        clear hL hA
        go_wp2_with fail
        go_end0
        exact ⟨rfl, HR.out⟩
end Go.Proofs.YtbmjlbcaplgfmaaGreatDoor

/-
  One instruction of a task, out of the table: it writes a slot.
-/
namespace Go.Proofs.YtbmjlbcaplgfmaaGreatDoor
open Go.RowKit

set_option maxRecDepth 100000 in
set_option maxHeartbeats 4000000 in
theorem one95 (op a b c : Nat) (g : Geo) (C : List B.In) (q : Nat) (kd : Nat → Bool) (vb : Nat → Nat) (s : B.St) (E Tk : Nat → Value) (bs qb cq : Nat) (ad : Option Addr) (ne cap : Nat) (ev : List B.Ev) (w : World) (hR : Run w g C q kd vb s E Tk) (hm : Mid w g E Tk bs qb cq ad ne cap ev) (hne : ne ≤ 100000) (hi : C[s.1]? = some (op, a, b, c)) (hop : op < 23) (ht : E (3 + op) = Fv 95 #[])
    (hc : Hid (∀ w1, Run w1 g C q kd vb (s.1 + 1, s.2.1, s.2.2) E Tk → Mid w1 g E Tk bs qb cq ad ne cap ev → Calls Tryz.prog 95 #[stepV op a b c g.fb g.tb g.eb] w1 fun e w' => ∃ why : Nat, e = .returned (.int .i64 why) ∧ Acted w1 w' g C q kd vb Tk bs qb cq ad ne cap ev s (op, a, b, c) why)) :
    Calls Tryz.prog 127 #[P0 g.eb, P0 g.tb] w fun e w' => e = .returned (.tuple #[]) ∧ Oned w w' g C q kd vb Tk bs qb cq ad ne cap ev s := by
  have KR := hid hR
  have KM := hid hm
  have HI := hid hi
  have hlt : s.1 < C.length := (List.getElem?_eq_some_iff.1 hi).1
  have hL : C.length ≤ 200 := hR.ok.2.2.2.1
  have c1 := hR.hK.hT.cell 1 (by omega)
  rw [hR.hK.t1] at c1
  have ck := own_cell hR.hK.oK
  have HT := hid ht
  have HN : Hid (ne ≤ 100000) := hne
  have HLT := hid (And.intro hlt hL)
  have hd : decide (s.1 = C.length) = false := by simp; omega
  have HD := hid hd
  clear hR hm hne hi ht hlt hL hd
  go_enter Tryz.func127, Tryz.ntmps127
  go_wp2_with fail
  go_loopw [] (fun wr => wr = w) (fun _ => 0)
  case atStart => rfl
  case round =>
    subst hrel
    go_wp2_with fail
    refine (top_any g.tb g.kb g.ck g.fb _ c1 ck).mono ?_
    rintro e w1 ⟨rfl, hg1⟩
    have KG1 := hid hg1
    clear hg1
    go_wp2_with fail
    refine (atEnd_any g.fb g.cb C.length s.1 g.rb g.nr _ w1 (KR.out.grown KG1.out).hF.1).mono ?_
    rintro e w2 ⟨rfl, hg2⟩
    have KG2 := hid (grown_trans KG1.out hg2)
    clear hg2 c1 ck
    simp only [HD.out]
    have hR2 := KR.out.grown KG2.out
    have c1 := hR2.hK.hT.cell 1 (by omega)
    rw [hR2.hK.t1] at c1
    have ck := own_cell hR2.hK.oK
    clear hR2
    go_wp2_with fail
    refine (top_any g.tb g.kb g.ck g.fb _ c1 ck).mono ?_
    rintro e w3 ⟨rfl, hg3⟩
    have KG3 := hid (grown_trans KG2.out hg3)
    clear hg3 c1 ck
    go_wp2_with fail
    have hR3 := KR.out.grown KG3.out
    obtain ⟨k0, k1, k2, k3⟩ := hR3.hK.bytes HI.out
    refine (take_any g.fb g.cb C.length s.1 g.rb g.nr op a b c _ w3 hR3.hF.1 HLT.out.1 HLT.out.2 hR3.hK.hC.lt k0 k1 k2 k3).mono ?_
    rintro e w4 ⟨rfl, hg4, hf4⟩
    have hR4 : Run w4 g C q kd vb (s.1 + 1, s.2.1, s.2.2) E Tk := hR3.next hg4 ⟨hf4, hR3.hF.2.1.block (hg4.block _ hR3.hF.2.1.lt (by intro e; injection e with e; exact hR3.hF.2.2 e.symm)), hR3.hF.2.2⟩ (by have := HLT.out.1; omega)
    have hm4 := (KM.out.grown KG3.out).fb hR3 hg4
    have KR4 := hid hR4
    have KM4 := hid hm4
    have KO4 := hid ((only_none (S := fun k => k = g.fb) KG3.out).trans (only_grown (S := fun k => k = g.fb) hg4 rfl) (fun _ h _ => h))
    clear hR3 k0 k1 k2 k3 hg4 hf4 hR4 hm4
    go_wp2_with fail
    have HX := hid (s7_new w4 op a b c g.fb g.tb g.eb)
    have KG5 := hid (World.grownBy_alloc w4 (.cells #[.int .u8 (op : Int), .int .u8 (a : Int), .int .u8 (b : Int), .int .u8 (c : Int), P0 g.fb, P0 g.tb, P0 g.eb] 184) none)
    have hz5 : (w4.alloc (.cells #[.int .u8 (op : Int), .int .u8 (a : Int), .int .u8 (b : Int), .int .u8 (c : Int), P0 g.fb, P0 g.tb, P0 g.eb] 184)).heap.size = w4.heap.size + 1 := by simp
    generalize hW : w4.alloc (.cells #[.int .u8 (op : Int), .int .u8 (a : Int), .int .u8 (b : Int), .int .u8 (c : Int), P0 g.fb, P0 g.tb, P0 g.eb] 184) = w5 at *
    clear hW
    obtain ⟨x0, x1, x2, x3, x4, x5, x6⟩ := s7_of HX.out
    have lx := heap_lt HX.out
    have KR5 := hid (KR4.out.grown KG5.out)
    have KM5 := hid (KM4.out.grown KG5.out)
    have e5 := KR5.out.hE.cell (3 + op) (by omega)
    rw [HT.out] at e5
    have le5 := KR5.out.hE.lt
    have hop2 : (op : Int) < 23 := by omega
    go_region_with (go_at_call 95; refine (hc.out w5.drew (KR5.out.grown (grown_drew (grown_refl _ _))) (KM5.out.grown (grown_drew (grown_refl _ _)))).mono ?_; rintro e w6 ⟨why, rfl, hA6⟩; have HA6 := hid hA6; clear hA6)
    all_goals
      have KO5 : Hid (Only (fun k => k = g.fb) wr w5.drew) := only_drew (KO4.out.then0 KG5.out)
      rcases HA6.out with ⟨hw, s', r, ev1, hd, hA⟩ | ⟨hw1, hw2, hd, hg⟩
      · subst hw
        have HR := hid (oned_does HI.out hd (After.pre KO5.out hA))
        clear hd hA HA6 e5 x0 x1 x2 x3 x4 x5 x6
        go_wp2_with fail
        go_end0
        exact ⟨rfl, HR.out⟩
      · have hwz : ¬ ((why : Int) = 0) := by omega
        have KG6 := hid (grown_trans (grown_drew (grown_refl w5 none)) hg)
        have KGd := hid hg
        have KD := hid hd
        clear hd hg HA6 e5 x0 x1 x2 x3 x4 x5 x6
        go_wp2_with fail
        refine (fail_any g.eb g.tb g.lb g.cl g.ob g.co bs why hw2 ad ne cap ev E Tk w6 ((KR5.out.grown KG6.out).leav (KM5.out.grown KG6.out) HN.out)).mono ?_
        rintro e w7 ⟨rfl, hL⟩
        have hA : After w6 w7 g C q kd vb Tk bs qb cq ad ne cap ev s 3 [(3, (why : Int))] := after_left (KR5.out.grown KG6.out) (only_refl _ _) hL (Or.inr rfl) s
        have HR := hid (oned_fail HI.out KD.out (After.pre (KO5.out.then0 KGd.out) hA))
        clear hL hA
        go_wp2_with fail
        go_end0
        exact ⟨rfl, HR.out⟩
end Go.Proofs.YtbmjlbcaplgfmaaGreatDoor

/-
  One instruction of a task, out of the table: a closure of two variables.
-/
namespace Go.Proofs.YtbmjlbcaplgfmaaGreatDoor
open Go.RowKit

set_option maxRecDepth 100000 in
set_option maxHeartbeats 4000000 in
theorem one154 (op a b c v1 v2 : Nat) (g : Geo) (C : List B.In) (q : Nat) (kd : Nat → Bool) (vb : Nat → Nat) (s : B.St) (E Tk : Nat → Value) (bs qb cq : Nat) (ad : Option Addr) (ne cap : Nat) (ev : List B.Ev) (w : World) (hR : Run w g C q kd vb s E Tk) (hm : Mid w g E Tk bs qb cq ad ne cap ev) (hne : ne ≤ 100000) (hi : C[s.1]? = some (op, a, b, c)) (hop : op < 23) (ht : E (3 + op) = Fv 154 #[P0 v1, P0 v2])
    (hc : Hid (∀ w1, Run w1 g C q kd vb (s.1 + 1, s.2.1, s.2.2) E Tk → Mid w1 g E Tk bs qb cq ad ne cap ev → Calls Tryz.prog 154 #[stepV op a b c g.fb g.tb g.eb, P0 v1, P0 v2] w1 fun e w' => ∃ why : Nat, e = .returned (.int .i64 why) ∧ Acted w1 w' g C q kd vb Tk bs qb cq ad ne cap ev s (op, a, b, c) why)) :
    Calls Tryz.prog 127 #[P0 g.eb, P0 g.tb] w fun e w' => e = .returned (.tuple #[]) ∧ Oned w w' g C q kd vb Tk bs qb cq ad ne cap ev s := by
  have KR := hid hR
  have KM := hid hm
  have HI := hid hi
  have hlt : s.1 < C.length := (List.getElem?_eq_some_iff.1 hi).1
  have hL : C.length ≤ 200 := hR.ok.2.2.2.1
  have c1 := hR.hK.hT.cell 1 (by omega)
  rw [hR.hK.t1] at c1
  have ck := own_cell hR.hK.oK
  have HT := hid ht
  have HN : Hid (ne ≤ 100000) := hne
  have HLT := hid (And.intro hlt hL)
  have hd : decide (s.1 = C.length) = false := by simp; omega
  have HD := hid hd
  clear hR hm hne hi ht hlt hL hd
  go_enter Tryz.func127, Tryz.ntmps127
  go_wp2_with fail
  go_loopw [] (fun wr => wr = w) (fun _ => 0)
  case atStart => rfl
  case round =>
    subst hrel
    go_wp2_with fail
    refine (top_any g.tb g.kb g.ck g.fb _ c1 ck).mono ?_
    rintro e w1 ⟨rfl, hg1⟩
    have KG1 := hid hg1
    clear hg1
    go_wp2_with fail
    refine (atEnd_any g.fb g.cb C.length s.1 g.rb g.nr _ w1 (KR.out.grown KG1.out).hF.1).mono ?_
    rintro e w2 ⟨rfl, hg2⟩
    have KG2 := hid (grown_trans KG1.out hg2)
    clear hg2 c1 ck
    simp only [HD.out]
    have hR2 := KR.out.grown KG2.out
    have c1 := hR2.hK.hT.cell 1 (by omega)
    rw [hR2.hK.t1] at c1
    have ck := own_cell hR2.hK.oK
    clear hR2
    go_wp2_with fail
    refine (top_any g.tb g.kb g.ck g.fb _ c1 ck).mono ?_
    rintro e w3 ⟨rfl, hg3⟩
    have KG3 := hid (grown_trans KG2.out hg3)
    clear hg3 c1 ck
    go_wp2_with fail
    have hR3 := KR.out.grown KG3.out
    obtain ⟨k0, k1, k2, k3⟩ := hR3.hK.bytes HI.out
    refine (take_any g.fb g.cb C.length s.1 g.rb g.nr op a b c _ w3 hR3.hF.1 HLT.out.1 HLT.out.2 hR3.hK.hC.lt k0 k1 k2 k3).mono ?_
    rintro e w4 ⟨rfl, hg4, hf4⟩
    have hR4 : Run w4 g C q kd vb (s.1 + 1, s.2.1, s.2.2) E Tk := hR3.next hg4 ⟨hf4, hR3.hF.2.1.block (hg4.block _ hR3.hF.2.1.lt (by intro e; injection e with e; exact hR3.hF.2.2 e.symm)), hR3.hF.2.2⟩ (by have := HLT.out.1; omega)
    have hm4 := (KM.out.grown KG3.out).fb hR3 hg4
    have KR4 := hid hR4
    have KM4 := hid hm4
    have KO4 := hid ((only_none (S := fun k => k = g.fb) KG3.out).trans (only_grown (S := fun k => k = g.fb) hg4 rfl) (fun _ h _ => h))
    clear hR3 k0 k1 k2 k3 hg4 hf4 hR4 hm4
    go_wp2_with fail
    have HX := hid (s7_new w4 op a b c g.fb g.tb g.eb)
    have KG5 := hid (World.grownBy_alloc w4 (.cells #[.int .u8 (op : Int), .int .u8 (a : Int), .int .u8 (b : Int), .int .u8 (c : Int), P0 g.fb, P0 g.tb, P0 g.eb] 184) none)
    have hz5 : (w4.alloc (.cells #[.int .u8 (op : Int), .int .u8 (a : Int), .int .u8 (b : Int), .int .u8 (c : Int), P0 g.fb, P0 g.tb, P0 g.eb] 184)).heap.size = w4.heap.size + 1 := by simp
    generalize hW : w4.alloc (.cells #[.int .u8 (op : Int), .int .u8 (a : Int), .int .u8 (b : Int), .int .u8 (c : Int), P0 g.fb, P0 g.tb, P0 g.eb] 184) = w5 at *
    clear hW
    obtain ⟨x0, x1, x2, x3, x4, x5, x6⟩ := s7_of HX.out
    have lx := heap_lt HX.out
    have KR5 := hid (KR4.out.grown KG5.out)
    have KM5 := hid (KM4.out.grown KG5.out)
    have e5 := KR5.out.hE.cell (3 + op) (by omega)
    rw [HT.out] at e5
    have le5 := KR5.out.hE.lt
    have hop2 : (op : Int) < 23 := by omega
    go_region_with (go_at_call 154; refine (hc.out w5.drew (KR5.out.grown (grown_drew (grown_refl _ _))) (KM5.out.grown (grown_drew (grown_refl _ _)))).mono ?_; rintro e w6 ⟨why, rfl, hA6⟩; have HA6 := hid hA6; clear hA6)
    all_goals
      have KO5 : Hid (Only (fun k => k = g.fb) wr w5.drew) := only_drew (KO4.out.then0 KG5.out)
      rcases HA6.out with ⟨hw, s', r, ev1, hd, hA⟩ | ⟨hw1, hw2, hd, hg⟩
      · subst hw
        have HR := hid (oned_does HI.out hd (After.pre KO5.out hA))
        clear hd hA HA6 e5 x0 x1 x2 x3 x4 x5 x6
        go_wp2_with fail
        go_end0
        exact ⟨rfl, HR.out⟩
      · have hwz : ¬ ((why : Int) = 0) := by omega
        have KG6 := hid (grown_trans (grown_drew (grown_refl w5 none)) hg)
        have KGd := hid hg
        have KD := hid hd
        clear hd hg HA6 e5 x0 x1 x2 x3 x4 x5 x6
        go_wp2_with fail
        refine (fail_any g.eb g.tb g.lb g.cl g.ob g.co bs why hw2 ad ne cap ev E Tk w6 ((KR5.out.grown KG6.out).leav (KM5.out.grown KG6.out) HN.out)).mono ?_
        rintro e w7 ⟨rfl, hL⟩
        have hA : After w6 w7 g C q kd vb Tk bs qb cq ad ne cap ev s 3 [(3, (why : Int))] := after_left (KR5.out.grown KG6.out) (only_refl _ _) hL (Or.inr rfl) s
        have HR := hid (oned_fail HI.out KD.out (After.pre (KO5.out.then0 KGd.out) hA))
        clear hL hA
        go_wp2_with fail
        go_end0
        exact ⟨rfl, HR.out⟩
end Go.Proofs.YtbmjlbcaplgfmaaGreatDoor

/-
  One instruction of a task, whichever it is.
-/
namespace Go.Proofs.YtbmjlbcaplgfmaaGreatDoor
open Go.RowKit

theorem runOne_any (g : Geo) (C : List B.In) (q : Nat) (kd : Nat → Bool) (vb : Nat → Nat) (s : B.St) (E Tk : Nat → Value) (bs qb cq : Nat) (ad : Option Addr) (ne cap : Nat) (ev : List B.Ev) (w : World) (hR : Run w g C q kd vb s E Tk) (hm : Mid w g E Tk bs qb cq ad ne cap ev) (hne : ne ≤ 100000) :
    Calls Tryz.prog 127 #[P0 g.eb, P0 g.tb] w fun e w' => e = .returned (.tuple #[]) ∧ Oned w w' g C q kd vb Tk bs qb cq ad ne cap ev s := by
  by_cases hs : s.1 = C.length
  · exact oneEnd g C q kd vb s E Tk bs qb cq ad ne cap ev w hR hm hne hs
  · have hlt : s.1 < C.length := by have := hR.hp; omega
    obtain ⟨⟨op, a, b, c⟩, hi⟩ : ∃ i, C[s.1]? = some i := ⟨_, List.getElem?_eq_getElem hlt⟩
    have hok2 : okIn2 g.nr C.length (op, a, b, c) = true := List.all_eq_true.1 hR.ok.2.2.2.2 _ (List.mem_of_getElem? hi)
    have hA := hR.eE.eA
    rcases okIn2_ops hok2 with ⟨rfl, h1, rfl, rfl⟩ | ⟨rfl, h1, rfl, rfl⟩ | hok
    · exact one154 17 a 0 0 (g.ac + 21) (g.ac + 22) g C q kd vb s E Tk bs qb cq ad ne cap ev w hR hm hne hi (by omega) (hA 20 (by omega) (by omega)) (fun w1 h2 h3 => do17 a h2 h3 h1 hi)
    · exact one150 22 a 0 0 (g.ac + 32) g C q kd vb s E Tk bs qb cq ad ne cap ev w hR hm hne hi (by omega) (hA 25 (by omega) (by omega)) (fun w1 h2 h3 => do22 a 0 0 h2 h3 h1)
    rcases okIn_ops hok with rfl | rfl | rfl | rfl | rfl | rfl | rfl | rfl | rfl | rfl | rfl
    · exact one150 0 a b c (g.ac + 2) g C q kd vb s E Tk bs qb cq ad ne cap ev w hR hm hne hi (by omega) (hA 3 (by omega) (by omega)) (fun w1 h1 h2 => do0 a b c h1 h2 hok)
    · exact one150 1 a b c (g.ac + 4) g C q kd vb s E Tk bs qb cq ad ne cap ev w hR hm hne hi (by omega) (hA 4 (by omega) (by omega)) (fun w1 h1 h2 => do1 a b c h1 h2 hok)
    · exact one140 3 a b c (g.ac + 6) g C q kd vb s E Tk bs qb cq ad ne cap ev w hR hm hne hi (by omega) (hA 6 (by omega) (by omega)) (fun w1 h1 h2 => do3 a b c h1 h2 hok)
    · exact one150 6 a b c (g.ac + 10) g C q kd vb s E Tk bs qb cq ad ne cap ev w hR hm hne hi (by omega) (hA 9 (by omega) (by omega)) (fun w1 h1 h2 => do6 a b c h1 h2 hok)
    · exact one150 7 a b c (g.ac + 12) g C q kd vb s E Tk bs qb cq ad ne cap ev w hR hm hne hi (by omega) (hA 10 (by omega) (by omega)) (fun w1 h1 h2 => do7 a b c h1 h2 hok)
    · exact one150 8 a b c (g.ac + 14) g C q kd vb s E Tk bs qb cq ad ne cap ev w hR hm hne hi (by omega) (hA 11 (by omega) (by omega)) (fun w1 h1 h2 => do8 a b c h1 h2 hok)
    · exact one150 9 a b c (g.ac + 16) g C q kd vb s E Tk bs qb cq ad ne cap ev w hR hm hne hi (by omega) (hA 12 (by omega) (by omega)) (fun w1 h1 h2 => do9 a b c h1 h2 hne hok)
    · exact one94 10 a b c g C q kd vb s E Tk bs qb cq ad ne cap ev w hR hm hne hi (by omega) (hA 13 (by omega) (by omega)) (fun w1 h1 h2 => do10 a b c h1 h2 hok)
    · exact one95 11 a b c g C q kd vb s E Tk bs qb cq ad ne cap ev w hR hm hne hi (by omega) (hA 14 (by omega) (by omega)) (fun w1 h1 h2 => do11 a b c h1 h2 hok)
    · exact one150 14 a b c (g.ac + 19) g C q kd vb s E Tk bs qb cq ad ne cap ev w hR hm hne hi (by omega) (hA 17 (by omega) (by omega)) (fun w1 h1 h2 => do14 a b c h1 h2 hne hok)
    · exact one154 20 a b c (g.ac + 27) (g.ac + 28) g C q kd vb s E Tk bs qb cq ad ne cap ev w hR hm hne hi (by omega) (hA 23 (by omega) (by omega)) (fun w1 h1 h2 => do20 a b c h1 h2 hne hok)
end Go.Proofs.YtbmjlbcaplgfmaaGreatDoor

/-
  What lies in the memory of a machine between two turns; and that it stays where its own blocks do.
-/
namespace Go.Proofs.YtbmjlbcaplgfmaaGreatDoor
open Go.RowKit

/-- The blocks of an engine. -/
def FE (g : Geo) (qb : Nat) (kd : Nat → Bool) (vb : Nat → Nat) (k : Nat) : Prop :=
  (k = g.eb ∨ k = g.tb ∨ k = g.lb ∨ k = g.ob ∨ k = g.xe ∨ k = g.xt ∨ k = g.kb ∨ k = g.fb ∨ k = g.cb ∨ k = g.rb ∨ k = g.sb ∨ k = g.pb) ∨ k = qb ∨ (g.ac + 1 ≤ k ∧ k < g.ac + 33) ∨ (∃ p, 1 ≤ p ∧ p ≤ g.n ∧ kd p = true ∧ vb p = k) ∨ (Value.slice g.sa 0 g.sc).ownBlock = some k

/-- An engine whose task waits in the queue. -/
structure Que (w : World) (g : Geo) (C : List B.In) (q : Nat) (kd : Nat → Bool) (vb : Nat → Nat) (s : B.St) (E Tk : Nat → Value) (qb cq : Nat) : Prop where
  hR : Run w g C q kd vb s E Tk
  t2 : Tk 2 = .bool false
  t3 : Tk 3 = Pt g.eb 31
  e31 : E 31 = .slice (some ⟨qb, 0, none⟩) 1 cq
  o31 : w.ownsRow 0 153 1 (.slice (some ⟨qb, 0, none⟩) 1 cq) 1 [P0 g.tb]
  e42 : E 42 = .slice none 0 0
  h1 : g.lb ≠ qb
  h2 : g.xt ≠ qb
  hq : 1 ≤ q ∧ q ≤ 50
  e32 : E 32 = .slice g.sa 0 g.sc
  o32 : w.ownsRow 0 153 1 (.slice g.sa 0 g.sc) 0 []
  h32 : g.sa ≠ none → 0 < g.sc
  n32 : ∀ k, (Value.slice g.sa 0 g.sc).ownBlock = some k → k ≠ g.lb ∧ k ≠ g.xt ∧ k ≠ qb

/-- A machine's block, not locked. -/
def Box (w : World) (mb eb : Nat) : Prop := ∃ x, w.heap[mb]? = some (.cells #[.int .i32 0, x, P0 eb] 101 (0, 0))

def Mach : MachT := fun w mb F C nr n q s r =>
  (r = 0 ∧ ∃ g kd vb E Tk qb cq, g.nr = nr ∧ g.n = n ∧ g.clk = 0 ∧ okCode nr C ∧ Que w g C q kd vb s E Tk qb cq ∧ Box w mb g.eb ∧ F mb ∧ ¬ FE g qb kd vb mb ∧ ∀ k, FE g qb kd vb k → F k) ∨
  ((r = 1 ∨ r = 2) ∧ ∃ eb E, Full w eb 143 43 43 E ∧ Off 0 E r ∧ E 42 = .slice none 0 0 ∧ Box w mb eb ∧ F mb ∧ F eb)

section
variable {w w' : World} {g : Geo} {C : List B.In} {q : Nat} {kd : Nat → Bool} {vb : Nat → Nat} {s : B.St} {E Tk : Nat → Value} {qb cq : Nat}
theorem actB_len (b k : Nat) (x : Value × TypeId) (h : (actB b)[k]? = some x) : k < 32 := by
  have := (List.getElem?_eq_some_iff.1 h).1
  simpa [actB] using this
theorem Run.same (h : Run w g C q kd vb s E Tk) (hk : ∀ k, FE g qb kd vb k → w'.heap[k]? = w.heap[k]?) : Run w' g C q kd vb s E Tk := by
  have hb : ∀ k, (k = g.eb ∨ k = g.tb ∨ k = g.lb ∨ k = g.ob ∨ k = g.xe ∨ k = g.xt ∨ k = g.kb ∨ k = g.fb ∨ k = g.cb ∨ k = g.rb ∨ k = g.sb ∨ k = g.pb) → w'.heap[k]? = w.heap[k]? := fun k h => hk k (Or.inl h)
  have ho : ∀ {base size n : Nat} {e : TypeId} {b m c : Nat} {xs : List Value}, w.ownsRow base e size (.slice (some ⟨b, 0, none⟩) m c) n xs → w'.heap[b]? = w.heap[b]? → w'.ownsRow base e size (.slice (some ⟨b, 0, none⟩) m c) n xs := by
    intro base size n e b m c xs h1 h2
    refine own_of h1 (fun k hb => ?_)
    have : b = k := by injection hb
    subst this; exact h2
  have hK := h.hK
  exact {
    hK := { hT := hK.hT.block (hb _ (by omega)), t0 := hK.t0, t1 := hK.t1, t6 := hK.t6, o28 := ho hK.o28 (hb _ (by omega)), o29 := ho hK.o29 (hb _ (by omega)), oK := ho hK.oK (hb _ (by omega)), hxe := (hb _ (by omega)).trans hK.hxe, hxt := (hb _ (by omega)).trans hK.hxt, hC := hK.hC.block (hb _ (by omega)),
            hA := fun k x hx => (hk _ (Or.inr (Or.inr (Or.inl (by have := actB_len _ k x hx; omega))))).trans (hK.hA k x hx) }
    hE := h.hE.block (hb _ (by omega))
    eE := h.eE
    hF := ⟨(hb _ (by omega)).trans h.hF.1, h.hF.2.1.block (hb _ (by omega)), h.hF.2.2⟩
    hS := ⟨(hb _ (by omega)).trans h.hS.1, h.hS.2.1.block (hb _ (by omega)), fun p a b c => (h.hS.2.2.1 p a b c).block (hk _ (Or.inr (Or.inr (Or.inr (Or.inl ⟨p, a, b, c, rfl⟩))))), h.hS.2.2.2⟩
    hH := h.hH, ok := h.ok, hn := h.hn, hp := h.hp, hvr := h.hvr, hro := h.hro }
theorem Que.same (h : Que w g C q kd vb s E Tk qb cq) (hk : ∀ k, FE g qb kd vb k → w'.heap[k]? = w.heap[k]?) : Que w' g C q kd vb s E Tk qb cq :=
  { hR := h.hR.same hk, t2 := h.t2, t3 := h.t3, e31 := h.e31, e42 := h.e42, h1 := h.h1, h2 := h.h2, hq := h.hq, e32 := h.e32, h32 := h.h32, n32 := h.n32,
    o32 := own_of h.o32 (fun k hb => hk _ (Or.inr (Or.inr (Or.inr (Or.inr hb))))),
    o31 := own_of h.o31 (fun k hb => by
      have : qb = k := by injection hb
      subst this; exact hk _ (Or.inr (Or.inl rfl))) }
end

theorem keep_ok : KeepOk Mach := by
  rintro C nr n q mb F s r w w' (⟨hr, g, kd, vb, E, Tk, qb, cq, h1, h2, h8, h9, h3, ⟨x, h4⟩, h5, h7, h6⟩ | ⟨hr, eb, E, h1, h2, h3, ⟨x, h4⟩, h5, h6⟩) hk
  · exact Or.inl ⟨hr, g, kd, vb, E, Tk, qb, cq, h1, h2, h8, h9, h3.same (fun k h => hk k (h6 k h)), ⟨x, (hk mb h5).trans h4⟩, h5, h7, h6⟩
  · exact Or.inr ⟨hr, eb, E, h1.block (hk eb h6), h2, h3, ⟨x, (hk mb h5).trans h4⟩, h5, h6⟩

theorem good_ok : GoodOk Tab := fun _ _ h hb => h.below hb
end Go.Proofs.YtbmjlbcaplgfmaaGreatDoor

/-
  The queue's only task steps out of it, or goes back to it: what stays; and what a turn of it leaves.
-/
namespace Go.Proofs.YtbmjlbcaplgfmaaGreatDoor
open Go.RowKit

/-- The task sleeps. -/
def Zs (w w' : World) (g : Geo) (C : List B.In) (q : Nat) (kd : Nat → Bool) (vb : Nat → Nat) (s' : B.St) (E' : Nat → Value) (qb cq : Nat) : Prop :=
  ∃ kd' vb' Tk' zb zc U a, C[s'.1 - 1]? = some (17, a, 0, 0) ∧ U = B.aft g.clk (s'.2.1 a).2 ∧ (s'.2.1 a).1 = 0 ∧ Zzz w' g C q kd' vb' s' E' Tk' qb cq zb zc U ∧ (∀ p, 1 ≤ p → p ≤ g.n → kd' p = true → (kd p = true ∧ vb' p = vb p) ∨ w.heap.size ≤ vb' p) ∧ ((Value.slice g.sa 0 g.sc).ownBlock = some zb ∨ w.heap.size ≤ zb)
/-- What a turn of the only task leaves. -/
def Turned (w w' : World) (g : Geo) (C : List B.In) (q : Nat) (kd : Nat → Bool) (vb : Nat → Nat) (s : B.St) (qb cq : Nat) : Prop :=
  ∃ s' r ev, B.Runs2 g.clk C g.nr g.n q s s' r ev ∧ Only (FE g qb kd vb) w w' ∧
    ((r = 0 ∧ ∃ kd' vb' E' Tk' ad ne cap, Run w' g C q kd' vb' s' E' Tk' ∧ Tk' 2 = .bool false ∧ Tk' 3 = Pt g.eb 31 ∧ E' 31 = .slice (some ⟨qb, 0, none⟩) 1 cq ∧ w'.ownsRow 0 153 1 (.slice (some ⟨qb, 0, none⟩) 1 cq) 1 [P0 g.tb] ∧ E' 32 = .slice g.sa 0 g.sc ∧ w'.ownsRow 0 153 1 (.slice g.sa 0 g.sc) 0 [] ∧ E' 42 = .slice ad ne cap ∧ w'.ownsRow w.heap.size 48 3 (.slice ad ne cap) ne (evL ev) ∧ ∀ p, 1 ≤ p → p ≤ g.n → kd' p = true → (kd p = true ∧ vb' p = vb p) ∨ w.heap.size ≤ vb' p) ∨
     (r ≠ 0 ∧ ∃ E' ad ne cap, Full w' g.eb 143 43 43 E' ∧ Off g.clk E' r ∧ E' 42 = .slice ad ne cap ∧ w'.ownsRow w.heap.size 48 3 (.slice ad ne cap) ne (evL ev) ∧ (r = 4 → Zs w w' g C q kd vb s' E' qb cq)))

/-- The task runs, j instructions of its turn done. -/
def Going (w wr : World) (g : Geo) (C : List B.In) (q : Nat) (kd : Nat → Bool) (vb : Nat → Nat) (s : B.St) (Tk : Nat → Value) (qb cq j : Nat) : Prop :=
  ∃ kd' vb' s' E' ad ne cap ev, Run wr g C q kd' vb' s' E' Tk ∧ Mid wr g E' Tk w.heap.size qb cq ad ne cap ev ∧ ne ≤ j ∧ Only (FE g qb kd vb) w wr ∧ (∀ p, 1 ≤ p → p ≤ g.n → kd' p = true → (kd p = true ∧ vb' p = vb p) ∨ w.heap.size ≤ vb' p) ∧
    ∀ sf r ev2, B.Runs2 g.clk C g.nr g.n (q - j) s' sf r ev2 → B.Runs2 g.clk C g.nr g.n q s sf r (ev ++ ev2)
/-- The task runs no more. -/
def Gone (w wr : World) (g : Geo) (C : List B.In) (q : Nat) (kd : Nat → Bool) (vb : Nat → Nat) (s : B.St) (qb cq : Nat) : Prop :=
  ∃ s' r ev E' ad ne cap, r ≠ 0 ∧ B.Runs2 g.clk C g.nr g.n q s s' r ev ∧ Only (FE g qb kd vb) w wr ∧ Full wr g.eb 143 43 43 E' ∧ Off g.clk E' r ∧ E' 1 = .int .i64 q ∧ E' 42 = .slice ad ne cap ∧ wr.ownsRow w.heap.size 48 3 (.slice ad ne cap) ne (evL ev) ∧ wr.cell? ⟨g.tb, 2, none⟩ = some (.bool false) ∧ (r = 4 → Zs w wr g C q kd vb s' E' qb cq)

theorem going_on {w wr w' : World} {g : Geo} {C : List B.In} {q : Nat} {kd kd' : Nat → Bool} {vb vb' : Nat → Nat} {s s' : B.St} {E' Tk : Nat → Value} {qb cq j : Nat} {ad : Option Addr} {ne cap : Nat} {ev : List B.Ev}
    (hm : Mid wr g E' Tk w.heap.size qb cq ad ne cap ev) (hne : ne ≤ j) (hO : Only (FE g qb kd vb) w wr) (hv : ∀ p, 1 ≤ p → p ≤ g.n → kd' p = true → (kd p = true ∧ vb' p = vb p) ∨ w.heap.size ≤ vb' p)
    (hr : ∀ sf r ev2, B.Runs2 g.clk C g.nr g.n (q - j) s' sf r ev2 → B.Runs2 g.clk C g.nr g.n q s sf r (ev ++ ev2)) (hj : j < q) (h : Oned wr w' g C q kd' vb' Tk w.heap.size qb cq ad ne cap ev s') :
    Going w w' g C q kd vb s Tk qb cq (j + 1) ∨ Gone w w' g C q kd vb s qb cq := by
  obtain ⟨s1, r1, ev1, hs, hO1, h2⟩ := h
  have hO2 : Only (FE g qb kd vb) w w' := hO.trans hO1 (fun b hb hl => by
    rcases hb with h | h | h | h | h | h | h | h | ⟨p, p1, p2, p3, rfl⟩ | h | h
    · exact Or.inl (by omega)
    · exact Or.inl (by omega)
    · exact Or.inl (by omega)
    · exact Or.inl (by omega)
    · exact Or.inl (by omega)
    · exact Or.inl (by omega)
    · exact Or.inl (by omega)
    · exact Or.inl (by omega)
    · rcases hv p p1 p2 p3 with ⟨a, b⟩ | h
      · exact Or.inr (Or.inr (Or.inr (Or.inl ⟨p, p1, p2, a, b.symm⟩)))
      · omega
    · have := (own_ty hm.o42 b h).1
      omega
    · exact Or.inr (Or.inr (Or.inr (Or.inr h))))
  have hq : q - j = (q - (j + 1)) + 1 := by omega
  have hv2 : ∀ {kd2 : Nat → Bool} {vb2 : Nat → Nat}, (∀ p, 1 ≤ p → p ≤ g.n → kd2 p = true → (kd' p = true ∧ vb2 p = vb' p) ∨ wr.heap.size ≤ vb2 p) → ∀ p, 1 ≤ p → p ≤ g.n → kd2 p = true → (kd p = true ∧ vb2 p = vb p) ∨ w.heap.size ≤ vb2 p := by
    intro kd2 vb2 a4 p p1 p2 p3
    rcases a4 p p1 p2 p3 with ⟨x, y⟩ | x
    · rcases hv p p1 p2 x with ⟨x', y'⟩ | x'
      · exact Or.inl ⟨x', y.trans y'⟩
      · exact Or.inr (by omega)
    · exact Or.inr (Nat.le_trans hO.size x)
  rcases h2 with ⟨rfl, kd2, vb2, E2, ad2, ne2, cap2, a1, a2, a3, a4⟩ | ⟨hr1, E2, ad2, ne2, cap2, a1, a2, a2', a3, a4, a5, a6, a7⟩
  · refine Or.inl ⟨kd2, vb2, s1, E2, ad2, ne2, cap2, ev ++ ev1, a1, a2, by omega, hO2, hv2 a4, fun sf r ev2 h => ?_⟩
    rw [List.append_assoc]
    refine hr sf r _ ?_
    rw [hq]
    exact ⟨s1, 0, ev1, hs, Or.inl ⟨rfl, ev2, h, rfl⟩⟩
  · refine Or.inr ⟨s1, r1, ev ++ ev1, E2, ad2, ne2, cap2, hr1, hr s1 r1 ev1 ?_, hO2, a1, a2, a2', a3, a4, a6, fun e => ?_⟩
    · rw [hq]
      exact ⟨s1, r1, ev1, hs, Or.inr ⟨hr1, rfl, rfl, fun _ => rfl⟩⟩
    · obtain ⟨kd2, vb2, Tk', zb, zc, U, a, b1, b2, b2', b3, b4, b5⟩ := a7 e
      exact ⟨kd2, vb2, Tk', zb, zc, U, a, b1, b2, b2', b3, hv2 b4, b5.imp id (fun h => Nat.le_trans hO.size h)⟩
end Go.Proofs.YtbmjlbcaplgfmaaGreatDoor

/-
  The first task of the queue runs.
-/
namespace Go.Proofs.YtbmjlbcaplgfmaaGreatDoor
open Go.RowKit

set_option maxRecDepth 100000 in
set_option maxHeartbeats 4000000 in
theorem runFirst_any (g : Geo) (C : List B.In) (q : Nat) (kd : Nat → Bool) (vb : Nat → Nat) (s : B.St) (E Tk : Nat → Value) (qb cq : Nat) (w : World) (hQ : Que w g C q kd vb s E Tk qb cq) :
    Calls Tryz.prog 63 #[P0 g.eb] w fun e w' => e = .returned (.tuple #[]) ∧ Turned w w' g C q kd vb s qb cq := by
  have KQ := hid hQ
  have c31 := hQ.hR.hE.cell 31 (by omega)
  rw [hQ.e31] at c31
  have q0 := own_cell hQ.o31
  have le := hQ.hR.hE.lt
  have hem := empty_any g.eb 31 1 cq (some ⟨qb, 0, none⟩) w c31
  have hd1 : decide ((1 : Nat) = 0) = false := rfl
  rw [hd1] at hem
  have HEM := hid hem
  have HQQ := hid hQ.hq
  have hcq : 0 < cq := by
    rcases hQ.o31.2 with ⟨h, _⟩ | ⟨g', c', cur, h1, _, _, h4, _⟩
    · cases h
    · cases h1; omega
  clear hQ hem hd1
  go_enter Tryz.func63, Tryz.ntmps63
  go_wp2_with fail
  refine HEM.out.mono ?_
  rintro e w1 ⟨rfl, rfl⟩
  go_wp2_with fail
  refine (first_any g.eb 31 0 cq qb g.tb w1 c31 q0).mono ?_
  rintro e w2 ⟨rfl, rfl⟩
  go_wp2_with fail
  refine (stepOut_any g.eb g.tb qb cq 0 E Tk w2 KQ.out.hR.hE KQ.out.e31 KQ.out.hR.hK.hT KQ.out.t3 KQ.out.o31).mono ?_
  rintro e w3 ⟨rfl, ho3, hE3, hT3, hO3⟩
  obtain ⟨d2, z2⟩ := hT3.cells 2 (by omega)
  rw [upd_off _ _ _ _ (by omega), upd_off _ _ _ _ (by omega), KQ.out.t2] at d2
  have lt3 := hT3.lt
  have KO3 := hid hO3
  have KE3 := hid hE3
  have KT3 := hid hT3
  have KP3 := hid ho3
  clear ho3 hE3 hT3 hO3 c31 q0
  go_wp2_with fail
  have KO4 : Hid (Only (fun k => k = g.eb ∨ k = g.tb ∨ k = qb) w2 (w3.setCell ⟨g.tb, 2, none⟩ (.bool true))) := only_setCell KO3.out (Or.inl (Or.inr (Or.inl rfl))) _
  have hty := KQ.out.hR.ty
  have hqt : kty w2 qb = 153 := kty_own KQ.out.o31 rfl
  have hT4 : Full (w3.setCell ⟨g.tb, 2, none⟩ (.bool true)) g.tb 158 7 7 (upd (upd (upd Tk 3 (.pointer none)) 4 .nilFunc) 2 (.bool true)) := KT3.out.upd 2 _
  have KR4 : Hid (Run (w3.setCell ⟨g.tb, 2, none⟩ (.bool true)) g C q kd vb s (upd E 31 (.slice (some ⟨qb, 0, none⟩) 0 cq)) (upd (upd (upd Tk 3 (.pointer none)) 4 .nilFunc) 2 (.bool true))) :=
    KQ.out.hR.line KO4.out hqt KQ.out.h1 KQ.out.h2 (KE3.out.off (ne_ty hty.1 hty.2.1 (by decide))) (KQ.out.hR.eE.upd 31 _ (Or.inl rfl)) hT4 rfl rfl rfl
  have KM4 : Hid (Mid (w3.setCell ⟨g.tb, 2, none⟩ (.bool true)) g (upd E 31 (.slice (some ⟨qb, 0, none⟩) 0 cq)) (upd (upd (upd Tk 3 (.pointer none)) 4 .nilFunc) 2 (.bool true)) w2.heap.size qb cq none 0 0 []) :=
    { t2 := rfl, t3 := rfl, e31 := rfl, o31 := own_of KP3.out (fun k h => Below.heap_setCell _ _ _ _ (by injection h with h; subst h; exact fun e => ne_ty hqt hty.2.1 (by decide) e)), e42 := KQ.out.e42, o42 := World.ownsRow_nil _ _ _ _, hb := KO4.out.size, e32 := KQ.out.e32, h32 := KQ.out.h32, n32 := KQ.out.n32, nqb := ⟨fun e => KQ.out.h1 e.symm, fun e => KQ.out.h2 e.symm⟩, hcq := hcq,
      o32 := own_of KQ.out.o32 (fun k h => KO4.out.same (own_ty KQ.out.o32 k h).2.1 (by
        have h153 := kty_own KQ.out.o32 h
        rintro (rfl | rfl | rfl)
        · rw [hty.1] at h153; exact absurd h153 (by decide)
        · rw [hty.2.1] at h153; exact absurd h153 (by decide)
        · exact (KQ.out.n32 _ h).2.2 rfl)) }
  generalize hw4 : w3.setCell ⟨g.tb, 2, none⟩ (.bool true) = w4 at *
  generalize hTk : upd (upd (upd Tk 3 (.pointer none)) 4 .nilFunc) 2 (.bool true) = Tk1 at *
  have KF4 : Hid (Only (FE g qb kd vb) w2 w4) := KO4.out.mono (fun k h _ => by
    rcases h with h | h | h
    · exact Or.inl (by omega)
    · exact Or.inl (by omega)
    · exact Or.inr (Or.inl h))
  clear hw4 hTk hT4 hty hqt d2 z2 lt3 KO3 KE3 KT3 KP3 KO4
  go_loopw [3] (fun i wr => ∃ j : Nat, j ≤ q ∧ i = .int .i64 j ∧ Hid (Going w2 wr g C q kd vb s Tk1 qb cq j ∨ Gone w2 wr g C q kd vb s qb cq)) (fun i _ => q - (intOf i).toNat)
  case atStart => exact ⟨0, by omega, rfl, Or.inl ⟨kd, vb, s, _, none, 0, 0, [], KR4.out, KM4.out, by omega, KF4.out, fun p _ _ h => Or.inl ⟨h, rfl⟩, fun sf r ev2 h => by simpa using h⟩⟩
  case round =>
    obtain ⟨j, hj, rfl, hG⟩ := hrel
    rcases hG.out with hG1 | hG1
    · obtain ⟨kd', vb', s', E', ad, ne, cap, ev, hR, hm, hne, hO, hv, hr⟩ := hG1
      have e1 := hR.hE.cell 1 (by omega)
      rw [hR.eE.e1] at e1
      have t2 := hR.hK.hT.cell 2 (by omega)
      rw [hm.t2] at t2
      have lr := hR.hE.lt
      have lt := hR.hK.hT.lt
      have KR := hid hR
      have KM := hid hm
      have KV := hid (And.intro hO (And.intro hv hr))
      clear hR hm hO hv hr
      by_cases hlt : j < q
      · have hlt2 : (j : Int) < (q : Int) := by omega
        go_wp2_with fail
        refine (runOne_any g C q kd' vb' s' E' Tk1 w2.heap.size qb cq ad ne cap ev wr KR.out KM.out (by have := HQQ.out; omega)).mono ?_
        rintro e w5 ⟨rfl, h1⟩
        have HG := hid (going_on KM.out hne KV.out.1 KV.out.2.1 KV.out.2.2 hlt h1)
        clear h1 e1 t2
        go_wp2_with fail
        have hw : wrap64 ((j : Int) + 1) = ((j + 1 : Nat) : Int) := by
          rw [IntWalk.wrap64_in ((j : Int) + 1) ⟨by omega, by have := HQQ.out; omega⟩]; omega
        rw [hw]
        go_roundw
        case rel => exact ⟨j + 1, by omega, rfl, HG⟩
        case measure => simp [intOf]; omega
      · have hlt2 : ¬ ((j : Int) < (q : Int)) := by omega
        have hqt : kty wr qb = 153 := kty_own KM.out.o31 rfl
        have HQT := hid hqt
        have hjq : j = q := by omega
        have HJ := hid hjq
        clear hqt hjq
        go_wp2_with fail
        refine (join_room g.eb g.tb qb cq 0 E' Tk1 wr KR.out.hE KM.out.e31 KR.out.hK.hT KM.out.t3 KM.out.o31 hcq (by omega)).mono ?_
        rintro e w6 ⟨rfl, ho6, hE6, hT6, hO6⟩
        have hO7 : Only (fun k => k = g.eb ∨ k = g.tb ∨ k = qb) wr w6 := hO6.mono (fun k h _ => by
          rcases h with h | h | h
          · exact Or.inl h
          · exact Or.inr (Or.inl h)
          · refine Or.inr (Or.inr ?_)
            injection h with h; exact h.symm)
        have hR6 := KR.out.line hO7 HQT.out KQ.out.h1 KQ.out.h2 hE6 (KR.out.eE.upd 31 _ (Or.inl rfl)) hT6 rfl rfl rfl
        have hT : Turned w2 w6 g C q kd vb s qb cq := by
          refine ⟨s', 0, ev, ?_, KV.out.1.trans hO7 (fun k h _ => ?_), Or.inl ⟨rfl, kd', vb', _, _, ad, ne, cap, hR6, rfl, rfl, rfl, ho6, KM.out.e32, own_of KM.out.o32 (fun k h => ?_), KM.out.e42, own_of KM.out.o42 (fun k h => ?_), KV.out.2.1⟩⟩
          · have := KV.out.2.2 s' 0 [] (by rw [HJ.out, Nat.sub_self]; exact ⟨rfl, rfl, rfl⟩)
            simpa using this
          · rcases h with h | h | h
            · exact Or.inl (by omega)
            · exact Or.inl (by omega)
            · exact Or.inr (Or.inl h)
          · have h153 := kty_own KM.out.o32 h
            obtain ⟨y1, y2, _⟩ := KR.out.ty
            refine hO7.same (own_ty KM.out.o32 k h).2.1 ?_
            rintro (rfl | rfl | rfl)
            · rw [y1] at h153; exact absurd h153 (by decide)
            · rw [y2] at h153; exact absurd h153 (by decide)
            · exact (KM.out.n32 _ h).2.2 rfl
          · have h48 := kty_own KM.out.o42 h
            obtain ⟨y1, y2, _⟩ := KR.out.ty
            refine hO7.same (own_ty KM.out.o42 k h).2.1 ?_
            rintro (rfl | rfl | rfl)
            · rw [y1] at h48; exact absurd h48 (by decide)
            · rw [y2] at h48; exact absurd h48 (by decide)
            · rw [HQT.out] at h48; exact absurd h48 (by decide)
        have HT := hid hT
        clear ho6 hE6 hT6 hO6 hO7 hR6 hT e1 t2
        go_wp2_with fail
        go_end0
        exact ⟨rfl, HT.out⟩
    · obtain ⟨s', r, ev, E', ad, ne, cap, hr0, hr, hO, hE, hf, hq1, h42, o42, t2, hz⟩ := hG1
      have e1 := hE.cell 1 (by omega)
      rw [hq1] at e1
      have lr := hE.lt
      have lt : g.tb < wr.heap.size := by
        have := KQ.out.hR.hK.hT.lt
        have := hO.size
        omega
      have HT : Hid (Turned w2 wr g C q kd vb s qb cq) := ⟨s', r, ev, hr, hO, Or.inr ⟨hr0, E', ad, ne, cap, hE, hf, h42, o42, hz⟩⟩
      clear hr0 hr hO hE hf hq1 h42 o42 hz
      by_cases hlt : j < q
      · have hlt2 : (j : Int) < (q : Int) := by omega
        go_wp2_with fail
        go_end0
        exact ⟨rfl, HT.out⟩
      · have hlt2 : ¬ ((j : Int) < (q : Int)) := by omega
        go_wp2_with fail
        go_end0
        exact ⟨rfl, HT.out⟩
end Go.Proofs.YtbmjlbcaplgfmaaGreatDoor

/-
  A turn of the engine: of one whose task waits in the queue, and of one whose task runs no more; its state.
-/
namespace Go.Proofs.YtbmjlbcaplgfmaaGreatDoor
open Go.RowKit

/-- The same machine at another time. -/
def Geo.tick (g : Geo) (c : Int) : Geo := { g with clk := c }

section
variable {w w' : World} {g : Geo} {C : List B.In} {q : Nat} {kd : Nat → Bool} {vb : Nat → Nat} {s : B.St} {E E' Tk Tk' : Nat → Value} {bs qb cq : Nat}
theorem Que.grown (h : Que w g C q kd vb s E Tk qb cq) (hg : w.grownBy w' none) : Que w' g C q kd vb s E Tk qb cq :=
  { hR := h.hR.grown hg, t2 := h.t2, t3 := h.t3, e31 := h.e31, e42 := h.e42, h1 := h.h1, h2 := h.h2, hq := h.hq, e32 := h.e32, h32 := h.h32, n32 := h.n32, o31 := own_of h.o31 (fun k hb => hg.block k (own_ty h.o31 k hb).2.1 (by intro e; cases e)), o32 := own_of h.o32 (fun k hb => hg.block k (own_ty h.o32 k hb).2.1 (by intro e; cases e)) }
theorem Run.clock {c : Int} (h : Run w g C q kd vb s E Tk) (hc : 0 ≤ c ∧ c ≤ 9223372036854775807) : Run (w.setCell ⟨g.eb, 27, none⟩ (.int .i64 c)) (g.tick c) C q kd vb s (upd E 27 (.int .i64 c)) Tk := by
  obtain ⟨y1, y2, y3, y4, y5, y6, y7, y8, y9, y10⟩ := h.ty
  have hO : Only (fun k => k = g.eb) w (w.setCell ⟨g.eb, 27, none⟩ (.int .i64 c)) := only_setCell (S := fun k => k = g.eb) (only_refl _ _) (Or.inl rfl) _
  have hK := h.hK.kept hO (fun k hk _ => by subst hk; exact ⟨ne_ty y1 y8 (by decide), Or.inl y1⟩)
  have hu : ∀ j, j ≠ 27 → upd E 27 (.int .i64 c) j = E j := fun j hj => upd_off _ _ _ _ hj
  exact {
    hK := { hT := hK.hT, t0 := hK.t0, t1 := hK.t1, t6 := hK.t6, o28 := hK.o28, o29 := hK.o29, oK := hK.oK, hxe := hK.hxe, hxt := hK.hxt, hC := hK.hC, hA := hK.hA }
    hE := h.hE.upd 27 _
    eE := { e1 := (hu 1 (by omega)).trans h.eE.e1, eA := fun j h1 h2 => by
              by_cases e : j = 27
              · omega
              · exact (hu j e).trans (h.eE.eA j h1 h2)
            e26 := (hu _ (by omega)).trans h.eE.e26, e27 := upd_at _ _ _, e28 := (hu _ (by omega)).trans h.eE.e28, e29 := (hu _ (by omega)).trans h.eE.e29, e30 := (hu _ (by omega)).trans h.eE.e30, e41 := (hu _ (by omega)).trans h.eE.e41, hck := hc }
    hF := h.hF.keep hO (ne_ty y3 y1 (by decide)) (ne_ty y4 y1 (by decide))
    hS := h.hS.keep hO (ne_ty y5 y1 (by decide)) (ne_ty y6 y1 (by decide)) (fun p a b c => ne_ty (y10 p a b c) y1 (by decide))
    hH := h.hH, ok := h.ok, hn := h.hn, hp := h.hp, hvr := h.hvr, hro := h.hro }
theorem Que.clock {c : Int} (h : Que w g C q kd vb s E Tk qb cq) (hc : 0 ≤ c ∧ c ≤ 9223372036854775807) : Que (w.setCell ⟨g.eb, 27, none⟩ (.int .i64 c)) (g.tick c) C q kd vb s (upd E 27 (.int .i64 c)) Tk qb cq := by
  obtain ⟨y1, y2, _⟩ := h.hR.ty
  have hqt : kty w qb = 153 := kty_own h.o31 rfl
  exact { hR := h.hR.clock hc, t2 := h.t2, t3 := h.t3, e31 := h.e31, e42 := h.e42, h1 := h.h1, h2 := h.h2, hq := h.hq, e32 := h.e32, h32 := h.h32, n32 := h.n32,
          o31 := own_of h.o31 (fun k hb => Below.heap_setCell _ _ _ _ (by injection hb with hb; subst hb; exact ne_ty hqt y1 (by decide))),
          o32 := own_of h.o32 (fun k hb => Below.heap_setCell _ _ _ _ (ne_ty (kty_own h.o32 hb) y1 (by decide))) }
theorem Zzz.clock {c U : Int} {zb zc : Nat} (h : Zzz w g C q kd vb s E Tk qb cq zb zc U) (hc : 0 ≤ c ∧ c ≤ 9223372036854775807) : Zzz (w.setCell ⟨g.eb, 27, none⟩ (.int .i64 c)) (g.tick c) C q kd vb s (upd E 27 (.int .i64 c)) Tk qb cq zb zc U := by
  obtain ⟨y1, y2, _⟩ := h.hR.ty
  have hqt : kty w qb = 153 := kty_own h.o31 rfl
  have hzt : kty w zb = 153 := kty_own h.o32 rfl
  exact { hR := h.hR.clock hc, t2 := h.t2, t3 := h.t3, t5 := h.t5, e31 := h.e31, e32 := h.e32, nqb := h.nqb, hcq := h.hcq, nzb := h.nzb,
          o31 := own_of h.o31 (fun k hb => Below.heap_setCell _ _ _ _ (by injection hb with hb; subst hb; exact ne_ty hqt y1 (by decide))),
          o32 := own_of h.o32 (fun k hb => Below.heap_setCell _ _ _ _ (by injection hb with hb; subst hb; exact ne_ty hzt y1 (by decide))) }
theorem Zzz.told {v : Value} {U : Int} {zb zc : Nat} (h : Zzz w g C q kd vb s E Tk qb cq zb zc U) : Zzz (w.setCell ⟨g.eb, 42, none⟩ v) g C q kd vb s (upd E 42 v) Tk qb cq zb zc U := by
  obtain ⟨y1, y2, _⟩ := h.hR.ty
  have hqt : kty w qb = 153 := kty_own h.o31 rfl
  have hzt : kty w zb = 153 := kty_own h.o32 rfl
  exact { hR := h.hR.lines (Z := fun _ => False) (only_setCell (only_refl _ _) (Or.inl (Or.inl rfl)) _) (fun _ e => e.elim) id id (h.hR.hE.upd 42 _) (h.hR.eE.upd 42 _ (Or.inr (Or.inr rfl))) (h.hR.hK.hT.off (ne_ty y2 y1 (by decide))) rfl rfl rfl, t2 := h.t2, t3 := h.t3, t5 := h.t5, e31 := h.e31, e32 := h.e32, nqb := h.nqb, hcq := h.hcq, nzb := h.nzb,
          o31 := own_of h.o31 (fun k hb => Below.heap_setCell _ _ _ _ (by injection hb with hb; subst hb; exact ne_ty hqt y1 (by decide))),
          o32 := own_of h.o32 (fun k hb => Below.heap_setCell _ _ _ _ (by injection hb with hb; subst hb; exact ne_ty hzt y1 (by decide))) }
end

/-- What a turn of the engine leaves, its events in a list. -/
def Etd (w w' : World) (g : Geo) (C : List B.In) (q : Nat) (kd : Nat → Bool) (vb : Nat → Nat) (s : B.St) (qb cq : Nat) (v : Value) : Prop :=
  ∃ s' r ev ad ne cap, v = .slice ad ne cap ∧ B.Runs2 g.clk C g.nr g.n q s s' r ev ∧ Only (FE g qb kd vb) w w' ∧ w'.ownsRow w.heap.size 48 3 (.slice ad ne cap) ne (evL ev) ∧
    ((r = 0 ∧ ∃ kd' vb' E' Tk', Que w' g C q kd' vb' s' E' Tk' qb cq ∧ ∀ p, 1 ≤ p → p ≤ g.n → kd' p = true → (kd p = true ∧ vb' p = vb p) ∨ w.heap.size ≤ vb' p) ∨
     (r ≠ 0 ∧ ∃ E', Full w' g.eb 143 43 43 E' ∧ Off g.clk E' r ∧ E' 42 = .slice none 0 0 ∧ (r = 4 → Zs w w' g C q kd vb s' E' qb cq)))

theorem etd_of {w w1 w' : World} {g : Geo} {C : List B.In} {q : Nat} {kd : Nat → Bool} {vb : Nat → Nat} {s : B.St} {qb cq : Nat} (h1 : g.lb ≠ qb) (h2 : g.xt ≠ qb) (hq : 1 ≤ q ∧ q ≤ 50) (h32 : g.sa ≠ none → 0 < g.sc) (n32 : ∀ k, (Value.slice g.sa 0 g.sc).ownBlock = some k → k ≠ g.lb ∧ k ≠ g.xt ∧ k ≠ qb) (hO : Only (FE g qb kd vb) w w1) (h : Turned w1 w' g C q kd vb s qb cq) :
    ∃ E' v, Full w' g.eb 143 43 43 E' ∧ E' 42 = v ∧ (∃ ad ne cap, v = .slice ad ne cap) ∧ Etd w (w'.setCell ⟨g.eb, 42, none⟩ (.slice none 0 0)) g C q kd vb s qb cq v := by
  obtain ⟨s', r, ev, hr, hO1, hh⟩ := h
  have hO2 : Only (FE g qb kd vb) w (w'.setCell ⟨g.eb, 42, none⟩ (.slice none 0 0)) := only_setCell (hO.trans hO1 (fun _ h _ => h)) (Or.inl (Or.inl (Or.inl rfl))) _
  rcases hh with ⟨rfl, kd', vb', E', Tk', ad, ne, cap, hR, t2, t3, e31, o31, e32, o32, e42, o42, hv⟩ | ⟨hr0, E', ad, ne, cap, hE, hf, e42, o42, hz⟩
  · obtain ⟨y1, y2, _⟩ := hR.ty
    have hqt : kty w' qb = 153 := kty_own o31 rfl
    have hne : ∀ k, (Value.slice ad ne cap).ownBlock = some k → k ≠ g.eb := fun k hk e => by
      have := kty_own o42 hk
      rw [e, y1] at this; exact absurd this (by decide)
    refine ⟨E', _, hR.hE, e42, ⟨_, _, _, rfl⟩, s', 0, ev, ad, ne, cap, rfl, hr, hO2, ?_, Or.inl ⟨rfl, kd', vb', upd E' 42 (.slice none 0 0), Tk', ?_, fun p a b c => ?_⟩⟩
    · refine own_of (w := w') ?_ (fun k hk => Below.heap_setCell _ _ _ _ (hne k hk))
      rcases o42 with ⟨a, b | ⟨g', c', cur, b1, b2, b3⟩⟩
      · exact ⟨a, Or.inl b⟩
      · exact ⟨a, Or.inr ⟨g', c', cur, b1, Nat.le_trans hO.size b2, b3⟩⟩
    · exact { hR := hR.line (only_setCell (only_refl _ _) (Or.inl (Or.inl rfl)) _) hqt h1 h2 (hR.hE.upd 42 _) (hR.eE.upd 42 _ (Or.inr (Or.inr rfl))) (hR.hK.hT.off (ne_ty y2 y1 (by decide))) rfl rfl rfl, t2 := t2, t3 := t3, e31 := e31, e42 := rfl, h1 := h1, h2 := h2, hq := hq, e32 := e32, h32 := h32, n32 := n32,
              o32 := own_of o32 (fun k hb => Below.heap_setCell _ _ _ _ (ne_ty (kty_own o32 hb) y1 (by decide))),
              o31 := own_of o31 (fun k hb => Below.heap_setCell _ _ _ _ (by injection hb with hb; subst hb; exact ne_ty hqt y1 (by decide))) }
    · exact (hv p a b c).imp id (fun h => Nat.le_trans hO.size h)
  · have hne : ∀ k, (Value.slice ad ne cap).ownBlock = some k → k ≠ g.eb := fun k hk e => by
      have := kty_own o42 hk
      rw [e, kty_full hE] at this; exact absurd this (by decide)
    refine ⟨E', _, hE, e42, ⟨_, _, _, rfl⟩, s', r, ev, ad, ne, cap, rfl, hr, hO2, ?_, Or.inr ⟨hr0, upd E' 42 (.slice none 0 0), hE.upd 42 _, hf, rfl, fun e => ?_⟩⟩
    rotate_left
    · obtain ⟨kd', vb', Tk', zb, zc, U, a, b1, b2, b2', b3, b4, b5⟩ := hz e
      exact ⟨kd', vb', Tk', zb, zc, U, a, b1, b2, b2', b3.told, fun p x y z => (b4 p x y z).imp id (fun h => Nat.le_trans hO.size h), b5.imp id (fun h => Nat.le_trans hO.size h)⟩
    refine own_of (w := w') ?_ (fun k hk => Below.heap_setCell _ _ _ _ (hne k hk))
    rcases o42 with ⟨a, b | ⟨g', c', cur, b1, b2, b3⟩⟩
    · exact ⟨a, Or.inl b⟩
    · exact ⟨a, Or.inr ⟨g', c', cur, b1, Nat.le_trans hO.size b2, b3⟩⟩

set_option maxRecDepth 100000 in
set_option maxHeartbeats 4000000 in
theorem eturn_any (tk : Int) (g : Geo) (C : List B.In) (q : Nat) (kd : Nat → Bool) (vb : Nat → Nat) (s : B.St) (E Tk : Nat → Value) (qb cq : Nat) (w : World) (hQ : Que w g C q kd vb s E Tk qb cq) :
    Calls Tryz.prog 37 #[P0 g.eb, .int .i64 tk, .slice none 0 0] w fun e w' => ∃ v, e = .returned v ∧ Etd w w' (g.tick (B.aft g.clk tk)) C q kd vb s qb cq v := by
  have KQ := hid hQ
  obtain ⟨c27, z27⟩ := hQ.hR.hE.cells 27 (by omega)
  rw [hQ.hR.eE.e27] at c27
  have le := hQ.hR.hE.lt
  have haf := after_gen g.eb g.clk tk w c27 hQ.hR.eE.hck.1 hQ.hR.eE.hck.2
  have hin := B.aft_in (t := tk) hQ.hR.eE.hck.1 hQ.hR.eE.hck.2
  have HIN := hid hin
  generalize hc : B.aft g.clk tk = c at *
  have HAF := hid haf
  clear hQ haf hc hin
  go_enter Tryz.func37, Tryz.ntmps37
  go_wp2_with fail
  refine HAF.out.mono ?_
  rintro e w1 ⟨rfl, rfl⟩
  go_wp2_with fail
  have KQ1 := hid (KQ.out.clock HIN.out)
  have KO1 : Hid (Only (FE g qb kd vb) w1 (w1.setCell ⟨g.eb, 27, none⟩ (.int .i64 c))) := only_setCell (only_refl _ _) (Or.inl (Or.inl (Or.inl rfl))) _
  generalize hw2 : w1.setCell ⟨g.eb, 27, none⟩ (.int .i64 c) = w2 at *
  clear hw2 c27 z27 HAF
  refine (receive_any g.eb w2).mono ?_
  rintro e w3 ⟨rfl, rfl⟩
  have c28 : w3.cell? ⟨g.eb, 28, none⟩ = some (.slice (some ⟨g.lb, 0, none⟩) 1 g.cl) := (KQ1.out.hR.hE.cell 28 (by omega)).trans (by rw [KQ1.out.hR.eE.e28]; rfl)
  have c41 : w3.cell? ⟨g.eb, 41, none⟩ = some (.bool false) := (KQ1.out.hR.hE.cell 41 (by omega)).trans (by rw [KQ1.out.hR.eE.e41])
  have c32 : w3.cell? ⟨g.eb, 32, none⟩ = some (.slice g.sa 0 g.sc) := (KQ1.out.hR.hE.cell 32 (by omega)).trans (by rw [KQ1.out.e32]; rfl)
  have le2 : g.eb < w3.heap.size := KQ1.out.hR.hE.lt
  have hlv := lives_any g.eb 1 g.cl (some ⟨g.lb, 0, none⟩) w3 c28
  have hd1 : decide (0 < 1) = true := rfl
  rw [hd1] at hlv
  have HLV := hid hlv
  clear hlv hd1 c28
  go_wp2_with fail
  refine HLV.out.mono ?_
  rintro e w4 ⟨rfl, rfl⟩
  go_wp2_with fail
  refine (wake_any g.eb g.sc g.sa w4 c32).mono ?_
  rintro e w5 ⟨rfl, hg5⟩
  have KQ5 := hid (KQ1.out.grown hg5)
  have KO5 := hid (KO1.out.then0 hg5)
  clear hg5 c41 c32 HLV
  go_wp2_with fail
  refine (runFirst_any (g.tick c) C q kd vb s _ Tk qb cq w5 KQ5.out).mono ?_
  rintro e w6 ⟨rfl, hT⟩
  obtain ⟨E', v, hE6, e42, ⟨ad, ne, cap, rfl⟩, hE⟩ := etd_of (g := g.tick c) KQ.out.h1 KQ.out.h2 KQ.out.hq KQ.out.h32 KQ.out.n32 KO5.out hT
  obtain ⟨d42', z42'⟩ := hE6.cells 42 (by omega)
  rw [e42] at d42'
  have d42 : w6.cell? ⟨g.eb, 42, none⟩ = some (.slice ad ne cap) := d42'
  have z42 : w6.frozen? ⟨g.eb, 42, none⟩ = false := z42'
  clear d42' z42'
  have le6 : g.eb < w6.heap.size := hE6.lt
  have HR := hid hE
  clear hT hE6 e42 hE
  go_wp2_with fail
  go_ret
  exact ⟨_, rfl, HR.out⟩

set_option maxRecDepth 100000 in
set_option maxHeartbeats 4000000 in
theorem eturn_off (eb r : Nat) (E : Nat → Value) (w : World) (hE : Full w eb 143 43 43 E) (hf : Off 0 E r) (h42 : E 42 = .slice none 0 0) (hr : r = 1 ∨ r = 2) :
    Calls Tryz.prog 37 #[P0 eb, .int .i64 0, .slice none 0 0] w fun e w' => e = .returned (.slice none 0 0) ∧ Full w' eb 143 43 43 E ∧ Only (fun k => k = eb) w w' := by
  obtain ⟨c27, z27⟩ := hE.cells 27 (by omega)
  rw [hf.1] at c27
  have le := hE.lt
  have HAF := hid (after_any eb w c27)
  have hE2 : Full (w.setCell ⟨eb, 27, none⟩ (.int .i64 0)) eb 143 43 43 E := (hE.upd 27 _).congr (fun j _ => by
    by_cases e : j = 27
    · subst e; rw [upd_at, hf.1]
    · rw [upd_off _ _ _ _ e])
  have KE2 := hid hE2
  have KO2 : Hid (Only (fun k => k = eb) w (w.setCell ⟨eb, 27, none⟩ (.int .i64 0))) := only_setCell (S := fun k => k = eb) (only_refl _ _) (Or.inl rfl) _
  have HF := hid hf
  have H42 := hid h42
  clear hE hE2 hf h42
  go_enter Tryz.func37, Tryz.ntmps37
  go_wp2_with fail
  refine HAF.out.mono ?_
  rintro e w1 ⟨rfl, rfl⟩
  go_wp2_with fail
  generalize hw2 : w1.setCell ⟨eb, 27, none⟩ (.int .i64 0) = w2 at *
  clear hw2 c27 z27 HAF
  refine (receive_any eb w2).mono ?_
  rintro e w3 ⟨rfl, rfl⟩
  have le2 := KE2.out.lt
  have c28 := KE2.out.cell 28 (by omega)
  have c41 := KE2.out.cell 41 (by omega)
  obtain ⟨c42, z42⟩ := KE2.out.cells 42 (by omega)
  rw [H42.out] at c42
  have HR : Hid (Full (w3.setCell ⟨eb, 42, none⟩ (.slice none 0 0)) eb 143 43 43 E ∧ Only (fun k => k = eb) w1 (w3.setCell ⟨eb, 42, none⟩ (.slice none 0 0))) := by
    refine ⟨(KE2.out.upd 42 _).congr (fun j _ => ?_), only_setCell (S := fun k => k = eb) KO2.out (Or.inl rfl) _⟩
    by_cases e : j = 42
    · subst e; rw [upd_at, H42.out]
    · rw [upd_off _ _ _ _ e]
  obtain ⟨a, n, c, s28, so⟩ : ∃ (a : Option Addr) (n c : Nat), E 28 = .slice a n c ∧ (n = 0 ∨ E 41 = .bool true) := by
    rcases hr with rfl | rfl
    · obtain ⟨⟨a, c, h⟩, _⟩ := HF.out.2.1 rfl
      exact ⟨a, 0, c, h, Or.inl rfl⟩
    · obtain ⟨⟨a, n, c, h⟩, h'⟩ := HF.out.2.2 rfl
      exact ⟨a, n, c, h, Or.inr h'⟩
  rw [s28] at c28
  have hlv := lives_any eb n c a w3 c28
  by_cases hn : n = 0
  · subst hn
    have hd1 : decide (0 < 0) = false := rfl
    rw [hd1] at hlv
    have HLV := hid hlv
    clear hlv hd1 c28 c41 so s28
    go_wp2_with fail
    refine HLV.out.mono ?_
    rintro e w4 ⟨rfl, rfl⟩
    go_wp2_with fail
    go_ret
    exact ⟨rfl, HR.out⟩
  · have hd1 : decide (0 < n) = true := by simp; omega
    rw [hd1] at hlv
    have HLV := hid hlv
    rw [so.resolve_left hn] at c41
    clear hlv hd1 c28 so s28
    go_wp2_with fail
    refine HLV.out.mono ?_
    rintro e w4 ⟨rfl, rfl⟩
    go_wp2_with fail
    go_ret
    exact ⟨rfl, HR.out⟩

set_option maxRecDepth 100000 in
set_option maxHeartbeats 4000000 in
theorem estate_any (eb r n c m c' : Nat) (a a' : Option Addr) (w : World) (h41 : w.cell? ⟨eb, 41, none⟩ = some (.bool (decide (r = 2)))) (h28 : w.cell? ⟨eb, 28, none⟩ = some (.slice a n c)) (h31 : r = 0 → w.cell? ⟨eb, 31, none⟩ = some (.slice a' m c')) (hn : r = 0 → 0 < n ∧ 0 < m) (hn1 : r = 1 → n = 0) (hr : r < 3) :
    Calls Tryz.prog 38 #[P0 eb] w fun e w' => e = .returned (.int .i64 (if r = 0 then 1 else if r = 1 then 4 else 5)) ∧ w' = w := by
  have hlv := lives_any eb n c a w h28
  have : r = 0 ∨ r = 1 ∨ r = 2 := by omega
  rcases this with rfl | rfl | rfl
  · have hd1 : decide (0 < n) = true := by have := hn rfl; simp; omega
    have hem := empty_any eb 31 m c' a' w (h31 rfl)
    have hd2 : decide (m = 0) = false := by have := hn rfl; simp; omega
    rw [hd1] at hlv
    rw [hd2] at hem
    have HLV := hid hlv
    have HEM := hid hem
    clear hlv hem hd1 hd2 h28 hn hn1 h31
    have h41' : w.cell? ⟨eb, 41, none⟩ = some (.bool false) := h41
    clear h41
    go_enter Tryz.func38, Tryz.ntmps38
    go_wp2_with fail
    refine HLV.out.mono ?_
    rintro e w4 ⟨rfl, rfl⟩
    go_wp2_with fail
    refine HEM.out.mono ?_
    rintro e w4 ⟨rfl, rfl⟩
    go_wp2_with fail
    go_ret
    exact ⟨rfl, rfl⟩
  · have hn' := hn1 rfl
    subst hn'
    have hd1 : decide (0 < 0) = false := rfl
    rw [hd1] at hlv
    have HLV := hid hlv
    have h41' : w.cell? ⟨eb, 41, none⟩ = some (.bool false) := h41
    clear hlv hd1 h28 hn hn1 h41 h31
    go_enter Tryz.func38, Tryz.ntmps38
    go_wp2_with fail
    refine HLV.out.mono ?_
    rintro e w4 ⟨rfl, rfl⟩
    go_wp2_with fail
    go_ret
    exact ⟨rfl, rfl⟩
  · have h41' : w.cell? ⟨eb, 41, none⟩ = some (.bool true) := h41
    clear hlv h28 hn hn1 h41 h31
    go_enter Tryz.func38, Tryz.ntmps38
    go_wp2_with fail
    go_ret
    exact ⟨rfl, rfl⟩
end Go.Proofs.YtbmjlbcaplgfmaaGreatDoor
