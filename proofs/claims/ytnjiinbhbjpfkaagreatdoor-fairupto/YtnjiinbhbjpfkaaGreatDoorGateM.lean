/-
  The instruction Call, over contracts for what it calls.
-/
import Derived.Test.YtnjiinbhbjpfkaaGreatDoorGateL
set_option linter.unusedSimpArgs false
set_option linter.unusedVariables false
namespace Go.Proofs.YtnjiinbhbjpfkaaGreatDoor
open Go.RowKit
def callR (ok : Bool) (m : Nat) : Int := if ok = false then 4 else if m = 20 then 5 else 0
set_option maxRecDepth 100000 in
set_option maxHeartbeats 2000000 in
theorem callL (op a b c fb tb eb sb m ck ff : Nat) (x y cg : B.V) (ok : Bool) (ao : Option Addr) (R : World → Prop) (w : World)
    (hb : ∀ w1, w.grownBy w1 none → Calls Tryz.prog 86 #[stepV op a b c fb tb eb] w1 fun e w' => e = .returned (vA x) ∧ w1.grownBy w' none)
    (hf : ∀ w1, w.grownBy w1 none → Calls Tryz.prog 162 #[P0 sb, vA x] w1 fun e w' => e = .returned (.tuple #[.int .i64 ff, vA cg, .bool ok]) ∧ w1.grownBy w' none)
    (hc : ∀ w1, w.grownBy w1 none → Calls Tryz.prog 94 #[stepV op a b c fb tb eb] w1 fun e w' => e = .returned (vA y) ∧ w1.grownBy w' none)
    (he : ok = true → m ≠ 20 → ∀ w1, w.grownBy w1 none → Calls Tryz.prog 119 #[P0 eb, P0 tb, .int .i64 ff, vA y, vA cg, .func (.func 149) #[stepV op a b c fb tb eb] #[]] w1 fun e w' => e = .returned (.tuple #[]) ∧ R w' ∧ ∀ k, w.heap.size ≤ k → k < w1.heap.size → w'.heap[k]? = w1.heap[k]?)
    (h0 : ∀ w1, w.grownBy w1 none → (ok = false ∨ m = 20) → R w1)
    (c27 : w.cell? ⟨eb, 27, none⟩ = some (P0 sb)) (c1 : w.cell? ⟨tb, 1, none⟩ = some (.slice ao m ck)) :
    Calls Tryz.prog 104 #[stepV op a b c fb tb eb] w fun e w' => e = .returned (.int .i64 (callR ok m)) ∧ R w' := by
  have HB := hid hb
  have HF := hid hf
  have HC := hid hc
  have HE := hid he
  have H0 := hid h0
  have le := cell_lt c27
  have lt := cell_lt c1
  clear hb hf hc he h0
  go_enter Tryz.func104, Tryz.ntmps104
  go_wp2_with fail
  have HX1 := hid (s7_new w op a b c fb tb eb)
  have KG1 := hid (World.grownBy_alloc w (.cells #[.int .u8 (op : Int), .int .u8 (a : Int), .int .u8 (b : Int), .int .u8 (c : Int), P0 fb, P0 tb, P0 eb] 186) none)
  generalize hW : w.alloc (.cells #[.int .u8 (op : Int), .int .u8 (a : Int), .int .u8 (b : Int), .int .u8 (c : Int), P0 fb, P0 tb, P0 eb] 186) = w1 at *
  have HZ1 : Hid (w1.heap.size = w.heap.size + 1) := by show _ = _; rw [← hW]; simp
  clear hW
  have HK : Hid (∀ w', w.grownBy w' none → w'.heap[w.heap.size]? = some (stpB op a b c fb tb eb) → w'.cell? ⟨w.heap.size, 0, none⟩ = some (.int .u8 (op : Int)) ∧ w'.cell? ⟨w.heap.size, 1, none⟩ = some (.int .u8 (a : Int)) ∧ w'.cell? ⟨w.heap.size, 2, none⟩ = some (.int .u8 (b : Int)) ∧ w'.cell? ⟨w.heap.size, 3, none⟩ = some (.int .u8 (c : Int)) ∧ w'.cell? ⟨w.heap.size, 4, none⟩ = some (P0 fb) ∧ w'.cell? ⟨w.heap.size, 5, none⟩ = some (P0 tb) ∧ w'.cell? ⟨w.heap.size, 6, none⟩ = some (P0 eb) ∧ w'.cell? ⟨eb, 27, none⟩ = some (P0 sb)) := fun w' hg hx => by
    obtain ⟨x0, x1, x2, x3, x4, x5, x6⟩ := s7_of hx
    exact ⟨x0, x1, x2, x3, x4, x5, x6, (grown_cell hg (a := ⟨eb, 27, none⟩) le).1.trans c27⟩
  have HKS : Hid (∀ (w' : World) (B : Nat) (u v : Value), w.grownBy w' none → w'.heap[w.heap.size]? = some (stpB op a b c fb tb eb) → w.heap.size < B → w.grownBy ((w'.setCell ⟨B, 0, none⟩ u).setCell ⟨B, 1, none⟩ v) none ∧ ((w'.setCell ⟨B, 0, none⟩ u).setCell ⟨B, 1, none⟩ v).heap[w.heap.size]? = some (stpB op a b c fb tb eb)) := fun w' B u v hg hx hB =>
    ⟨grown_setCell (grown_setCell hg (Or.inr (Nat.le_of_lt hB)) _) (Or.inr (Nat.le_of_lt hB)) _, ((Below.heap_setCell _ _ _ _ (Nat.ne_of_lt hB)).trans (Below.heap_setCell _ _ _ _ (Nat.ne_of_lt hB))).trans hx⟩
  have HKT : Hid (∀ (w' : World) (B : Nat) (u v : Value) (hg : w.grownBy w' none) (hx : w'.heap[w.heap.size]? = some (stpB op a b c fb tb eb)) (hB : w.heap.size < B), _) := fun w' B u v hg hx hB => HK.out _ (HKS.out w' B u v hg hx hB).1 (HKS.out w' B u v hg hx hB).2
  have HZ : Hid (∀ (w' : World) (o : Obj) (k : Nat) (o' : Obj), w'.heap[k]? = some o' → (w'.alloc o).heap[k]? = some o') := fun w' o k o' hk => by
    rw [Below.heap_alloc _ _ _ (heap_lt hk)]; exact hk
  go_region_held3 (fun w' => w'.cell? ⟨w.heap.size, 0, none⟩ = some (.int .u8 (op : Int)) ∧ w'.cell? ⟨w.heap.size, 1, none⟩ = some (.int .u8 (a : Int)) ∧ w'.cell? ⟨w.heap.size, 2, none⟩ = some (.int .u8 (b : Int)) ∧ w'.cell? ⟨w.heap.size, 3, none⟩ = some (.int .u8 (c : Int)) ∧ w'.cell? ⟨w.heap.size, 4, none⟩ = some (P0 fb) ∧ w'.cell? ⟨w.heap.size, 5, none⟩ = some (P0 tb) ∧ w'.cell? ⟨w.heap.size, 6, none⟩ = some (P0 eb) ∧ w'.cell? ⟨eb, 27, none⟩ = some (P0 sb)) (first | exact HK.out _ (grown_drew KG1.out) HX1.out | exact HK.out _ (grown_alloc (grown_drew KG1.out) _) (HZ.out _ _ _ _ HX1.out) | exact HK.out _ KG2.out HX2.out | exact HK.out _ (grown_alloc KG2.out _) (HZ.out _ _ _ _ HX2.out) | exact HK.out _ KG3.out HX3.out | exact HK.out _ (grown_alloc KG3.out _) (HZ.out _ _ _ _ HX3.out) | exact HKT.out w3 _ _ _ KG3.out HX3.out HLB.out | exact HKT.out _ _ _ _ (grown_alloc KG3.out _) (HZ.out _ _ _ _ HX3.out) (heap_lt HX3.out)) (first | (go_at_call 86; refine (HB.out w1.drew (grown_drew KG1.out)).mono ?_; rintro e w2 ⟨rfl, hg2⟩; have KG2 : Hid (w.grownBy w2 none) := grown_trans (grown_drew KG1.out) hg2; have HX2 := hid (grown_out hg2 (show w1.drew.heap[w.heap.size]? = _ from HX1.out)); have HBX : Hid True := trivial; clear hg2) | (go_at_call 86; refine (HB.out (w1.drew.alloc (.cells #[.int .i64 0, .int .i64 0] 149)) (grown_alloc (grown_drew KG1.out) _)).mono ?_; rintro e w2 ⟨rfl, hg2⟩; have KG2 : Hid (w.grownBy w2 none) := grown_trans (grown_alloc (grown_drew KG1.out) _) hg2; have HX2 := hid (grown_out hg2 (HZ.out w1.drew _ _ _ HX1.out)); have HBX : Hid (w2.heap[w1.heap.size]? = some (.cells #[.int .i64 0, .int .i64 0] 149 (0, 0))) := grown_out hg2 (heap_alloc_new w1.drew _); clear hg2) | (go_at_call 162; refine (HF.out w2 KG2.out).mono ?_; rintro e w3 ⟨rfl, hg3⟩; have KG3 : Hid (w.grownBy w3 none) := grown_trans KG2.out hg3; have HX3 := hid (grown_out hg3 HX2.out); have hbx := grown_out hg3 HBX.out; have HLB : Hid (w.heap.size < w1.heap.size) := (by show _ < _; rw [HZ1.out]; omega); have r0 : w3.cell? ⟨w1.heap.size, 0, none⟩ = some (.int .i64 0) := (by simp [World.cell?, hbx]); have r1 : w3.cell? ⟨w1.heap.size, 1, none⟩ = some (.int .i64 0) := (by simp [World.cell?, hbx]); have r2 : w3.frozen? ⟨w1.heap.size, 0, none⟩ = false := (by simp [World.frozen?, hbx]); have r3 : w3.frozen? ⟨w1.heap.size, 1, none⟩ = false := (by simp [World.frozen?, hbx]); have lB := heap_lt hbx; clear hbx; clear hg3) | (go_at_call 162; refine (HF.out w2 KG2.out).mono ?_; rintro e w3 ⟨rfl, hg3⟩; have KG3 : Hid (w.grownBy w3 none) := grown_trans KG2.out hg3; have HX3 := hid (grown_out hg3 HX2.out); clear hg3) | (go_at_call 162; refine (HF.out (w2.alloc (.cells #[.int .i64 0, .int .i64 0] 149)) (grown_alloc KG2.out _)).mono ?_; rintro e w3 ⟨rfl, hg3⟩; have KG3 : Hid (w.grownBy w3 none) := grown_trans (grown_alloc KG2.out _) hg3; have HX3 := hid (grown_out hg3 (HZ.out w2 _ _ _ HX2.out)); have hbx : w3.heap[w2.heap.size]? = some (.cells #[.int .i64 0, .int .i64 0] 149 (0, 0)) := grown_out hg3 (heap_alloc_new w2 _); have HLB : Hid (w.heap.size < w2.heap.size) := heap_lt HX2.out; have r0 : w3.cell? ⟨w2.heap.size, 0, none⟩ = some (.int .i64 0) := (by simp [World.cell?, hbx]); have r1 : w3.cell? ⟨w2.heap.size, 1, none⟩ = some (.int .i64 0) := (by simp [World.cell?, hbx]); have r2 : w3.frozen? ⟨w2.heap.size, 0, none⟩ = false := (by simp [World.frozen?, hbx]); have r3 : w3.frozen? ⟨w2.heap.size, 1, none⟩ = false := (by simp [World.frozen?, hbx]); have lB := heap_lt hbx; clear hbx; clear hg3))
  · rename_i hh
    clear hh
    have KG4 : Hid (w.grownBy ((w3.alloc (.cells #[.int .i64 (cg.1 : Int), .int .i64 cg.2] 149))) none) := grown_alloc KG3.out _
    have HX4 : Hid (((w3.alloc (.cells #[.int .i64 (cg.1 : Int), .int .i64 cg.2] 149))).heap[w.heap.size]? = some (stpB op a b c fb tb eb)) := HZ.out _ _ _ _ HX3.out
    have u0 : ((w3.alloc (.cells #[.int .i64 (cg.1 : Int), .int .i64 cg.2] 149))).cell? ⟨w3.heap.size, 0, none⟩ = some (.int .i64 (cg.1 : Int)) := by simp [go_sem]
    have u1 : ((w3.alloc (.cells #[.int .i64 (cg.1 : Int), .int .i64 cg.2] 149))).cell? ⟨w3.heap.size, 1, none⟩ = some (.int .i64 cg.2) := by simp [go_sem]
    have lB := cell_lt u0
    have HBW : Hid (w.heap.size ≤ w3.heap.size) := KG3.out.size
    generalize (w3.alloc (.cells #[.int .i64 (cg.1 : Int), .int .i64 cg.2] 149)) = w4 at *
    generalize w3.heap.size = B at *
    obtain ⟨x0, x1, x2, x3, x4, x5, x6⟩ := s7_of HX4.out
    have lx := heap_lt HX4.out
    have d1 := (grown_cell KG4.out (a := ⟨tb, 1, none⟩) lt).1.trans c1
    have lt4 : tb < w4.heap.size := Nat.lt_of_lt_of_le lt KG4.out.size
    have le4 : eb < w4.heap.size := Nat.lt_of_lt_of_le le KG4.out.size
    cases ok with
    | false =>
      go_wp2_with fail
      go_ret
      exact ⟨rfl, H0.out _ KG4.out (Or.inl (by first | rfl | trivial))⟩
    | true =>
      by_cases hm : m = 20
      · have hmi : (m : Int) = 20 := by omega
        have HM := hid hm
        clear hm
        go_wp2_with fail
        go_ret
        exact ⟨by rw [HM.out]; rfl, H0.out _ KG4.out (Or.inr HM.out)⟩
      · have hmi : ¬ ((m : Int) = 20) := by omega
        have HM := hid hm
        clear hm
        go_wp2_with fail
        have HS : Hid (∀ w', w4.grownBy w' none → w'.cell? ⟨w.heap.size, 0, none⟩ = some (.int .u8 (op : Int)) ∧ w'.cell? ⟨w.heap.size, 1, none⟩ = some (.int .u8 (a : Int)) ∧ w'.cell? ⟨w.heap.size, 2, none⟩ = some (.int .u8 (b : Int)) ∧ w'.cell? ⟨w.heap.size, 3, none⟩ = some (.int .u8 (c : Int)) ∧ w'.cell? ⟨w.heap.size, 4, none⟩ = some (P0 fb) ∧ w'.cell? ⟨w.heap.size, 5, none⟩ = some (P0 tb) ∧ w'.cell? ⟨w.heap.size, 6, none⟩ = some (P0 eb) ∧ w'.cell? ⟨B, 0, none⟩ = some (.int .i64 (cg.1 : Int)) ∧ w'.cell? ⟨B, 1, none⟩ = some (.int .i64 cg.2)) := fun w' hg => by
          obtain ⟨x0, x1, x2, x3, x4, x5, x6⟩ := s7_of (grown_out hg HX4.out)
          exact ⟨x0, x1, x2, x3, x4, x5, x6, (grown_cell hg (a := ⟨B, 0, none⟩) lB).1.trans u0, (grown_cell hg (a := ⟨B, 1, none⟩) lB).1.trans u1⟩
        have HS6F : Hid (∀ w5 w' : World, w4.grownBy w5 none → (∀ k, w.heap.size ≤ k → k < w5.heap.size → w'.heap[k]? = w5.heap[k]?) → w'.cell? ⟨w.heap.size, 0, none⟩ = some (.int .u8 (op : Int)) ∧ w'.cell? ⟨w.heap.size, 1, none⟩ = some (.int .u8 (a : Int)) ∧ w'.cell? ⟨w.heap.size, 2, none⟩ = some (.int .u8 (b : Int)) ∧ w'.cell? ⟨w.heap.size, 3, none⟩ = some (.int .u8 (c : Int)) ∧ w'.cell? ⟨w.heap.size, 4, none⟩ = some (P0 fb) ∧ w'.cell? ⟨w.heap.size, 5, none⟩ = some (P0 tb) ∧ w'.cell? ⟨w.heap.size, 6, none⟩ = some (P0 eb) ∧ w'.cell? ⟨B, 0, none⟩ = some (.int .i64 (cg.1 : Int)) ∧ w'.cell? ⟨B, 1, none⟩ = some (.int .i64 cg.2)) := fun w5 w' hg hk => by
          obtain ⟨y0, y1, y2, y3, y4, y5, y6, y7, y8⟩ := HS.out w5 hg
          have hz := hg.size
          have e1 := hk w.heap.size (Nat.le_refl _) (by omega)
          have e2 := hk B HBW.out (by omega)
          exact ⟨(World.cell?_of_block (a := ⟨w.heap.size, 0, none⟩) e1).trans y0, (World.cell?_of_block (a := ⟨w.heap.size, 1, none⟩) e1).trans y1, (World.cell?_of_block (a := ⟨w.heap.size, 2, none⟩) e1).trans y2, (World.cell?_of_block (a := ⟨w.heap.size, 3, none⟩) e1).trans y3, (World.cell?_of_block (a := ⟨w.heap.size, 4, none⟩) e1).trans y4, (World.cell?_of_block (a := ⟨w.heap.size, 5, none⟩) e1).trans y5, (World.cell?_of_block (a := ⟨w.heap.size, 6, none⟩) e1).trans y6, (World.cell?_of_block (a := ⟨B, 0, none⟩) e2).trans y7, (World.cell?_of_block (a := ⟨B, 1, none⟩) e2).trans y8⟩
        have HS0 := hid (HS.out w4.drew (grown_drew (grown_refl _ _)))
        go_region_held3 (fun w' => w'.cell? ⟨w.heap.size, 0, none⟩ = some (.int .u8 (op : Int)) ∧ w'.cell? ⟨w.heap.size, 1, none⟩ = some (.int .u8 (a : Int)) ∧ w'.cell? ⟨w.heap.size, 2, none⟩ = some (.int .u8 (b : Int)) ∧ w'.cell? ⟨w.heap.size, 3, none⟩ = some (.int .u8 (c : Int)) ∧ w'.cell? ⟨w.heap.size, 4, none⟩ = some (P0 fb) ∧ w'.cell? ⟨w.heap.size, 5, none⟩ = some (P0 tb) ∧ w'.cell? ⟨w.heap.size, 6, none⟩ = some (P0 eb) ∧ w'.cell? ⟨B, 0, none⟩ = some (.int .i64 (cg.1 : Int)) ∧ w'.cell? ⟨B, 1, none⟩ = some (.int .i64 cg.2)) (first | exact HS0.out | exact HS5.out | exact HS6.out) (first | (go_at_call 94; refine (HC.out w4.drew (grown_drew KG4.out)).mono ?_; rintro e w5 ⟨rfl, hg5⟩; have KG5 : Hid (w4.grownBy w5 none) := ⟨hg5.os, hg5.tape, hg5.output, hg5.size, hg5.block⟩; have HS5 := hid (HS.out w5 KG5.out); clear hg5) | (go_at_call 119; refine (HE.out (by first | rfl | trivial) HM.out w5 (grown_trans KG4.out KG5.out)).mono ?_; rintro e w6 ⟨rfl, hR6, hK6⟩; have HR6 := hid hR6; have HS6 := hid (HS6F.out w5 w6 KG5.out hK6); clear hR6 hK6))
        all_goals
          go_wp2_with fail
          go_ret
          exact ⟨by have h := HM.out; simp [callR, h], HR6.out⟩
  · rename_i hh
    clear hh
    have KG4 : Hid (w.grownBy (((w3.setCell ⟨w2.heap.size, 0, none⟩ (.int .i64 (cg.1 : Int))).setCell ⟨w2.heap.size, 1, none⟩ (.int .i64 cg.2))) none) := (HKS.out w3 _ _ _ KG3.out HX3.out HLB.out).1
    have HX4 : Hid ((((w3.setCell ⟨w2.heap.size, 0, none⟩ (.int .i64 (cg.1 : Int))).setCell ⟨w2.heap.size, 1, none⟩ (.int .i64 cg.2))).heap[w.heap.size]? = some (stpB op a b c fb tb eb)) := (HKS.out w3 _ _ _ KG3.out HX3.out HLB.out).2
    have u0 : (((w3.setCell ⟨w2.heap.size, 0, none⟩ (.int .i64 (cg.1 : Int))).setCell ⟨w2.heap.size, 1, none⟩ (.int .i64 cg.2))).cell? ⟨w2.heap.size, 0, none⟩ = some (.int .i64 (cg.1 : Int)) := by simp [go_sem, r0, r1, r2, r3, lB]
    have u1 : (((w3.setCell ⟨w2.heap.size, 0, none⟩ (.int .i64 (cg.1 : Int))).setCell ⟨w2.heap.size, 1, none⟩ (.int .i64 cg.2))).cell? ⟨w2.heap.size, 1, none⟩ = some (.int .i64 cg.2) := by simp [go_sem, r0, r1, r2, r3, lB]
    clear r0 r1 r2 r3 lB
    have lB := cell_lt u0
    have HBW : Hid (w.heap.size ≤ w2.heap.size) := Nat.le_of_lt HLB.out
    generalize ((w3.setCell ⟨w2.heap.size, 0, none⟩ (.int .i64 (cg.1 : Int))).setCell ⟨w2.heap.size, 1, none⟩ (.int .i64 cg.2)) = w4 at *
    generalize w2.heap.size = B at *
    obtain ⟨x0, x1, x2, x3, x4, x5, x6⟩ := s7_of HX4.out
    have lx := heap_lt HX4.out
    have d1 := (grown_cell KG4.out (a := ⟨tb, 1, none⟩) lt).1.trans c1
    have lt4 : tb < w4.heap.size := Nat.lt_of_lt_of_le lt KG4.out.size
    have le4 : eb < w4.heap.size := Nat.lt_of_lt_of_le le KG4.out.size
    cases ok with
    | false =>
      go_wp2_with fail
      go_ret
      exact ⟨rfl, H0.out _ KG4.out (Or.inl (by first | rfl | trivial))⟩
    | true =>
      by_cases hm : m = 20
      · have hmi : (m : Int) = 20 := by omega
        have HM := hid hm
        clear hm
        go_wp2_with fail
        go_ret
        exact ⟨by rw [HM.out]; rfl, H0.out _ KG4.out (Or.inr HM.out)⟩
      · have hmi : ¬ ((m : Int) = 20) := by omega
        have HM := hid hm
        clear hm
        go_wp2_with fail
        have HS : Hid (∀ w', w4.grownBy w' none → w'.cell? ⟨w.heap.size, 0, none⟩ = some (.int .u8 (op : Int)) ∧ w'.cell? ⟨w.heap.size, 1, none⟩ = some (.int .u8 (a : Int)) ∧ w'.cell? ⟨w.heap.size, 2, none⟩ = some (.int .u8 (b : Int)) ∧ w'.cell? ⟨w.heap.size, 3, none⟩ = some (.int .u8 (c : Int)) ∧ w'.cell? ⟨w.heap.size, 4, none⟩ = some (P0 fb) ∧ w'.cell? ⟨w.heap.size, 5, none⟩ = some (P0 tb) ∧ w'.cell? ⟨w.heap.size, 6, none⟩ = some (P0 eb) ∧ w'.cell? ⟨B, 0, none⟩ = some (.int .i64 (cg.1 : Int)) ∧ w'.cell? ⟨B, 1, none⟩ = some (.int .i64 cg.2)) := fun w' hg => by
          obtain ⟨x0, x1, x2, x3, x4, x5, x6⟩ := s7_of (grown_out hg HX4.out)
          exact ⟨x0, x1, x2, x3, x4, x5, x6, (grown_cell hg (a := ⟨B, 0, none⟩) lB).1.trans u0, (grown_cell hg (a := ⟨B, 1, none⟩) lB).1.trans u1⟩
        have HS6F : Hid (∀ w5 w' : World, w4.grownBy w5 none → (∀ k, w.heap.size ≤ k → k < w5.heap.size → w'.heap[k]? = w5.heap[k]?) → w'.cell? ⟨w.heap.size, 0, none⟩ = some (.int .u8 (op : Int)) ∧ w'.cell? ⟨w.heap.size, 1, none⟩ = some (.int .u8 (a : Int)) ∧ w'.cell? ⟨w.heap.size, 2, none⟩ = some (.int .u8 (b : Int)) ∧ w'.cell? ⟨w.heap.size, 3, none⟩ = some (.int .u8 (c : Int)) ∧ w'.cell? ⟨w.heap.size, 4, none⟩ = some (P0 fb) ∧ w'.cell? ⟨w.heap.size, 5, none⟩ = some (P0 tb) ∧ w'.cell? ⟨w.heap.size, 6, none⟩ = some (P0 eb) ∧ w'.cell? ⟨B, 0, none⟩ = some (.int .i64 (cg.1 : Int)) ∧ w'.cell? ⟨B, 1, none⟩ = some (.int .i64 cg.2)) := fun w5 w' hg hk => by
          obtain ⟨y0, y1, y2, y3, y4, y5, y6, y7, y8⟩ := HS.out w5 hg
          have hz := hg.size
          have e1 := hk w.heap.size (Nat.le_refl _) (by omega)
          have e2 := hk B HBW.out (by omega)
          exact ⟨(World.cell?_of_block (a := ⟨w.heap.size, 0, none⟩) e1).trans y0, (World.cell?_of_block (a := ⟨w.heap.size, 1, none⟩) e1).trans y1, (World.cell?_of_block (a := ⟨w.heap.size, 2, none⟩) e1).trans y2, (World.cell?_of_block (a := ⟨w.heap.size, 3, none⟩) e1).trans y3, (World.cell?_of_block (a := ⟨w.heap.size, 4, none⟩) e1).trans y4, (World.cell?_of_block (a := ⟨w.heap.size, 5, none⟩) e1).trans y5, (World.cell?_of_block (a := ⟨w.heap.size, 6, none⟩) e1).trans y6, (World.cell?_of_block (a := ⟨B, 0, none⟩) e2).trans y7, (World.cell?_of_block (a := ⟨B, 1, none⟩) e2).trans y8⟩
        have HS0 := hid (HS.out w4.drew (grown_drew (grown_refl _ _)))
        go_region_held3 (fun w' => w'.cell? ⟨w.heap.size, 0, none⟩ = some (.int .u8 (op : Int)) ∧ w'.cell? ⟨w.heap.size, 1, none⟩ = some (.int .u8 (a : Int)) ∧ w'.cell? ⟨w.heap.size, 2, none⟩ = some (.int .u8 (b : Int)) ∧ w'.cell? ⟨w.heap.size, 3, none⟩ = some (.int .u8 (c : Int)) ∧ w'.cell? ⟨w.heap.size, 4, none⟩ = some (P0 fb) ∧ w'.cell? ⟨w.heap.size, 5, none⟩ = some (P0 tb) ∧ w'.cell? ⟨w.heap.size, 6, none⟩ = some (P0 eb) ∧ w'.cell? ⟨B, 0, none⟩ = some (.int .i64 (cg.1 : Int)) ∧ w'.cell? ⟨B, 1, none⟩ = some (.int .i64 cg.2)) (first | exact HS0.out | exact HS5.out | exact HS6.out) (first | (go_at_call 94; refine (HC.out w4.drew (grown_drew KG4.out)).mono ?_; rintro e w5 ⟨rfl, hg5⟩; have KG5 : Hid (w4.grownBy w5 none) := ⟨hg5.os, hg5.tape, hg5.output, hg5.size, hg5.block⟩; have HS5 := hid (HS.out w5 KG5.out); clear hg5) | (go_at_call 119; refine (HE.out (by first | rfl | trivial) HM.out w5 (grown_trans KG4.out KG5.out)).mono ?_; rintro e w6 ⟨rfl, hR6, hK6⟩; have HR6 := hid hR6; have HS6 := hid (HS6F.out w5 w6 KG5.out hK6); clear hR6 hK6))
        all_goals
          go_wp2_with fail
          go_ret
          exact ⟨by have h := HM.out; simp [callR, h], HR6.out⟩
  · rename_i hh
    clear hh
    have KG4 : Hid (w.grownBy (((w3.setCell ⟨w1.heap.size, 0, none⟩ (.int .i64 (cg.1 : Int))).setCell ⟨w1.heap.size, 1, none⟩ (.int .i64 cg.2))) none) := (HKS.out w3 _ _ _ KG3.out HX3.out HLB.out).1
    have HX4 : Hid ((((w3.setCell ⟨w1.heap.size, 0, none⟩ (.int .i64 (cg.1 : Int))).setCell ⟨w1.heap.size, 1, none⟩ (.int .i64 cg.2))).heap[w.heap.size]? = some (stpB op a b c fb tb eb)) := (HKS.out w3 _ _ _ KG3.out HX3.out HLB.out).2
    have u0 : (((w3.setCell ⟨w1.heap.size, 0, none⟩ (.int .i64 (cg.1 : Int))).setCell ⟨w1.heap.size, 1, none⟩ (.int .i64 cg.2))).cell? ⟨w1.heap.size, 0, none⟩ = some (.int .i64 (cg.1 : Int)) := by simp [go_sem, r0, r1, r2, r3, lB]
    have u1 : (((w3.setCell ⟨w1.heap.size, 0, none⟩ (.int .i64 (cg.1 : Int))).setCell ⟨w1.heap.size, 1, none⟩ (.int .i64 cg.2))).cell? ⟨w1.heap.size, 1, none⟩ = some (.int .i64 cg.2) := by simp [go_sem, r0, r1, r2, r3, lB]
    clear r0 r1 r2 r3 lB
    have lB := cell_lt u0
    have HBW : Hid (w.heap.size ≤ w1.heap.size) := Nat.le_of_lt HLB.out
    generalize ((w3.setCell ⟨w1.heap.size, 0, none⟩ (.int .i64 (cg.1 : Int))).setCell ⟨w1.heap.size, 1, none⟩ (.int .i64 cg.2)) = w4 at *
    generalize w1.heap.size = B at *
    obtain ⟨x0, x1, x2, x3, x4, x5, x6⟩ := s7_of HX4.out
    have lx := heap_lt HX4.out
    have d1 := (grown_cell KG4.out (a := ⟨tb, 1, none⟩) lt).1.trans c1
    have lt4 : tb < w4.heap.size := Nat.lt_of_lt_of_le lt KG4.out.size
    have le4 : eb < w4.heap.size := Nat.lt_of_lt_of_le le KG4.out.size
    cases ok with
    | false =>
      go_wp2_with fail
      go_ret
      exact ⟨rfl, H0.out _ KG4.out (Or.inl (by first | rfl | trivial))⟩
    | true =>
      by_cases hm : m = 20
      · have hmi : (m : Int) = 20 := by omega
        have HM := hid hm
        clear hm
        go_wp2_with fail
        go_ret
        exact ⟨by rw [HM.out]; rfl, H0.out _ KG4.out (Or.inr HM.out)⟩
      · have hmi : ¬ ((m : Int) = 20) := by omega
        have HM := hid hm
        clear hm
        go_wp2_with fail
        have HS : Hid (∀ w', w4.grownBy w' none → w'.cell? ⟨w.heap.size, 0, none⟩ = some (.int .u8 (op : Int)) ∧ w'.cell? ⟨w.heap.size, 1, none⟩ = some (.int .u8 (a : Int)) ∧ w'.cell? ⟨w.heap.size, 2, none⟩ = some (.int .u8 (b : Int)) ∧ w'.cell? ⟨w.heap.size, 3, none⟩ = some (.int .u8 (c : Int)) ∧ w'.cell? ⟨w.heap.size, 4, none⟩ = some (P0 fb) ∧ w'.cell? ⟨w.heap.size, 5, none⟩ = some (P0 tb) ∧ w'.cell? ⟨w.heap.size, 6, none⟩ = some (P0 eb) ∧ w'.cell? ⟨B, 0, none⟩ = some (.int .i64 (cg.1 : Int)) ∧ w'.cell? ⟨B, 1, none⟩ = some (.int .i64 cg.2)) := fun w' hg => by
          obtain ⟨x0, x1, x2, x3, x4, x5, x6⟩ := s7_of (grown_out hg HX4.out)
          exact ⟨x0, x1, x2, x3, x4, x5, x6, (grown_cell hg (a := ⟨B, 0, none⟩) lB).1.trans u0, (grown_cell hg (a := ⟨B, 1, none⟩) lB).1.trans u1⟩
        have HS6F : Hid (∀ w5 w' : World, w4.grownBy w5 none → (∀ k, w.heap.size ≤ k → k < w5.heap.size → w'.heap[k]? = w5.heap[k]?) → w'.cell? ⟨w.heap.size, 0, none⟩ = some (.int .u8 (op : Int)) ∧ w'.cell? ⟨w.heap.size, 1, none⟩ = some (.int .u8 (a : Int)) ∧ w'.cell? ⟨w.heap.size, 2, none⟩ = some (.int .u8 (b : Int)) ∧ w'.cell? ⟨w.heap.size, 3, none⟩ = some (.int .u8 (c : Int)) ∧ w'.cell? ⟨w.heap.size, 4, none⟩ = some (P0 fb) ∧ w'.cell? ⟨w.heap.size, 5, none⟩ = some (P0 tb) ∧ w'.cell? ⟨w.heap.size, 6, none⟩ = some (P0 eb) ∧ w'.cell? ⟨B, 0, none⟩ = some (.int .i64 (cg.1 : Int)) ∧ w'.cell? ⟨B, 1, none⟩ = some (.int .i64 cg.2)) := fun w5 w' hg hk => by
          obtain ⟨y0, y1, y2, y3, y4, y5, y6, y7, y8⟩ := HS.out w5 hg
          have hz := hg.size
          have e1 := hk w.heap.size (Nat.le_refl _) (by omega)
          have e2 := hk B HBW.out (by omega)
          exact ⟨(World.cell?_of_block (a := ⟨w.heap.size, 0, none⟩) e1).trans y0, (World.cell?_of_block (a := ⟨w.heap.size, 1, none⟩) e1).trans y1, (World.cell?_of_block (a := ⟨w.heap.size, 2, none⟩) e1).trans y2, (World.cell?_of_block (a := ⟨w.heap.size, 3, none⟩) e1).trans y3, (World.cell?_of_block (a := ⟨w.heap.size, 4, none⟩) e1).trans y4, (World.cell?_of_block (a := ⟨w.heap.size, 5, none⟩) e1).trans y5, (World.cell?_of_block (a := ⟨w.heap.size, 6, none⟩) e1).trans y6, (World.cell?_of_block (a := ⟨B, 0, none⟩) e2).trans y7, (World.cell?_of_block (a := ⟨B, 1, none⟩) e2).trans y8⟩
        have HS0 := hid (HS.out w4.drew (grown_drew (grown_refl _ _)))
        go_region_held3 (fun w' => w'.cell? ⟨w.heap.size, 0, none⟩ = some (.int .u8 (op : Int)) ∧ w'.cell? ⟨w.heap.size, 1, none⟩ = some (.int .u8 (a : Int)) ∧ w'.cell? ⟨w.heap.size, 2, none⟩ = some (.int .u8 (b : Int)) ∧ w'.cell? ⟨w.heap.size, 3, none⟩ = some (.int .u8 (c : Int)) ∧ w'.cell? ⟨w.heap.size, 4, none⟩ = some (P0 fb) ∧ w'.cell? ⟨w.heap.size, 5, none⟩ = some (P0 tb) ∧ w'.cell? ⟨w.heap.size, 6, none⟩ = some (P0 eb) ∧ w'.cell? ⟨B, 0, none⟩ = some (.int .i64 (cg.1 : Int)) ∧ w'.cell? ⟨B, 1, none⟩ = some (.int .i64 cg.2)) (first | exact HS0.out | exact HS5.out | exact HS6.out) (first | (go_at_call 94; refine (HC.out w4.drew (grown_drew KG4.out)).mono ?_; rintro e w5 ⟨rfl, hg5⟩; have KG5 : Hid (w4.grownBy w5 none) := ⟨hg5.os, hg5.tape, hg5.output, hg5.size, hg5.block⟩; have HS5 := hid (HS.out w5 KG5.out); clear hg5) | (go_at_call 119; refine (HE.out (by first | rfl | trivial) HM.out w5 (grown_trans KG4.out KG5.out)).mono ?_; rintro e w6 ⟨rfl, hR6, hK6⟩; have HR6 := hid hR6; have HS6 := hid (HS6F.out w5 w6 KG5.out hK6); clear hR6 hK6))
        all_goals
          go_wp2_with fail
          go_ret
          exact ⟨by have h := HM.out; simp [callR, h], HR6.out⟩
end Go.Proofs.YtnjiinbhbjpfkaaGreatDoor
set_option linter.unusedSimpArgs false
set_option linter.unusedVariables false
namespace Go.Proofs.YtnjiinbhbjpfkaaGreatDoor
open Go.RowKit
def spawnR (ok : Bool) (m mt : Nat) : Int := if ok = false then 4 else if m = mt then 7 else 0
set_option maxRecDepth 100000 in
set_option maxHeartbeats 2000000 in
theorem spawnL (op a b c fb tb eb sb m ck ff mt num : Nat) (x y cg : B.V) (ok : Bool) (ao : Option Addr) (R : World → Prop) (R1 : World → Prop) (w : World)
    (hb : ∀ w1, w.grownBy w1 none → Calls Tryz.prog 86 #[stepV op a b c fb tb eb] w1 fun e w' => e = .returned (vA x) ∧ w1.grownBy w' none)
    (hf : ∀ w1, w.grownBy w1 none → Calls Tryz.prog 162 #[P0 sb, vA x] w1 fun e w' => e = .returned (.tuple #[.int .i64 ff, vA cg, .bool ok]) ∧ w1.grownBy w' none)
    (hc : ∀ w1, w.grownBy w1 none → Calls Tryz.prog 94 #[stepV op a b c fb tb eb] w1 fun e w' => e = .returned (vA y) ∧ w1.grownBy w' none)
    (he : ok = true → m ≠ mt → ∀ w1, w.grownBy w1 none → w.heap.size < w1.heap.size → Calls Tryz.prog 60 #[P0 eb, .int .i64 ff, vA y, vA cg] w1 fun e w' => e = .returned (.int .i64 num) ∧ R1 w' ∧ ∀ k, w.heap.size ≤ k → k < w1.heap.size → w'.heap[k]? = w1.heap[k]?)
    (hst : ∀ w1 w2, R1 w1 → w1.grownBy w2 none → Calls Tryz.prog 149 #[stepV op a b c fb tb eb, vA (0, (num : Int))] w2 fun e w' => e = .returned (.tuple #[]) ∧ R w' ∧ w'.heap[w.heap.size]? = w2.heap[w.heap.size]?)
    (h0 : ∀ w1, w.grownBy w1 none → (ok = false ∨ m = mt) → R w1)
    (c27 : w.cell? ⟨eb, 27, none⟩ = some (P0 sb)) (c29 : w.cell? ⟨eb, 29, none⟩ = some (.slice ao m ck)) (c3 : w.cell? ⟨eb, 3, none⟩ = some (.int .i64 mt)) :
    Calls Tryz.prog 108 #[stepV op a b c fb tb eb] w fun e w' => e = .returned (.int .i64 (spawnR ok m mt)) ∧ R w' := by
  have HB := hid hb
  have HF := hid hf
  have HC := hid hc
  have HE := hid he
  have H0 := hid h0
  have le := cell_lt c27
  have HST := hid hst
  clear hb hf hc he h0 hst
  go_enter Tryz.func108, Tryz.ntmps108
  go_wp2_with fail
  have HX1 := hid (s7_new w op a b c fb tb eb)
  have KG1 := hid (World.grownBy_alloc w (.cells #[.int .u8 (op : Int), .int .u8 (a : Int), .int .u8 (b : Int), .int .u8 (c : Int), P0 fb, P0 tb, P0 eb] 186) none)
  generalize hW : w.alloc (.cells #[.int .u8 (op : Int), .int .u8 (a : Int), .int .u8 (b : Int), .int .u8 (c : Int), P0 fb, P0 tb, P0 eb] 186) = w1 at *
  have HZ1 : Hid (w1.heap.size = w.heap.size + 1) := by show _ = _; rw [← hW]; simp
  clear hW
  have HK : Hid (∀ w', w.grownBy w' none → w'.heap[w.heap.size]? = some (stpB op a b c fb tb eb) → w'.cell? ⟨w.heap.size, 0, none⟩ = some (.int .u8 (op : Int)) ∧ w'.cell? ⟨w.heap.size, 1, none⟩ = some (.int .u8 (a : Int)) ∧ w'.cell? ⟨w.heap.size, 2, none⟩ = some (.int .u8 (b : Int)) ∧ w'.cell? ⟨w.heap.size, 3, none⟩ = some (.int .u8 (c : Int)) ∧ w'.cell? ⟨w.heap.size, 4, none⟩ = some (P0 fb) ∧ w'.cell? ⟨w.heap.size, 5, none⟩ = some (P0 tb) ∧ w'.cell? ⟨w.heap.size, 6, none⟩ = some (P0 eb) ∧ w'.cell? ⟨eb, 27, none⟩ = some (P0 sb)) := fun w' hg hx => by
    obtain ⟨x0, x1, x2, x3, x4, x5, x6⟩ := s7_of hx
    exact ⟨x0, x1, x2, x3, x4, x5, x6, (grown_cell hg (a := ⟨eb, 27, none⟩) le).1.trans c27⟩
  have HKS : Hid (∀ (w' : World) (B : Nat) (u v : Value), w.grownBy w' none → w'.heap[w.heap.size]? = some (stpB op a b c fb tb eb) → w.heap.size < B → w.grownBy ((w'.setCell ⟨B, 0, none⟩ u).setCell ⟨B, 1, none⟩ v) none ∧ ((w'.setCell ⟨B, 0, none⟩ u).setCell ⟨B, 1, none⟩ v).heap[w.heap.size]? = some (stpB op a b c fb tb eb)) := fun w' B u v hg hx hB =>
    ⟨grown_setCell (grown_setCell hg (Or.inr (Nat.le_of_lt hB)) _) (Or.inr (Nat.le_of_lt hB)) _, ((Below.heap_setCell _ _ _ _ (Nat.ne_of_lt hB)).trans (Below.heap_setCell _ _ _ _ (Nat.ne_of_lt hB))).trans hx⟩
  have HKT : Hid (∀ (w' : World) (B : Nat) (u v : Value) (hg : w.grownBy w' none) (hx : w'.heap[w.heap.size]? = some (stpB op a b c fb tb eb)) (hB : w.heap.size < B), _) := fun w' B u v hg hx hB => HK.out _ (HKS.out w' B u v hg hx hB).1 (HKS.out w' B u v hg hx hB).2
  have HZ : Hid (∀ (w' : World) (o : Obj) (k : Nat) (o' : Obj), w'.heap[k]? = some o' → (w'.alloc o).heap[k]? = some o') := fun w' o k o' hk => by
    rw [Below.heap_alloc _ _ _ (heap_lt hk)]; exact hk
  go_region_held3 (fun w' => w'.cell? ⟨w.heap.size, 0, none⟩ = some (.int .u8 (op : Int)) ∧ w'.cell? ⟨w.heap.size, 1, none⟩ = some (.int .u8 (a : Int)) ∧ w'.cell? ⟨w.heap.size, 2, none⟩ = some (.int .u8 (b : Int)) ∧ w'.cell? ⟨w.heap.size, 3, none⟩ = some (.int .u8 (c : Int)) ∧ w'.cell? ⟨w.heap.size, 4, none⟩ = some (P0 fb) ∧ w'.cell? ⟨w.heap.size, 5, none⟩ = some (P0 tb) ∧ w'.cell? ⟨w.heap.size, 6, none⟩ = some (P0 eb) ∧ w'.cell? ⟨eb, 27, none⟩ = some (P0 sb)) (first | exact HK.out _ (grown_drew KG1.out) HX1.out | exact HK.out _ (grown_alloc (grown_drew KG1.out) _) (HZ.out _ _ _ _ HX1.out) | exact HK.out _ KG2.out HX2.out | exact HK.out _ (grown_alloc KG2.out _) (HZ.out _ _ _ _ HX2.out) | exact HK.out _ KG3.out HX3.out | exact HK.out _ (grown_alloc KG3.out _) (HZ.out _ _ _ _ HX3.out) | exact HKT.out w3 _ _ _ KG3.out HX3.out HLB.out | exact HKT.out _ _ _ _ (grown_alloc KG3.out _) (HZ.out _ _ _ _ HX3.out) (heap_lt HX3.out)) (first | (go_at_call 86; refine (HB.out w1.drew (grown_drew KG1.out)).mono ?_; rintro e w2 ⟨rfl, hg2⟩; have KG2 : Hid (w.grownBy w2 none) := grown_trans (grown_drew KG1.out) hg2; have HX2 := hid (grown_out hg2 (show w1.drew.heap[w.heap.size]? = _ from HX1.out)); have HBX : Hid True := trivial; clear hg2) | (go_at_call 86; refine (HB.out (w1.drew.alloc (.cells #[.int .i64 0, .int .i64 0] 149)) (grown_alloc (grown_drew KG1.out) _)).mono ?_; rintro e w2 ⟨rfl, hg2⟩; have KG2 : Hid (w.grownBy w2 none) := grown_trans (grown_alloc (grown_drew KG1.out) _) hg2; have HX2 := hid (grown_out hg2 (HZ.out w1.drew _ _ _ HX1.out)); have HBX : Hid (w2.heap[w1.heap.size]? = some (.cells #[.int .i64 0, .int .i64 0] 149 (0, 0))) := grown_out hg2 (heap_alloc_new w1.drew _); clear hg2) | (go_at_call 162; refine (HF.out w2 KG2.out).mono ?_; rintro e w3 ⟨rfl, hg3⟩; have KG3 : Hid (w.grownBy w3 none) := grown_trans KG2.out hg3; have HX3 := hid (grown_out hg3 HX2.out); have hbx := grown_out hg3 HBX.out; have HLB : Hid (w.heap.size < w1.heap.size) := (by show _ < _; rw [HZ1.out]; omega); have r0 : w3.cell? ⟨w1.heap.size, 0, none⟩ = some (.int .i64 0) := (by simp [World.cell?, hbx]); have r1 : w3.cell? ⟨w1.heap.size, 1, none⟩ = some (.int .i64 0) := (by simp [World.cell?, hbx]); have r2 : w3.frozen? ⟨w1.heap.size, 0, none⟩ = false := (by simp [World.frozen?, hbx]); have r3 : w3.frozen? ⟨w1.heap.size, 1, none⟩ = false := (by simp [World.frozen?, hbx]); have lB := heap_lt hbx; clear hbx; clear hg3) | (go_at_call 162; refine (HF.out w2 KG2.out).mono ?_; rintro e w3 ⟨rfl, hg3⟩; have KG3 : Hid (w.grownBy w3 none) := grown_trans KG2.out hg3; have HX3 := hid (grown_out hg3 HX2.out); clear hg3) | (go_at_call 162; refine (HF.out (w2.alloc (.cells #[.int .i64 0, .int .i64 0] 149)) (grown_alloc KG2.out _)).mono ?_; rintro e w3 ⟨rfl, hg3⟩; have KG3 : Hid (w.grownBy w3 none) := grown_trans (grown_alloc KG2.out _) hg3; have HX3 := hid (grown_out hg3 (HZ.out w2 _ _ _ HX2.out)); have hbx : w3.heap[w2.heap.size]? = some (.cells #[.int .i64 0, .int .i64 0] 149 (0, 0)) := grown_out hg3 (heap_alloc_new w2 _); have HLB : Hid (w.heap.size < w2.heap.size) := heap_lt HX2.out; have r0 : w3.cell? ⟨w2.heap.size, 0, none⟩ = some (.int .i64 0) := (by simp [World.cell?, hbx]); have r1 : w3.cell? ⟨w2.heap.size, 1, none⟩ = some (.int .i64 0) := (by simp [World.cell?, hbx]); have r2 : w3.frozen? ⟨w2.heap.size, 0, none⟩ = false := (by simp [World.frozen?, hbx]); have r3 : w3.frozen? ⟨w2.heap.size, 1, none⟩ = false := (by simp [World.frozen?, hbx]); have lB := heap_lt hbx; clear hbx; clear hg3))
  · rename_i hh
    clear hh
    have KG4 : Hid (w.grownBy ((w3.alloc (.cells #[.int .i64 (cg.1 : Int), .int .i64 cg.2] 149))) none) := grown_alloc KG3.out _
    have HX4 : Hid (((w3.alloc (.cells #[.int .i64 (cg.1 : Int), .int .i64 cg.2] 149))).heap[w.heap.size]? = some (stpB op a b c fb tb eb)) := HZ.out _ _ _ _ HX3.out
    have u0 : ((w3.alloc (.cells #[.int .i64 (cg.1 : Int), .int .i64 cg.2] 149))).cell? ⟨w3.heap.size, 0, none⟩ = some (.int .i64 (cg.1 : Int)) := by simp [go_sem]
    have u1 : ((w3.alloc (.cells #[.int .i64 (cg.1 : Int), .int .i64 cg.2] 149))).cell? ⟨w3.heap.size, 1, none⟩ = some (.int .i64 cg.2) := by simp [go_sem]
    have lB := cell_lt u0
    have HBW : Hid (w.heap.size ≤ w3.heap.size) := KG3.out.size
    generalize (w3.alloc (.cells #[.int .i64 (cg.1 : Int), .int .i64 cg.2] 149)) = w4 at *
    generalize w3.heap.size = B at *
    obtain ⟨x0, x1, x2, x3, x4, x5, x6⟩ := s7_of HX4.out
    have lx := heap_lt HX4.out
    have d29 := (grown_cell KG4.out (a := ⟨eb, 29, none⟩) le).1.trans c29
    have d3 := (grown_cell KG4.out (a := ⟨eb, 3, none⟩) le).1.trans c3
    have le4 : eb < w4.heap.size := Nat.lt_of_lt_of_le le KG4.out.size
    cases ok with
    | false =>
      go_wp2_with fail
      go_ret
      exact ⟨rfl, H0.out _ KG4.out (Or.inl (by first | rfl | trivial))⟩
    | true =>
      by_cases hm : m = mt
      · have hmi : (m : Int) = (mt : Int) := by omega
        have HM := hid hm
        clear hm
        go_wp2_with fail
        go_quiet (fail)
        go_wp2_with fail
        go_ret
        exact ⟨by have h := HM.out; simp [spawnR, h], H0.out _ (grown_drewN KG4.out _) (Or.inr HM.out)⟩
      · have hmi : ¬ ((m : Int) = (mt : Int)) := by omega
        have HM := hid hm
        clear hm
        go_wp2_with fail
        go_quiet (fail)
        have KGQ : Hid (w.grownBy (w4.drewN nq) none) := grown_drewN KG4.out _
        have HXQ : Hid ((w4.drewN nq).heap[w.heap.size]? = some (stpB op a b c fb tb eb)) := HX4.out
        have v0 : (w4.drewN nq).cell? ⟨B, 0, none⟩ = some (.int .i64 (cg.1 : Int)) := u0
        have v1 : (w4.drewN nq).cell? ⟨B, 1, none⟩ = some (.int .i64 cg.2) := u1
        have lBQ : B < (w4.drewN nq).heap.size := lB
        clear u0 u1 lB x0 x1 x2 x3 x4 x5 x6 lx d29 d3 le4
        generalize w4.drewN nq = w9 at *
        obtain ⟨x0, x1, x2, x3, x4, x5, x6⟩ := s7_of HXQ.out
        have lx := heap_lt HXQ.out
        go_wp2_with fail
        have HS : Hid (∀ w', w9.grownBy w' none → w'.cell? ⟨w.heap.size, 0, none⟩ = some (.int .u8 (op : Int)) ∧ w'.cell? ⟨w.heap.size, 1, none⟩ = some (.int .u8 (a : Int)) ∧ w'.cell? ⟨w.heap.size, 2, none⟩ = some (.int .u8 (b : Int)) ∧ w'.cell? ⟨w.heap.size, 3, none⟩ = some (.int .u8 (c : Int)) ∧ w'.cell? ⟨w.heap.size, 4, none⟩ = some (P0 fb) ∧ w'.cell? ⟨w.heap.size, 5, none⟩ = some (P0 tb) ∧ w'.cell? ⟨w.heap.size, 6, none⟩ = some (P0 eb) ∧ w'.cell? ⟨B, 0, none⟩ = some (.int .i64 (cg.1 : Int)) ∧ w'.cell? ⟨B, 1, none⟩ = some (.int .i64 cg.2)) := fun w' hg => by
          obtain ⟨x0, x1, x2, x3, x4, x5, x6⟩ := s7_of (grown_out hg HXQ.out)
          exact ⟨x0, x1, x2, x3, x4, x5, x6, (grown_cell hg (a := ⟨B, 0, none⟩) lBQ).1.trans v0, (grown_cell hg (a := ⟨B, 1, none⟩) lBQ).1.trans v1⟩
        have HS6F : Hid (∀ w5 w' : World, w9.grownBy w5 none → (∀ k, w.heap.size ≤ k → k < w5.heap.size → w'.heap[k]? = w5.heap[k]?) → w'.cell? ⟨w.heap.size, 0, none⟩ = some (.int .u8 (op : Int)) ∧ w'.cell? ⟨w.heap.size, 1, none⟩ = some (.int .u8 (a : Int)) ∧ w'.cell? ⟨w.heap.size, 2, none⟩ = some (.int .u8 (b : Int)) ∧ w'.cell? ⟨w.heap.size, 3, none⟩ = some (.int .u8 (c : Int)) ∧ w'.cell? ⟨w.heap.size, 4, none⟩ = some (P0 fb) ∧ w'.cell? ⟨w.heap.size, 5, none⟩ = some (P0 tb) ∧ w'.cell? ⟨w.heap.size, 6, none⟩ = some (P0 eb) ∧ w'.cell? ⟨B, 0, none⟩ = some (.int .i64 (cg.1 : Int)) ∧ w'.cell? ⟨B, 1, none⟩ = some (.int .i64 cg.2)) := fun w5 w' hg hk => by
          obtain ⟨y0, y1, y2, y3, y4, y5, y6, y7, y8⟩ := HS.out w5 hg
          have hz := hg.size
          have e1 := hk w.heap.size (Nat.le_refl _) (by omega)
          have e2 := hk B HBW.out (by omega)
          exact ⟨(World.cell?_of_block (a := ⟨w.heap.size, 0, none⟩) e1).trans y0, (World.cell?_of_block (a := ⟨w.heap.size, 1, none⟩) e1).trans y1, (World.cell?_of_block (a := ⟨w.heap.size, 2, none⟩) e1).trans y2, (World.cell?_of_block (a := ⟨w.heap.size, 3, none⟩) e1).trans y3, (World.cell?_of_block (a := ⟨w.heap.size, 4, none⟩) e1).trans y4, (World.cell?_of_block (a := ⟨w.heap.size, 5, none⟩) e1).trans y5, (World.cell?_of_block (a := ⟨w.heap.size, 6, none⟩) e1).trans y6, (World.cell?_of_block (a := ⟨B, 0, none⟩) e2).trans y7, (World.cell?_of_block (a := ⟨B, 1, none⟩) e2).trans y8⟩
        have HS0 := hid (HS.out w9.drew (grown_drew (grown_refl _ _)))
        go_region_held3 (fun w' => w'.cell? ⟨w.heap.size, 0, none⟩ = some (.int .u8 (op : Int)) ∧ w'.cell? ⟨w.heap.size, 1, none⟩ = some (.int .u8 (a : Int)) ∧ w'.cell? ⟨w.heap.size, 2, none⟩ = some (.int .u8 (b : Int)) ∧ w'.cell? ⟨w.heap.size, 3, none⟩ = some (.int .u8 (c : Int)) ∧ w'.cell? ⟨w.heap.size, 4, none⟩ = some (P0 fb) ∧ w'.cell? ⟨w.heap.size, 5, none⟩ = some (P0 tb) ∧ w'.cell? ⟨w.heap.size, 6, none⟩ = some (P0 eb) ∧ w'.cell? ⟨B, 0, none⟩ = some (.int .i64 (cg.1 : Int)) ∧ w'.cell? ⟨B, 1, none⟩ = some (.int .i64 cg.2)) (first | exact HS0.out | exact HS5.out | exact HS6.out) (first | (go_at_call 94; refine (HC.out w9.drew (grown_drew KGQ.out)).mono ?_; rintro e w5 ⟨rfl, hg5⟩; have KG5 : Hid (w9.grownBy w5 none) := ⟨hg5.os, hg5.tape, hg5.output, hg5.size, hg5.block⟩; have HS5 := hid (HS.out w5 KG5.out); clear hg5) | (go_at_call 60; refine (HE.out (by first | rfl | trivial) HM.out w5 (grown_trans KGQ.out KG5.out) (Nat.lt_of_lt_of_le (heap_lt HXQ.out) KG5.out.size)).mono ?_; rintro e w6 ⟨rfl, hR6, hK6⟩; have HR6 := hid hR6; have HS6 := hid (HS6F.out w5 w6 KG5.out hK6); have HX6 : Hid (w6.heap[w.heap.size]? = some (stpB op a b c fb tb eb)) := (hK6 w.heap.size (Nat.le_refl _) (Nat.lt_of_lt_of_le (heap_lt HXQ.out) KG5.out.size)).trans (grown_out KG5.out HXQ.out); clear hR6 hK6))
        all_goals
          clear x0 x1 x2 x3 x4 x5 x6 v0 v1
          obtain ⟨x0, x1, x2, x3, x4, x5, x6⟩ := s7_of HX6.out
          have lx6 := heap_lt HX6.out
          go_wp2_with fail
          have HY7 : Hid ((w6.drew.alloc (.cells #[.int .i64 0, .int .i64 (num : Int)] 149)).heap[w.heap.size]? = some (stpB op a b c fb tb eb)) := HZ.out w6.drew _ _ _ HX6.out
          go_region_held3 (fun w' => w'.cell? ⟨w.heap.size, 0, none⟩ = some (.int .u8 (op : Int)) ∧ w'.cell? ⟨w.heap.size, 1, none⟩ = some (.int .u8 (a : Int)) ∧ w'.cell? ⟨w.heap.size, 2, none⟩ = some (.int .u8 (b : Int)) ∧ w'.cell? ⟨w.heap.size, 3, none⟩ = some (.int .u8 (c : Int)) ∧ w'.cell? ⟨w.heap.size, 4, none⟩ = some (P0 fb) ∧ w'.cell? ⟨w.heap.size, 5, none⟩ = some (P0 tb) ∧ w'.cell? ⟨w.heap.size, 6, none⟩ = some (P0 eb)) (first | exact s7_of (show w6.drew.heap[w.heap.size]? = _ from HX6.out) | exact s7_of HY7.out | exact s7_of HY8.out) (first | (go_at_call 61; refine (number_any _ _).mono ?_; rintro e w7 ⟨rfl, rfl⟩) | (go_at_call 149; refine (HST.out w6 _ HR6.out (grown_alloc (grown_drew (grown_refl _ _)) _)).mono ?_; rintro e w8 ⟨rfl, hR8, hK8⟩; have HR8 := hid hR8; have HY8 : Hid (w8.heap[w.heap.size]? = some (stpB op a b c fb tb eb)) := hK8.trans HY7.out; clear hR8 hK8))
          all_goals
            go_wp2_with fail
            go_ret
            exact ⟨by have h := HM.out; simp [spawnR, h], HR8.out⟩
  · rename_i hh
    clear hh
    have KG4 : Hid (w.grownBy (((w3.setCell ⟨w2.heap.size, 0, none⟩ (.int .i64 (cg.1 : Int))).setCell ⟨w2.heap.size, 1, none⟩ (.int .i64 cg.2))) none) := (HKS.out w3 _ _ _ KG3.out HX3.out HLB.out).1
    have HX4 : Hid ((((w3.setCell ⟨w2.heap.size, 0, none⟩ (.int .i64 (cg.1 : Int))).setCell ⟨w2.heap.size, 1, none⟩ (.int .i64 cg.2))).heap[w.heap.size]? = some (stpB op a b c fb tb eb)) := (HKS.out w3 _ _ _ KG3.out HX3.out HLB.out).2
    have u0 : (((w3.setCell ⟨w2.heap.size, 0, none⟩ (.int .i64 (cg.1 : Int))).setCell ⟨w2.heap.size, 1, none⟩ (.int .i64 cg.2))).cell? ⟨w2.heap.size, 0, none⟩ = some (.int .i64 (cg.1 : Int)) := by simp [go_sem, r0, r1, r2, r3, lB]
    have u1 : (((w3.setCell ⟨w2.heap.size, 0, none⟩ (.int .i64 (cg.1 : Int))).setCell ⟨w2.heap.size, 1, none⟩ (.int .i64 cg.2))).cell? ⟨w2.heap.size, 1, none⟩ = some (.int .i64 cg.2) := by simp [go_sem, r0, r1, r2, r3, lB]
    clear r0 r1 r2 r3 lB
    have lB := cell_lt u0
    have HBW : Hid (w.heap.size ≤ w2.heap.size) := Nat.le_of_lt HLB.out
    generalize ((w3.setCell ⟨w2.heap.size, 0, none⟩ (.int .i64 (cg.1 : Int))).setCell ⟨w2.heap.size, 1, none⟩ (.int .i64 cg.2)) = w4 at *
    generalize w2.heap.size = B at *
    obtain ⟨x0, x1, x2, x3, x4, x5, x6⟩ := s7_of HX4.out
    have lx := heap_lt HX4.out
    have d29 := (grown_cell KG4.out (a := ⟨eb, 29, none⟩) le).1.trans c29
    have d3 := (grown_cell KG4.out (a := ⟨eb, 3, none⟩) le).1.trans c3
    have le4 : eb < w4.heap.size := Nat.lt_of_lt_of_le le KG4.out.size
    cases ok with
    | false =>
      go_wp2_with fail
      go_ret
      exact ⟨rfl, H0.out _ KG4.out (Or.inl (by first | rfl | trivial))⟩
    | true =>
      by_cases hm : m = mt
      · have hmi : (m : Int) = (mt : Int) := by omega
        have HM := hid hm
        clear hm
        go_wp2_with fail
        go_quiet (fail)
        go_wp2_with fail
        go_ret
        exact ⟨by have h := HM.out; simp [spawnR, h], H0.out _ (grown_drewN KG4.out _) (Or.inr HM.out)⟩
      · have hmi : ¬ ((m : Int) = (mt : Int)) := by omega
        have HM := hid hm
        clear hm
        go_wp2_with fail
        go_quiet (fail)
        have KGQ : Hid (w.grownBy (w4.drewN nq) none) := grown_drewN KG4.out _
        have HXQ : Hid ((w4.drewN nq).heap[w.heap.size]? = some (stpB op a b c fb tb eb)) := HX4.out
        have v0 : (w4.drewN nq).cell? ⟨B, 0, none⟩ = some (.int .i64 (cg.1 : Int)) := u0
        have v1 : (w4.drewN nq).cell? ⟨B, 1, none⟩ = some (.int .i64 cg.2) := u1
        have lBQ : B < (w4.drewN nq).heap.size := lB
        clear u0 u1 lB x0 x1 x2 x3 x4 x5 x6 lx d29 d3 le4
        generalize w4.drewN nq = w9 at *
        obtain ⟨x0, x1, x2, x3, x4, x5, x6⟩ := s7_of HXQ.out
        have lx := heap_lt HXQ.out
        go_wp2_with fail
        have HS : Hid (∀ w', w9.grownBy w' none → w'.cell? ⟨w.heap.size, 0, none⟩ = some (.int .u8 (op : Int)) ∧ w'.cell? ⟨w.heap.size, 1, none⟩ = some (.int .u8 (a : Int)) ∧ w'.cell? ⟨w.heap.size, 2, none⟩ = some (.int .u8 (b : Int)) ∧ w'.cell? ⟨w.heap.size, 3, none⟩ = some (.int .u8 (c : Int)) ∧ w'.cell? ⟨w.heap.size, 4, none⟩ = some (P0 fb) ∧ w'.cell? ⟨w.heap.size, 5, none⟩ = some (P0 tb) ∧ w'.cell? ⟨w.heap.size, 6, none⟩ = some (P0 eb) ∧ w'.cell? ⟨B, 0, none⟩ = some (.int .i64 (cg.1 : Int)) ∧ w'.cell? ⟨B, 1, none⟩ = some (.int .i64 cg.2)) := fun w' hg => by
          obtain ⟨x0, x1, x2, x3, x4, x5, x6⟩ := s7_of (grown_out hg HXQ.out)
          exact ⟨x0, x1, x2, x3, x4, x5, x6, (grown_cell hg (a := ⟨B, 0, none⟩) lBQ).1.trans v0, (grown_cell hg (a := ⟨B, 1, none⟩) lBQ).1.trans v1⟩
        have HS6F : Hid (∀ w5 w' : World, w9.grownBy w5 none → (∀ k, w.heap.size ≤ k → k < w5.heap.size → w'.heap[k]? = w5.heap[k]?) → w'.cell? ⟨w.heap.size, 0, none⟩ = some (.int .u8 (op : Int)) ∧ w'.cell? ⟨w.heap.size, 1, none⟩ = some (.int .u8 (a : Int)) ∧ w'.cell? ⟨w.heap.size, 2, none⟩ = some (.int .u8 (b : Int)) ∧ w'.cell? ⟨w.heap.size, 3, none⟩ = some (.int .u8 (c : Int)) ∧ w'.cell? ⟨w.heap.size, 4, none⟩ = some (P0 fb) ∧ w'.cell? ⟨w.heap.size, 5, none⟩ = some (P0 tb) ∧ w'.cell? ⟨w.heap.size, 6, none⟩ = some (P0 eb) ∧ w'.cell? ⟨B, 0, none⟩ = some (.int .i64 (cg.1 : Int)) ∧ w'.cell? ⟨B, 1, none⟩ = some (.int .i64 cg.2)) := fun w5 w' hg hk => by
          obtain ⟨y0, y1, y2, y3, y4, y5, y6, y7, y8⟩ := HS.out w5 hg
          have hz := hg.size
          have e1 := hk w.heap.size (Nat.le_refl _) (by omega)
          have e2 := hk B HBW.out (by omega)
          exact ⟨(World.cell?_of_block (a := ⟨w.heap.size, 0, none⟩) e1).trans y0, (World.cell?_of_block (a := ⟨w.heap.size, 1, none⟩) e1).trans y1, (World.cell?_of_block (a := ⟨w.heap.size, 2, none⟩) e1).trans y2, (World.cell?_of_block (a := ⟨w.heap.size, 3, none⟩) e1).trans y3, (World.cell?_of_block (a := ⟨w.heap.size, 4, none⟩) e1).trans y4, (World.cell?_of_block (a := ⟨w.heap.size, 5, none⟩) e1).trans y5, (World.cell?_of_block (a := ⟨w.heap.size, 6, none⟩) e1).trans y6, (World.cell?_of_block (a := ⟨B, 0, none⟩) e2).trans y7, (World.cell?_of_block (a := ⟨B, 1, none⟩) e2).trans y8⟩
        have HS0 := hid (HS.out w9.drew (grown_drew (grown_refl _ _)))
        go_region_held3 (fun w' => w'.cell? ⟨w.heap.size, 0, none⟩ = some (.int .u8 (op : Int)) ∧ w'.cell? ⟨w.heap.size, 1, none⟩ = some (.int .u8 (a : Int)) ∧ w'.cell? ⟨w.heap.size, 2, none⟩ = some (.int .u8 (b : Int)) ∧ w'.cell? ⟨w.heap.size, 3, none⟩ = some (.int .u8 (c : Int)) ∧ w'.cell? ⟨w.heap.size, 4, none⟩ = some (P0 fb) ∧ w'.cell? ⟨w.heap.size, 5, none⟩ = some (P0 tb) ∧ w'.cell? ⟨w.heap.size, 6, none⟩ = some (P0 eb) ∧ w'.cell? ⟨B, 0, none⟩ = some (.int .i64 (cg.1 : Int)) ∧ w'.cell? ⟨B, 1, none⟩ = some (.int .i64 cg.2)) (first | exact HS0.out | exact HS5.out | exact HS6.out) (first | (go_at_call 94; refine (HC.out w9.drew (grown_drew KGQ.out)).mono ?_; rintro e w5 ⟨rfl, hg5⟩; have KG5 : Hid (w9.grownBy w5 none) := ⟨hg5.os, hg5.tape, hg5.output, hg5.size, hg5.block⟩; have HS5 := hid (HS.out w5 KG5.out); clear hg5) | (go_at_call 60; refine (HE.out (by first | rfl | trivial) HM.out w5 (grown_trans KGQ.out KG5.out) (Nat.lt_of_lt_of_le (heap_lt HXQ.out) KG5.out.size)).mono ?_; rintro e w6 ⟨rfl, hR6, hK6⟩; have HR6 := hid hR6; have HS6 := hid (HS6F.out w5 w6 KG5.out hK6); have HX6 : Hid (w6.heap[w.heap.size]? = some (stpB op a b c fb tb eb)) := (hK6 w.heap.size (Nat.le_refl _) (Nat.lt_of_lt_of_le (heap_lt HXQ.out) KG5.out.size)).trans (grown_out KG5.out HXQ.out); clear hR6 hK6))
        all_goals
          clear x0 x1 x2 x3 x4 x5 x6 v0 v1
          obtain ⟨x0, x1, x2, x3, x4, x5, x6⟩ := s7_of HX6.out
          have lx6 := heap_lt HX6.out
          go_wp2_with fail
          have HY7 : Hid ((w6.drew.alloc (.cells #[.int .i64 0, .int .i64 (num : Int)] 149)).heap[w.heap.size]? = some (stpB op a b c fb tb eb)) := HZ.out w6.drew _ _ _ HX6.out
          go_region_held3 (fun w' => w'.cell? ⟨w.heap.size, 0, none⟩ = some (.int .u8 (op : Int)) ∧ w'.cell? ⟨w.heap.size, 1, none⟩ = some (.int .u8 (a : Int)) ∧ w'.cell? ⟨w.heap.size, 2, none⟩ = some (.int .u8 (b : Int)) ∧ w'.cell? ⟨w.heap.size, 3, none⟩ = some (.int .u8 (c : Int)) ∧ w'.cell? ⟨w.heap.size, 4, none⟩ = some (P0 fb) ∧ w'.cell? ⟨w.heap.size, 5, none⟩ = some (P0 tb) ∧ w'.cell? ⟨w.heap.size, 6, none⟩ = some (P0 eb)) (first | exact s7_of (show w6.drew.heap[w.heap.size]? = _ from HX6.out) | exact s7_of HY7.out | exact s7_of HY8.out) (first | (go_at_call 61; refine (number_any _ _).mono ?_; rintro e w7 ⟨rfl, rfl⟩) | (go_at_call 149; refine (HST.out w6 _ HR6.out (grown_alloc (grown_drew (grown_refl _ _)) _)).mono ?_; rintro e w8 ⟨rfl, hR8, hK8⟩; have HR8 := hid hR8; have HY8 : Hid (w8.heap[w.heap.size]? = some (stpB op a b c fb tb eb)) := hK8.trans HY7.out; clear hR8 hK8))
          all_goals
            go_wp2_with fail
            go_ret
            exact ⟨by have h := HM.out; simp [spawnR, h], HR8.out⟩
  · rename_i hh
    clear hh
    have KG4 : Hid (w.grownBy (((w3.setCell ⟨w1.heap.size, 0, none⟩ (.int .i64 (cg.1 : Int))).setCell ⟨w1.heap.size, 1, none⟩ (.int .i64 cg.2))) none) := (HKS.out w3 _ _ _ KG3.out HX3.out HLB.out).1
    have HX4 : Hid ((((w3.setCell ⟨w1.heap.size, 0, none⟩ (.int .i64 (cg.1 : Int))).setCell ⟨w1.heap.size, 1, none⟩ (.int .i64 cg.2))).heap[w.heap.size]? = some (stpB op a b c fb tb eb)) := (HKS.out w3 _ _ _ KG3.out HX3.out HLB.out).2
    have u0 : (((w3.setCell ⟨w1.heap.size, 0, none⟩ (.int .i64 (cg.1 : Int))).setCell ⟨w1.heap.size, 1, none⟩ (.int .i64 cg.2))).cell? ⟨w1.heap.size, 0, none⟩ = some (.int .i64 (cg.1 : Int)) := by simp [go_sem, r0, r1, r2, r3, lB]
    have u1 : (((w3.setCell ⟨w1.heap.size, 0, none⟩ (.int .i64 (cg.1 : Int))).setCell ⟨w1.heap.size, 1, none⟩ (.int .i64 cg.2))).cell? ⟨w1.heap.size, 1, none⟩ = some (.int .i64 cg.2) := by simp [go_sem, r0, r1, r2, r3, lB]
    clear r0 r1 r2 r3 lB
    have lB := cell_lt u0
    have HBW : Hid (w.heap.size ≤ w1.heap.size) := Nat.le_of_lt HLB.out
    generalize ((w3.setCell ⟨w1.heap.size, 0, none⟩ (.int .i64 (cg.1 : Int))).setCell ⟨w1.heap.size, 1, none⟩ (.int .i64 cg.2)) = w4 at *
    generalize w1.heap.size = B at *
    obtain ⟨x0, x1, x2, x3, x4, x5, x6⟩ := s7_of HX4.out
    have lx := heap_lt HX4.out
    have d29 := (grown_cell KG4.out (a := ⟨eb, 29, none⟩) le).1.trans c29
    have d3 := (grown_cell KG4.out (a := ⟨eb, 3, none⟩) le).1.trans c3
    have le4 : eb < w4.heap.size := Nat.lt_of_lt_of_le le KG4.out.size
    cases ok with
    | false =>
      go_wp2_with fail
      go_ret
      exact ⟨rfl, H0.out _ KG4.out (Or.inl (by first | rfl | trivial))⟩
    | true =>
      by_cases hm : m = mt
      · have hmi : (m : Int) = (mt : Int) := by omega
        have HM := hid hm
        clear hm
        go_wp2_with fail
        go_quiet (fail)
        go_wp2_with fail
        go_ret
        exact ⟨by have h := HM.out; simp [spawnR, h], H0.out _ (grown_drewN KG4.out _) (Or.inr HM.out)⟩
      · have hmi : ¬ ((m : Int) = (mt : Int)) := by omega
        have HM := hid hm
        clear hm
        go_wp2_with fail
        go_quiet (fail)
        have KGQ : Hid (w.grownBy (w4.drewN nq) none) := grown_drewN KG4.out _
        have HXQ : Hid ((w4.drewN nq).heap[w.heap.size]? = some (stpB op a b c fb tb eb)) := HX4.out
        have v0 : (w4.drewN nq).cell? ⟨B, 0, none⟩ = some (.int .i64 (cg.1 : Int)) := u0
        have v1 : (w4.drewN nq).cell? ⟨B, 1, none⟩ = some (.int .i64 cg.2) := u1
        have lBQ : B < (w4.drewN nq).heap.size := lB
        clear u0 u1 lB x0 x1 x2 x3 x4 x5 x6 lx d29 d3 le4
        generalize w4.drewN nq = w9 at *
        obtain ⟨x0, x1, x2, x3, x4, x5, x6⟩ := s7_of HXQ.out
        have lx := heap_lt HXQ.out
        go_wp2_with fail
        have HS : Hid (∀ w', w9.grownBy w' none → w'.cell? ⟨w.heap.size, 0, none⟩ = some (.int .u8 (op : Int)) ∧ w'.cell? ⟨w.heap.size, 1, none⟩ = some (.int .u8 (a : Int)) ∧ w'.cell? ⟨w.heap.size, 2, none⟩ = some (.int .u8 (b : Int)) ∧ w'.cell? ⟨w.heap.size, 3, none⟩ = some (.int .u8 (c : Int)) ∧ w'.cell? ⟨w.heap.size, 4, none⟩ = some (P0 fb) ∧ w'.cell? ⟨w.heap.size, 5, none⟩ = some (P0 tb) ∧ w'.cell? ⟨w.heap.size, 6, none⟩ = some (P0 eb) ∧ w'.cell? ⟨B, 0, none⟩ = some (.int .i64 (cg.1 : Int)) ∧ w'.cell? ⟨B, 1, none⟩ = some (.int .i64 cg.2)) := fun w' hg => by
          obtain ⟨x0, x1, x2, x3, x4, x5, x6⟩ := s7_of (grown_out hg HXQ.out)
          exact ⟨x0, x1, x2, x3, x4, x5, x6, (grown_cell hg (a := ⟨B, 0, none⟩) lBQ).1.trans v0, (grown_cell hg (a := ⟨B, 1, none⟩) lBQ).1.trans v1⟩
        have HS6F : Hid (∀ w5 w' : World, w9.grownBy w5 none → (∀ k, w.heap.size ≤ k → k < w5.heap.size → w'.heap[k]? = w5.heap[k]?) → w'.cell? ⟨w.heap.size, 0, none⟩ = some (.int .u8 (op : Int)) ∧ w'.cell? ⟨w.heap.size, 1, none⟩ = some (.int .u8 (a : Int)) ∧ w'.cell? ⟨w.heap.size, 2, none⟩ = some (.int .u8 (b : Int)) ∧ w'.cell? ⟨w.heap.size, 3, none⟩ = some (.int .u8 (c : Int)) ∧ w'.cell? ⟨w.heap.size, 4, none⟩ = some (P0 fb) ∧ w'.cell? ⟨w.heap.size, 5, none⟩ = some (P0 tb) ∧ w'.cell? ⟨w.heap.size, 6, none⟩ = some (P0 eb) ∧ w'.cell? ⟨B, 0, none⟩ = some (.int .i64 (cg.1 : Int)) ∧ w'.cell? ⟨B, 1, none⟩ = some (.int .i64 cg.2)) := fun w5 w' hg hk => by
          obtain ⟨y0, y1, y2, y3, y4, y5, y6, y7, y8⟩ := HS.out w5 hg
          have hz := hg.size
          have e1 := hk w.heap.size (Nat.le_refl _) (by omega)
          have e2 := hk B HBW.out (by omega)
          exact ⟨(World.cell?_of_block (a := ⟨w.heap.size, 0, none⟩) e1).trans y0, (World.cell?_of_block (a := ⟨w.heap.size, 1, none⟩) e1).trans y1, (World.cell?_of_block (a := ⟨w.heap.size, 2, none⟩) e1).trans y2, (World.cell?_of_block (a := ⟨w.heap.size, 3, none⟩) e1).trans y3, (World.cell?_of_block (a := ⟨w.heap.size, 4, none⟩) e1).trans y4, (World.cell?_of_block (a := ⟨w.heap.size, 5, none⟩) e1).trans y5, (World.cell?_of_block (a := ⟨w.heap.size, 6, none⟩) e1).trans y6, (World.cell?_of_block (a := ⟨B, 0, none⟩) e2).trans y7, (World.cell?_of_block (a := ⟨B, 1, none⟩) e2).trans y8⟩
        have HS0 := hid (HS.out w9.drew (grown_drew (grown_refl _ _)))
        go_region_held3 (fun w' => w'.cell? ⟨w.heap.size, 0, none⟩ = some (.int .u8 (op : Int)) ∧ w'.cell? ⟨w.heap.size, 1, none⟩ = some (.int .u8 (a : Int)) ∧ w'.cell? ⟨w.heap.size, 2, none⟩ = some (.int .u8 (b : Int)) ∧ w'.cell? ⟨w.heap.size, 3, none⟩ = some (.int .u8 (c : Int)) ∧ w'.cell? ⟨w.heap.size, 4, none⟩ = some (P0 fb) ∧ w'.cell? ⟨w.heap.size, 5, none⟩ = some (P0 tb) ∧ w'.cell? ⟨w.heap.size, 6, none⟩ = some (P0 eb) ∧ w'.cell? ⟨B, 0, none⟩ = some (.int .i64 (cg.1 : Int)) ∧ w'.cell? ⟨B, 1, none⟩ = some (.int .i64 cg.2)) (first | exact HS0.out | exact HS5.out | exact HS6.out) (first | (go_at_call 94; refine (HC.out w9.drew (grown_drew KGQ.out)).mono ?_; rintro e w5 ⟨rfl, hg5⟩; have KG5 : Hid (w9.grownBy w5 none) := ⟨hg5.os, hg5.tape, hg5.output, hg5.size, hg5.block⟩; have HS5 := hid (HS.out w5 KG5.out); clear hg5) | (go_at_call 60; refine (HE.out (by first | rfl | trivial) HM.out w5 (grown_trans KGQ.out KG5.out) (Nat.lt_of_lt_of_le (heap_lt HXQ.out) KG5.out.size)).mono ?_; rintro e w6 ⟨rfl, hR6, hK6⟩; have HR6 := hid hR6; have HS6 := hid (HS6F.out w5 w6 KG5.out hK6); have HX6 : Hid (w6.heap[w.heap.size]? = some (stpB op a b c fb tb eb)) := (hK6 w.heap.size (Nat.le_refl _) (Nat.lt_of_lt_of_le (heap_lt HXQ.out) KG5.out.size)).trans (grown_out KG5.out HXQ.out); clear hR6 hK6))
        all_goals
          clear x0 x1 x2 x3 x4 x5 x6 v0 v1
          obtain ⟨x0, x1, x2, x3, x4, x5, x6⟩ := s7_of HX6.out
          have lx6 := heap_lt HX6.out
          go_wp2_with fail
          have HY7 : Hid ((w6.drew.alloc (.cells #[.int .i64 0, .int .i64 (num : Int)] 149)).heap[w.heap.size]? = some (stpB op a b c fb tb eb)) := HZ.out w6.drew _ _ _ HX6.out
          go_region_held3 (fun w' => w'.cell? ⟨w.heap.size, 0, none⟩ = some (.int .u8 (op : Int)) ∧ w'.cell? ⟨w.heap.size, 1, none⟩ = some (.int .u8 (a : Int)) ∧ w'.cell? ⟨w.heap.size, 2, none⟩ = some (.int .u8 (b : Int)) ∧ w'.cell? ⟨w.heap.size, 3, none⟩ = some (.int .u8 (c : Int)) ∧ w'.cell? ⟨w.heap.size, 4, none⟩ = some (P0 fb) ∧ w'.cell? ⟨w.heap.size, 5, none⟩ = some (P0 tb) ∧ w'.cell? ⟨w.heap.size, 6, none⟩ = some (P0 eb)) (first | exact s7_of (show w6.drew.heap[w.heap.size]? = _ from HX6.out) | exact s7_of HY7.out | exact s7_of HY8.out) (first | (go_at_call 61; refine (number_any _ _).mono ?_; rintro e w7 ⟨rfl, rfl⟩) | (go_at_call 149; refine (HST.out w6 _ HR6.out (grown_alloc (grown_drew (grown_refl _ _)) _)).mono ?_; rintro e w8 ⟨rfl, hR8, hK8⟩; have HR8 := hid hR8; have HY8 : Hid (w8.heap[w.heap.size]? = some (stpB op a b c fb tb eb)) := hK8.trans HY7.out; clear hR8 hK8))
          all_goals
            go_wp2_with fail
            go_ret
            exact ⟨by have h := HM.out; simp [spawnR, h], HR8.out⟩
end Go.Proofs.YtnjiinbhbjpfkaaGreatDoor
