/-
  What the closures of the table do: those whose a is a value that can always be told.
-/
import Derived.Test.YtnjiinbhbjpfkaaGreatDoorGateB
namespace Go.Proofs.YtnjiinbhbjpfkaaGreatDoor
open Go.RowKit
def Fr (w : World) (fb cb L nx rb nr : Nat) (back : Value) (R : Nat → B.V) : Prop := w.heap[fb]? = some (frmB cb L nx rb nr back) ∧ Full w rb 149 (nr * 2) (nr * 2) (regP R) ∧ fb ≠ rb
theorem Fr.kept {w w' : World} {fb cb L nx rb nr : Nat} {back : Value} {R : Nat → B.V} (h : Fr w fb cb L nx rb nr back R) (hg : w.grownBy w' none) : Fr w' fb cb L nx rb nr back R :=
  ⟨grown_heap hg h.1 (by intro e; cases e), h.2.1.block (hg.block rb h.2.1.lt (by intro e; cases e)), h.2.2⟩
theorem box7 {w w1 : World} {a0 a1 a2 a3 a4 a5 a6 : Value} (hg : ((w.alloc (.cells #[a0, a1, a2, a3, a4, a5, a6] 186)).drew).grownBy w1 none) :
    w1.cell? ⟨w.heap.size, 0, none⟩ = some a0 ∧ w1.cell? ⟨w.heap.size, 1, none⟩ = some a1 ∧ w1.cell? ⟨w.heap.size, 2, none⟩ = some a2 ∧ w1.cell? ⟨w.heap.size, 3, none⟩ = some a3 ∧ w1.cell? ⟨w.heap.size, 4, none⟩ = some a4 ∧ w1.cell? ⟨w.heap.size, 5, none⟩ = some a5 ∧ w1.cell? ⟨w.heap.size, 6, none⟩ = some a6 ∧ w.heap.size < w1.heap.size := by
  have h1 : w1.heap[w.heap.size]? = some (.cells #[a0, a1, a2, a3, a4, a5, a6] 186 (0, 0)) := grown_heap hg (show _ from heap_alloc_new w _) (by intro e; cases e)
  exact ⟨by simp [World.cell?, h1], by simp [World.cell?, h1], by simp [World.cell?, h1], by simp [World.cell?, h1], by simp [World.cell?, h1], by simp [World.cell?, h1], by simp [World.cell?, h1], heap_lt h1⟩
set_option maxRecDepth 100000 in
theorem num_any (op a b c fb tb eb : Nat) (hb : b < 256) (hc : c < 256) (w : World) :
    Calls Tryz.prog 84 #[stepV op a b c fb tb eb] w fun e w' => e = .returned (vA (0, B.wide b c)) ∧ w.grownBy w' none := by
  generalize hy : B.wide b c = y
  have HY : Hid (B.wide b c = y) := hy
  clear hy
  go_enter Tryz.func84, Tryz.ntmps84
  go_wp2_with fail
  refine (inumber_any op a b c hb hc _).mono ?_
  rw [HY.out]
  rintro e w1 ⟨rfl, hg⟩
  have hz := hg.size
  simp at hz
  obtain ⟨k0, k1⟩ := grown_cell hg (a := ⟨w.heap.size + 1, 0, none⟩) (by simp)
  obtain ⟨k2, k3⟩ := grown_cell hg (a := ⟨w.heap.size + 1, 1, none⟩) (by simp)
  simp [go_sem] at k0 k1 k2 k3
  have KG : Hid (w.grownBy w1 none) := grown_trans (grown_alloc (World.grownBy_alloc _ _ _) _) hg
  clear hg
  go_wp2_with fail
  refine (number_any y _).mono ?_
  rintro e w2 ⟨rfl, rfl⟩
  have l1 : w.heap.size + 1 < w1.heap.size := by omega
  go_wp2_with fail
  refine bodyPost_ret (v := vA (0, y)) (by simp [results, Tryz.results84, go_sem, l1, k0, k2]) rfl ⟨rfl, ?_⟩
  repeat (first | exact KG.out | refine grown_alloc ?_ _ | refine grown_setCell ?_ (Or.inr (by simp)) _)
set_option maxRecDepth 100000 in
set_option maxHeartbeats 2000000 in
theorem gives70_any (op a b c fb tb eb cb L nx rb nr vb : Nat) (back : Value) (R : Nat → B.V) (hb : b < 256) (hc : c < 256) (ha : a < nr) (w : World) (hF : Fr w fb cb L nx rb nr back R) (hv : w.cell? ⟨vb, 0, none⟩ = some (Fv 84 #[])) (hvb : vb < w.heap.size) :
    Calls Tryz.prog 148 #[stepV op a b c fb tb eb, P0 vb] w fun e w' => e = .returned (.tuple #[]) ∧ w.grownBy w' (some rb) ∧ Fr w' fb cb L nx rb nr back (B.set R a (0, B.wide b c)) := by
  have KF : Hid (Fr w fb cb L nx rb nr back R) := hF
  clear hF
  have hn := num_any op a b c fb tb eb hb hc
  generalize B.wide b c = y at *
  have HN : Hid (∀ w, Calls Tryz.prog 84 #[stepV op a b c fb tb eb] w fun e w' => e = .returned (vA (0, y)) ∧ w.grownBy w' none) := hn
  clear hn
  go_enter Tryz.func148, Tryz.ntmps148
  go_wp2_with fail
  go_region_with (first | (go_at_call 84; refine (HN.out _).mono ?_; rintro e w1 ⟨rfl, hg1⟩; obtain ⟨s0, s1, s2, s3, s4, s5, s6, s7⟩ := box7 hg1; have KG1 : Hid (w.grownBy w1 none) := grown_trans (by repeat (first | exact grown_refl _ _ | refine grown_drew ?_ | refine grown_alloc ?_ _)) hg1; clear hg1) | (go_at_call 149; refine (set_any op a b c fb tb eb cb L nx rb nr back R (0, y) w1 (KF.out.kept KG1.out).1 (KF.out.kept KG1.out).2.1 ha).mono ?_; rintro e w2 ⟨rfl, hg2, hf2⟩))
  all_goals
    go_wp2_with fail
    go_end0
    refine ⟨rfl, grown_trans (grown_of_none KG1.out) hg2, grown_heap hg2 (KF.out.kept KG1.out).1 (by intro e; injection e with e; exact KF.out.2.2 e), hf2, KF.out.2.2⟩
set_option maxRecDepth 100000 in
theorem act0_any (op a b c fb tb eb cb L nx rb nr wb vb : Nat) (back : Value) (R : Nat → B.V) (hb : b < 256) (hc : c < 256) (ha : a < nr) (w : World) (hF : Fr w fb cb L nx rb nr back R) (hwb : wb < w.heap.size) (hw : w.cell? ⟨wb, 0, none⟩ = some (Fv 148 #[P0 vb])) (hv : w.cell? ⟨vb, 0, none⟩ = some (Fv 84 #[])) (hvb : vb < w.heap.size) :
    Calls Tryz.prog 163 #[stepV op a b c fb tb eb, P0 wb] w fun e w' => e = .returned (.int .i64 0) ∧ w.grownBy w' (some rb) ∧ Fr w' fb cb L nx rb nr back (B.set R a (0, B.wide b c)) := by
  have KF : Hid (Fr w fb cb L nx rb nr back R) := hF
  clear hF
  go_enter Tryz.func163, Tryz.ntmps163
  go_wp2_with fail
  refine (gives70_any op a b c fb tb eb cb L nx rb nr vb back R hb hc ha _ (KF.out.kept (World.grownBy_alloc _ _ _)) (by simp [go_sem, hvb, hv]) (by simp; omega)).mono ?_
  rintro e w1 ⟨rfl, hg1, hF1⟩
  have KF1 : Hid (Fr w1 fb cb L nx rb nr back (B.set R a (0, B.wide b c))) := hF1
  have KG1 : Hid (w.grownBy w1 (some rb)) := grown_trans (World.grownBy_alloc _ _ _) hg1
  clear hF1 hg1
  go_wp2_with fail
  go_ret
  exact ⟨rfl, KG1.out, KF1.out⟩
theorem Tryz.info149 : (Tryz.prog.info? 149).map (fun i => (i.zero, i.size, i.bytes)) = some (some (.agg #[.int .i64 0, .int .i64 0]), 2, 16) := by kernel_rfl
theorem Tryz.info184 : (Tryz.prog.info? 184).map (fun i => (i.zero, i.size, i.bytes)) = some (some (.pointer none), 1, 8) := by kernel_rfl
abbrev stpB (op a b c fb tb eb : Nat) : Obj := .cells #[.int .u8 op, .int .u8 a, .int .u8 b, .int .u8 c, P0 fb, P0 tb, P0 eb] 186 (0, 0)
theorem s7_of {w' : World} {sb op a b c fb tb eb : Nat} (h : w'.heap[sb]? = some (stpB op a b c fb tb eb)) : w'.cell? ⟨sb, 0, none⟩ = some (.int .u8 op) ∧ w'.cell? ⟨sb, 1, none⟩ = some (.int .u8 a) ∧ w'.cell? ⟨sb, 2, none⟩ = some (.int .u8 b) ∧ w'.cell? ⟨sb, 3, none⟩ = some (.int .u8 c) ∧ w'.cell? ⟨sb, 4, none⟩ = some (P0 fb) ∧ w'.cell? ⟨sb, 5, none⟩ = some (P0 tb) ∧ w'.cell? ⟨sb, 6, none⟩ = some (P0 eb) := by
  simp [World.cell?, h]
theorem s7_new (w : World) (op a b c fb tb eb : Nat) : (w.alloc (.cells #[.int .u8 op, .int .u8 a, .int .u8 b, .int .u8 c, P0 fb, P0 tb, P0 eb] 186)).heap[w.heap.size]? = some (stpB op a b c fb tb eb) := heap_alloc_new w _
theorem grown_out {w w' : World} (h : w.grownBy w' none) {k : Nat} {o : Obj} (hk : w.heap[k]? = some o) : w'.heap[k]? = some o := grown_heap h hk (by intro e; cases e)
theorem oneIf_any (x : Bool) (w : World) : Calls Tryz.prog 92 #[.bool x] w fun e w' => e = .returned (.int .i64 (if x = true then 1 else 0)) ∧ w' = w := by
  cases x
  · go_enter Tryz.func92, Tryz.ntmps92
    go_wp2_with fail
    go_ret
    exact ⟨rfl, rfl⟩
  · go_enter Tryz.func92, Tryz.ntmps92
    go_wp2_with fail
    go_ret
    exact ⟨rfl, rfl⟩
theorem eqV (x y : B.V) (w : World) : (binOp .eql 149 (vA x) (vA y)).run Tryz.prog w = .ok (.bool (decide (x = y))) w := by
  obtain ⟨x1, x2⟩ := x
  obtain ⟨y1, y2⟩ := y
  have h1 : ((x1 : Int) = (y1 : Int)) ↔ x1 = y1 := by omega
  simp [go_sem]
  by_cases k1 : x1 = y1 <;> by_cases k2 : x2 = y2 <;> simp [k1, k2, h1]
set_option maxRecDepth 100000 in
set_option maxHeartbeats 2000000 in
theorem same_any (op a b c fb tb eb cb L nx rb nr : Nat) (back : Value) (R : Nat → B.V) (hb : b < nr) (hc : c < nr) (w : World) (hF : Fr w fb cb L nx rb nr back R) :
    Calls Tryz.prog 93 #[stepV op a b c fb tb eb] w fun e w' => e = .returned (vA (0, if R b = R c then 1 else 0)) ∧ w.grownBy w' none := by
  have KF := hid hF
  clear hF
  have heq := eqV (R b) (R c)
  have h01 : (if decide (R b = R c) = true then (1 : Int) else 0) = (if R b = R c then 1 else 0) := by by_cases h : R b = R c <;> simp [h]
  rw [← h01]
  clear h01
  generalize decide (R b = R c) = d at *
  generalize hy : (if d = true then (1 : Int) else 0) = y
  have HY := hid hy
  clear hy
  go_enter Tryz.func93, Tryz.ntmps93
  go_wp2_with fail
  generalize hW : (w.alloc (.cells #[.int .u8 (op : Int), .int .u8 (a : Int), .int .u8 (b : Int), .int .u8 (c : Int), P0 fb, P0 tb, P0 eb] 186)).alloc (.cells #[.int .i64 0, .int .i64 0] 149) = w1
  have KG1 : Hid (w.grownBy w1 none) := by rw [← hW]; exact grown_alloc (World.grownBy_alloc _ _ _) _
  have hx : w1.heap[w.heap.size]? = some (stpB op a b c fb tb eb) := by rw [← hW, Below.heap_alloc _ _ _ (by simp)]; exact heap_alloc_new w _
  have hr : w1.heap[w.heap.size + 1]? = some (.cells #[.int .i64 0, .int .i64 0] 149 (0, 0)) := by
    rw [← hW]
    have := heap_alloc_new (w.alloc (.cells #[.int .u8 (op : Int), .int .u8 (a : Int), .int .u8 (b : Int), .int .u8 (c : Int), P0 fb, P0 tb, P0 eb] 186)) (.cells #[.int .i64 0, .int .i64 0] 149)
    simpa using this
  clear hW
  have HX := hid hx
  have HR := hid hr
  clear hx hr
  obtain ⟨x0, x1, x2, x3, x4, x5, x6⟩ := s7_of HX.out
  have lx := heap_lt HX.out
  have lr := heap_lt HR.out
  go_region_with (first
      | (go_at_call 86; refine (b_any op a b c fb tb eb cb L nx rb nr back R w1.drew (KF.out.kept KG1.out).1 (KF.out.kept KG1.out).2.1 hb).mono ?_; rintro e w2 ⟨rfl, hg2⟩; have HG2 : Hid (w1.grownBy w2 none) := ⟨hg2.os, hg2.tape, hg2.output, hg2.size, hg2.block⟩; clear hg2; obtain ⟨x0, x1, x2, x3, x4, x5, x6⟩ := s7_of (grown_out HG2.out HX.out); have lx2 := heap_lt (grown_out HG2.out HX.out))
      | (go_at_call 94; refine (c_any op a b c fb tb eb cb L nx rb nr back R w2 (KF.out.kept (grown_trans KG1.out HG2.out)).1 (KF.out.kept (grown_trans KG1.out HG2.out)).2.1 hc).mono ?_; rintro e w3 ⟨rfl, hg3⟩; have HG3 : Hid (w1.grownBy w3 none) := grown_trans HG2.out hg3; clear hg3; have hr3 := grown_out HG3.out HR.out; have r0 : w3.cell? ⟨w.heap.size + 1, 0, none⟩ = some (.int .i64 0) := (by simp [World.cell?, hr3]); have r1 : w3.cell? ⟨w.heap.size + 1, 1, none⟩ = some (.int .i64 0) := (by simp [World.cell?, hr3]); have r2 : w3.frozen? ⟨w.heap.size + 1, 0, none⟩ = false := (by simp [World.frozen?, hr3]); have r3 : w3.frozen? ⟨w.heap.size + 1, 1, none⟩ = false := (by simp [World.frozen?, hr3]); have lr3 := heap_lt hr3; clear hr3)
      | (go_at_call 92; refine (oneIf_any d w3).mono ?_; rw [HY.out]; rintro e w4 ⟨rfl, rfl⟩)
      | (go_at_call 61; refine (number_any y _).mono ?_; rintro e w5 ⟨rfl, rfl⟩))
  all_goals
    go_wp2_with fail
    refine bodyPost_ret (v := vA (0, y)) (by simp [results, Tryz.results93, go_sem, lr3, r0, r1]) rfl ⟨rfl, ?_⟩
    exact grown_alloc (grown_setCell (grown_setCell (grown_trans KG1.out HG3.out) (Or.inr (by simp)) _) (Or.inr (by simp)) _) _
set_option maxRecDepth 100000 in
set_option maxHeartbeats 1000000 in
theorem sidxV (v : B.V) (g c n : Nat) (ad : Option Addr) (xs : List B.V) (w : World) (hn : n = xs.length) (hn2 : n ≤ 1000000000)
    (had : ∀ j x, xs[j]? = some x → ad = some ⟨g, 0, none⟩ ∧ w.cell? ⟨g, j * 2, none⟩ = some (.int .i64 (x.1 : Int)) ∧ w.cell? ⟨g, j * 2 + 1, none⟩ = some (.int .i64 x.2)) (lg : xs ≠ [] → g < w.heap.size) :
    Calls Tryz.prog 231 #[.slice ad n c, vA v] w fun e w' => (∃ z : Int, e = .returned (.int .i64 z) ∧ ((z < 0 ∧ v ∉ xs) ∨ (0 ≤ z ∧ v ∈ xs))) ∧ w.grownBy w' none := by
  obtain ⟨v1, v2⟩ := v
  have HC := hid had
  have HN := hid hn
  have HG := hid lg
  clear had hn lg
  go_enter Tryz.func231, Tryz.ntmps231
  go_wp2_with fail
  generalize hw1 : w.alloc (.cells #[.int .i64 (v1 : Int), .int .i64 v2] 149) = w1
  have KG : Hid (w.grownBy w1 none) := by rw [← hw1]; exact World.grownBy_alloc _ _ _
  have hb0 : w1.heap[w.heap.size]? = some (.cells #[.int .i64 (v1 : Int), .int .i64 v2] 149 (0, 0)) := by rw [← hw1]; exact heap_alloc_new w _
  have HB := hid hb0
  clear hw1 hb0
  go_loopw [8] (fun i wr => ∃ j : Nat, i = .int .i64 j ∧ j ≤ n ∧ Hid (∀ k x, k < j → xs[k]? = some x → x ≠ (v1, v2)) ∧ Hid (w1.grownBy wr none)) (fun i _ => n - (intOf i).toNat)
  case atStart => exact ⟨0, rfl, by omega, (fun k x hk => absurd hk (by omega)), grown_refl _ _⟩
  case round =>
    obtain ⟨j, rfl, hj, rN, rG⟩ := hrel
    by_cases hjn : j < n
    · obtain ⟨x, hx⟩ : ∃ x, xs[j]? = some x := ⟨_, List.getElem?_eq_getElem (by have := HN.out; omega)⟩
      obtain ⟨x1, x2⟩ := x
      obtain ⟨rfl, ca, cb⟩ := HC.out j (x1, x2) hx
      have hmx := List.mem_of_getElem? hx
      have lgg := HG.out (by intro e; rw [e] at hmx; cases hmx)
      have hGG := grown_trans KG.out rG.out
      have c0 : wr.cell? ⟨g, j * 2, none⟩ = some (.int .i64 (x1 : Int)) := (grown_cell hGG (a := ⟨g, j * 2, none⟩) lgg).1.trans ca
      have c1 : wr.cell? ⟨g, j * 2 + 1, none⟩ = some (.int .i64 x2) := (grown_cell hGG (a := ⟨g, j * 2 + 1, none⟩) lgg).1.trans cb
      have hbw := grown_heap rG.out HB.out (by intro e; cases e)
      have b0 : wr.cell? ⟨w.heap.size, 0, none⟩ = some (.int .i64 (v1 : Int)) := by simp [World.cell?, hbw]
      have b1 : wr.cell? ⟨w.heap.size, 1, none⟩ = some (.int .i64 v2) := by simp [World.cell?, hbw]
      have hjn3 : (j : Int) < (n : Int) := by omega
      have heq : ∀ w0, (binOp .eql 149 (vA (v1, v2)) (vA (x1, x2))).run Tryz.prog w0 = .ok (.bool (decide ((v1, v2) = (x1, x2)))) w0 := fun w0 => eqV (v1, v2) (x1, x2) w0
      have HX := hid hx
      clear ca cb hbw hGG hx
      by_cases hvx : ((v1, v2) : B.V) = (x1, x2)
      · have hd : decide (((v1, v2) : B.V) = (x1, x2)) = true := by simpa using hvx
        rw [hd] at heq
        have HV := hid hvx
        clear hd hvx
        go_wp2_with fail
        go_quiet (fail)
        go_wp2_with fail
        go_ret
        refine ⟨⟨(j : Int), rfl, Or.inr ⟨by omega, ?_⟩⟩, grown_trans KG.out (grown_drewN rG.out _)⟩
        rw [HV.out]; exact hmx
      · have hd : decide (((v1, v2) : B.V) = (x1, x2)) = false := by simpa using hvx
        rw [hd] at heq
        have HV := hid hvx
        clear hd hvx
        go_wp2_with fail
        go_quiet (fail)
        go_wp2_with fail
        have HG2 : Hid (w1.grownBy (wr.drewN nq) none) := grown_drewN rG.out _
        have HN2 : Hid (∀ k x, k < j + 1 → xs[k]? = some x → x ≠ (v1, v2)) := fun k x hk hxk e => by
          by_cases hkj : k = j
          · subst hkj
            rw [HX.out] at hxk
            injection hxk with hxk
            exact HV.out (by rw [hxk, e])
          · exact rN.out k x (by omega) hxk e
        go_roundw
        case rel => exact ⟨j + 1, by go_num, by omega, HN2, HG2⟩
        case measure => simp [intOf]; omega
    · have hjn2 : ¬ (j : Int) < (n : Int) := by omega
      go_wp2_with fail
      go_ret
      refine ⟨⟨-1, rfl, Or.inl ⟨by omega, fun hm => ?_⟩⟩, grown_trans KG.out rG.out⟩
      obtain ⟨k, hk⟩ := List.getElem?_of_mem hm
      have hkl := (List.getElem?_eq_some_iff.1 hk).1
      exact rN.out k _ (by have := HN.out; omega) hk rfl
set_option maxRecDepth 100000 in
theorem containsV (v : B.V) (g c n : Nat) (ad : Option Addr) (xs : List B.V) (w : World) (hn : n = xs.length) (hn2 : n ≤ 1000000000)
    (had : ∀ j x, xs[j]? = some x → ad = some ⟨g, 0, none⟩ ∧ w.cell? ⟨g, j * 2, none⟩ = some (.int .i64 (x.1 : Int)) ∧ w.cell? ⟨g, j * 2 + 1, none⟩ = some (.int .i64 x.2)) (lg : xs ≠ [] → g < w.heap.size) :
    Calls Tryz.prog 224 #[.slice ad n c, vA v] w fun e w' => e = .returned (.bool (decide (v ∈ xs))) ∧ w.grownBy w' none := by
  have HI : Hid (∀ w1, w.grownBy w1 none → Calls Tryz.prog 231 #[.slice ad n c, vA v] w1 fun e w' => (∃ z : Int, e = .returned (.int .i64 z) ∧ ((z < 0 ∧ v ∉ xs) ∨ (0 ≤ z ∧ v ∈ xs))) ∧ w1.grownBy w' none) := fun w1 hg => by
    refine sidxV v g c n ad xs w1 hn hn2 (fun j x hx => ?_) (fun h => Nat.lt_of_lt_of_le (lg h) hg.size)
    obtain ⟨a1, a2, a3⟩ := had j x hx
    have hmx := List.mem_of_getElem? hx
    have lgg := lg (by intro e; rw [e] at hmx; cases hmx)
    exact ⟨a1, (grown_cell hg (a := ⟨g, j * 2, none⟩) lgg).1.trans a2, (grown_cell hg (a := ⟨g, j * 2 + 1, none⟩) lgg).1.trans a3⟩
  clear had lg hn
  obtain ⟨v1, v2⟩ := v
  go_enter Tryz.func224, Tryz.ntmps224
  go_wp2_with fail
  generalize hw1 : w.alloc (.cells #[.int .i64 (v1 : Int), .int .i64 v2] 149) = w1
  have KG : Hid (w.grownBy w1 none) := by rw [← hw1]; exact World.grownBy_alloc _ _ _
  clear hw1
  refine (HI.out w1 KG.out).mono ?_
  rintro e w2 ⟨⟨z, rfl, hz⟩, hg⟩
  have KG2 := hid (grown_trans KG.out hg)
  clear hg
  rcases hz with ⟨hz, hm⟩ | ⟨hz, hm⟩
  · have HM := hid hm
    clear hm
    have hz2 : ¬ 0 ≤ z := by omega
    go_wp2_with fail
    go_ret
    exact ⟨by simp [HM.out, hz2], KG2.out⟩
  · have HM := hid hm
    clear hm
    go_wp2_with fail
    go_ret
    exact ⟨by simp [HM.out], KG2.out⟩
def valL (xs : List B.V) : List Value := xs.flatMap (fun v => [.int .i64 (v.1 : Int), .int .i64 v.2])
theorem valL_cons (x : B.V) (xs : List B.V) : valL (x :: xs) = .int .i64 (x.1 : Int) :: .int .i64 x.2 :: valL xs := rfl
theorem valL_len : ∀ xs, (valL xs).length = xs.length * 2
  | [] => rfl
  | x :: xs => by rw [valL_cons, List.length_cons, List.length_cons, valL_len xs, List.length_cons]; omega
theorem valL_app (xs ys : List B.V) : valL (xs ++ ys) = valL xs ++ valL ys := by simp [valL, List.flatMap_append]
theorem valL_at : ∀ (xs : List B.V) (j : Nat) (x : B.V), xs[j]? = some x → (valL xs)[j * 2]? = some (.int .i64 (x.1 : Int)) ∧ (valL xs)[j * 2 + 1]? = some (.int .i64 x.2)
  | [], j, x, h => by simp at h
  | y :: xs, 0, x, h => by
    simp at h; subst h
    exact ⟨rfl, rfl⟩
  | y :: xs, j + 1, x, h => by
    have := valL_at xs j x (by simpa using h)
    rw [valL_cons, show (j + 1) * 2 = j * 2 + 1 + 1 by omega]
    simpa using this
theorem own2_mk {w : World} {base g n c : Nat} {xs : List B.V} (hb : base ≤ g) (hn : n ≤ c) (hm : c ≤ maxLen) (hl : xs.length = n) (hB : Blk w g 149 (c * 2)) (hx : ∀ j x, xs[j]? = some x → w.cell? ⟨g, j * 2, none⟩ = some (.int .i64 (x.1 : Int)) ∧ w.cell? ⟨g, j * 2 + 1, none⟩ = some (.int .i64 x.2)) : w.ownsRow base 149 2 (.slice (some ⟨g, 0, none⟩) n c) n (valL xs) := by
  obtain ⟨cur, h1, h2⟩ := hB
  refine ⟨by rw [valL_len, hl], Or.inr ⟨g, c, cur, rfl, hb, h1, hn, hm, h2, ?_⟩⟩
  apply List.ext_getElem?
  intro i
  by_cases hi : i < n * 2
  · obtain ⟨x, hxj⟩ : ∃ x, xs[i / 2]? = some x := ⟨_, List.getElem?_eq_getElem (by omega)⟩
    obtain ⟨a1, a2⟩ := hx (i / 2) x hxj
    obtain ⟨b1, b2⟩ := valL_at xs (i / 2) x hxj
    rw [List.getElem?_take, if_pos hi]
    simp only [World.cell?, h1] at a1 a2
    rcases (show i = i / 2 * 2 ∨ i = i / 2 * 2 + 1 by omega) with e | e
    · rw [e, b1]; simpa using a1
    · rw [e, b2]; simpa using a2
  · rw [List.getElem?_eq_none (by simp; omega), List.getElem?_eq_none (by rw [valL_len]; omega)]
theorem own2_ge {w : World} {base g n c : Nat} {xs : List B.V} (h : w.ownsRow base 149 2 (.slice (some ⟨g, 0, none⟩) n c) n (valL xs)) : base ≤ g ∧ n ≤ c ∧ c ≤ maxLen ∧ xs.length = n ∧ Blk w g 149 (c * 2) ∧ ∀ j x, xs[j]? = some x → w.cell? ⟨g, j * 2, none⟩ = some (.int .i64 (x.1 : Int)) ∧ w.cell? ⟨g, j * 2 + 1, none⟩ = some (.int .i64 x.2) := by
  rcases h with ⟨hl, ⟨h, _⟩ | ⟨g', c', cur, h1, h2, h3, h4, h5, h6, h7⟩⟩
  · cases h
  · cases h1
    rw [valL_len] at hl
    refine ⟨h2, h4, h5, by omega, ⟨cur, h3, h6⟩, fun j x hx => ?_⟩
    have hj : j < xs.length := (List.getElem?_eq_some_iff.1 hx).1
    obtain ⟨b1, b2⟩ := valL_at xs j x hx
    rw [← h7, List.getElem?_take, if_pos (by omega)] at b1
    rw [← h7, List.getElem?_take, if_pos (by omega)] at b2
    simp only [World.cell?, h3]
    exact ⟨by simpa using b1, by simpa using b2⟩
def txt (l : List Nat) : ByteArray := ⟨(l.map UInt8.ofNat).toArray⟩
def u8s (l : List Nat) : List Value := l.map (fun (x : Nat) => Value.int .u8 (x : Int))
theorem Tryz.info5 : (Tryz.prog.info? 5).map (fun i => (i.zero, i.size, i.bytes)) = some (some (.int .u8 0), 1, 1) := by kernel_rfl
theorem fold_txt_from (l : List Nat) : ∀ (s : ByteArray), (l.map (fun (x : Nat) => (x : Int))).foldl (fun r n => r.push (UInt8.ofNat n.toNat)) s = ⟨s.data ++ (l.map UInt8.ofNat).toArray⟩ := by
  induction l with
  | nil => intro s; simp
  | cons a l ih =>
    intro s
    simp only [List.map_cons, List.foldl_cons]
    rw [ih]
    simp [ByteArray.push]
theorem fold_txt (l : List Nat) : (l.map (fun (x : Nat) => (x : Int))).foldl (fun r n => r.push (UInt8.ofNat n.toNat)) ByteArray.empty = txt l := by
  rw [fold_txt_from]
  unfold txt
  congr 1
  exact Array.empty_append
def codeL (x : Nat → Nat) (i : Nat) : List Nat := (List.range (4 * i)).map x
theorem codeL_succ (x : Nat → Nat) (i : Nat) : codeL x (i + 1) = codeL x i ++ [x (4 * i), x (4 * i + 1), x (4 * i + 2), x (4 * i + 3)] := by
  unfold codeL
  rw [show 4 * (i + 1) = 4 * i + 1 + 1 + 1 + 1 by omega]
  simp only [List.range_succ, List.map_append, List.map_cons, List.map_nil, List.append_assoc, List.cons_append, List.nil_append]
set_option maxRecDepth 100000 in
set_option maxHeartbeats 1000000 in
theorem function_any (regs k g cap T m : Nat) (x : Nat → Nat) (w : World) (hr : regs < 256) (hk : k ≤ 200) (hx : ∀ j, j < 4 * k → x j < 256) (hf : Full w g T m (4 * k) (fun j => .int .u8 (x j : Int))) (hkc : k ≤ cap) :
    Calls Tryz.prog 22 #[.int .i64 regs, .slice (some ⟨g, 0, none⟩) k cap] w fun e w' => e = .returned (.string (txt (regs :: k :: codeL x k))) ∧ Below w.heap.size w w' := by
  have HX : Hid (∀ j, j < 4 * k → x j < 256) := hx
  have HF : Hid (Full w g T m (4 * k) (fun j => .int .u8 (x j : Int))) := hf
  have hgz := hf.lt
  clear hx hf
  obtain ⟨i0, hi, hz0, hz1, hz2⟩ := info_parts Tryz.info5
  go_enter Tryz.func22, Tryz.ntmps22
  go_wp2_with fail
  have KO : Hid ((w.alloc (.cells #[.int .u8 regs, .int .u8 k] 5)).ownsRow w.heap.size 5 1 (.slice (some ⟨w.heap.size, 0, none⟩) 2 2) (2 + 4 * 0) (u8s (regs :: k :: codeL x 0))) :=
    ⟨by simp [u8s, codeL], Or.inr ⟨w.heap.size, 2, #[.int .u8 regs, .int .u8 k], rfl, Nat.le_refl _, heap_alloc_new w _, by omega, by decide, rfl, rfl⟩⟩
  have KB : Hid (Below w.heap.size w (w.alloc (.cells #[.int .u8 regs, .int .u8 k] 5))) := (Below.refl _ _).alloc (Nat.le_refl _) _
  go_loopw [5, 6] (fun b i wr => ∃ j, j ≤ k ∧ i = .int .i64 j ∧ Hid (wr.ownsRow w.heap.size 5 1 b (2 + 4 * j) (u8s (regs :: k :: codeL x j))) ∧ Hid (Below w.heap.size w wr)) (fun _ i _ => k - (intOf i).toNat)
  case atStart => exact ⟨0, by omega, rfl, KO, KB⟩
  case round =>
    obtain ⟨j, hj, rfl, rO, rB⟩ := hrel
    clear KO KB
    obtain ⟨gb, cb, rfl⟩ := row_form rO.out (by omega)
    by_cases hlt : j < k
    · have hf : Full wr g T m (4 * k) (fun j => .int .u8 (x j : Int)) := HF.out.block (rB.out.block _ hgz)
      have c0 := hf.cell (j * 4) (by omega)
      have c1 := hf.cell (j * 4 + 1) (by omega)
      have c2 := hf.cell (j * 4 + 2) (by omega)
      have c3 := hf.cell (j * 4 + 3) (by omega)
      have hz := rB.out.size
      clear hf
      have hjk : (j : Int) < (k : Int) := by omega
      go_wp2_with fail
      go_region_law (refine step_append_own rfl (.tmp 19) (.tmp 40) 86 rfl w.heap.size 5 i0 _ 1 1 Tryz.underlying86 hi hz0 hz1 hz2 rfl (by decide) (.slice (some ⟨gb, 0, none⟩) (2 + 4 * j) cb) (2 + 4 * j) (u8s (regs :: k :: codeL x j)) (by simp [Act.eval]) (own_drew (own_alloc rO.out _)) ⟨wr.heap.size, 0, none⟩ 4 4 [.int .u8 (x (j * 4) : Int), .int .u8 (x (j * 4 + 1) : Int), .int .u8 (x (j * 4 + 2) : Int), .int .u8 (x (j * 4 + 3) : Int)] (by simp [Act.eval]) rfl (by intro q u hq; match q, hq with | 0, hq => (simp at hq; subst hq; simp [Addr.add, go_sem]) | 1, hq => (simp at hq; subst hq; simp [Addr.add, go_sem]) | 2, hq => (simp at hq; subst hq; simp [Addr.add, go_sem]) | 3, hq => (simp at hq; subst hq; simp [Addr.add, go_sem])) (by simp [Value.oneCell']) (by unfold maxLen; omega) (by omega) (by simp; omega) ?_; intro v' w6 hown hgrow; have KO6 : Hid (w6.ownsRow w.heap.size 5 1 v' (2 + 4 * j + 4) (u8s (regs :: k :: codeL x j) ++ [.int .u8 (x (j * 4) : Int), .int .u8 (x (j * 4 + 1) : Int), .int .u8 (x (j * 4 + 2) : Int), .int .u8 (x (j * 4 + 3) : Int)])) := hown; have KB6 : Hid (Below w.heap.size w w6) := (below_own (rB.out.trans (((Below.refl _ _).alloc (by omega) _).drew)) hgrow (own_drew (own_alloc rO.out _)) (Nat.le_refl _)); clear hown hgrow)
      all_goals
        clear c0 c1 c2 c3 rO rB i0 hi hz0 hz1 hz2
        go_wp2_with fail
        go_roundw
        case rel =>
          refine ⟨j + 1, by omega, by go_num, ?_, KB6⟩
          show World.ownsRow _ _ _ _ _ _ _
          have e := KO6.out
          rw [show 2 + 4 * (j + 1) = 2 + 4 * j + 4 by omega, codeL_succ]
          simp only [u8s, List.map_cons, List.map_append, List.map_nil, List.cons_append, Nat.mul_comm 4 j] at e ⊢
          exact e
        case measure => simp [intOf]; omega
    · obtain rfl : j = k := by omega
      have hcv := run_convert_bytes_string (P := Tryz.prog) wr 86 9 5 (some ⟨gb, 0, none⟩) (2 + 4 * j) cb Tryz.underlying86 Tryz.underlying5 Tryz.underlying9
      have hld : (loadCells ⟨gb, 0, none⟩ (2 + 4 * j)).run Tryz.prog wr = .ok (((regs :: j :: codeL x j).map (fun (x : Nat) => (x : Int))).map (Value.int .u8)).toArray wr := by
        have e := rO.out
        have := run_loadCells_list (P := Tryz.prog) wr ⟨gb, 0, none⟩ (u8s (regs :: j :: codeL x j)) (fun q v hv => ?_)
        · have hlen : (u8s (regs :: j :: codeL x j)).length = 2 + 4 * j := by simp [u8s, codeL]; omega
          rw [hlen] at this
          rw [this]
          congr 2
          unfold u8s
          rw [List.map_map]
          rfl
        · rcases e.2 with ⟨h, _⟩ | ⟨g', cap', cur, h1, _, h2, _, _, h3, h4⟩
          · cases h
          · cases h1
            rw [Addr.add_mid]
            have hq : cur[q]? = some v := by
              rw [← h4] at hv
              rw [List.getElem?_take] at hv
              split at hv
              · simpa using hv
              · cases hv
            simp [World.cell?, h2, hq]
      have hst := run_bytesToString (P := Tryz.prog) wr ⟨gb, 0, none⟩ (2 + 4 * j) cb _ hld
      rw [hst] at hcv
      have ht : (((regs :: j :: codeL x j).map (fun (x : Nat) => (x : Int))).foldl (fun r n => r.push (UInt8.ofNat n.toNat)) ByteArray.empty) = txt (regs :: j :: codeL x j) := fold_txt _
      rw [ht] at hcv
      clear hst hld ht
      go_wp2_with fail
      go_ret
      exact ⟨rfl, rB.out⟩
set_option maxRecDepth 100000 in
set_option maxHeartbeats 2000000 in
theorem bdelL (g c n i base : Nat) (xs : List Value) (w : World) (hown : w.ownsRow base 5 1 (.slice (some ⟨g, 0, none⟩) n c) n xs) (hin : i < n) (h1 : ∀ x, x ∈ xs → x.oneCell' = true) (hn2 : n ≤ 1000000000) :
    Calls Tryz.prog 208 #[.slice (some ⟨g, 0, none⟩) n c, .int .i64 (i : Int), .int .i64 ((i : Int) + 1)] w fun e w' => e = .returned (.slice (some ⟨g, 0, none⟩) (n - 1) c) ∧ w'.ownsRow base 5 1 (.slice (some ⟨g, 0, none⟩) (n - 1) c) (n - 1) (xs.eraseIdx i) ∧ w.grownBy w' (some g) := by
  obtain ⟨hb, hc, hm, hl, hB, hx⟩ := own_ge hown
  clear hown
  obtain ⟨i0, hi, hz0, hz1, hz2⟩ := info_parts Tryz.info5
  have hv : ∀ w, (zeroValue 5).run Tryz.prog w = .ok (.int .u8 0) w := by intro w; simp [zeroValue, typeInfo, hi, hz0]
  have hrun : ∀ (ty : TypeId) (w1 : World) (c' : Nat), Blk w1 g 5 c → (Builtin.clear_ #[86] ty #[.slice (some ⟨g, n - 1, none⟩) 1 c']).run Tryz.prog w1 = .ok (.tuple #[]) (w1.setCell ⟨g, n - 1, none⟩ (.int .u8 0)) := by
    intro ty w1 c' hB1
    refine Go.Lib.run_clear_slice (P := Tryz.prog) w1 86 5 ty (.int .u8 0) Tryz.underlying86 hv rfl rfl g (n - 1) 1 c' (by omega) ?_ ?_
    · intro j hj
      obtain ⟨⟨v, h⟩, _⟩ := hB1.cell (n - 1 + j) (by omega)
      rw [h]; rfl
    · intro j hj
      exact (hB1.cell (n - 1 + j) (by omega)).2
  have hic : i ≤ c := by omega
  have h0i : (0 : Int) ≤ (i : Int) + 1 := by omega
  have hi1c : i + 1 ≤ c := by omega
  have hci : (n : Int) ≤ (c : Int) := by omega
  have hii : (i : Int) + 1 ≤ (n : Int) := by omega
  have hmi : (c : Int) ≤ 9223372036854775807 := by unfold maxLen at hm; omega
  have HB := hid hB
  have HX := hid hx
  have H1 := hid h1
  have HL := hid hl
  have HRUN := hid hrun
  have HM := hid hm
  clear hB hx h1 hl hrun hm
  by_cases hlast : i + 1 = n
  · obtain rfl : n = i + 1 := hlast.symm
    have cl : ∀ (ty : TypeId) (c' : Nat), (Builtin.clear_ #[86] ty #[.slice (some ⟨g, i, none⟩) 1 c']).run Tryz.prog w.drew = .ok (.tuple #[]) (w.drew.setCell ⟨g, i, none⟩ (.int .u8 0)) := fun ty c' => HRUN.out ty w.drew c' HB.out
    clear hlast
    go_enter Tryz.func208, Tryz.ntmps208
    go_wp2_with fail
    go_region_law (refine step_append_zero rfl (.tmp 22) (.tmp 25) 86 rfl 5 i0 Tryz.underlying86 hi (some ⟨g, 0, none⟩) (if c = i + 1 then some ⟨g, 0, none⟩ else some ⟨g, i + 1, none⟩) i c (c - (i + 1)) (by first | rfl | simp [Act.eval, Act.put]) (by first | rfl | simp [Act.eval, Act.put]) (by omega) ?_)
    all_goals
      go_wp2_with fail
      all_goals
        go_ret
        refine ⟨rfl, own_mk hb (by omega) (by have := HM.out; omega) (by rw [List.length_eraseIdx, if_pos (by rw [HL.out]; omega), HL.out]; omega) (by obtain ⟨cu, k1, k2⟩ := HB.out.set g i (.int .u8 0); exact ⟨cu, k1, by omega⟩) (fun j x hx => ?_), ?_⟩
        · have hj : j < i := by
            have := (List.getElem?_eq_some_iff.1 hx).1
            rw [List.length_eraseIdx, if_pos (by rw [HL.out]; omega), HL.out] at this
            omega
          rw [List.getElem?_eraseIdx_of_lt hj] at hx
          have := HX.out j x hx
          have h2 : (World.setCell w ⟨g, i, none⟩ (.int .u8 0)).cell? ⟨g, j, none⟩ = some x := by
            rw [World.cell?_setCell_other _ _ _ _ (by intro e; injection e with _ e; omega)]; exact this
          exact h2
        · repeat (first | exact grown_refl _ _ | refine grown_drew ?_ | refine grown_setCell ?_ (Or.inl rfl) _)
  · obtain ⟨m, hnm⟩ : ∃ m, n = i + 1 + m := ⟨n - (i + 1), by omega⟩
    have hm1 : 1 ≤ m := by omega
    subst hnm
    have hne : ¬ c = i + 1 := by omega
    have r1 : (xs.drop (i + 1)).length = m * 1 := by rw [List.length_drop, HL.out, Nat.mul_one]; omega
    have r2 : ∀ j u, (xs.drop (i + 1))[j]? = some u → w.drew.cell? ((⟨g, i + 1, none⟩ : Addr).add j) = some u := fun j u hu => by
      rw [List.getElem?_drop] at hu
      have := HX.out (i + 1 + j) u hu
      cases j with
      | zero => simpa [Addr.add] using this
      | succ j => simpa [Addr.add] using this
    have r3 : ∀ u, u ∈ xs.drop (i + 1) → u.oneCell' = true := fun u hu => H1.out u (List.mem_of_mem_drop hu)
    have r5 : ∀ j, j < (xs.drop (i + 1)).length → (w.drew.cell? ⟨g, 0 + i * 1 + j, none⟩).isSome = true ∧ w.drew.frozen? ⟨g, 0 + i * 1 + j, none⟩ = false := fun j hj => by
      rw [r1] at hj
      obtain ⟨⟨v, h⟩, hf⟩ := HB.out.cell (0 + i * 1 + j) (by omega)
      have h' : w.drew.cell? ⟨g, 0 + i * 1 + j, none⟩ = some v := h
      exact ⟨by rw [h']; rfl, hf⟩
    have HR := hid (And.intro r1 (And.intro r2 (And.intro r3 r5)))
    have e1 : i + 1 + m - (i + 1) = m := by omega
    have e2 : i + 1 + m - (i + m) = 1 := by omega
    have e3 : i + m ≤ c := by omega
    have e4 : i + m ≤ i + 1 + m := by omega
    have e5 : i + 1 + m ≤ c := by omega
    have e6 : (i : Int) + 1 ≤ (i : Int) + 1 + (m : Int) := by omega
    have BS : Blk (w.drew.setCells g i (xs.drop (i + 1))) g 5 c := Blk.sets g _ _ _ (show Blk w.drew g 5 c from HB.out)
    have cl : ∀ (ty : TypeId) (c' : Nat), (Builtin.clear_ #[86] ty #[.slice (some ⟨g, i + m, none⟩) 1 c']).run Tryz.prog (w.drew.setCells g i (xs.drop (i + 1))) = .ok (.tuple #[]) ((w.drew.setCells g i (xs.drop (i + 1))).setCell ⟨g, i + m, none⟩ (.int .u8 0)) := fun ty c' => by
      have := HRUN.out ty _ c' BS
      rw [show i + 1 + m - 1 = i + m by omega] at this
      exact this
    have HBS := hid BS
    clear r1 r2 r3 r5 hlast BS
    go_enter Tryz.func208, Tryz.ntmps208
    go_wp2_with fail
    go_region_law (refine step_append_room rfl (.tmp 22) (.tmp 25) 86 rfl 5 i0 1 Tryz.underlying86 hi hz1 g 0 i c (by first | rfl | simp [Act.eval, Act.put]) ⟨g, i + 1, none⟩ m (c - (i + 1)) (xs.drop (i + 1)) (by first | rfl | simp [Act.eval, Act.put]) HR.out.1 HR.out.2.1 HR.out.2.2.1 (by omega) HR.out.2.2.2 ?_)
    all_goals
      go_wp2_with fail
      go_ret
      rw [show i + 1 + m - 1 = i + m by omega]
      have hin2 : ∀ j, j < (xs.drop (i + 1)).length → (w.drew.cell? ⟨g, i + j, none⟩).isSome = true := fun j hj => by
        have := (HR.out.2.2.2 j hj).1
        simpa using this
      refine ⟨rfl, own_mk hb (by omega) HM.out (by rw [List.length_eraseIdx, if_pos (by rw [HL.out]; omega), HL.out]; omega) (by obtain ⟨cu, k1, k2⟩ := HBS.out.set g (i + m) (.int .u8 0); exact ⟨cu, k1, k2⟩) (fun j x hx => ?_), ?_⟩
      · have hj : j < i + m := by
          have := (List.getElem?_eq_some_iff.1 hx).1
          rw [List.length_eraseIdx, if_pos (by rw [HL.out]; omega), HL.out] at this
          omega
        have h2 : ((w.drew.setCells g i (xs.drop (i + 1))).setCell ⟨g, i + m, none⟩ (.int .u8 0)).cell? ⟨g, j, none⟩ = some x := by
          rw [World.cell?_setCell_other _ _ _ _ (by intro e; injection e with _ e; omega)]
          by_cases hji : j < i
          · rw [World.cell?_setCells_out g _ _ _ _ (fun _ _ => Or.inl hji)]
            rw [List.getElem?_eraseIdx_of_lt hji] at hx
            exact HX.out j x hx
          · obtain ⟨t, rfl⟩ : ∃ t, j = i + t := ⟨j - i, by omega⟩
            rw [List.getElem?_eraseIdx_of_ge (by omega)] at hx
            have hd : (xs.drop (i + 1))[t]? = some x := by rw [List.getElem?_drop, ← hx]; congr 1; omega
            have ht := (List.getElem?_eq_some_iff.1 hd).1
            rw [World.cell?_setCells_in g _ _ _ hin2 t ht]
            obtain ⟨_, hv⟩ := List.getElem?_eq_some_iff.1 hd
            rw [hv]
        exact h2
      · repeat (first | exact grown_refl _ _ | refine grown_drew ?_ | refine grown_setCell ?_ (Or.inl rfl) _ | refine grown_sets g ?_ _ _)
def bytL (bs : List Nat) : List Value := bs.map (fun (x : Nat) => Value.int .u8 (x : Int))
set_option maxRecDepth 100000 in
set_option maxHeartbeats 1000000 in
theorem take_none (eb o c : Nat) (ad : Option Addr) (w : World) (h : w.cell? ⟨eb, o, none⟩ = some (.slice ad 0 c)) :
    Calls Tryz.prog 174 #[Pt eb o] w fun e w' => e = .returned (.tuple #[.int .u8 0, .bool false]) ∧ w' = w := by
  go_enter Tryz.func174, Tryz.ntmps174
  go_wp2_with fail
  go_ret2
  exact ⟨rfl, rfl⟩
set_option maxRecDepth 100000 in
set_option maxHeartbeats 1000000 in
theorem take_some (eb o g c N x : Nat) (T : TypeId) (bs : List Nat) (E : Nat → Value) (w : World) (hE : Full w eb T N N E) (ho : o < N) (he : E o = .slice (some ⟨g, 0, none⟩) (bs.length + 1) c) (hrow : w.ownsRow 0 5 1 (.slice (some ⟨g, 0, none⟩) (bs.length + 1) c) (bs.length + 1) (bytL (x :: bs))) (hn : bs.length ≤ 1000) (ng : g ≠ eb) :
    Calls Tryz.prog 174 #[Pt eb o] w fun e w' => e = .returned (.tuple #[.int .u8 (x : Int), .bool true]) ∧ Full w' eb T N N (upd E o (.slice (some ⟨g, 0, none⟩) bs.length c)) ∧ w'.ownsRow 0 5 1 (.slice (some ⟨g, 0, none⟩) bs.length c) bs.length (bytL bs) ∧ Only (fun k => k = eb ∨ k = g) w w' := by
  obtain ⟨c0, z0⟩ := hE.cells o ho
  rw [he] at c0
  have le := hE.lt
  have q0 : w.cell? ⟨g, 0, none⟩ = some (.int .u8 (x : Int)) := (own_ge hrow).2.2.2.2.2 0 _ rfl
  have HD : Hid (Calls Tryz.prog 208 #[.slice (some ⟨g, 0, none⟩) (bs.length + 1) c, .int .i64 0, .int .i64 1] w fun e w' => e = .returned (.slice (some ⟨g, 0, none⟩) bs.length c) ∧ w'.ownsRow 0 5 1 (.slice (some ⟨g, 0, none⟩) bs.length c) bs.length (bytL bs) ∧ w.grownBy w' (some g)) := by
    have := bdelL g c (bs.length + 1) 0 0 (bytL (x :: bs)) w hrow (by omega) (fun y hy => by obtain ⟨z, _, rfl⟩ := List.mem_map.1 hy; rfl) (by omega)
    refine hid ?_
    simpa [bytL] using this
  have HE := hid hE
  generalize bs.length = n at *
  clear hE hrow
  go_enter Tryz.func174, Tryz.ntmps174
  go_wp2_with fail
  refine HD.out.mono ?_
  rintro e w1 ⟨rfl, ho1, hg1⟩
  have HE1 := hid (HE.out.kept hg1 (fun e => ng e.symm))
  obtain ⟨d0, e0⟩ := HE1.out.cells o ho
  have le1 := HE1.out.lt
  have HO1 := hid ho1
  have HG1 := hid hg1
  clear ho1 hg1 c0 z0 q0
  go_wp2_with fail
  go_ret2
  refine ⟨rfl, HE1.out.upd o _, own_of HO1.out (fun k h => ?_), only_setCell (only_grown HG1.out (Or.inr rfl)) (Or.inl (Or.inl rfl)) _⟩
  have hk : k = g := by injection h with h; exact h.symm
  subst hk
  exact Below.heap_setCell _ _ _ _ ng
theorem map_erase {α β : Type} (f : α → β) : ∀ (xs : List α) (i : Nat), (xs.map f).eraseIdx i = (xs.eraseIdx i).map f
  | [], _ => rfl
  | _ :: _, 0 => rfl
  | x :: xs, i + 1 => by simp [map_erase f xs i]
theorem erase_idx : ∀ (xs : List Nat) (x : Nat), xs.eraseIdx (xs.idxOf x) = xs.erase x
  | [], x => rfl
  | y :: xs, x => by
    rw [List.idxOf_cons, List.erase_cons]
    by_cases e : y = x
    · subst e; simp
    · have hbe : (y == x) = false := by simpa using e
      rw [hbe]
      simp [erase_idx xs x]
structure Ln (w : World) (b o : Nat) (T : TypeId) (N : Nat) (E : Nat → Value) (ad : Option Addr) (n c : Nat) (xs : List Nat) : Prop where
  hE : Full w b T N N E
  ho : o < N
  e : E o = .slice ad n c
  row : w.ownsRow 0 155 1 (.slice ad n c) n (xs.map P0)
  hn : n ≤ 1000000000
theorem Ln.len {w : World} {b o : Nat} {T : TypeId} {N : Nat} {E : Nat → Value} {ad : Option Addr} {n c : Nat} {xs : List Nat} (h : Ln w b o T N E ad n c xs) : xs.length = n := by
  have := h.row.1
  simpa using this
set_option maxRecDepth 100000 in
set_option maxHeartbeats 4000000 in
theorem stepOutL (b o g c n tb N : Nat) (T : TypeId) (E Tk : Nat → Value) (xs : List Nat) (w : World) (hL : Ln w b o T N E (some ⟨g, 0, none⟩) n c xs) (hT : Full w tb 160 7 7 Tk) (hT3 : Tk 3 = Pt b o) (hm : tb ∈ xs) (hX : ∀ x, x ∈ xs → Blk w x 160 7) (nb : b ≠ tb) (ng : g ≠ b) (ngt : g ≠ tb) :
    Calls Tryz.prog 133 #[P0 tb] w fun e w' => e = .returned (.tuple #[]) ∧ Ln w' b o T N (upd E o (.slice (some ⟨g, 0, none⟩) (n - 1) c)) (some ⟨g, 0, none⟩) (n - 1) c (xs.erase tb) ∧ Full w' tb 160 7 7 (upd (upd Tk 3 (.pointer none)) 4 .nilFunc) ∧ Only (fun k => k = b ∨ k = tb ∨ k = g) w w' := by
  obtain ⟨c31, z31⟩ := hL.hE.cells o hL.ho
  obtain ⟨c3, z3⟩ := hT.cells 3 (by omega)
  obtain ⟨c4, z4⟩ := hT.cells 4 (by omega)
  rw [hL.e] at c31
  rw [hT3] at c3
  generalize Tk 4 = y4 at c4
  have le := hL.hE.lt
  have lt := hT.lt
  have hlen := hL.len
  have hil : xs.idxOf tb < n := by rw [← hlen]; exact List.idxOf_lt_length_of_mem hm
  have HIX : Hid (Calls Tryz.prog 183 #[.slice (some ⟨g, 0, none⟩) n c, P0 tb] w fun e w' => e = .returned (.int .i64 (xs.idxOf tb : Nat)) ∧ w' = w) :=
    sidx_any g c n tb xs w hlen.symm hL.hn (fun j x hx => by
      have := (own_ge hL.row).2.2.2.2.2 j (P0 x) (by simp [hx])
      exact this) hT.blk hX hm
  have HDL : Hid (∀ w1 : World, w1.ownsRow 0 155 1 (.slice (some ⟨g, 0, none⟩) n c) n (xs.map P0) → Calls Tryz.prog 184 #[.slice (some ⟨g, 0, none⟩) n c, .int .i64 ((xs.idxOf tb : Nat) : Int), .int .i64 (((xs.idxOf tb : Nat) : Int) + 1)] w1 fun e w' => e = .returned (.slice (some ⟨g, 0, none⟩) (n - 1) c) ∧ w'.ownsRow 0 155 1 (.slice (some ⟨g, 0, none⟩) (n - 1) c) (n - 1) ((xs.erase tb).map P0) ∧ w1.grownBy w' (some g)) := fun w1 h1 => by
    refine (sdel_any g c n (xs.idxOf tb) 0 (xs.map P0) w1 h1 hil (fun x hx => ?_) hL.hn).mono ?_
    · obtain ⟨y, _, rfl⟩ := List.mem_map.1 hx; rfl
    · rintro e w' ⟨h2, h3, h4⟩
      refine ⟨h2, ?_, h4⟩
      rw [map_erase] at h3
      rw [erase_idx] at h3
      exact h3
  have HL := hid hL
  have HT : Hid (Full w tb 160 7 7 Tk) := hT
  have HT3 := hid hT3
  have HIL := hid hil
  generalize xs.idxOf tb = ix at *
  clear hL hT hT3 hm hX hlen hil
  go_enter Tryz.func133, Tryz.ntmps133
  go_wp2_with fail
  refine HIX.out.mono ?_
  rintro e w1 ⟨rfl, rfl⟩
  have hix : ix ≤ 1000000000 := by have := HIL.out; have := HL.out.hn; omega
  go_wp2_with fail
  have hwr : IntKind.i64.wrap ((ix : Int) + 1) = (ix : Int) + 1 := IntWalk.i64_in _ ⟨by omega, by omega⟩
  go_region_with (first | (go_at_call 184; refine (HDL.out w1.drew (own_of HL.out.row (fun _ _ => rfl))).mono ?_; rintro e w2 ⟨rfl, ho2, hg2'⟩; have hg2 : w1.grownBy w2 (some g) := ⟨hg2'.os, hg2'.tape, hg2'.output, hg2'.size, hg2'.block⟩; clear hg2'; have HO2 : Hid (w2.ownsRow 0 155 1 (.slice (some ⟨g, 0, none⟩) (n - 1) c) (n - 1) ((xs.erase tb).map P0)) := ho2; have HG2 : Hid (w1.grownBy w2 (some g)) := hg2; have HE2 : Hid (Full w2 b T N N E) := HL.out.hE.kept hg2 (fun e => ng e.symm); have HT2 : Hid (Full w2 tb 160 7 7 Tk) := HT.out.kept hg2 (fun e => ngt e.symm); obtain ⟨d31, e31⟩ := HE2.out.cells o HL.out.ho; have d31' : w2.cell? ⟨b, o, none⟩ = some (.slice (some ⟨g, 0, none⟩) n c) := d31.trans (by rw [HL.out.e]); have c3' : w2.cell? ⟨tb, 3, none⟩ = some (Pt b o) := (HT2.out.cell 3 (by omega)).trans (by rw [HT3.out]); have le2 := HE2.out.lt; have lt2 := HT2.out.lt; clear ho2 hg2))
  all_goals
    obtain ⟨d4, e4⟩ := HT2.out.cells 4 (by omega)
    obtain ⟨_, e3⟩ := HT2.out.cells 3 (by omega)
    generalize Tk 4 = y4 at d4
    have ne' : ¬ tb = b := fun e => nb e.symm
    have ne2 : ¬ b = tb := nb
    go_wp2_with fail
    go_end0
    have g1 : g ≠ tb := ngt
    have g2 : g ≠ b := ng
    refine ⟨rfl, { hE := ?_, ho := HL.out.ho, e := upd_at _ _ _, row := own_of HO2.out (fun k h => ?_), hn := by have := HL.out.hn; omega }, ?_, ?_⟩
    · exact ((HE2.out.upd o _).off nb).off nb
    · have : k = g := by injection h with h; exact h.symm
      subst this
      show ((World.setCell _ _ _).setCell _ _).heap[k]? = _
      rw [Below.heap_setCell _ _ _ _ g1, Below.heap_setCell _ _ _ _ g1, Below.heap_setCell _ _ _ _ g2]
    · exact ((HT2.out.off (fun e => nb e.symm)).upd 3 _).upd 4 _
    · exact only_setCell (only_setCell (only_setCell (only_grown HG2.out (Or.inr (Or.inr rfl))) (Or.inl (Or.inl rfl)) _) (Or.inl (Or.inr (Or.inl rfl))) _) (Or.inl (Or.inr (Or.inl rfl))) _
def Came (w w' : World) (b o : Nat) (T : TypeId) (N : Nat) (E Tk : Nat → Value) (ad : Option Addr) (n c tb : Nat) (xs : List Nat) : Prop :=
  ∃ g c', Ln w' b o T N (upd E o (.slice (some ⟨g, 0, none⟩) (n + 1) c')) (some ⟨g, 0, none⟩) (n + 1) c' (xs ++ [tb]) ∧ Full w' tb 160 7 7 (upd (upd Tk 2 (.bool false)) 3 (Pt b o)) ∧ Only (fun k => k = b ∨ k = tb ∨ (Value.slice ad n c).ownBlock = some k) w w' ∧ ((Value.slice ad n c).ownBlock = some g ∨ w.heap.size ≤ g)
set_option maxRecDepth 100000 in
set_option maxHeartbeats 4000000 in
theorem insertL (b o c n tb N : Nat) (T : TypeId) (ad : Option Addr) (E Tk : Nat → Value) (xs : List Nat) (R : World → Prop) (w : World) (nb : b ≠ tb) (nk : ∀ k, (Value.slice ad n c).ownBlock = some k → k ≠ b ∧ k ≠ tb) (hn2 : n < 1000000000)
    (H : Calls Tryz.prog 133 #[P0 tb] w fun e w1 => e = .returned (.tuple #[]) ∧ Ln w1 b o T N E ad n c xs ∧ Full w1 tb 160 7 7 Tk ∧ R w1) :
    Calls Tryz.prog 166 #[Pt b o, .int .i64 (n : Int), P0 tb] w fun e w' => e = .returned (.tuple #[]) ∧ ∃ w1, R w1 ∧ Came w1 w' b o T N E Tk ad n c tb xs := by
  have HH := hid H
  have HK := hid nk
  clear H nk
  go_enter Tryz.func166, Tryz.ntmps166
  go_wp2_with fail
  refine HH.out.mono ?_
  rintro e w1 ⟨rfl, hL, hT, hR⟩
  obtain ⟨c31, z31⟩ := hL.hE.cells o hL.ho
  obtain ⟨c2, z2⟩ := hT.cells 2 (by omega)
  obtain ⟨c3, z3⟩ := hT.cells 3 (by omega)
  rw [hL.e] at c31
  generalize Tk 2 = y2 at c2
  generalize Tk 3 = y3 at c3
  have le := hL.hE.lt
  have lt := hT.lt
  have HL := hid hL
  have HT := hid hT
  have HR := hid hR
  have ne' : ¬ tb = b := fun e => nb e.symm
  clear hL hT hR
  go_wp2_with fail
  generalize hw2 : ((w1.setCell ⟨tb, 2, none⟩ (.bool false)).setCell ⟨tb, 3, none⟩ (.pointer (some ⟨b, o, none⟩))).alloc (.cells #[P0 tb] 155) = w2
  have hz2 : w2.heap.size = w1.heap.size + 1 := by rw [← hw2]; simp [World.setCell]
  have hoth : ∀ k, k ≠ tb → k < w1.heap.size → w2.heap[k]? = w1.heap[k]? := fun k hk hlt => by
    rw [← hw2, Below.heap_alloc _ _ _ (by simp [World.setCell]; exact hlt), Below.heap_setCell _ _ _ _ hk, Below.heap_setCell _ _ _ _ hk]
  have hL2 : Ln w2 b o T N E ad n c xs := { hE := HL.out.hE.block (hoth b nb le), ho := HL.out.ho, e := HL.out.e, row := own_of HL.out.row (fun k hk => hoth k (HK.out k hk).2 (own_ty HL.out.row k hk).2.1), hn := HL.out.hn }
  have hT2 : Full w2 tb 160 7 7 (upd (upd Tk 2 (.bool false)) 3 (Pt b o)) := by
    rw [← hw2]
    exact (((HT.out.upd 2 _).upd 3 _).block (Below.heap_alloc _ _ _ (by simp [World.setCell]; exact lt)))
  have hx2 : w2.cell? ⟨w1.heap.size, 0, none⟩ = some (P0 tb) := by
    rw [← hw2]
    have := heap_alloc_new ((w1.setCell ⟨tb, 2, none⟩ (.bool false)).setCell ⟨tb, 3, none⟩ (.pointer (some ⟨b, o, none⟩))) (.cells #[P0 tb] 155)
    simp only [World.setCell, Array.size_modify] at this
    simp only [World.cell?, World.setCell]
    rw [this]; rfl
  have hO2 : Only (fun k => k = b ∨ k = tb ∨ (Value.slice ad n c).ownBlock = some k) w1 w2 := by
    rw [← hw2]
    exact only_alloc (only_setCell (only_setCell (only_refl _ _) (Or.inl (Or.inr (Or.inl rfl))) _) (Or.inl (Or.inr (Or.inl rfl))) _) _
  refine (sapp_any n 0 w1.heap.size (P0 tb) (xs.map P0) rfl w2 ad c hL2.row hx2 (by omega) (by omega)).mono ?_
  rintro e w3 ⟨g, c', rfl, ho3, hg3, hp3⟩
  have hE3 : Full w3 b T N N E := hL2.hE.block (hg3.block b hL2.hE.lt (fun h => (HK.out b h.symm).1 rfl))
  have hT3 : Full w3 tb 160 7 7 (upd (upd Tk 2 (.bool false)) 3 (Pt b o)) := hT2.block (hg3.block tb hT2.lt (fun h => (HK.out tb h.symm).2 rfl))
  have hO3 : Only (fun k => k = b ∨ k = tb ∨ (Value.slice ad n c).ownBlock = some k) w1 w3 :=
    hO2.trans (S1 := fun k => (Value.slice ad n c).ownBlock = some k) ⟨hg3.os, hg3.tape, hg3.output, hg3.size, fun k hk hn => hg3.block k hk (fun e => hn e.symm)⟩ (fun k h _ => Or.inr (Or.inr h))
  have hgb : g ≠ b ∧ g ≠ tb := by
    rcases hp3 with h | h
    · exact HK.out g h
    · exact ⟨by omega, by omega⟩
  obtain ⟨d31, f31⟩ := hE3.cells o HL.out.ho
  have le3 := hE3.lt
  have HE3 := hid hE3
  have HT3 := hid hT3
  have HO3 := hid hO3
  have HP3 := hid (And.intro hgb (And.intro hp3 hz2))
  have HW3 : Hid (w3.ownsRow 0 155 1 (.slice (some ⟨g, 0, none⟩) (n + 1) c') (n + 1) ((xs ++ [tb]).map P0)) := by
    show World.ownsRow _ _ _ _ _ _ _
    simpa using ho3
  clear hw2 hoth hL2 hT2 hx2 hO2 ho3 hg3 hp3 hE3 hT3 hO3 hgb c31 z31 c2 z2 c3 z3
  go_wp2_with fail
  go_end0
  refine ⟨rfl, w1, HR.out, g, c', { hE := HE3.out.upd o _, ho := HL.out.ho, e := upd_at _ _ _, row := own_of HW3.out (fun k h => ?_), hn := by omega }, HT3.out.off (fun e => nb e.symm), only_setCell HO3.out (Or.inl (Or.inl rfl)) _, ?_⟩
  · have : k = g := by injection h with h; exact h.symm
    subst this
    exact Below.heap_setCell _ _ _ _ HP3.out.1.1
  · rcases HP3.out.2.1 with h | h
    · exact Or.inl h
    · exact Or.inr (by have := HP3.out.2.2; omega)
set_option maxRecDepth 100000 in
theorem joinL (b o c n tb N : Nat) (T : TypeId) (ad : Option Addr) (E Tk : Nat → Value) (xs : List Nat) (R : World → Prop) (w : World) (nb : b ≠ tb) (nk : ∀ k, (Value.slice ad n c).ownBlock = some k → k ≠ b ∧ k ≠ tb) (hn2 : n < 1000000000) (hc : w.cell? ⟨b, o, none⟩ = some (.slice ad n c))
    (H : Calls Tryz.prog 133 #[P0 tb] w fun e w1 => e = .returned (.tuple #[]) ∧ Ln w1 b o T N E ad n c xs ∧ Full w1 tb 160 7 7 Tk ∧ R w1) :
    Calls Tryz.prog 110 #[Pt b o, P0 tb] w fun e w' => e = .returned (.tuple #[]) ∧ ∃ w1, R w1 ∧ Came w1 w' b o T N E Tk ad n c tb xs := by
  have HI := hid (insertL b o c n tb N T ad E Tk xs R w nb nk hn2 H)
  clear H nk
  go_enter Tryz.func110, Tryz.ntmps110
  go_wp2_with fail
  refine HI.out.mono ?_
  rintro e w1 ⟨rfl, h⟩
  have HH := hid h
  clear h
  go_wp2_with fail
  go_end0
  exact ⟨rfl, HH.out⟩
set_option maxRecDepth 100000 in
set_option maxHeartbeats 1000000 in
theorem waitL (op a b c fb tb eb lb o : Nat) (Tk : Nat → Value) (R : World → Prop) (w : World)
    (H : ∀ w1, w.grownBy w1 none → w1.heap[w.heap.size]? = some (stpB op a b c fb tb eb) → Calls Tryz.prog 110 #[Pt lb o, P0 tb] w1 fun e w2 => e = .returned (.tuple #[]) ∧ Full w2 tb 160 7 7 Tk ∧ w2.heap[w.heap.size]? = some (stpB op a b c fb tb eb) ∧ R w2) :
    Calls Tryz.prog 171 #[stepV op a b c fb tb eb, Pt lb o] w fun e w' => e = .returned (.tuple #[]) ∧ ∃ w2, R w2 ∧ Full w2 tb 160 7 7 Tk ∧ w2.heap[w.heap.size]? = some (stpB op a b c fb tb eb) ∧ w' = w2.setCell ⟨tb, 4, none⟩ (Fv 207 #[P0 w.heap.size]) := by
  have HH := hid H
  clear H
  go_enter Tryz.func171, Tryz.ntmps171
  go_wp2_with fail
  have HX1 := hid (s7_new w op a b c fb tb eb)
  have KG1 := hid (World.grownBy_alloc w (.cells #[.int .u8 (op : Int), .int .u8 (a : Int), .int .u8 (b : Int), .int .u8 (c : Int), P0 fb, P0 tb, P0 eb] 186) none)
  refine (HH.out _ KG1.out HX1.out).mono ?_
  rintro e w2 ⟨rfl, hT, hx, hR⟩
  obtain ⟨x0, x1, x2, x3, x4, x5, x6⟩ := s7_of hx
  obtain ⟨c4, z4⟩ := hT.cells 4 (by omega)
  generalize hy : Tk 4 = y4 at c4
  have lx := heap_lt hx
  have lt := hT.lt
  have HR := hid (And.intro hT (And.intro hx hR))
  clear hT hx hR hy
  go_wp2_with fail
  go_end0
  exact ⟨rfl, w2, HR.out.2.2, HR.out.1, HR.out.2.1, rfl⟩
set_option maxRecDepth 100000 in
set_option maxHeartbeats 2000000 in
theorem wokeL (op a b c fb tb eb sx cb L nx rb nr : Nat) (back : Value) (Q : Nat → B.V) (v : B.V) (R : World → Prop) (w : World) (hx : w.heap[sx]? = some (stpB op a b c fb tb eb)) (hf : w.heap[fb]? = some (frmB cb L nx rb nr back)) (hr : Full w rb 149 (nr * 2) (nr * 2) (regP Q)) (ha : a < nr) (le : eb < w.heap.size)
    (H : ∀ w1, w.grownBy w1 (some rb) → Full w1 rb 149 (nr * 2) (nr * 2) (regP (B.set Q a v)) → Calls Tryz.prog 110 #[Pt eb 32, P0 tb] w1 fun e w2 => e = .returned (.tuple #[]) ∧ R w2) :
    Calls Tryz.prog 207 #[vA v, P0 sx] w fun e w' => e = .returned (.tuple #[]) ∧ R w' := by
  obtain ⟨x0, x1, x2, x3, x4, x5, x6⟩ := s7_of hx
  have lx := heap_lt hx
  have lx1 : sx < w.heap.size + 1 := by omega
  have hsr : sx ≠ rb := by
    rintro rfl
    obtain ⟨cu, q, _⟩ := hr
    have hx' : w.heap[sx]? = some (.cells #[.int .u8 (op : Int), .int .u8 (a : Int), .int .u8 (b : Int), .int .u8 (c : Int), P0 fb, P0 tb, P0 eb] 186 (0, 0)) := hx
    rw [q] at hx'; injection hx' with q2; injection q2 with _ q2 _; exact absurd q2 (by decide)
  have HH := hid H
  have HX := hid hx
  have HF := hid hf
  have HR := hid hr
  clear H hx hf hr
  obtain ⟨v1, v2⟩ := v
  go_enter Tryz.func207, Tryz.ntmps207
  go_wp2_with fail
  generalize hW : w.alloc (.cells #[.int .i64 (v1 : Int), .int .i64 v2] 149) = w1
  have KG : Hid (w.grownBy w1 none) := by rw [← hW]; exact World.grownBy_alloc _ _ _
  refine (set_any op a b c fb tb eb cb L nx rb nr back Q (v1, v2) w1 (grown_out KG.out HF.out) (HR.out.block (KG.out.block rb HR.out.lt (by intro e; cases e))) ha).mono ?_
  rintro e w2 ⟨rfl, hg2, hR2⟩
  have hG : w.grownBy w2 (some rb) := grown_trans (grown_some KG.out rb) hg2
  have hx2 := grown_heap hG HX.out (by intro e; injection e with e; exact hsr e)
  obtain ⟨y0, y1, y2, y3, y4, y5, y6⟩ := s7_of hx2
  have lx2 := heap_lt hx2
  have le2 : eb < w2.heap.size := Nat.lt_of_lt_of_le le hG.size
  have HJ : Hid (∀ w3, w2.grownBy w3 none → Calls Tryz.prog 110 #[Pt eb 32, P0 tb] w3 fun e w' => e = .returned (.tuple #[]) ∧ R w') := fun w3 hg3 => HH.out w3 (grown_trans hG (grown_some hg3 rb)) (hR2.block (hg3.block rb hR2.lt (by intro e; cases e)))
  clear hg2 hR2 hG hx2 hW x0 x1 x2 x3 x4 x5 x6 lx1
  go_wp2_with fail
  go_region_with (go_at_call 110; refine (HJ.out w2.drew (grown_drew (grown_refl _ _))).mono ?_; rintro e w4 ⟨rfl, hR4⟩; have HR4 := hid hR4; clear hR4)
  all_goals
    go_wp2_with fail
    go_end0
    exact ⟨rfl, HR4.out⟩
end Go.Proofs.YtnjiinbhbjpfkaaGreatDoor
