/-
  The store of cells: a cell is looked up; a free place is sought; how many slots a cell has, and what is in one.
-/
import Derived.Test.YtnjiinbhbjpfkaaGreatDoorGateD
import Derived.Test.YtnjiinbhbjpfkaaGreatDoorGateC
namespace Go.Proofs.YtnjiinbhbjpfkaaGreatDoor.F
open Go.RowKit
set_option maxRecDepth 100000 in
set_option maxHeartbeats 1000000 in
theorem cellOf_some (sb pb n k : Nat) (x : Int) (on : Nat → Bool) (f : Fb) (M : Nat → List B.V) (w : World) (h0 : w.cell? ⟨sb, 0, none⟩ = some (.slice (some ⟨pb, 0, none⟩) n n)) (ls : sb < w.heap.size) (hP : Plc w pb n on f M) (hk : k < n) (hn : n ≤ 200) :
    Calls Tryz.prog 202 #[P0 sb, vA (k + 1, x)] w fun e w' => e = .returned (.agg #[kdV (on (k + 1)) (f.k (k + 1)), .int .i64 (fnN (on (k + 1)) (f.k (k + 1)) : Nat), slV (on (k + 1)) (f.b (k + 1)) (M (k + 1)).length]) ∧ w.grownBy w' none := by
  have hi := isCell_any (k + 1, x)
  have hd : decide (k + 1 ≠ 0) = true := by simp
  rw [show ((k + 1, x) : B.V).1 = k + 1 from rfl, hd] at hi
  have HI := hid hi
  have HPL := hid (place_any k x (by omega))
  have lp := hP.p.lt
  have c0 := hP.p.cell (k * 3) (by omega)
  have c1 := hP.p.cell (k * 3 + 1) (by omega)
  have c2 := hP.p.cell (k * 3 + 2) (by omega)
  rw [plc_0] at c0
  rw [plc_1] at c1
  rw [plc_2] at c2
  clear hP hi hd
  obtain ⟨y0, hy0⟩ : ∃ y, kdV (on (k + 1)) (f.k (k + 1)) = .int .u8 y := ⟨_, rfl⟩
  generalize ((fnN (on (k + 1)) (f.k (k + 1)) : Nat) : Int) = y1 at *
  obtain ⟨a2, n2, m2, hy2⟩ : ∃ a n m, slV (on (k + 1)) (f.b (k + 1)) (M (k + 1)).length = .slice a n m := by unfold slV; split <;> exact ⟨_, _, _, rfl⟩
  rw [hy0] at c0 ⊢
  rw [hy2] at c2 ⊢
  clear hy0 hy2
  have hk2 : (k : Int) < (n : Int) := by omega
  go_enter Tryz.func202, Tryz.ntmps202
  go_wp2_with fail
  refine (HI.out _).mono ?_
  rintro e w1 ⟨rfl, hg⟩
  have hz := hg.size
  simp at hz
  have hx : w1.heap[w.heap.size + 1]? = some (.cells #[.int .u8 0, .int .i64 0, .slice none 0 0] 228 (0, 0)) := by
    refine (hg.block _ (by simp) (by intro e; cases e)).trans ?_
    have := heap_alloc_new (w.alloc (.cells #[.int .i64 ((k : Int) + 1), .int .i64 x] 149)) (.cells #[.int .u8 0, .int .i64 0, .slice none 0 0] 228)
    simpa using this
  have hv : w1.heap[w.heap.size]? = some (.cells #[.int .i64 ((k : Int) + 1), .int .i64 x] 149 (0, 0)) := by
    refine (hg.block _ (by simp; omega) (by intro e; cases e)).trans ?_
    rw [Below.heap_alloc _ _ _ (by simp)]; exact heap_alloc_new w _
  have KG := hid (grown_trans (grown_alloc (World.grownBy_alloc w _ none) _) hg)
  have v0 : w1.cell? ⟨w.heap.size, 0, none⟩ = some (.int .i64 ((k : Int) + 1)) := by simp [World.cell?, hv]
  have v1 : w1.cell? ⟨w.heap.size, 1, none⟩ = some (.int .i64 x) := by simp [World.cell?, hv]
  have lv := heap_lt hv
  have HX := hid hx
  have d0 := (grown_cell KG.out (a := ⟨sb, 0, none⟩) ls).1.trans h0
  have p0 := (grown_cell KG.out (a := ⟨pb, k * 3, none⟩) lp).1.trans c0
  have p1 := (grown_cell KG.out (a := ⟨pb, k * 3 + 1, none⟩) lp).1.trans c1
  have p2 := (grown_cell KG.out (a := ⟨pb, k * 3 + 2, none⟩) lp).1.trans c2
  have ls1 : sb < w1.heap.size := by omega
  have lp1 : pb < w1.heap.size := by omega
  clear hg hx hz hv h0 c0 c1 c2
  have HP0 := hid (And.intro p0 (And.intro p1 p2))
  clear p0 p1 p2
  go_wp2_with fail
  go_region_with (go_at_call 201; refine (HPL.out w1.drew).mono ?_; rintro e w2 ⟨rfl, hg2⟩; have HG2 : Hid (w1.grownBy w2 none) := ⟨hg2.os, hg2.tape, hg2.output, hg2.size, hg2.block⟩; have hz2 := HG2.out.size; have d2 := (grown_cell HG2.out (a := ⟨sb, 0, none⟩) ls1).1.trans d0; have ls2 : sb < w2.heap.size := Nat.lt_of_lt_of_le ls1 HG2.out.size; have lp2 : pb < w2.heap.size := Nat.lt_of_lt_of_le lp1 HG2.out.size; have p0 := (grown_cell HG2.out (a := ⟨pb, k * 3, none⟩) lp1).1.trans HP0.out.1; have p1 := (grown_cell HG2.out (a := ⟨pb, k * 3 + 1, none⟩) lp1).1.trans HP0.out.2.1; have p2 := (grown_cell HG2.out (a := ⟨pb, k * 3 + 2, none⟩) lp1).1.trans HP0.out.2.2; have hx2 := grown_heap HG2.out HX.out (by intro e; cases e); have r0 : w2.cell? ⟨w.heap.size + 1, 0, none⟩ = some (.int .u8 0) := (by simp [World.cell?, hx2]); have r1 : w2.cell? ⟨w.heap.size + 1, 1, none⟩ = some (.int .i64 0) := (by simp [World.cell?, hx2]); have r2 : w2.cell? ⟨w.heap.size + 1, 2, none⟩ = some (.slice none 0 0) := (by simp [World.cell?, hx2]); have t0 : w2.frozen? ⟨w.heap.size + 1, 0, none⟩ = false := (by simp [World.frozen?, hx2]); have t1 : w2.frozen? ⟨w.heap.size + 1, 1, none⟩ = false := (by simp [World.frozen?, hx2]); have t2 : w2.frozen? ⟨w.heap.size + 1, 2, none⟩ = false := (by simp [World.frozen?, hx2]); have lx := heap_lt hx2; clear hg2 hx2)
  all_goals
    go_wp2_with fail
    refine bodyPost_ret (v := .agg #[.int .u8 y0, .int .i64 y1, .slice a2 n2 m2]) (by simp [results, Tryz.results202, go_sem, r0, r1, r2]) rfl ⟨rfl, ?_⟩
    have KG2 := grown_trans KG.out HG2.out
    repeat (first | exact KG2 | refine grown_drew ?_ | refine grown_alloc ?_ _ | refine grown_setCell ?_ (Or.inr (by simp)) _)
set_option maxRecDepth 100000 in
set_option maxHeartbeats 1000000 in
theorem indexFree_any (pb n : Nat) (on : Nat → Bool) (f : Fb) (M : Nat → List B.V) (w : World) (hS : Plc w pb n on f M) (hn : n ≤ 200) :
    Calls Tryz.prog 229 #[.slice (some ⟨pb, 0, none⟩) n n, Fv 140 #[]] w fun e w' => w.grownBy w' none ∧ ((∃ k : Nat, k < n ∧ on (k + 1) = false ∧ e = .returned (.int .i64 k)) ∨ ((∀ p, 1 ≤ p → p ≤ n → on p = true) ∧ e = .returned (.int .i64 (-1)))) := by
  have KS := hid hS
  clear hS
  go_enter Tryz.func229, Tryz.ntmps229
  go_wp2_with fail
  go_loopw [8] (fun i wr => ∃ k : Nat, k ≤ n ∧ i = .int .i64 k ∧ Hid (∀ p, 1 ≤ p → p ≤ k → on p = true) ∧ Hid (w.grownBy wr none)) (fun i _ => n - (intOf i).toNat)
  case atStart => exact ⟨0, by omega, rfl, fun p h1 h2 => (by omega), grown_refl _ _⟩
  case round =>
    obtain ⟨k, hk, rfl, hK, hG⟩ := hrel
    by_cases hlt : k < n
    · have hS := KS.out.kept hG.out
      have c0 := hS.p.cell (k * 3) (by omega)
      have c1 := hS.p.cell (k * 3 + 1) (by omega)
      have c2 := hS.p.cell (k * 3 + 2) (by omega)
      rw [plc_0] at c0
      rw [plc_1] at c1
      rw [plc_2] at c2
      have lp := hS.p.lt
      clear hS
      have hf := isFree_any (on (k + 1)) (f.k (k + 1)) (fnN (on (k + 1)) (f.k (k + 1)) : Nat) (slV (on (k + 1)) (f.b (k + 1)) (M (k + 1)).length)
      obtain ⟨y0, hy0⟩ : ∃ y, kdV (on (k + 1)) (f.k (k + 1)) = .int .u8 y := ⟨_, rfl⟩
      generalize ((fnN (on (k + 1)) (f.k (k + 1)) : Nat) : Int) = y1 at *
      obtain ⟨a2, n2, m2, hy2⟩ : ∃ a n m, slV (on (k + 1)) (f.b (k + 1)) (M (k + 1)).length = .slice a n m := by unfold slV; split <;> exact ⟨_, _, _, rfl⟩
      rw [hy0] at c0
      rw [hy2] at c2
      rw [hy0, hy2] at hf
      have HF := hid hf
      clear hf hy0 hy2
      have hlt2 : (k : Int) < (n : Int) := by omega
      go_wp2_with fail
      refine (HF.out _).mono ?_
      rintro e w1 ⟨rfl, hg1⟩
      have KG1 := hid (grown_trans hG.out hg1)
      clear hg1 c0 c1 c2
      cases hkd : on (k + 1)
      · have HK := hid hkd
        clear hkd
        simp only [Bool.not_false]
        go_wp2_with fail
        go_ret
        exact ⟨KG1.out, Or.inl ⟨k, hlt, HK.out, rfl⟩⟩
      · have HK := hid hkd
        clear hkd
        simp only [Bool.not_true]
        go_wp2_with fail
        go_roundw
        case rel =>
          refine ⟨k + 1, by omega, by go_num, fun p h1 h2 => ?_, KG1⟩
          by_cases e : p = k + 1
          · subst e; exact HK.out
          · exact hK.out p h1 (by omega)
        case measure => simp [intOf]; omega
    · obtain rfl : k = n := by omega
      have hge : decide ((k : Int) < (k : Int)) = false := by simp
      go_wp2_with fail
      go_ret
      exact ⟨hG.out, Or.inr ⟨hK.out, rfl⟩⟩
set_option maxRecDepth 100000 in
theorem freePlace_any (sb pb n : Nat) (on : Nat → Bool) (f : Fb) (M : Nat → List B.V) (w : World) (q0 : w.cell? ⟨sb, 0, none⟩ = some (.slice (some ⟨pb, 0, none⟩) n n)) (hS : Plc w pb n on f M) (hn : n ≤ 200) :
    Calls Tryz.prog 218 #[P0 sb] w fun e w' => w.grownBy w' none ∧ ((∃ k : Nat, k < n ∧ on (k + 1) = false ∧ e = .returned (.int .i64 k)) ∨ ((∀ p, 1 ≤ p → p ≤ n → on p = true) ∧ e = .returned (.int .i64 (-1)))) := by
  have HI := hid (indexFree_any pb n on f M w hS hn)
  clear hS
  go_enter Tryz.func218, Tryz.ntmps218
  go_wp2_with fail
  refine HI.out.mono ?_
  rintro e w1 ⟨hg, ⟨k, h1, h2, rfl⟩ | ⟨h1, rfl⟩⟩
  · have HH := hid (And.intro hg (And.intro h1 h2))
    clear hg h1 h2
    go_wp2_with fail
    go_ret
    exact ⟨HH.out.1, Or.inl ⟨k, HH.out.2.1, HH.out.2.2, rfl⟩⟩
  · have HH := hid (And.intro hg h1)
    clear hg h1
    go_wp2_with fail
    go_ret
    exact ⟨HH.out.1, Or.inr ⟨HH.out.2, rfl⟩⟩
theorem Str.c0 {w : World} {sb pb eb n : Nat} {kd : B.Kd} {vb : Vs} {M : Nat → List B.V} (h : Str w sb pb eb n kd vb M) : w.cell? ⟨sb, 0, none⟩ = some (.slice (some ⟨pb, 0, none⟩) n n) := by simp [World.cell?, h.b]
set_option maxRecDepth 100000 in
set_option maxHeartbeats 1000000 in
theorem slotOf_any (sb pb eb n k i : Nat) (x : Int) (kd : B.Kd) (vb : Vs) (M : Nat → List B.V) (w : World) (hS : Str w sb pb eb n kd vb M) (hn : n ≤ 200) (hk : k < n) (hkd : kd.on (k + 1) = true) (hi : i < (M (k + 1)).length) :
    Calls Tryz.prog 159 #[P0 sb, vA (k + 1, x), .int .i64 i] w fun e w' => e = .returned (vA ((M (k + 1)).getD i (0, 0))) ∧ w.grownBy w' none := by
  have h0 := hS.c0
  have ls := heap_lt hS.b
  have lp := hS.p.p.lt
  have c2 := hS.p.p.cell (k * 3 + 2) (by omega)
  rw [plc_2, hkd] at c2
  have hF := hS.p.s (k + 1) (by omega) (by omega) hkd
  have lf := hF.lt
  have s0 := hF.cell (i * 2) (by omega)
  have s1 := hF.cell (i * 2 + 1) (by omega)
  rw [regP_0] at s0
  rw [regP_1] at s1
  have hsl : slV true (vb.f.b (k + 1)) (M (k + 1)).length = .slice (some ⟨vb.f.b (k + 1), 0, none⟩) (M (k + 1)).length (M (k + 1)).length := rfl
  rw [hsl] at c2
  have HPL := hid (place_any k x (by omega))
  have hl8 := hS.p.l _ hkd
  show Calls Tryz.prog 159 #[P0 sb, vA (k + 1, x), .int .i64 i] w fun e w' => e = .returned (vA (slots M (k + 1) i)) ∧ w.grownBy w' none
  generalize slots M (k + 1) i = y at *
  generalize (M (k + 1)).length = m at *
  generalize vb.f.b (k + 1) = g at *
  clear hS hsl hF
  have hk2 : (k : Int) < (n : Int) := by omega
  have hi2 : (i : Int) < (m : Int) := by omega
  go_enter Tryz.func159, Tryz.ntmps159
  go_wp2_with fail
  generalize hW : (w.alloc (.cells #[.int .i64 ((k : Int) + 1), .int .i64 x] 149)).alloc (.cells #[.int .i64 0, .int .i64 0] 149) = w1
  have KG : Hid (w.grownBy w1 none) := by rw [← hW]; exact grown_alloc (World.grownBy_alloc _ _ _) _
  have hz : w1.heap.size = w.heap.size + 2 := by rw [← hW]; simp
  have hx : w1.heap[w.heap.size + 1]? = some (.cells #[.int .i64 0, .int .i64 0] 149 (0, 0)) := by
    rw [← hW]
    have := heap_alloc_new (w.alloc (.cells #[.int .i64 ((k : Int) + 1), .int .i64 x] 149)) (.cells #[.int .i64 0, .int .i64 0] 149)
    simpa using this
  have hv : w1.heap[w.heap.size]? = some (.cells #[.int .i64 ((k : Int) + 1), .int .i64 x] 149 (0, 0)) := by
    rw [← hW, Below.heap_alloc _ _ _ (by simp)]; exact heap_alloc_new w _
  clear hW
  have v0 : w1.cell? ⟨w.heap.size, 0, none⟩ = some (.int .i64 ((k : Int) + 1)) := by simp [World.cell?, hv]
  have v1 : w1.cell? ⟨w.heap.size, 1, none⟩ = some (.int .i64 x) := by simp [World.cell?, hv]
  have lv := heap_lt hv
  have HX := hid hx
  have d0 := (grown_cell KG.out (a := ⟨sb, 0, none⟩) ls).1.trans h0
  have p2 := (grown_cell KG.out (a := ⟨pb, k * 3 + 2, none⟩) lp).1.trans c2
  have q0 := (grown_cell KG.out (a := ⟨g, i * 2, none⟩) lf).1.trans s0
  have q1 := (grown_cell KG.out (a := ⟨g, i * 2 + 1, none⟩) lf).1.trans s1
  have ls1 : sb < w1.heap.size := by omega
  have lp1 : pb < w1.heap.size := by omega
  have lf1 : g < w1.heap.size := by omega
  have HQ := hid (And.intro p2 (And.intro q0 q1))
  clear hx hv h0 c2 s0 s1 p2 q0 q1 hz
  go_region_with (go_at_call 201; refine (HPL.out w1.drew).mono ?_; rintro e w2 ⟨rfl, hg2⟩; have HG2 : Hid (w1.grownBy w2 none) := ⟨hg2.os, hg2.tape, hg2.output, hg2.size, hg2.block⟩; have hz2 := HG2.out.size; have d2 := (grown_cell HG2.out (a := ⟨sb, 0, none⟩) ls1).1.trans d0; have ls2 : sb < w2.heap.size := Nat.lt_of_lt_of_le ls1 HG2.out.size; have lp2 : pb < w2.heap.size := Nat.lt_of_lt_of_le lp1 HG2.out.size; have lf2 : g < w2.heap.size := Nat.lt_of_lt_of_le lf1 HG2.out.size; have p2 := (grown_cell HG2.out (a := ⟨pb, k * 3 + 2, none⟩) lp1).1.trans HQ.out.1; have q0 := (grown_cell HG2.out (a := ⟨g, i * 2, none⟩) lf1).1.trans HQ.out.2.1; have q1 := (grown_cell HG2.out (a := ⟨g, i * 2 + 1, none⟩) lf1).1.trans HQ.out.2.2; have hx2 := grown_heap HG2.out HX.out (by intro e; cases e); have r0 : w2.cell? ⟨w.heap.size + 1, 0, none⟩ = some (.int .i64 0) := (by simp [World.cell?, hx2]); have r1 : w2.cell? ⟨w.heap.size + 1, 1, none⟩ = some (.int .i64 0) := (by simp [World.cell?, hx2]); have t0 : w2.frozen? ⟨w.heap.size + 1, 0, none⟩ = false := (by simp [World.frozen?, hx2]); have t1 : w2.frozen? ⟨w.heap.size + 1, 1, none⟩ = false := (by simp [World.frozen?, hx2]); have lx := heap_lt hx2; clear hg2 hx2)
  all_goals
    go_wp2_with fail
    refine bodyPost_ret (v := vA y) (by simp [results, Tryz.results159, go_sem, r0, r1]) rfl ⟨rfl, ?_⟩
    have KG2 := grown_trans KG.out HG2.out
    repeat (first | exact KG2 | refine grown_drew ?_ | refine grown_alloc ?_ _ | refine grown_setCell ?_ (Or.inr (by simp)) _)
def slotsV (v : B.V) (f : Fb) (M : Nat → List B.V) : Value := if v.1 = 0 ∨ f.k v.1 ≠ 0 then .tuple #[.int .i64 0, .bool false] else .tuple #[.int .i64 (M v.1).length, .bool true]
set_option maxRecDepth 100000 in
theorem slots_any (sb pb eb n : Nat) (v : B.V) (kd : B.Kd) (vb : Vs) (M : Nat → List B.V) (w : World) (hS : Str w sb pb eb n kd vb M) (hn : n ≤ 200) (hv : B.Vok kd.on n v) :
    Calls Tryz.prog 200 #[P0 sb, vA v] w fun e w' => w.grownBy w' none ∧ e = .returned (slotsV v vb.f M) := by
  have KS := hid hS
  clear hS
  obtain ⟨v1, v2⟩ := v
  rcases hv with hv | ⟨hv1, hv2, hv3, hv4⟩
  · have hv : v1 = 0 := hv
    subst hv
    have hs : slotsV (0, v2) vb.f M = .tuple #[.int .i64 0, .bool false] := by unfold slotsV; rw [if_pos (Or.inl rfl)]
    rw [hs]
    go_enter Tryz.func200, Tryz.ntmps200
    go_wp2_with fail
    refine (cellOf_none sb v2 _).mono ?_
    rintro e w1 ⟨rfl, hg⟩
    have KG := hid (grown_trans (World.grownBy_alloc w _ none) hg)
    clear hg
    go_wp2_with fail
    go_ret2
    exact ⟨grown_alloc KG.out _, rfl⟩
  · obtain ⟨k, hk⟩ : ∃ k, v1 = k + 1 := ⟨v1 - 1, by have : 1 ≤ v1 := hv1; omega⟩
    subst hk
    have hkd : kd.on (k + 1) = true := hv3
    have hkn : k < n := by have : k + 1 ≤ n := hv2; omega
    have ha := fun w' (hS : Str w' sb pb eb n kd vb M) => cellOf_some sb pb n k v2 kd.on vb.f M w' hS.c0 (heap_lt hS.b) hS.p hkn hn
    have e2 : slV (kd.on (k + 1)) (vb.f.b (k + 1)) (M (k + 1)).length = .slice (some ⟨vb.f.b (k + 1), 0, none⟩) (M (k + 1)).length (M (k + 1)).length := by rw [hkd]; rfl
    by_cases hf : vb.f.k (k + 1) = 0
    · have e0 : kdV (kd.on (k + 1)) (vb.f.k (k + 1)) = .int .u8 1 := by rw [hkd, hf]; rfl
      have hs : slotsV (k + 1, v2) vb.f M = .tuple #[.int .i64 (M (k + 1)).length, .bool true] := by unfold slotsV; rw [if_neg (fun h => h.elim (fun h => by cases h) (fun h => h hf))]
      rw [hs]
      rw [e0, e2] at ha
      generalize ((fnN (kd.on (k + 1)) (vb.f.k (k + 1)) : Nat) : Int) = y1 at *
      generalize (M (k + 1)).length = m at *
      generalize vb.f.b (k + 1) = g at *
      have HA := hid ha
      clear ha e0 e2 hv1 hv2 hv3 hv4 hkd hs hf
      go_enter Tryz.func200, Tryz.ntmps200
      go_wp2_with fail
      refine (HA.out _ (KS.out.kept (World.grownBy_alloc _ _ _))).mono ?_
      rintro e w1 ⟨rfl, hg⟩
      have KG := hid (grown_trans (World.grownBy_alloc w _ none) hg)
      clear hg
      go_wp2_with fail
      go_ret2
      exact ⟨grown_alloc KG.out _, rfl⟩
    · have e0 : kdV (kd.on (k + 1)) (vb.f.k (k + 1)) = .int .u8 2 := by rw [hkd]; unfold kdV kdN; rw [if_pos rfl, if_neg hf]; rfl
      have hs : slotsV (k + 1, v2) vb.f M = .tuple #[.int .i64 0, .bool false] := by unfold slotsV; rw [if_pos (Or.inr hf)]
      rw [hs]
      rw [e0, e2] at ha
      generalize ((fnN (kd.on (k + 1)) (vb.f.k (k + 1)) : Nat) : Int) = y1 at *
      generalize (M (k + 1)).length = m at *
      generalize vb.f.b (k + 1) = g at *
      have HA := hid ha
      clear ha e0 e2 hv1 hv2 hv3 hv4 hkd hs hf
      go_enter Tryz.func200, Tryz.ntmps200
      go_wp2_with fail
      refine (HA.out _ (KS.out.kept (World.grownBy_alloc _ _ _))).mono ?_
      rintro e w1 ⟨rfl, hg⟩
      have KG := hid (grown_trans (World.grownBy_alloc w _ none) hg)
      clear hg
      go_wp2_with fail
      go_ret2
      exact ⟨grown_alloc KG.out _, rfl⟩
theorem cell_alloc {W : World} {o : Obj} {b i : Nat} (h : b < W.heap.size) : (W.alloc o).cell? ⟨b, i, none⟩ = W.cell? ⟨b, i, none⟩ := (grown_cell (World.grownBy_alloc W o none) (a := ⟨b, i, none⟩) h).1
def funcV (v : B.V) (f : Fb) (M : Nat → List B.V) : Value := if v.1 = 0 ∨ f.k v.1 = 0 then .tuple #[.int .i64 0, vA (0, 0), .bool false] else .tuple #[.int .i64 ((f.k v.1 - 1 : Nat) : Int), vA ((M v.1).getD 0 (0, 0)), .bool true]
set_option maxRecDepth 100000 in
set_option maxHeartbeats 1000000 in
theorem function_any (sb pb eb n : Nat) (v : B.V) (kd : B.Kd) (vb : Vs) (M : Nat → List B.V) (w : World) (hS : Str w sb pb eb n kd vb M) (hn : n ≤ 200) (hv : B.Vok kd.on n v) :
    Calls Tryz.prog 162 #[P0 sb, vA v] w fun e w' => w.grownBy w' none ∧ e = .returned (funcV v vb.f M) := by
  have KS := hid hS
  clear hS
  obtain ⟨v1, v2⟩ := v
  rcases hv with hv | ⟨hv1, hv2, hv3, hv4⟩
  · have hv : v1 = 0 := hv
    subst hv
    have hs : funcV (0, v2) vb.f M = .tuple #[.int .i64 0, vA (0, 0), .bool false] := by unfold funcV; rw [if_pos (Or.inl rfl)]
    rw [hs]
    go_enter Tryz.func162, Tryz.ntmps162
    go_wp2_with fail
    refine (cellOf_none sb v2 _).mono ?_
    rintro e w1 ⟨rfl, hg⟩
    have KG := hid (grown_trans (grown_alloc (World.grownBy_alloc w _ none) _) hg)
    have hz := hg.size
    simp at hz
    have hx : w1.heap[w.heap.size + 1]? = some (.cells #[.int .i64 0, .int .i64 0] 149 (0, 0)) := by
      refine (hg.block _ (by simp) (by intro e; cases e)).trans ?_
      have := heap_alloc_new (w.alloc (.cells #[.int .i64 ((0 : Nat) : Int), .int .i64 v2] 149)) (.cells #[.int .i64 0, .int .i64 0] 149)
      simpa using this
    have r0 : w1.cell? ⟨w.heap.size + 1, 0, none⟩ = some (.int .i64 0) := by simp [World.cell?, hx]
    have r1 : w1.cell? ⟨w.heap.size + 1, 1, none⟩ = some (.int .i64 0) := by simp [World.cell?, hx]
    have t0 : w1.frozen? ⟨w.heap.size + 1, 0, none⟩ = false := by simp [World.frozen?, hx]
    have t1 : w1.frozen? ⟨w.heap.size + 1, 1, none⟩ = false := by simp [World.frozen?, hx]
    have lx := heap_lt hx
    clear hg hx hz
    go_wp2_with fail
    refine bodyPost_ret (v := .tuple #[.int .i64 0, vA (0, 0), .bool false]) (by simp [results, Tryz.results162, go_sem, cell_alloc, lx, r0, r1]) rfl ⟨?_, rfl⟩
    repeat (first | exact KG.out | refine grown_drew ?_ | refine grown_alloc ?_ _ | refine grown_setCell ?_ (Or.inr (by simp)) _)
  · obtain ⟨k, hk⟩ : ∃ k, v1 = k + 1 := ⟨v1 - 1, by have : 1 ≤ v1 := hv1; omega⟩
    subst hk
    have hkd : kd.on (k + 1) = true := hv3
    have hkn : k < n := by have : k + 1 ≤ n := hv2; omega
    have ha := fun w' (hS : Str w' sb pb eb n kd vb M) => cellOf_some sb pb n k v2 kd.on vb.f M w' hS.c0 (heap_lt hS.b) hS.p hkn hn
    have e2 : slV (kd.on (k + 1)) (vb.f.b (k + 1)) (M (k + 1)).length = .slice (some ⟨vb.f.b (k + 1), 0, none⟩) (M (k + 1)).length (M (k + 1)).length := by rw [hkd]; rfl
    have key : ∀ w1 : World, ((w.alloc (.cells #[.int .i64 ((k : Int) + 1), .int .i64 v2] 149)).alloc (.cells #[.int .i64 0, .int .i64 0] 149)).grownBy w1 none → w1.cell? ⟨w.heap.size + 1, 0, none⟩ = some (.int .i64 0) ∧ w1.cell? ⟨w.heap.size + 1, 1, none⟩ = some (.int .i64 0) ∧ w1.frozen? ⟨w.heap.size + 1, 0, none⟩ = false ∧ w1.frozen? ⟨w.heap.size + 1, 1, none⟩ = false ∧ w.heap.size + 1 < w1.heap.size := fun w1 hg => by
      have hx : w1.heap[w.heap.size + 1]? = some (.cells #[.int .i64 0, .int .i64 0] 149 (0, 0)) := by
        refine (hg.block _ (by simp) (by intro e; cases e)).trans ?_
        have := heap_alloc_new (w.alloc (.cells #[.int .i64 ((k : Int) + 1), .int .i64 v2] 149)) (.cells #[.int .i64 0, .int .i64 0] 149)
        simpa using this
      exact ⟨by simp [World.cell?, hx], by simp [World.cell?, hx], by simp [World.frozen?, hx], by simp [World.frozen?, hx], heap_lt hx⟩
    have KEY := hid key
    clear key
    by_cases hf : vb.f.k (k + 1) = 0
    · have e0 : kdV (kd.on (k + 1)) (vb.f.k (k + 1)) = .int .u8 1 := by rw [hkd, hf]; rfl
      have hs : funcV (k + 1, v2) vb.f M = .tuple #[.int .i64 0, vA (0, 0), .bool false] := by unfold funcV; rw [if_pos (Or.inr hf)]
      rw [hs]
      rw [e0, e2] at ha
      generalize ((fnN (kd.on (k + 1)) (vb.f.k (k + 1)) : Nat) : Int) = y1 at *
      generalize (M (k + 1)).length = m at *
      generalize vb.f.b (k + 1) = g at *
      have HA := hid ha
      clear ha e0 e2 hv1 hv2 hv3 hv4 hkd hs hf
      go_enter Tryz.func162, Tryz.ntmps162
      go_wp2_with fail
      refine (HA.out _ (KS.out.kept (grown_alloc (World.grownBy_alloc _ _ _) _))).mono ?_
      rintro e w1 ⟨rfl, hg⟩
      have KG := hid (grown_trans (grown_alloc (World.grownBy_alloc w _ none) _) hg)
      obtain ⟨r0, r1, t0, t1, lx⟩ := KEY.out w1 hg
      clear hg
      go_wp2_with fail
      refine bodyPost_ret (v := .tuple #[.int .i64 0, vA (0, 0), .bool false]) (by simp [results, Tryz.results162, go_sem, cell_alloc, lx, r0, r1]) rfl ⟨?_, rfl⟩
      repeat (first | exact KG.out | refine grown_drew ?_ | refine grown_alloc ?_ _ | refine grown_setCell ?_ (Or.inr (by simp)) _)
    · have e0 : kdV (kd.on (k + 1)) (vb.f.k (k + 1)) = .int .u8 2 := by rw [hkd]; unfold kdV kdN; rw [if_pos rfl, if_neg hf]; rfl
      have e1 : fnN (kd.on (k + 1)) (vb.f.k (k + 1)) = vb.f.k (k + 1) - 1 := by rw [hkd]; rfl
      have hl1 : (M (k + 1)).length = 1 := KS.out.p.k _ hkd hf
      have hs : funcV (k + 1, v2) vb.f M = .tuple #[.int .i64 ((vb.f.k (k + 1) - 1 : Nat) : Int), vA ((M (k + 1)).getD 0 (0, 0)), .bool true] := by unfold funcV; rw [if_neg (fun h => h.elim (fun h => by cases h) (fun h => hf h))]
      have hF := KS.out.p.s (k + 1) (by omega) (by omega) hkd
      have s0 := hF.cell 0 (by omega)
      have s1 := hF.cell 1 (by omega)
      have q0 : regP (slots M (k + 1)) 0 = .int .i64 (((M (k + 1)).getD 0 (0, 0)).1 : Int) := rfl
      have q1 : regP (slots M (k + 1)) 1 = .int .i64 ((M (k + 1)).getD 0 (0, 0)).2 := rfl
      rw [q0] at s0
      rw [q1] at s1
      have lf := hF.lt
      rw [hs]
      rw [e0, e1, e2, hl1] at ha
      generalize (M (k + 1)).getD 0 (0, 0) = y at *
      generalize vb.f.k (k + 1) - 1 = ff at *
      generalize vb.f.b (k + 1) = g at *
      have HA := hid ha
      clear ha e0 e1 e2 hv1 hv2 hv3 hv4 hkd hs hf hF hl1 q0 q1
      go_enter Tryz.func162, Tryz.ntmps162
      go_wp2_with fail
      refine (HA.out _ (KS.out.kept (grown_alloc (World.grownBy_alloc _ _ _) _))).mono ?_
      rintro e w1 ⟨rfl, hg⟩
      have KG := hid (grown_trans (grown_alloc (World.grownBy_alloc w _ none) _) hg)
      obtain ⟨r0, r1, t0, t1, lx⟩ := KEY.out w1 hg
      have p0 := (grown_cell KG.out (a := ⟨g, 0, none⟩) lf).1.trans s0
      have p1 := (grown_cell KG.out (a := ⟨g, 1, none⟩) lf).1.trans s1
      have lf1 : g < w1.heap.size := Nat.lt_of_lt_of_le lf KG.out.size
      clear hg s0 s1
      go_wp2_with fail
      go_region
      all_goals
        go_wp2_with fail
        refine bodyPost_ret (v := .tuple #[.int .i64 (ff : Int), vA y, .bool true]) (by simp [results, Tryz.results162, go_sem, cell_alloc, lx, r0, r1]) rfl ⟨?_, rfl⟩
        repeat (first | exact KG.out | refine grown_drew ?_ | refine grown_alloc ?_ _ | refine grown_setCell ?_ (Or.inr (by simp)) _)
end Go.Proofs.YtnjiinbhbjpfkaaGreatDoor.F
namespace Go.Proofs.YtnjiinbhbjpfkaaGreatDoor
open Go.RowKit
theorem Tryz.info3 : (Tryz.prog.info? 3).map (fun i => (i.zero, i.size, i.bytes)) = some (some (.int .i64 0), 1, 8) := by kernel_rfl
theorem Cym.c1 {w : World} {cb rd sb n : Nat} {ad : Option Addr} {cap : Nat} {c : B.Cy} (h : Cym w cb rd sb n ad cap c) : w.cell? ⟨cb, 0, none⟩ = some (P0 sb) ∧ w.cell? ⟨cb, 1, none⟩ = some (.slice (some ⟨rd, 0, none⟩) n n) ∧ w.cell? ⟨cb, 2, none⟩ = some (.slice ad c.st.length cap) ∧ w.cell? ⟨cb, 3, none⟩ = some (.int .i64 c.nx) ∧ w.frozen? ⟨cb, 2, none⟩ = false ∧ w.frozen? ⟨cb, 3, none⟩ = false := by
  simp [World.cell?, World.frozen?, h.b]
def Nad (ad ad' : Option Addr) (sz : Nat) : Prop := ∀ k, adB ad' = some k → adB ad = some k ∨ sz ≤ k
theorem Nad.refl (ad : Option Addr) (sz : Nat) : Nad ad ad sz := fun _ h => Or.inl h
theorem Nad.trans {a b c : Option Addr} {sz sz' : Nat} (h : Nad a b sz) (h' : Nad b c sz') (hs : sz ≤ sz') : Nad a c sz := fun k hk => by
  rcases h' k hk with h1 | h1
  · exact h k h1
  · exact Or.inr (by omega)
theorem Nad.cyb {cb rd : Nat} {ad ad' : Option Addr} {sz k : Nat} (h : Nad ad ad' sz) (hk : CyB cb rd ad' k) : CyB cb rd ad k ∨ sz ≤ k := by
  rcases hk with h1 | h1 | h1
  · exact Or.inl (Or.inl h1)
  · exact Or.inl (Or.inr (Or.inl h1))
  · exact (h k h1).imp (fun h => Or.inr (Or.inr h)) id
theorem only_row {S : Nat → Prop} {w w' : World} {r : Option Nat} (h : w.grownBy w' r) (hr : ∀ k, r = some k → k < w.heap.size → S k) : Only S w w' :=
  ⟨h.os, h.tape, h.output, h.size, fun k hk hn => h.block k hk (fun e => hn (hr k e.symm hk))⟩
set_option maxRecDepth 100000 in
set_option maxHeartbeats 4000000 in
theorem reach_any (cb rd sb n : Nat) (ad : Option Addr) (cap : Nat) (c : B.Cy) (v : B.V) (w : World) (hC : Cym w cb rd sb n ad cap c) (hv : v.1 ≠ 0 → v.1 ≤ n) (hn : n ≤ 200) (hst : c.st.length ≤ 200) :
    Calls Tryz.prog 188 #[P0 cb, vA v] w fun e w' => e = .returned (.tuple #[]) ∧ ∃ ad' cap', Nad ad ad' w.heap.size ∧ Cym w' cb rd sb n ad' cap' ⟨(B.seen c.m c.st v).1, (B.seen c.m c.st v).2, c.nx⟩ ∧ Only (CyB cb rd ad) w w' := by
  have KC := hid hC
  have HI0 := hid (isCell_any v)
  obtain ⟨v1, v2⟩ := v
  by_cases h0 : v1 = 0
  · subst h0
    have hse : B.seen c.m c.st (0, v2) = (c.m, c.st) := by unfold B.seen; rw [if_neg (by simp)]
    rw [hse]
    have hi := HI0.out
    simp only [ne_eq, not_true, decide_false] at hi
    have HI := hid hi
    clear hse hC hv hi HI0
    go_enter Tryz.func188, Tryz.ntmps188
    go_wp2_with fail
    have KG1 := hid (World.grownBy_alloc w (.cells #[.int .i64 ((0 : Nat) : Int), .int .i64 v2] 149) none)
    first | go_region_with (go_at_call 198; refine (HI.out _).mono ?_; rintro e w2 ⟨rfl, hg2⟩; have HG2 : Hid (w.grownBy w2 none) := grown_trans KG1.out ⟨hg2.os, hg2.tape, hg2.output, hg2.size, hg2.block⟩; clear hg2) | fail
    all_goals
      go_wp2_with fail
      go_end0
      exact ⟨rfl, ad, cap, Nad.refl _ _, KC.out.kept HG2.out, only_none HG2.out⟩
  · obtain ⟨k, hk⟩ : ∃ k, v1 = k + 1 := ⟨v1 - 1, by omega⟩
    subst hk
    have hkn : k < n := by have := hv (by simp); simp only at this; omega
    have hi := HI0.out
    have hd : decide (k + 1 ≠ 0) = true := by simp
    rw [show ((k + 1, v2) : B.V).1 = k + 1 from rfl, hd] at hi
    have HI := hid hi
    have HPL := hid (place_any k v2 (by omega))
    obtain ⟨_, c1, _⟩ := hC.c1
    have lc := heap_lt hC.b
    have lr := hC.r.lt
    have r0 := hC.r.cell k hkn
    clear hC hv hi hd HI0 h0
    generalize hmk : c.m (k + 1) = b at *
    have HMK := hid hmk
    clear hmk
    have hki : (k : Int) < (n : Int) := by omega
    go_enter Tryz.func188, Tryz.ntmps188
    go_wp2_with fail
    generalize hW : w.alloc (.cells #[.int .i64 ((k : Int) + 1), .int .i64 v2] 149) = w1
    have KG1 : Hid (w.grownBy w1 none) := by rw [← hW]; exact World.grownBy_alloc _ _ _
    have hx1 : w1.heap[w.heap.size]? = some (.cells #[.int .i64 ((k : Int) + 1), .int .i64 v2] 149 (0, 0)) := by rw [← hW]; exact heap_alloc_new w _
    have lx := heap_lt hx1
    have v0 : w1.cell? ⟨w.heap.size, 0, none⟩ = some (.int .i64 ((k : Int) + 1)) := by simp [World.cell?, hx1]
    have v1 : w1.cell? ⟨w.heap.size, 1, none⟩ = some (.int .i64 v2) := by simp [World.cell?, hx1]
    clear hW hx1
    have d1 := (grown_cell KG1.out (a := ⟨cb, 1, none⟩) lc).1.trans c1
    have q0 := (grown_cell KG1.out (a := ⟨rd, k, none⟩) lr).1.trans r0
    have hz1 := KG1.out.size
    have HS : Hid (∀ w' : World, w1.grownBy w' none → (w'.cell? ⟨w.heap.size, 0, none⟩ = some (.int .i64 ((k : Int) + 1)) ∧ w'.cell? ⟨w.heap.size, 1, none⟩ = some (.int .i64 v2) ∧ w'.cell? ⟨cb, 1, none⟩ = some (.slice (some ⟨rd, 0, none⟩) n n) ∧ w'.cell? ⟨rd, k, none⟩ = some (.bool b)) ∧ (w.heap.size < w'.heap.size ∧ cb < w'.heap.size ∧ rd < w'.heap.size)) :=
      fun w' hg => ⟨⟨(grown_cell hg (a := ⟨w.heap.size, 0, none⟩) lx).1.trans v0, (grown_cell hg (a := ⟨w.heap.size, 1, none⟩) lx).1.trans v1, (grown_cell hg (a := ⟨cb, 1, none⟩) (by show cb < _; omega)).1.trans d1, (grown_cell hg (a := ⟨rd, k, none⟩) (by show rd < _; omega)).1.trans q0⟩, by have := hg.size; omega, by have := hg.size; omega, by have := hg.size; omega⟩
    clear c1 r0 d1 q0 v0 v1
    obtain ⟨⟨v0, v1, d1, q0⟩, z1, z2, z3⟩ := HS.out w1 (grown_refl _ _)
    go_cut [16] from 4 to 15 (fun x wx => x = .bool (!b) ∧ Hid (w1.grownBy wx none))
    case first =>
      first | go_region_with (first | (go_at_call 198; refine (HI.out _).mono ?_; rintro e w2 ⟨rfl, hg2⟩; have HG2 : Hid (w1.grownBy w2 none) := ⟨hg2.os, hg2.tape, hg2.output, hg2.size, hg2.block⟩; obtain ⟨⟨v0', v1', d1', q0'⟩, z1', z2', z3'⟩ := HS.out w2 HG2.out; clear hg2) | (go_at_call 201; refine (HPL.out _).mono ?_; rintro e w3 ⟨rfl, hg3⟩; have HG3 : Hid (w1.grownBy w3 none) := grown_trans HG2.out ⟨hg3.os, hg3.tape, hg3.output, hg3.size, hg3.block⟩; obtain ⟨⟨v0'', v1'', d1'', q0''⟩, z1'', z2'', z3''⟩ := HS.out w3 HG3.out; clear hg3)) | fail
      all_goals
        go_wp2_with fail
        go_meet
        case rel => exact ⟨rfl, HG3⟩
    case rest =>
      obtain ⟨rfl, HG3⟩ := hcut
      clear v0 v1 d1 q0 z1 z2 z3
      cases b
      · have HSE : Hid (B.seen c.m c.st (k + 1, v2) = (B.mark c.m (k + 1), c.st ++ [k + 1])) := by show _ = _; unfold B.seen; rw [if_pos ⟨by simp, HMK.out⟩]
        obtain ⟨⟨v0, v1, d1, q0⟩, z1, z2, z3⟩ := HS.out wc HG3.out
        have f0 : wc.frozen? ⟨rd, k, none⟩ = false := by
          have h := (KC.out.kept KG1.out).kept HG3.out
          exact (h.r.cells k hkn).2
        go_wp2_with fail
        generalize hwd : wc = wd at *
        clear hwd
        go_cut [] from 17 to 23 (fun wx => ∃ w4, Hid (w1.grownBy w4 none) ∧ wx = w4.setCell ⟨rd, k, none⟩ (.bool true))
        case first =>
          go_region_with (go_at_call 201; refine (HPL.out _).mono ?_; rintro e w4 ⟨rfl, hg4⟩; have HG4 : Hid (w1.grownBy w4 none) := grown_trans HG3.out ⟨hg4.os, hg4.tape, hg4.output, hg4.size, hg4.block⟩; obtain ⟨⟨v0', v1', d1', q0'⟩, z1', z2', z3'⟩ := HS.out w4 HG4.out; have f0' : w4.frozen? ⟨rd, k, none⟩ = false := (((KC.out.kept KG1.out).kept HG4.out).r.cells k hkn).2; clear hg4)
          all_goals
            go_wp2_with fail
            go_meet
            case rel => exact ⟨w4, HG4, rfl⟩
        case rest =>
          obtain ⟨w4, HG4, hwc⟩ := hcut
          have hC4 := (KC.out.kept KG1.out).kept HG4.out
          obtain ⟨⟨v0', v1', d1', q0'⟩, z1', z2', z3'⟩ := HS.out w4 HG4.out
          have hzc : wc.heap.size = w4.heap.size := by rw [hwc]; simp [World.setCell]
          have hbk : ∀ x, x ≠ rd → wc.heap[x]? = w4.heap[x]? := fun x hx => by rw [hwc, Below.heap_setCell _ _ _ _ hx]
          have ncr : cb ≠ rd := by obtain ⟨cu, h, _⟩ := hC4.r; exact cells_ne hC4.b h (by decide)
          have nxr : w.heap.size ≠ rd := by have := KC.out.r.lt; omega
          have HCB : Hid (wc.heap[cb]? = some (.cells #[P0 sb, .slice (some ⟨rd, 0, none⟩) n n, .slice ad c.st.length cap, .int .i64 c.nx] 275 (0, 0))) := (hbk cb ncr).trans hC4.b
          have HR : Hid (Full wc rd 4 n n (fun j => .bool (B.mark c.m (k + 1) (j + 1)))) := by
            have h1 := hC4.r.upd k (.bool true)
            rw [← hwc] at h1
            refine h1.congr (fun j _ => ?_)
            by_cases e : j = k
            · subst e; rw [upd_at, B.mark_at]
            · rw [upd_off _ _ _ _ e, B.mark_off _ _ _ (by omega)]
          have HQ : Hid (Qrow wc 3 (.slice ad c.st.length cap) (stL c.st)) := hC4.q.block (fun x hx => hbk x (by
            obtain ⟨cu, h⟩ := hC4.q.ty x hx
            obtain ⟨cu', h', _⟩ := hC4.r
            exact cells_ne h h' (by decide)))
          have HKO : Hid (Only (CyB cb rd ad) w wc) := by
            show Only _ _ _
            rw [hwc]
            exact only_setCell (only_none (grown_trans KG1.out HG4.out)) (Or.inl (Or.inr (Or.inl rfl))) _
          have x0 : wc.cell? ⟨w.heap.size, 0, none⟩ = some (.int .i64 ((k : Int) + 1)) := (World.cell?_of_block (a := ⟨w.heap.size, 0, none⟩) (hbk _ nxr)).trans v0'
          have x1 : wc.cell? ⟨w.heap.size, 1, none⟩ = some (.int .i64 v2) := (World.cell?_of_block (a := ⟨w.heap.size, 1, none⟩) (hbk _ nxr)).trans v1'
          have y2 : wc.cell? ⟨cb, 2, none⟩ = some (.slice ad c.st.length cap) := by simp [World.cell?, HCB.out]
          have g2 : wc.frozen? ⟨cb, 2, none⟩ = false := by simp [World.frozen?, HCB.out]
          have lxc : w.heap.size < wc.heap.size := by omega
          have lcc : cb < wc.heap.size := by omega
          have hsz : w.heap.size ≤ wc.heap.size := by omega
          have hlen : (stL c.st).length = c.st.length := stL_len _
          have hL : stL (c.st ++ [k + 1]) = stL c.st ++ [.int .i64 (k : Int)] := by rw [stL_app]; rfl
          have HL := hid hL
          have HNQ : Hid (adB ad ≠ some cb) := fun e => by
            obtain ⟨cu, h⟩ := HQ.out.ty cb (by rw [own_adB]; exact e)
            exact cells_ne HCB.out h (by decide) rfl
          have HLN := hid hlen
          clear hC4 hbk hwc v0' v1' d1' q0' v0 v1 d1 q0 f0 z1 z2 z3 z1' z2' z3' hzc hL hlen
          obtain ⟨i0, hi, hz0, hz1', hzb⟩ := info_parts Tryz.info3
          have HP2 : Hid (∀ w' : World, wc.grownBy w' none → w'.cell? ⟨cb, 2, none⟩ = some (.slice ad c.st.length cap) ∧ w'.frozen? ⟨cb, 2, none⟩ = false ∧ cb < w'.heap.size) := fun w' hg => ⟨(grown_cell hg (a := ⟨cb, 2, none⟩) lcc).1.trans y2, (grown_cell hg (a := ⟨cb, 2, none⟩) lcc).2.trans g2, Nat.lt_of_lt_of_le lcc hg.size⟩
          have hmx : (stL c.st).length + 1 ≤ maxLen := by rw [HLN.out]; unfold maxLen; omega
          have hby : ((stL c.st).length + 1) * 8 ≤ 140737488355328 := by rw [HLN.out]; omega
          have HMX := hid (And.intro hmx hby)
          clear hmx hby
          rw [← HLN.out] at y2
          go_wp2_with fail
          go_region_law (first | (refine step_append_q _ rfl (.tmp 28) (.tmp 31) 54 rfl 3 i0 _ 8 Tryz.underlying54 hi hz0 hz1' hzb rfl (.slice ad (stL c.st).length cap) (stL c.st) (by first | rfl | simp [Act.eval, Act.put]) (HQ6.out) ⟨w5.heap.size, 0, none⟩ 1 (.int .i64 (k : Int)) (by first | rfl | simp [Act.eval, Act.put]) (by simp [go_sem]) rfl HMX.out.1 HMX.out.2 ?_; intro g off cap' w6 hq6 hg6 hn6; have HQ7 := hid hq6; have HG7 := hid hg6; have HN7 := hid hn6; have hcb6 : w6.heap[cb]? = _ := (hg6.block cb (by simp; omega) (by rw [own_adB]; exact fun e => HNQ.out e.symm)).trans ((Below.heap_alloc _ _ _ z5).trans (grown_heap HG5.out HCB.out (by intro e; cases e))); have y6 : w6.cell? ⟨cb, 2, none⟩ = some (.slice ad c.st.length cap) := (by simp [World.cell?, hcb6]); have g6 : w6.frozen? ⟨cb, 2, none⟩ = false := (by simp [World.frozen?, hcb6]); have l6 := heap_lt hcb6; have HCB6 := hid hcb6; clear hq6 hg6 hn6 hcb6) | (go_simp; go_at_call 201; refine (HPL.out _).mono ?_; rintro e w5 ⟨rfl, hg5⟩; have HG5 : Hid (wc.grownBy w5 none) := ⟨hg5.os, hg5.tape, hg5.output, hg5.size, hg5.block⟩; obtain ⟨y5, g5, z5⟩ := HP2.out w5 HG5.out; have HQ6 : Hid (Qrow (w5.alloc (.cells #[.int .i64 (k : Int)] 3)) 3 (.slice ad (stL c.st).length cap) (stL c.st)) := (by rw [HLN.out]; exact HQ.out.block (fun x hx => (Below.heap_alloc _ _ _ (Nat.lt_of_lt_of_le (HQ.out.lt x hx) HG5.out.size)).trans (HG5.out.block x (HQ.out.lt x hx) (by intro e; cases e)))); rw [← HLN.out] at y5; clear hg5; simp only []))
          all_goals
            go_wp2_with fail
            go_end0
            have hz5 := HG5.out.size
            have hl7 := HLN.out
            obtain ⟨cuR, hR1, hR2⟩ := id HR.out
            have hbk7 : ∀ (x : Nat) (cur : Array Value) (T : TypeId), wc.heap[x]? = some (.cells cur T (0, 0)) → T ≠ 3 → x ≠ cb → (w6.setCell ⟨cb, 2, none⟩ (.slice (some ⟨g, off, none⟩) ((stL c.st).length + 1) cap')).heap[x]? = wc.heap[x]? := by
              intro x cur T hx hT hne
              have lx5 : x < w5.heap.size := Nat.lt_of_lt_of_le (heap_lt hx) hz5
              rw [Below.heap_setCell _ _ _ _ hne, HG7.out.block x (by simp; omega) (fun e => ?_), Below.heap_alloc _ _ _ lx5]
              · exact HG5.out.block x (heap_lt hx) (by intro e; cases e)
              · obtain ⟨cu, h⟩ := HQ.out.ty x (by rw [own_adB]; rw [own_adB] at e; exact e.symm)
                rw [hx] at h; injection h with h; injection h with _ h _; exact hT h
            have ncg : g ≠ cb := by
              obtain ⟨cu, h⟩ := HQ7.out.ty g rfl
              exact cells_ne h HCB6.out (by decide)
            refine ⟨rfl, some ⟨g, off, none⟩, cap', fun x hx => ?_, ?_, ?_⟩
            · have e : g = x := by injection hx
              subst e
              rcases HN7.out with h | h
              · rw [own_adB] at h; exact Or.inl h
              · right; simp at h; omega
            · rw [HSE.out]
              refine ⟨?_, ⟨cuR, (hbk7 rd _ _ hR1 (by decide) (fun e => ncr e.symm)).trans hR1, hR2⟩, ?_⟩
              · simp [World.setCell, Array.getElem?_modify, HCB6.out, hl7]
              · show Qrow _ _ (.slice _ (c.st ++ [k + 1]).length _) (stL (c.st ++ [k + 1]))
                rw [HL.out, List.length_append, List.length_singleton, ← hl7]
                refine HQ7.out.block (fun x hx => Below.heap_setCell _ _ _ _ ?_)
                have e : g = x := by injection hx
                subst e; exact ncg
            · refine only_setCell ?_ (Or.inl (Or.inl rfl)) _
              refine ((HKO.out.then0 HG5.out).then0 (World.grownBy_alloc _ _ _)).trans (only_row (S := CyB cb rd ad) HG7.out (fun x hx _ => Or.inr (Or.inr (by rw [own_adB] at hx; exact hx)))) (fun _ h _ => h)
      · have HSE : Hid (B.seen c.m c.st (k + 1, v2) = (c.m, c.st)) := by show _ = _; unfold B.seen; rw [if_neg (by simp [HMK.out])]
        go_wp2_with fail
        go_end0
        have hg := grown_trans KG1.out HG3.out
        exact ⟨rfl, ad, cap, Nad.refl _ _, by rw [HSE.out]; exact KC.out.kept hg, only_none hg⟩
set_option maxRecDepth 100000 in
set_option maxHeartbeats 1000000 in
theorem keepc_any (cb rd sb n k : Nat) (ad : Option Addr) (cap : Nat) (c : B.Cy) (x : Int) (w : World) (hC : Cym w cb rd sb n ad cap c) (hk : k < n) (hn : n ≤ 200) :
    Calls Tryz.prog 221 #[P0 cb, vA (k + 1, x)] w fun e w' => e = .returned (.tuple #[]) ∧ Cym w' cb rd sb n ad cap ⟨B.mark c.m (k + 1), c.st, c.nx⟩ ∧ w.grownBy w' (some rd) := by
  have KC := hid hC
  have HPL := hid (place_any k x (by omega))
  obtain ⟨_, c1, _⟩ := hC.c1
  have lc := heap_lt hC.b
  have lr := hC.r.lt
  have hki : (k : Int) < (n : Int) := by omega
  clear hC
  go_enter Tryz.func221, Tryz.ntmps221
  go_wp2_with fail
  generalize hW : w.alloc (.cells #[.int .i64 ((k : Int) + 1), .int .i64 x] 149) = w1
  have KG1 : Hid (w.grownBy w1 none) := by rw [← hW]; exact World.grownBy_alloc _ _ _
  have hx1 : w1.heap[w.heap.size]? = some (.cells #[.int .i64 ((k : Int) + 1), .int .i64 x] 149 (0, 0)) := by rw [← hW]; exact heap_alloc_new w _
  have lx := heap_lt hx1
  have v0 : w1.cell? ⟨w.heap.size, 0, none⟩ = some (.int .i64 ((k : Int) + 1)) := by simp [World.cell?, hx1]
  have v1 : w1.cell? ⟨w.heap.size, 1, none⟩ = some (.int .i64 x) := by simp [World.cell?, hx1]
  have d1 := (grown_cell KG1.out (a := ⟨cb, 1, none⟩) lc).1.trans c1
  have hz1 := KG1.out.size
  have lc1 : cb < w1.heap.size := by omega
  clear hW hx1 c1
  go_region_with (go_at_call 201; refine (HPL.out _).mono ?_; rintro e w4 ⟨rfl, hg4⟩; have HG4 : Hid (w1.grownBy w4 none) := ⟨hg4.os, hg4.tape, hg4.output, hg4.size, hg4.block⟩; have hC4 := (KC.out.kept KG1.out).kept HG4.out; obtain ⟨q0, f0⟩ := hC4.r.cells k hk; have d1' := hC4.c1.2.1; have lc4 := heap_lt hC4.b; have lr4 := hC4.r.lt; clear hg4 hC4)
  all_goals
    go_wp2_with fail
    go_end0
    have hC4 := (KC.out.kept KG1.out).kept HG4.out
    have ncr : cb ≠ rd := by obtain ⟨cu, h, _⟩ := hC4.r; exact cells_ne hC4.b h (by decide)
    refine ⟨rfl, ⟨(Below.heap_setCell _ _ _ _ ncr).trans hC4.b, (hC4.r.upd k (.bool true)).congr (fun j _ => ?_), hC4.q.block (fun y hy => Below.heap_setCell _ _ _ _ ?_)⟩, ?_⟩
    · show _ = Value.bool (B.mark c.m (k + 1) (j + 1))
      by_cases e : j = k
      · subst e; rw [upd_at, B.mark_at]
      · rw [upd_off _ _ _ _ e, B.mark_off _ _ _ (by omega)]
    · obtain ⟨cu, h⟩ := hC4.q.ty y hy
      obtain ⟨cu', h', _⟩ := hC4.r
      exact cells_ne h h' (by decide)
    · exact grown_setCell (grown_of_none (grown_trans KG1.out HG4.out)) (Or.inl rfl) _
theorem cell_lt {w : World} {b o : Nat} {v : Value} (h : w.cell? ⟨b, o, none⟩ = some v) : b < w.heap.size := by
  rcases Nat.lt_or_ge b w.heap.size with h1 | h1
  · exact h1
  · have : w.heap[b]? = none := Array.getElem?_eq_none h1
    simp [World.cell?, this] at h
def Vsd (w0 w : World) (cb rd sb n : Nat) (ad : Option Addr) (c : B.Cy) (l : List B.V) : Prop :=
  Only (CyB cb rd ad) w0 w ∧ ∃ ad' cap', Nad ad ad' w0.heap.size ∧ Cym w cb rd sb n ad' cap' ⟨(B.seenL c.m c.st l).1, (B.seenL c.m c.st l).2, c.nx⟩
theorem vsd_nil {w : World} {cb rd sb n : Nat} {ad : Option Addr} {cap : Nat} {c : B.Cy} (h : Cym w cb rd sb n ad cap c) : Vsd w w cb rd sb n ad c [] := ⟨only_refl _ _, ad, cap, Nad.refl _ _, h⟩
theorem Vsd.kept {w0 w w' : World} {cb rd sb n : Nat} {ad : Option Addr} {c : B.Cy} {l : List B.V} (h : Vsd w0 w cb rd sb n ad c l) (hg : w.grownBy w' none) : Vsd w0 w' cb rd sb n ad c l := by
  obtain ⟨h1, ad', cap', h2, h3⟩ := h
  exact ⟨h1.then0 hg, ad', cap', h2, h3.kept hg⟩
theorem seenL_len {n : Nat} {c : B.Cy} {l : List B.V} (hn : n ≤ 200) (hs : c.st.length + B.cnt c.m n ≤ n) (hl : ∀ v, v ∈ l → v.1 ≠ 0 → v.1 ≤ n) : (B.seenL c.m c.st l).2.length ≤ 200 := by
  have := B.seenL_sum (n := n) l c.m c.st hl
  omega
theorem vsd_step {w0 w : World} {cb rd sb n : Nat} {ad : Option Addr} {c : B.Cy} {l : List B.V} (v : B.V) (h : Vsd w0 w cb rd sb n ad c l) (hn : n ≤ 200) (hs : c.st.length + B.cnt c.m n ≤ n) (hl : ∀ v, v ∈ l → v.1 ≠ 0 → v.1 ≤ n) (hv : v.1 ≠ 0 → v.1 ≤ n) :
    Calls Tryz.prog 188 #[P0 cb, vA v] w fun e w' => e = .returned (.tuple #[]) ∧ Vsd w0 w' cb rd sb n ad c (l ++ [v]) := by
  obtain ⟨h1, ad', cap', h2, h3⟩ := h
  refine (reach_any cb rd sb n ad' cap' _ v w h3 hv hn (seenL_len hn hs hl)).mono ?_
  rintro e w' ⟨rfl, ad2, cap2, h4, h5, h6⟩
  refine ⟨rfl, h1.trans h6 (fun k hk hl => (h2.cyb hk).resolve_right (by omega)), ad2, cap2, h2.trans h4 h1.size, ?_⟩
  rw [B.seenL_snoc]
  exact h5
def Vis (Q : Nat → Prop) (w : World) (eb nr : Nat) (R : Nat → B.V) : Prop :=
  ∀ (w1 : World) (cb rd sb n : Nat) (ad : Option Addr) (cap : Nat) (c : B.Cy), (∀ k, Q k → w1.heap[k]? = w.heap[k]?) → Cym w1 cb rd sb n ad cap c → (∀ k, Q k → ¬ CyB cb rd ad k) → n ≤ 200 → c.st.length + B.cnt c.m n ≤ n → (∀ i, i < nr → (R i).1 ≠ 0 → (R i).1 ≤ n) →
    Calls Tryz.prog 59 #[P0 eb, .func (.func 188) #[P0 cb] #[]] w1 fun e w2 => e = .returned (.tuple #[]) ∧ Vsd w1 w2 cb rd sb n ad c (B.regs R nr)
theorem Vis.block {Q : Nat → Prop} {w w' : World} {eb nr : Nat} {R : Nat → B.V} (h : Vis Q w eb nr R) (hk : ∀ k, Q k → w'.heap[k]? = w.heap[k]?) : Vis Q w' eb nr R :=
  fun w1 cb rd sb n ad cap c h1 => h w1 cb rd sb n ad cap c (fun k hq => (h1 k hq).trans (hk k hq))
theorem Tryz.info4 : (Tryz.prog.info? 4).map (fun i => (i.zero, i.size, i.bytes)) = some (some (.bool false), 1, 1) := by kernel_rfl
set_option maxRecDepth 100000 in
set_option maxHeartbeats 1000000 in
theorem beginc_any (Q : Nat → Prop) (eb sb pb n nr : Nat) (R : Nat → B.V) (w : World) (q0 : w.cell? ⟨sb, 0, none⟩ = some (.slice (some ⟨pb, 0, none⟩) n n)) (q1 : w.cell? ⟨sb, 1, none⟩ = some (.func (.func 59) #[P0 eb] #[])) (hV : Vis Q w eb nr R) (hQ : ∀ k, Q k → k < w.heap.size) (hn : n ≤ 200) (hR : ∀ i, i < nr → (R i).1 ≠ 0 → (R i).1 ≤ n) :
    Calls Tryz.prog 135 #[P0 sb] w fun e w' => ∃ cb rd ad cap, e = .returned (P0 cb) ∧ Below w.heap.size w w' ∧ (∀ k, CyB cb rd ad k → w.heap.size ≤ k) ∧ Cym w' cb rd sb n ad cap (B.begun R nr) := by
  have ls := cell_lt q0
  have HVS := hid hV
  have HQ := hid hQ
  have HR := hid hR
  clear hV hQ hR
  obtain ⟨i0, hi, hz0, hz1, hz2⟩ := info_parts Tryz.info4
  go_enter Tryz.func135, Tryz.ntmps135
  go_wp2_with (at_make; go_loud (refine wpList_make_full _ rfl _ _ 231 rfl w.heap.size 4 i0 _ 1 Tryz.underlying231 hi hz0 hz1 _ _ _ _ n rfl rfl rfl rfl (by rw [hz2]; omega) (by unfold maxLen; omega) (by simp) ?_))
  intro w3 hown hg3
  have hf3 : Full w3 w.heap.size 4 n n (fun j => .bool ((fun _ => false : Nat → Bool) (j + 1))) := by
    rcases hown.2 with ⟨h, _⟩ | ⟨g', cap', cur, h1, h2, h3, h4, h5, h6, h7⟩
    · cases h
    · injection h1 with h1 _ hc
      injection h1 with h1
      injection h1 with h1 _ _
      have hg' : g' = w.heap.size := by simpa using h1.symm
      subst hg' hc
      refine ⟨cur, h3, by omega, fun j hj => ?_⟩
      have e1 := congrArg (fun l => l[j]?) h7
      rw [toList_madeCells_one] at e1
      simp only [List.getElem?_take, List.getElem?_replicate] at e1
      rw [if_pos (by omega), if_pos (by omega)] at e1
      simpa using e1
  have KG3 := hid hg3
  have HF3 := hid hf3
  have ls3 : sb < w3.heap.size := Nat.lt_of_lt_of_le ls hg3.size
  have s0 := (grown_cell hg3 (a := ⟨sb, 0, none⟩) ls).1.trans q0
  have s1 := (grown_cell hg3 (a := ⟨sb, 1, none⟩) ls).1.trans q1
  clear hown hg3 hf3 q0 q1
  go_wp2_with fail
  have hz3 := KG3.out.size
  have hlr := HF3.out.lt
  have hC4 : Cym (w3.alloc (.cells #[P0 sb, .slice (some ⟨w.heap.size, 0, none⟩) n n, .slice none 0 0, .int .i64 0] 275)) w3.heap.size w.heap.size sb n none 0 ⟨fun _ => false, [], 0⟩ :=
    ⟨heap_alloc_new _ _, HF3.out.block (Below.heap_alloc _ _ _ HF3.out.lt), Qrow.nil _ _⟩
  have KC4 := hid hC4
  have KB4 : Hid (Below w.heap.size w (w3.alloc (.cells #[P0 sb, .slice (some ⟨w.heap.size, 0, none⟩) n n, .slice none 0 0, .int .i64 0] 275))) := (below_none KG3.out).alloc KG3.out.size _
  clear hC4
  refine (HVS.out _ w3.heap.size w.heap.size sb n none 0 ⟨fun _ => false, [], 0⟩ (fun k hk => KB4.out.block k (HQ.out k hk)) KC4.out (fun k hk h => ?_) hn (by show 0 + _ ≤ n; rw [B.cnt_all]; omega) HR.out).mono ?_
  · have := HQ.out k hk
    rcases h with h | h | h
    · omega
    · omega
    · cases h
  rintro e w5 ⟨rfl, hO5, ad, cap, hN5, hC5⟩
  have HR5 : Hid (Below w.heap.size w w5 ∧ (∀ k, CyB w3.heap.size w.heap.size ad k → w.heap.size ≤ k) ∧ Cym w5 w3.heap.size w.heap.size sb n ad cap (B.begun R nr)) := by
    refine ⟨⟨hO5.1.trans KB4.out.os, hO5.2.1.trans KB4.out.tape, hO5.2.2.1.trans KB4.out.output, Nat.le_trans KB4.out.size hO5.size, fun k hk => (hO5.same (by simp; omega) (fun h => ?_)).trans (KB4.out.block k hk)⟩, fun k hk => ?_, hC5⟩
    · rcases h with h | h | h
      · omega
      · omega
      · cases h
    · rcases hk with h | h | h
      · omega
      · omega
      · rcases hN5 k h with h1 | h1
        · cases h1
        · simp at h1; omega
  clear hO5 hN5 hC5
  go_wp2_with fail
  go_ret
  exact ⟨_, _, ad, cap, rfl, HR5.out.1, HR5.out.2.1, HR5.out.2.2⟩
set_option maxRecDepth 100000 in
theorem endedc_any (cb rd sb n : Nat) (ad : Option Addr) (cap : Nat) (c : B.Cy) (w : World) (hC : Cym w cb rd sb n ad cap c) :
    Calls Tryz.prog 137 #[P0 cb] w fun e w' => e = .returned (.bool (decide (c.nx = n))) ∧ w.grownBy w' none := by
  obtain ⟨_, c1, _, c3, _, _⟩ := hC.c1
  have hb : (((c.nx : Nat) : Int) == (n : Int)) = decide (c.nx = n) := by
    by_cases h : c.nx = n
    · simp [h]
    · have : ¬ ((c.nx : Int) = (n : Int)) := by omega
      simp [h, this]
  have lc := heap_lt hC.b
  clear hC
  generalize decide (c.nx = n) = d at *
  generalize c.nx = x at *
  go_enter Tryz.func137, Tryz.ntmps137
  go_wp2_with fail
  go_quiet (fail)
  go_wp2_with fail
  go_ret
  exact ⟨rfl, grown_drewN (grown_refl _ _) _⟩
theorem Cym.step {w : World} {cb rd sb n : Nat} {ad : Option Addr} {cap : Nat} {c : B.Cy} (h : Cym w cb rd sb n ad cap c) (hr : rd ≠ cb) (hq : ∀ k, (Value.slice ad c.st.length cap).ownBlock = some k → k ≠ cb) : Cym (w.setCell ⟨cb, 3, none⟩ (.int .i64 ((c.nx : Int) + 1))) cb rd sb n ad cap (B.look c) := by
  refine ⟨?_, h.r.off hr, h.q.block (fun k hk => Below.heap_setCell _ _ _ _ (hq k hk))⟩
  simp [World.setCell, Array.getElem?_modify, h.b, B.look]
theorem swept_dn (on : Nat → Bool) (c : B.Cy) (p : Nat) (h : B.swept on c p = true) : on p = true := B.swept_dn h
end Go.Proofs.YtnjiinbhbjpfkaaGreatDoor
namespace Go.Proofs.YtnjiinbhbjpfkaaGreatDoor.F
open Go.RowKit
theorem plc_free (on : Nat → Bool) (f : Fb) (M : Nat → List B.V) (i : Nat) (j : Nat) :
    plcP (B.free on (i + 1)) f M j = upd (upd (upd (plcP on f M) (i * 3) (.int .u8 0)) (i * 3 + 1) (.int .i64 0)) (i * 3 + 2) (.slice none 0 0) j := by
  by_cases e2 : j = i * 3 + 2
  · subst e2; rw [upd_at, plc_2, B.free_at]; rfl
  · rw [upd_off _ _ _ _ e2]
    by_cases e1 : j = i * 3 + 1
    · subst e1; rw [upd_at, plc_1, B.free_at]; rfl
    · rw [upd_off _ _ _ _ e1]
      by_cases e0 : j = i * 3
      · subst e0; rw [upd_at, plc_0, B.free_at]; rfl
      · rw [upd_off _ _ _ _ e0]
        have hne : j / 3 + 1 ≠ i + 1 := by omega
        unfold plcP
        rw [B.free_off _ _ _ hne]
set_option maxRecDepth 100000 in
set_option maxHeartbeats 4000000 in
theorem lookc_any (cb rd sb pb n : Nat) (ad : Option Addr) (cap : Nat) (c : B.Cy) (on : Nat → Bool) (f : Fb) (M : Nat → List B.V) (w : World) (hC : Cym w cb rd sb n ad cap c) (hP : Plc w pb n on f M) (h0 : w.cell? ⟨sb, 0, none⟩ = some (.slice (some ⟨pb, 0, none⟩) n n)) (hx : c.nx < n) (hn : n ≤ 200) :
    Calls Tryz.prog 190 #[P0 cb] w fun e w' => e = .returned (.tuple #[]) ∧ Cym w' cb rd sb n ad cap (B.look c) ∧ Plc w' pb n (B.swept on c) f M ∧ Only (fun k => k = pb ∨ k = cb) w w' := by
  have KC := hid hC
  have KP := hid hP
  obtain ⟨c0, c1, _, c3, _, f3⟩ := hC.c1
  have lc := heap_lt hC.b
  have lr := hC.r.lt
  have lp := hP.p.lt
  have ls := cell_lt h0
  have m0 := hC.r.cell c.nx hx
  have npc : pb ≠ cb := by obtain ⟨cu, h, _⟩ := hP.p; exact cells_ne h hC.b (by decide)
  have ncp : ¬ cb = pb := fun e => npc e.symm
  have npr : pb ≠ rd := by obtain ⟨cu, h, _⟩ := hP.p; obtain ⟨cu', h', _⟩ := hC.r; exact cells_ne h h' (by decide)
  have hxi : (c.nx : Int) < (n : Int) := by omega
  have hwr : IntKind.i64.wrap ((c.nx : Int) + 1) = ((c.nx : Int) + 1) := by simp [IntKind.wrap, IntKind.bits, IntKind.signed]; omega
  have hwr2 : wrap64 ((c.nx : Int) + 1) = ((c.nx : Int) + 1) := IntWalk.wrap64_in _ ⟨by omega, by omega⟩
  have hq : ∀ k, (Value.slice ad c.st.length cap).ownBlock = some k → k ≠ cb ∧ k ≠ pb := fun k hk => by
    obtain ⟨cu, h⟩ := hC.q.ty k hk
    refine ⟨cells_ne h hC.b (by decide), ?_⟩
    obtain ⟨cu', h', _⟩ := hP.p
    exact cells_ne h h' (by decide)
  have HQ := hid hq
  have ncr : rd ≠ cb := by obtain ⟨cu', h', _⟩ := hC.r; exact cells_ne h' hC.b (by decide)
  have hsl : ∀ p, 1 ≤ p → p ≤ n → on p = true → f.b p ≠ cb ∧ f.b p ≠ pb := fun p a b d => by
    obtain ⟨cu, h, _⟩ := hP.s p a b d
    refine ⟨cells_ne h hC.b (by decide), ?_⟩
    obtain ⟨cu', h', _⟩ := hP.p
    exact cells_ne h h' (by decide)
  have HSL := hid hsl
  clear hC hP hq hsl
  cases hm : c.m (c.nx + 1)
  · obtain ⟨p0, z0⟩ := KP.out.p.cells (c.nx * 3) (by omega)
    obtain ⟨p1, z1⟩ := KP.out.p.cells (c.nx * 3 + 1) (by omega)
    obtain ⟨p2, z2⟩ := KP.out.p.cells (c.nx * 3 + 2) (by omega)
    generalize plcP on f M (c.nx * 3) = y0 at p0
    generalize plcP on f M (c.nx * 3 + 1) = y1 at p1
    generalize plcP on f M (c.nx * 3 + 2) = y2 at p2
    rw [hm] at m0
    have HM := hid hm
    clear hm
    have HC0 := hid (And.intro c0 (And.intro c1 c3))
    generalize hxx : c.nx = x at *
    go_enter Tryz.func190, Tryz.ntmps190
    go_wp2_with fail
    go_quiet (fail)
    go_wp2_with fail
    go_region
    go_wp2_with fail
    go_end0
    subst hxx
    have hsw : B.swept on c = B.free on (c.nx + 1) := by unfold B.swept; rw [if_neg (by rw [HM.out]; decide)]
    have hbk : ∀ k, k ≠ pb → ((((w.drewN (nq + 1)).setCell ⟨pb, c.nx * 3, none⟩ (.int .u8 0)).setCell ⟨pb, c.nx * 3 + 1, none⟩ (.int .i64 0)).setCell ⟨pb, c.nx * 3 + 2, none⟩ (.slice none 0 0)).heap[k]? = w.heap[k]? := fun k hk => by
      rw [Below.heap_setCell _ _ _ _ hk, Below.heap_setCell _ _ _ _ hk, Below.heap_setCell _ _ _ _ hk]; rfl
    refine ⟨rfl, Cym.step (KC.out.block (fun k hk => hbk k ?_)) ncr (fun k hk => (HQ.out k hk).1), ⟨?_, fun p a b d => ?_, fun p q a b d e g h => KP.out.i p q a b d e (swept_dn _ _ _ g) (swept_dn _ _ _ h), fun p a => KP.out.l p (swept_dn _ _ _ a), fun p a => KP.out.k p (swept_dn _ _ _ a)⟩, ?_⟩
    · rcases hk with h | h | h
      · rw [h]; exact ncp
      · rw [h]; exact fun e => npr e.symm
      · exact (HQ.out k (by rw [own_adB]; exact h)).2
    · rw [hsw]
      have hP : Full (w.drewN (nq + 1)) pb 228 (n * 3) (n * 3) (plcP on f M) := KP.out.p
      exact ((((hP.upd (c.nx * 3) (.int .u8 0)).upd (c.nx * 3 + 1) (.int .i64 0)).upd (c.nx * 3 + 2) (.slice none 0 0)).congr (fun j _ => (plc_free on f M c.nx j).symm)).off npc
    · have h := HSL.out p a b (swept_dn _ _ _ d)
      exact ((KP.out.s p a b (swept_dn _ _ _ d)).block (hbk _ h.2)).off h.1
    · exact only_setCell (only_setCell (only_setCell (only_setCell (only_drewN (only_refl _ _) _) (Or.inl (Or.inl rfl)) _) (Or.inl (Or.inl rfl)) _) (Or.inl (Or.inl rfl)) _) (Or.inl (Or.inr rfl)) _
  · rw [hm] at m0
    have HM := hid hm
    clear hm
    generalize hxx : c.nx = x at *
    go_enter Tryz.func190, Tryz.ntmps190
    go_wp2_with fail
    go_quiet (fail)
    go_wp2_with fail
    go_end0
    subst hxx
    have hsw : B.swept on c = on := by unfold B.swept; rw [if_pos HM.out]
    rw [hsw]
    have hC : Cym (w.drewN nq) cb rd sb n ad cap c := KC.out.block (fun _ _ => rfl)
    have hP : Plc (w.drewN nq) pb n on f M := KP.out.block rfl (fun _ _ _ _ => rfl)
    refine ⟨rfl, hC.step ncr (fun k hk => (HQ.out k hk).1), hP.block (Below.heap_setCell _ _ _ _ npc) (fun p a b d => Below.heap_setCell _ _ _ _ (HSL.out p a b d).1), only_setCell (only_drewN (only_refl _ _) _) (Or.inl (Or.inr rfl)) _⟩
end Go.Proofs.YtnjiinbhbjpfkaaGreatDoor.F
