/-
  The instruction Cell (with function cells): a new cell, or the machine is spent.
-/
import Derived.Test.YtnjiinbhbjpfkaaGreatDoorGateT
namespace Go.Proofs.YtnjiinbhbjpfkaaGreatDoor.F
open Go.RowKit
def Laid (w w' : World) (sb pb eb n nr t : Nat) (l : List B.V) (kd : B.Kd) (vb : Vs) (s : B.St) (v : Value) : Prop :=
  (∃ (k vg : Nat) (kd1 : B.Kd), k < n ∧ kd1.on (k + 1) = false ∧ B.Held kd1 nr n s ∧ KdF nr n s kd kd1 ∧ v = .tuple #[.agg #[.int .i64 ((k : Int) + 1), .int .i64 0], .bool true] ∧ Str w' sb pb eb n (B.laid kd1 (k + 1)) (vb.put (k + 1) vg t) (B.lay s.2.2 (k + 1) l) ∧ Grew n kd vb (B.laid kd1 (k + 1)) (vb.put (k + 1) vg t) w.heap.size) ∨
  (v = .tuple #[.agg #[.int .i64 0, .int .i64 0], .bool false] ∧ (∀ p, 1 ≤ p → p ≤ n → B.Reach nr s p) ∧ ∃ kd1, Str w' sb pb eb n kd1 vb s.2.2 ∧ B.Held kd1 nr n s ∧ Grew n kd vb kd1 vb w.heap.size)
theorem Laid.pre {w0 w w' : World} {sb pb eb n nr t : Nat} {l : List B.V} {kd : B.Kd} {vb : Vs} {s : B.St} {v : Value} (hz : w0.heap.size ≤ w.heap.size) (h : Laid w w' sb pb eb n nr t l kd vb s v) : Laid w0 w' sb pb eb n nr t l kd vb s v := by
  rcases h with ⟨k, vg, kd1, h1, h2, h3, h3', h4, h5, h6⟩ | ⟨h1, h2, kd1, h3, h4, h5⟩
  · exact Or.inl ⟨k, vg, kd1, h1, h2, h3, h3', h4, h5, fun x hx => (h6 x hx).imp id (fun h => Nat.le_trans hz h)⟩
  · exact Or.inr ⟨h1, h2, kd1, h3, h4, fun x hx => (h5 x hx).imp id (fun h => Nat.le_trans hz h)⟩
theorem Laid.form {w w' : World} {sb pb eb n nr t : Nat} {l : List B.V} {kd : B.Kd} {vb : Vs} {s : B.St} {v : Value} (h : Laid w w' sb pb eb n nr t l kd vb s v) : ∃ (x : Int) (o : Bool), v = .tuple #[.agg #[.int .i64 x, .int .i64 0], .bool o] := by
  rcases h with ⟨k, vg, kd1, h1, h2, h3, _, h4, _⟩ | ⟨h, _⟩
  · exact ⟨_, _, h4⟩
  · exact ⟨_, _, h⟩
set_option maxRecDepth 100000 in
set_option maxHeartbeats 1000000 in
theorem newSlots_any (Q : Nat → Prop) (eb sb pb n nr b : Nat) (kd : B.Kd) (vb : Vs) (s : B.St) (w : World) (hR : Rts w Q eb sb pb n nr kd vb s) (hb8 : b ≤ 8) :
    Calls Tryz.prog 157 #[P0 sb, .int .i64 b] w fun e w' => ∃ v, e = .returned v ∧ Only (Sbk sb pb n kd vb) w w' ∧ Laid w w' sb pb eb n nr 0 (List.replicate b (0, 0)) kd vb s v := by
  have KR := hid hR
  have lp : pb < w.heap.size := hR.hs.p.p.lt
  have ls : sb < w.heap.size := heap_lt hR.hs.b
  have HVB : Hid (∀ x, Own n kd vb x → x < w.heap.size) := hR.hs.lt
  clear hR
  obtain ⟨i0, hi, hz0, hz1, hz2⟩ := info_parts Tryz.info149
  go_enter Tryz.func157, Tryz.ntmps157
  go_wp2_with (at_make; go_loud (refine wpList_make_full _ rfl _ _ 137 rfl 0 149 i0 _ 2 Tryz.underlying137 hi hz0 hz1 _ _ _ _ b rfl rfl rfl rfl (by rw [hz2]; omega) (by unfold maxLen; omega) (Nat.zero_le _) ?_))
  intro w3 hown hg3
  have hz3 := hg3.size
  simp at hz3
  have hf3 : Full w3 (w.heap.size + 1) 149 (b * 2) (b * 2) (regP (fun _ => (0, 0))) := by
    rcases hown.2 with ⟨h, _⟩ | ⟨g', cap', cur, h1, h2, h3, h4, h5, h6, h7⟩
    · cases h
    · injection h1 with h1 _ hc
      injection h1 with h1
      injection h1 with h1 _ _
      have hg' : g' = w.heap.size + 1 := by simpa using h1.symm
      subst hg' hc
      refine ⟨cur, h3, h6, fun j hj => ?_⟩
      have e1 := congrArg (fun l => l[j]?) h7
      have e2 : (madeCells #[.int .i64 0, .int .i64 0] (b * 2)).toList[j]? = some (.int .i64 0) := by
        simp only [madeCells, Array.getElem?_toList, Array.getElem?_map, Array.getElem?_range]
        rw [if_pos hj]
        have : j % 2 = 0 ∨ j % 2 = 1 := by omega
        rcases this with h | h <;> simp [h]
      simp only [e2, List.getElem?_take] at e1
      rw [if_pos hj] at e1
      have e3 : regP (fun _ => ((0, 0) : B.V)) j = .int .i64 0 := by unfold regP; split <;> rfl
      rw [e3]
      simpa using e1
  have x3 := grown_heap hg3 (show (w.alloc (.cells #[.int .i64 0, .int .i64 0] 149)).heap[w.heap.size]? = _ from heap_alloc_new w _) (by intro e; cases e)
  have KG3 : Hid (w.grownBy w3 none) := grown_trans (World.grownBy_alloc _ _ _) hg3
  have HF3 := hid hf3
  have HX3 := hid x3
  have KR3 := hid (KR.out.kept KG3.out)
  clear hown hg3 hf3 x3
  go_wp2_with fail
  have HF3R : Hid (Full w3 (w.heap.size + 1) 149 ((List.replicate b ((0, 0) : B.V)).length * 2) ((List.replicate b ((0, 0) : B.V)).length * 2) (regP (fun i => (List.replicate b ((0, 0) : B.V)).getD i (0, 0)))) := by
    show Full _ _ _ _ _ _
    rw [List.length_replicate]
    refine HF3.out.congr (fun j _ => ?_)
    unfold regP
    have : (List.replicate b ((0, 0) : B.V)).getD (j / 2) (0, 0) = (0, 0) := by
      rw [List.getD_eq_getElem?_getD, List.getElem?_replicate]; split <;> rfl
    simp only [this]
  have hLL : (.agg #[.int .u8 1, .int .i64 0, .slice (some ⟨w.heap.size + 1, 0, none⟩) b b] : Value) = .agg #[kdV true 0, fnV 0, .slice (some ⟨w.heap.size + 1, 0, none⟩) (List.replicate b ((0, 0) : B.V)).length (List.replicate b ((0, 0) : B.V)).length] := by rw [List.length_replicate]; rfl
  rw [hLL]
  refine (lay_any Q eb sb pb n nr (w.heap.size + 1) 0 (List.replicate b (0, 0)) kd vb s w3 KR3.out HF3R.out (by simpa using hb8) (fun h => absurd rfl h) (fun h => by have := HVB.out _ h; omega)).mono ?_
  intro e w4 h4
  have lf3 := HF3.out.lt
  have hO4 := h4.1
  obtain ⟨x, o, he, hL4⟩ : ∃ (x : Int) (o : Bool), e = .returned (.tuple #[.agg #[.int .i64 x, .int .i64 0], .bool o]) ∧ ∀ y : Value, Laid w (w4.setCell ⟨w.heap.size, 0, none⟩ y |>.setCell ⟨w.heap.size, 1, none⟩ (.int .i64 0)) sb pb eb n nr 0 (List.replicate b (0, 0)) kd vb s (.tuple #[.agg #[.int .i64 x, .int .i64 0], .bool o]) := by
    have key : ∀ (kd1 : B.Kd) (vb1 : Vs) (M : Nat → List B.V) (y : Value), Str w4 sb pb eb n kd1 vb1 M → (∀ x, Own n kd1 vb1 x → Own n kd vb x ∨ x = w.heap.size + 1) → Str (w4.setCell ⟨w.heap.size, 0, none⟩ y |>.setCell ⟨w.heap.size, 1, none⟩ (.int .i64 0)) sb pb eb n kd1 vb1 M := fun kd1 vb1 M y hS hG =>
      hS.block ((Below.heap_setCell _ _ _ _ (by show sb ≠ w.heap.size; omega)).trans (Below.heap_setCell _ _ _ _ (by show sb ≠ w.heap.size; omega))) ((Below.heap_setCell _ _ _ _ (by show pb ≠ w.heap.size; omega)).trans (Below.heap_setCell _ _ _ _ (by show pb ≠ w.heap.size; omega))) (fun k hk => by
        have hne : k ≠ w.heap.size := by
          rcases hG k hk with h | h
          · have := HVB.out k h; omega
          · omega
        exact (Below.heap_setCell _ _ _ _ hne).trans (Below.heap_setCell _ _ _ _ hne))
    rcases h4.2 with ⟨k, kd1, h1, h2, h3, h3', rfl, h5, h6⟩ | ⟨rfl, h5, kd1, h6, h7, h8⟩
    · exact ⟨_, _, rfl, fun y => Or.inl ⟨k, w.heap.size + 1, kd1, h1, h2, h3, h3', rfl, key _ _ _ y h5 h6, fun x hx => (h6 x hx).imp id (fun h => by omega)⟩⟩
    · exact ⟨_, _, rfl, fun y => Or.inr ⟨rfl, h5, kd1, key _ _ _ y h6 (fun x hx => Or.inl (h8 x hx)), h7, fun x hx => Or.inl (h8 x hx)⟩⟩
  subst he
  have hx := hO4.block HX3.out (by
    rintro (h | h | h)
    · omega
    · omega
    · have := HVB.out _ h; omega)
  have r0 : w4.cell? ⟨w.heap.size, 0, none⟩ = some (.int .i64 0) := by simp [World.cell?, hx]
  have r1 : w4.cell? ⟨w.heap.size, 1, none⟩ = some (.int .i64 0) := by simp [World.cell?, hx]
  have t0 : w4.frozen? ⟨w.heap.size, 0, none⟩ = false := by simp [World.frozen?, hx]
  have t1 : w4.frozen? ⟨w.heap.size, 1, none⟩ = false := by simp [World.frozen?, hx]
  have lb1 := heap_lt hx
  have KO4 := hid ((only_none (S := Sbk sb pb n kd vb) KG3.out).trans hO4 (fun _ h _ => h))
  have HL4 := hid hL4
  clear h4 hO4 hL4 hx
  go_wp2_with fail
  refine bodyPost_ret (v := .tuple #[.agg #[.int .i64 x, .int .i64 0], .bool o]) (by simp [results, Tryz.results157, go_sem, r0, r1]) rfl ?_
  refine ⟨_, rfl, only_setCell (only_setCell KO4.out (Or.inr (by simp)) _) (Or.inr (by simp)) _, ?_⟩
  exact HL4.out _
set_option maxRecDepth 100000 in
set_option maxHeartbeats 2000000 in
theorem newCell_any (Q : Nat → Prop) (op a b c fb tb eb sb pb n nr : Nat) (kd : B.Kd) (vb : Vs) (s : B.St) (w : World) (hR : Rts w Q eb sb pb n nr kd vb s) (hb8 : b ≤ 8) (h26 : w.cell? ⟨eb, 27, none⟩ = some (P0 sb)) (he : ¬ Sbk sb pb n kd vb eb) :
    Calls Tryz.prog 100 #[stepV op a b c fb tb eb] w fun e w' => ∃ v, e = .returned v ∧ Only (Sbk sb pb n kd vb) w w' ∧ Laid w w' sb pb eb n nr 0 (List.replicate b (0, 0)) kd vb s v := by
  have KR := hid hR
  have le := cell_lt h26
  have lp : pb < w.heap.size := hR.hs.p.p.lt
  have ls : sb < w.heap.size := heap_lt hR.hs.b
  have lvb : Hid (∀ x, Own n kd vb x → x < w.heap.size) := hR.hs.lt
  have HSB : Hid (∀ x, w.heap.size ≤ x → ¬ Sbk sb pb n kd vb x) := fun x hx h => by
    rcases h with h | h | h
    · omega
    · omega
    · have := lvb.out x h; omega
  clear hR
  go_enter Tryz.func100, Tryz.ntmps100
  go_wp2_with fail
  generalize hW : (w.alloc (.cells #[.int .u8 (op : Int), .int .u8 (a : Int), .int .u8 (b : Int), .int .u8 (c : Int), P0 fb, P0 tb, P0 eb] 186)).alloc (.cells #[.int .i64 0, .int .i64 0] 149) = w1
  have KG1 : Hid (w.grownBy w1 none) := by rw [← hW]; exact grown_alloc (World.grownBy_alloc _ _ _) _
  have hx : w1.heap[w.heap.size]? = some (stpB op a b c fb tb eb) := by rw [← hW, Below.heap_alloc _ _ _ (by simp)]; exact heap_alloc_new w _
  have hr : w1.heap[w.heap.size + 1]? = some (.cells #[.int .i64 0, .int .i64 0] 149 (0, 0)) := by
    rw [← hW]
    have := heap_alloc_new (w.alloc (.cells #[.int .u8 (op : Int), .int .u8 (a : Int), .int .u8 (b : Int), .int .u8 (c : Int), P0 fb, P0 tb, P0 eb] 186)) (.cells #[.int .i64 0, .int .i64 0] 149)
    simpa using this
  clear hW
  have HX := hid hx
  have HR := hid hr
  have KR1 := hid (KR.out.kept (grown_drew KG1.out))
  obtain ⟨x0, x1, x2, x3, x4, x5, x6⟩ := s7_of hx
  have lx := heap_lt hx
  have lr := heap_lt hr
  obtain ⟨d26, _⟩ := grown_cell KG1.out (a := ⟨eb, 27, none⟩) le
  rw [h26] at d26
  have le1 : eb < w1.heap.size := by have := KG1.out.size; omega
  clear hx hr
  have hzz := KG1.out.size
  have HS : ∀ w' : World, Only (Sbk sb pb n kd vb) w1 w' → w'.cell? ⟨w.heap.size, 6, none⟩ = some (P0 eb) ∧ w'.cell? ⟨w.heap.size, 2, none⟩ = some (.int .u8 (b : Int)) ∧ w'.cell? ⟨eb, 27, none⟩ = some (P0 sb) := by
    intro w' hO
    exact ⟨(hO.cell (o := 6) lx (HSB.out _ (Nat.le_refl _))).trans x6, (hO.cell (o := 2) lx (HSB.out _ (Nat.le_refl _))).trans x2, (hO.cell (o := 27) le1 he).trans d26⟩
  have HSK := hid HS
  clear HS
  have hwb : IntKind.i64.wrap (b : Int) = (b : Int) := by simp [IntKind.wrap, IntKind.bits, IntKind.signed]; omega
  have hwb2 : wrap64 (b : Int) = (b : Int) := IntWalk.wrap64_in (b : Int) ⟨by omega, by omega⟩
  go_region_held3 (fun w' => w'.cell? ⟨w.heap.size, 6, none⟩ = some (P0 eb) ∧ w'.cell? ⟨w.heap.size, 2, none⟩ = some (.int .u8 (b : Int)) ∧ w'.cell? ⟨eb, 27, none⟩ = some (P0 sb)) (first | exact HSK.out _ (only_refl _ _) | exact HSK.out _ KO4.out | exact HSK5.out) (first | (go_at_call 157; refine (newSlots_any Q eb sb pb n nr b kd vb s w1.drew KR1.out hb8).mono ?_; rintro e w4 ⟨v, rfl, hO4, hL4⟩; obtain ⟨x, ob, rfl⟩ := hL4.form; have KO4 : Hid (Only (Sbk sb pb n kd vb) w1 w4) := hO4; have HL4 : Hid (Laid w1 w4 sb pb eb n nr 0 (List.replicate b (0, 0)) kd vb s (.tuple #[.agg #[.int .i64 x, .int .i64 0], .bool ob])) := hL4; have hr4 := hO4.block (k := w.heap.size + 1) HR.out (HSB.out _ (Nat.le_succ _)); have r0 : w4.cell? ⟨w.heap.size + 1, 0, none⟩ = some (.int .i64 0) := (by simp [World.cell?, hr4]); have r1 : w4.cell? ⟨w.heap.size + 1, 1, none⟩ = some (.int .i64 0) := (by simp [World.cell?, hr4]); have r2 : w4.frozen? ⟨w.heap.size + 1, 0, none⟩ = false := (by simp [World.frozen?, hr4]); have r3 : w4.frozen? ⟨w.heap.size + 1, 1, none⟩ = false := (by simp [World.frozen?, hr4]); have lr4 := heap_lt hr4; have HSK5 : Hid (((w4.setCell ⟨w.heap.size + 1, 0, none⟩ (.int .i64 x)).setCell ⟨w.heap.size + 1, 1, none⟩ (.int .i64 0)).cell? ⟨w.heap.size, 6, none⟩ = some (P0 eb) ∧ ((w4.setCell ⟨w.heap.size + 1, 0, none⟩ (.int .i64 x)).setCell ⟨w.heap.size + 1, 1, none⟩ (.int .i64 0)).cell? ⟨w.heap.size, 2, none⟩ = some (.int .u8 (b : Int)) ∧ ((w4.setCell ⟨w.heap.size + 1, 0, none⟩ (.int .i64 x)).setCell ⟨w.heap.size + 1, 1, none⟩ (.int .i64 0)).cell? ⟨eb, 27, none⟩ = some (P0 sb)) := (by have h := HSK.out w4 hO4; exact ⟨(World.cell?_of_block (a := ⟨w.heap.size, 6, none⟩) ((Below.heap_setCell _ _ _ _ (by simp)).trans (Below.heap_setCell _ _ _ _ (by simp)))).trans h.1, (World.cell?_of_block (a := ⟨w.heap.size, 2, none⟩) ((Below.heap_setCell _ _ _ _ (by simp)).trans (Below.heap_setCell _ _ _ _ (by simp)))).trans h.2.1, (World.cell?_of_block (a := ⟨eb, 27, none⟩) ((Below.heap_setCell _ _ _ _ (by show eb ≠ w.heap.size + 1; omega)).trans (Below.heap_setCell _ _ _ _ (by show eb ≠ w.heap.size + 1; omega)))).trans h.2.2⟩); clear hr4 hO4 hL4))
  all_goals
    go_wp2_with fail
    refine bodyPost_ret (v := .tuple #[.agg #[.int .i64 x, .int .i64 0], .bool ob]) (by simp [results, Tryz.results100, go_sem, r0, r1]) rfl ?_
    refine ⟨_, rfl, only_setCell (only_setCell ((only_none KG1.out).trans KO4.out (fun _ h _ => h)) (Or.inr (by simp)) _) (Or.inr (by simp)) _, ?_⟩
    have hne : ∀ (kd1 : B.Kd) (vb1 : Vs) (M : Nat → List B.V), Str w4 sb pb eb n kd1 vb1 M → Grew n kd vb kd1 vb1 w1.heap.size → ∀ x, Own n kd1 vb1 x → x ≠ w.heap.size + 1 := fun kd1 vb1 M hS hG x hx => by
      have := heap_lt HR.out
      rcases hG x hx with h | h
      · have := lvb.out x h; omega
      · omega
    have key : ∀ (kd1 : B.Kd) (vb1 : Vs) (M : Nat → List B.V) (y z : Value), Str w4 sb pb eb n kd1 vb1 M → Grew n kd vb kd1 vb1 w1.heap.size → Str ((w4.setCell ⟨w.heap.size + 1, 0, none⟩ y).setCell ⟨w.heap.size + 1, 1, none⟩ z) sb pb eb n kd1 vb1 M := fun kd1 vb1 M y z hS hG =>
      hS.block ((Below.heap_setCell _ _ _ _ (by show sb ≠ w.heap.size + 1; omega)).trans (Below.heap_setCell _ _ _ _ (by show sb ≠ w.heap.size + 1; omega))) ((Below.heap_setCell _ _ _ _ (by show pb ≠ w.heap.size + 1; omega)).trans (Below.heap_setCell _ _ _ _ (by show pb ≠ w.heap.size + 1; omega))) (fun k hk => (Below.heap_setCell _ _ _ _ (hne _ _ _ hS hG k hk)).trans (Below.heap_setCell _ _ _ _ (hne _ _ _ hS hG k hk)))
    have hzz1 := KG1.out.size
    rcases HL4.out with ⟨k, vg, kd1, h1, h2, h3, h3', h4, h5, h6⟩ | ⟨h1, h2, kd1, h3, h4, h5⟩
    · exact Or.inl ⟨k, vg, kd1, h1, h2, h3, h3', h4, key _ _ _ _ _ h5 h6, fun x hx => (h6 x hx).imp id (fun h => by omega)⟩
    · exact Or.inr ⟨h1, h2, kd1, key _ _ _ _ _ h3 h5, h4, fun x hx => (h5 x hx).imp id (fun h => by omega)⟩
set_option maxRecDepth 100000 in
set_option maxHeartbeats 1000000 in
theorem newFunc_any (Q : Nat → Prop) (eb sb pb n nr f : Nat) (cg : B.V) (kd : B.Kd) (vb : Vs) (s : B.St) (w : World) (hR : Rts w Q eb sb pb n nr kd vb s) :
    Calls Tryz.prog 161 #[P0 sb, .int .i64 f, vA cg] w fun e w' => ∃ v, e = .returned v ∧ Only (Sbk sb pb n kd vb) w w' ∧ Laid w w' sb pb eb n nr (f + 1) [cg] kd vb s v := by
  have KR := hid hR
  have lp : pb < w.heap.size := hR.hs.p.p.lt
  have ls : sb < w.heap.size := heap_lt hR.hs.b
  have HVB : Hid (∀ x, Own n kd vb x → x < w.heap.size) := hR.hs.lt
  clear hR
  go_enter Tryz.func161, Tryz.ntmps161
  go_wp2_with fail
  generalize hW : ((w.alloc (.cells #[.int .i64 (cg.1 : Int), .int .i64 cg.2] 149)).alloc (.cells #[.int .i64 0, .int .i64 0] 149)).alloc (.cells #[.int .i64 (cg.1 : Int), .int .i64 cg.2] 149) = w3
  have hz3 : w3.heap.size = w.heap.size + 1 + 1 + 1 := by rw [← hW]; simp
  have KG3 : Hid (w.grownBy w3 none) := by rw [← hW]; exact grown_alloc (grown_alloc (World.grownBy_alloc _ _ _) _) _
  have x3 : w3.heap[w.heap.size + 1]? = some (.cells #[.int .i64 0, .int .i64 0] 149 (0, 0)) := by
    rw [← hW, Below.heap_alloc _ _ _ (by simp)]
    have := heap_alloc_new (w.alloc (.cells #[.int .i64 (cg.1 : Int), .int .i64 cg.2] 149)) (.cells #[.int .i64 0, .int .i64 0] 149)
    simpa using this
  have y3 : w3.heap[w.heap.size + 1 + 1]? = some (.cells #[.int .i64 (cg.1 : Int), .int .i64 cg.2] 149 (0, 0)) := by
    rw [← hW]
    have := heap_alloc_new ((w.alloc (.cells #[.int .i64 (cg.1 : Int), .int .i64 cg.2] 149)).alloc (.cells #[.int .i64 0, .int .i64 0] 149)) (.cells #[.int .i64 (cg.1 : Int), .int .i64 cg.2] 149)
    simpa using this
  have HF3 : Hid (Full w3 (w.heap.size + 1 + 1) 149 ([cg].length * 2) ([cg].length * 2) (regP (fun i => [cg].getD i (0, 0)))) := by
    refine ⟨_, y3, rfl, fun j hj => ?_⟩
    have : j = 0 ∨ j = 1 := by have : j < 2 := hj; omega
    rcases this with rfl | rfl <;> rfl
  have HX3 := hid x3
  have KR3 := hid (KR.out.kept KG3.out)
  clear hW x3 y3
  have HZ3 := hid hz3
  clear hz3
  have hLL : (.agg #[.int .u8 2, .int .i64 (f : Int), .slice (some ⟨w.heap.size + 1 + 1, 0, none⟩) 1 1] : Value) = .agg #[kdV true (f + 1), fnV (f + 1), .slice (some ⟨w.heap.size + 1 + 1, 0, none⟩) [cg].length [cg].length] := rfl
  rw [hLL]
  refine (lay_any Q eb sb pb n nr (w.heap.size + 1 + 1) (f + 1) [cg] kd vb s w3 KR3.out HF3.out (by show 1 ≤ 8; decide) (fun _ => rfl) (fun h => by have := HVB.out _ h; omega)).mono ?_
  intro e w4 h4
  have lf3 := HF3.out.lt
  have hO4 := h4.1
  obtain ⟨x, o, he, hL4⟩ : ∃ (x : Int) (o : Bool), e = .returned (.tuple #[.agg #[.int .i64 x, .int .i64 0], .bool o]) ∧ ∀ y : Value, Laid w (w4.setCell ⟨w.heap.size + 1, 0, none⟩ y |>.setCell ⟨w.heap.size + 1, 1, none⟩ (.int .i64 0)) sb pb eb n nr (f + 1) [cg] kd vb s (.tuple #[.agg #[.int .i64 x, .int .i64 0], .bool o]) := by
    have key : ∀ (kd1 : B.Kd) (vb1 : Vs) (M : Nat → List B.V) (y : Value), Str w4 sb pb eb n kd1 vb1 M → (∀ x, Own n kd1 vb1 x → Own n kd vb x ∨ x = w.heap.size + 1 + 1) → Str (w4.setCell ⟨w.heap.size + 1, 0, none⟩ y |>.setCell ⟨w.heap.size + 1, 1, none⟩ (.int .i64 0)) sb pb eb n kd1 vb1 M := fun kd1 vb1 M y hS hG =>
      hS.block ((Below.heap_setCell _ _ _ _ (by show sb ≠ w.heap.size + 1; omega)).trans (Below.heap_setCell _ _ _ _ (by show sb ≠ w.heap.size + 1; omega))) ((Below.heap_setCell _ _ _ _ (by show pb ≠ w.heap.size + 1; omega)).trans (Below.heap_setCell _ _ _ _ (by show pb ≠ w.heap.size + 1; omega))) (fun k hk => by
        have hne : k ≠ w.heap.size + 1 := by
          rcases hG k hk with h | h
          · have := HVB.out k h; omega
          · omega
        exact (Below.heap_setCell _ _ _ _ hne).trans (Below.heap_setCell _ _ _ _ hne))
    rcases h4.2 with ⟨k, kd1, h1, h2, h3, h3', rfl, h5, h6⟩ | ⟨rfl, h5, kd1, h6, h7, h8⟩
    · exact ⟨_, _, rfl, fun y => Or.inl ⟨k, w.heap.size + 1 + 1, kd1, h1, h2, h3, h3', rfl, key _ _ _ y h5 h6, fun x hx => (h6 x hx).imp id (fun h => by omega)⟩⟩
    · exact ⟨_, _, rfl, fun y => Or.inr ⟨rfl, h5, kd1, key _ _ _ y h6 (fun x hx => Or.inl (h8 x hx)), h7, fun x hx => Or.inl (h8 x hx)⟩⟩
  subst he
  have hx := hO4.block HX3.out (by
    rintro (h | h | h)
    · omega
    · omega
    · have := HVB.out _ h; omega)
  have r0 : w4.cell? ⟨w.heap.size + 1, 0, none⟩ = some (.int .i64 0) := by simp [World.cell?, hx]
  have r1 : w4.cell? ⟨w.heap.size + 1, 1, none⟩ = some (.int .i64 0) := by simp [World.cell?, hx]
  have t0 : w4.frozen? ⟨w.heap.size + 1, 0, none⟩ = false := by simp [World.frozen?, hx]
  have t1 : w4.frozen? ⟨w.heap.size + 1, 1, none⟩ = false := by simp [World.frozen?, hx]
  have lb1 := heap_lt hx
  have KO4 := hid ((only_none (S := Sbk sb pb n kd vb) KG3.out).trans hO4 (fun _ h _ => h))
  have HL4 := hid hL4
  clear h4 hO4 hL4 hx
  go_wp2_with fail
  refine bodyPost_ret (v := .tuple #[.agg #[.int .i64 x, .int .i64 0], .bool o]) (by simp [results, Tryz.results161, go_sem, r0, r1]) rfl ?_
  refine ⟨_, rfl, only_setCell (only_setCell KO4.out (Or.inr (by simp)) _) (Or.inr (by simp)) _, ?_⟩
  exact HL4.out _
set_option maxRecDepth 100000 in
set_option maxHeartbeats 2000000 in
theorem newFunction_any (Q : Nat → Prop) (op a b c fb tb eb sb pb n nr : Nat) (cg : B.V) (kd : B.Kd) (vb : Vs) (s : B.St) (w : World) (hR : Rts w Q eb sb pb n nr kd vb s) (hb8 : b < 256) (hc : ∀ w1, w.grownBy w1 none → Calls Tryz.prog 94 #[stepV op a b c fb tb eb] w1 fun e w' => e = .returned (vA cg) ∧ w1.grownBy w' none) (h26 : w.cell? ⟨eb, 27, none⟩ = some (P0 sb)) (he : ¬ Sbk sb pb n kd vb eb) :
    Calls Tryz.prog 103 #[stepV op a b c fb tb eb] w fun e w' => ∃ v, e = .returned v ∧ Only (Sbk sb pb n kd vb) w w' ∧ Laid w w' sb pb eb n nr (b + 1) [cg] kd vb s v := by
  have KR := hid hR
  have HC := hid hc
  have le := cell_lt h26
  have lp : pb < w.heap.size := hR.hs.p.p.lt
  have ls : sb < w.heap.size := heap_lt hR.hs.b
  have lvb : Hid (∀ x, Own n kd vb x → x < w.heap.size) := hR.hs.lt
  have HSB : Hid (∀ x, w.heap.size ≤ x → ¬ Sbk sb pb n kd vb x) := fun x hx h => by
    rcases h with h | h | h
    · omega
    · omega
    · have := lvb.out x h; omega
  clear hR hc
  go_enter Tryz.func103, Tryz.ntmps103
  go_wp2_with fail
  generalize hW : (w.alloc (.cells #[.int .u8 (op : Int), .int .u8 (a : Int), .int .u8 (b : Int), .int .u8 (c : Int), P0 fb, P0 tb, P0 eb] 186)).alloc (.cells #[.int .i64 0, .int .i64 0] 149) = w1
  have KG1 : Hid (w.grownBy w1 none) := by rw [← hW]; exact grown_alloc (World.grownBy_alloc _ _ _) _
  have hx : w1.heap[w.heap.size]? = some (stpB op a b c fb tb eb) := by rw [← hW, Below.heap_alloc _ _ _ (by simp)]; exact heap_alloc_new w _
  have hr : w1.heap[w.heap.size + 1]? = some (.cells #[.int .i64 0, .int .i64 0] 149 (0, 0)) := by
    rw [← hW]
    have := heap_alloc_new (w.alloc (.cells #[.int .u8 (op : Int), .int .u8 (a : Int), .int .u8 (b : Int), .int .u8 (c : Int), P0 fb, P0 tb, P0 eb] 186)) (.cells #[.int .i64 0, .int .i64 0] 149)
    simpa using this
  clear hW
  have HX := hid hx
  have HR := hid hr
  have lx := heap_lt hx
  have lr := heap_lt hr
  have le1 : eb < w1.heap.size := by have := KG1.out.size; omega
  clear hx hr
  have HSK : Hid (∀ w' : World, Only (fun k => Sbk sb pb n kd vb k ∨ k = w.heap.size + 1) w1 w' → w'.cell? ⟨w.heap.size, 0, none⟩ = some (.int .u8 (op : Int)) ∧ w'.cell? ⟨w.heap.size, 1, none⟩ = some (.int .u8 (a : Int)) ∧ w'.cell? ⟨w.heap.size, 2, none⟩ = some (.int .u8 (b : Int)) ∧ w'.cell? ⟨w.heap.size, 3, none⟩ = some (.int .u8 (c : Int)) ∧ w'.cell? ⟨w.heap.size, 4, none⟩ = some (P0 fb) ∧ w'.cell? ⟨w.heap.size, 5, none⟩ = some (P0 tb) ∧ w'.cell? ⟨w.heap.size, 6, none⟩ = some (P0 eb) ∧ w'.cell? ⟨eb, 27, none⟩ = some (P0 sb)) := fun w' hO => by
    have hns : ¬ (Sbk sb pb n kd vb w.heap.size ∨ w.heap.size = w.heap.size + 1) := fun h => h.elim (HSB.out _ (Nat.le_refl _)) (fun h => by omega)
    obtain ⟨x0, x1, x2, x3, x4, x5, x6⟩ := s7_of (hO.block HX.out hns)
    exact ⟨x0, x1, x2, x3, x4, x5, x6, (hO.cell (o := 27) le1 (fun h => h.elim he (fun h => by omega))).trans ((grown_cell KG1.out (a := ⟨eb, 27, none⟩) le).1.trans h26)⟩
  have hwb : IntKind.i64.wrap (b : Int) = (b : Int) := by simp [IntKind.wrap, IntKind.bits, IntKind.signed]; omega
  have hwb2 : wrap64 (b : Int) = (b : Int) := IntWalk.wrap64_in (b : Int) ⟨by omega, by omega⟩
  go_region_held3 (fun w' => w'.cell? ⟨w.heap.size, 0, none⟩ = some (.int .u8 (op : Int)) ∧ w'.cell? ⟨w.heap.size, 1, none⟩ = some (.int .u8 (a : Int)) ∧ w'.cell? ⟨w.heap.size, 2, none⟩ = some (.int .u8 (b : Int)) ∧ w'.cell? ⟨w.heap.size, 3, none⟩ = some (.int .u8 (c : Int)) ∧ w'.cell? ⟨w.heap.size, 4, none⟩ = some (P0 fb) ∧ w'.cell? ⟨w.heap.size, 5, none⟩ = some (P0 tb) ∧ w'.cell? ⟨w.heap.size, 6, none⟩ = some (P0 eb) ∧ w'.cell? ⟨eb, 27, none⟩ = some (P0 sb)) (first | exact HSK.out _ (only_refl _ _) | exact HSK.out _ (only_none KG2.out) | exact HSK.out _ KO4.out | exact HSK5.out) (first | (go_at_call 94; refine (HC.out w1.drew (grown_drew KG1.out)).mono ?_; rintro e w2 ⟨rfl, hg2⟩; have KG2 : Hid (w1.grownBy w2 none) := ⟨hg2.os, hg2.tape, hg2.output, hg2.size, hg2.block⟩; clear hg2) | (go_at_call 161; refine (newFunc_any Q eb sb pb n nr b cg kd vb s w2 (KR.out.kept (grown_trans KG1.out KG2.out))).mono ?_; rintro e w4 ⟨v, rfl, hO4', hL4⟩; obtain ⟨x, ob, rfl⟩ := hL4.form; have hO4 : Only (Sbk sb pb n kd vb) w1 w4 := (only_none KG2.out).trans hO4' (fun _ h _ => h); have KO4 : Hid (Only (fun k => Sbk sb pb n kd vb k ∨ k = w.heap.size + 1) w1 w4) := hO4.mono (fun _ h _ => Or.inl h); have KO4' := hid hO4; have HL4 : Hid (Laid w1 w4 sb pb eb n nr (b + 1) [cg] kd vb s (.tuple #[.agg #[.int .i64 x, .int .i64 0], .bool ob])) := hL4.pre KG2.out.size; have hr4 := hO4.block (k := w.heap.size + 1) HR.out (HSB.out _ (Nat.le_succ _)); have r0 : w4.cell? ⟨w.heap.size + 1, 0, none⟩ = some (.int .i64 0) := (by simp [World.cell?, hr4]); have r1 : w4.cell? ⟨w.heap.size + 1, 1, none⟩ = some (.int .i64 0) := (by simp [World.cell?, hr4]); have r2 : w4.frozen? ⟨w.heap.size + 1, 0, none⟩ = false := (by simp [World.frozen?, hr4]); have r3 : w4.frozen? ⟨w.heap.size + 1, 1, none⟩ = false := (by simp [World.frozen?, hr4]); have lr4 := heap_lt hr4; have HSK5 := hid (HSK.out ((w4.setCell ⟨w.heap.size + 1, 0, none⟩ (.int .i64 x)).setCell ⟨w.heap.size + 1, 1, none⟩ (.int .i64 0)) (only_setCell (only_setCell KO4.out (Or.inl (Or.inr rfl)) _) (Or.inl (Or.inr rfl)) _)); clear hr4 hO4 hL4 hO4'))
  all_goals
    go_wp2_with fail
    refine bodyPost_ret (v := .tuple #[.agg #[.int .i64 x, .int .i64 0], .bool ob]) (by simp [results, Tryz.results103, go_sem, r0, r1]) rfl ?_
    refine ⟨_, rfl, only_setCell (only_setCell ((only_none KG1.out).trans KO4'.out (fun _ h _ => h)) (Or.inr (by simp)) _) (Or.inr (by simp)) _, ?_⟩
    have hne : ∀ (kd1 : B.Kd) (vb1 : Vs) (M : Nat → List B.V), Str w4 sb pb eb n kd1 vb1 M → Grew n kd vb kd1 vb1 w1.heap.size → ∀ x, Own n kd1 vb1 x → x ≠ w.heap.size + 1 := fun kd1 vb1 M hS hG x hx => by
      have := heap_lt HR.out
      rcases hG x hx with h | h
      · have := lvb.out x h; omega
      · omega
    have key : ∀ (kd1 : B.Kd) (vb1 : Vs) (M : Nat → List B.V) (y z : Value), Str w4 sb pb eb n kd1 vb1 M → Grew n kd vb kd1 vb1 w1.heap.size → Str ((w4.setCell ⟨w.heap.size + 1, 0, none⟩ y).setCell ⟨w.heap.size + 1, 1, none⟩ z) sb pb eb n kd1 vb1 M := fun kd1 vb1 M y z hS hG =>
      hS.block ((Below.heap_setCell _ _ _ _ (by show sb ≠ w.heap.size + 1; omega)).trans (Below.heap_setCell _ _ _ _ (by show sb ≠ w.heap.size + 1; omega))) ((Below.heap_setCell _ _ _ _ (by show pb ≠ w.heap.size + 1; omega)).trans (Below.heap_setCell _ _ _ _ (by show pb ≠ w.heap.size + 1; omega))) (fun k hk => (Below.heap_setCell _ _ _ _ (hne _ _ _ hS hG k hk)).trans (Below.heap_setCell _ _ _ _ (hne _ _ _ hS hG k hk)))
    have hzz1 := KG1.out.size
    rcases HL4.out with ⟨k, vg, kd1, h1, h2, h3, h3', h4, h5, h6⟩ | ⟨h1, h2, kd1, h3, h4, h5⟩
    · exact Or.inl ⟨k, vg, kd1, h1, h2, h3, h3', h4, key _ _ _ _ _ h5 h6, fun x hx => (h6 x hx).imp id (fun h => by omega)⟩
    · exact Or.inr ⟨h1, h2, kd1, key _ _ _ _ _ h3 h5, h4, fun x hx => (h5 x hx).imp id (fun h => by omega)⟩
theorem Rep.esb {p : Prm} {s : Pl} {g : Geo} {w : World} (h : Rep p s g w) : ¬ Sbk p.sb p.pb p.n s.kd (vsOf s g) p.eb := fun hk => by
  have := (h.i 0 0 0 1 0 0 p.eb rfl hk).1
  omega
theorem rtsR {p : Prm} {s : Pl} {g : Geo} {w : World} (h : Rep p s g w) (hP : PW p) (hO : Ok p s) : Rts w (MineQ p s g) p.eb p.sb p.pb p.n (rootsL p s).length s.kd (vsOf s g) (B.stL (rootsL p s) s.M) := by
  refine ⟨visR h.q hO.lt (by have := hO.ll; have := hO.lw.d; omega) (by have := hO.kl; have := hP.n2; omega) (fun u hu => by have := (hO.fw u hu trivial).n2; omega) (fun u hu i hi => (hP.rg _ ((hO.fw u hu trivial).f i hi).1).2), fun k hk => ⟨h.q.lt hk, fun e => ?_⟩, h.S, hO.hl, hP.n1, hP.n2⟩
  obtain ⟨x, y, z, hx, hb⟩ := hk
  exact hx (h.i x y z 1 0 0 k hb (Or.inl e)).1
set_option maxRecDepth 100000 in
theorem spendL (eb tb : Nat) (E Tk : Nat → Value) (R : World → Prop) (w : World) (hE : Full w eb 144 44 44 E) (hT : Full w tb 160 7 7 Tk)
    (H : Calls Tryz.prog 173 #[P0 eb, .int .i64 ((5 : Nat) : Int), P0 tb, .int .i64 0] ((w.setCell ⟨tb, 2, none⟩ (.bool false)).setCell ⟨eb, 42, none⟩ (.bool true)) fun e w' => e = .returned (.tuple #[]) ∧ R w') :
    Calls Tryz.prog 156 #[P0 eb, P0 tb] w fun e w' => e = .returned (.tuple #[]) ∧ R w' := by
  have ne : eb ≠ tb := hE.ne hT (by decide)
  have ne' : ¬ tb = eb := fun e => ne e.symm
  obtain ⟨c41, z41⟩ := hE.cells 42 (by omega)
  obtain ⟨c2, z2⟩ := hT.cells 2 (by omega)
  have le := hE.lt
  have lt := hT.lt
  have HH := hid H
  clear hE hT H
  generalize hy41 : E 42 = y41 at c41
  generalize hy2 : Tk 2 = y2 at c2
  clear hy41 hy2
  go_enter Tryz.func156, Tryz.ntmps156
  go_wp2_with fail
  refine HH.out.mono ?_
  rintro e w2 ⟨rfl, h2⟩
  have HR := hid h2
  clear h2
  go_wp2_with fail
  go_end0
  exact ⟨rfl, HR.out⟩
def Pl.setSp (s : Pl) : Pl := { s with sp := true }
theorem spendR {p : Prm} {s : Pl} {g : Geo} {w : World} {t : Nat} (h : Rep p s g w) (ht : isT s t) (hev : s.ev.length ≤ 100000) :
    Calls Tryz.prog 156 #[P0 p.eb, P0 (g.tb t)] w fun e w' => e = .returned (.tuple #[]) ∧ ∃ r, Tr p s g w (s.spend t) (g.at 9 0 r) w' := by
  have h1 : Tr p s g w (s.setT t (s.T t).stop) g (w.setCell ⟨g.tb t, 2, none⟩ (.bool false)) := by
    refine h.flag ht rfl rfl ?_ (only_setCell (S := fun k => k = g.tb t) (only_refl _ _) (Or.inl rfl) _)
    refine ((h.tk ht).upd 2 _).congr (fun j hj => ?_)
    have hsl : ∀ a, sl (s.setT t (s.T t).stop) g a t = sl s g a t := fun a => by
      unfold sl
      rw [rlen_eq (s := s) (s' := s.setT t (s.T t).stop) rfl rfl rfl rfl rfl (by rw [setT_at]; rfl) rfl]
    have hc : j = 0 ∨ j = 1 ∨ j = 2 ∨ j = 3 ∨ j = 4 ∨ j = 5 ∨ j = 6 := by omega
    rcases hc with rfl | rfl | rfl | rfl | rfl | rfl | rfl
    · rfl
    · rw [upd_off _ _ _ _ (by decide)]; exact (hsl 12).symm
    · rw [upd_at]; show _ = Value.bool _; rw [setT_at]; rfl
    · rw [upd_off _ _ _ _ (by decide)]; show _ = whV p g _; rw [setT_at]; rfl
    · rw [upd_off _ _ _ _ (by decide)]; show _ = lfV g t _; rw [setT_at]; rfl
    · rw [upd_off _ _ _ _ (by decide)]; show _ = Value.int .i64 _; rw [setT_at]; rfl
    · rw [upd_off _ _ _ _ (by decide)]; exact (hsl 5).symm
  have h2 : Tr p s g w (s.setT t (s.T t).stop).setSp g ((w.setCell ⟨g.tb t, 2, none⟩ (.bool false)).setCell ⟨p.eb, 42, none⟩ (.bool true)) := by
    refine h1.trans (h1.r.eng0 (s' := (s.setT t (s.T t).stop).setSp) rfl rfl rfl rfl rfl (fun a b => ⟨rfl, rfl⟩) ?_ (only_setCell (S := fun k => k = p.eb) (only_refl _ _) (Or.inl rfl) _))
    refine (h1.r.E.upd 42 _).congr (fun j hj => ?_)
    by_cases e : j = 42
    · subst e; rw [upd_at]; rfl
    · rw [upd_off _ _ _ _ e]
      unfold engE
      by_cases e1 : j < 28
      · rw [if_pos e1, if_pos e1]
      · rw [if_neg e1, if_neg e1, if_neg e, if_neg e]; rfl
  refine spendL p.eb (g.tb t) (engE p s g) (tskE p s g t) (fun w' => ∃ r, Tr p s g w (s.spend t) (g.at 9 0 r) w') w h.E (h.tk ht) ?_
  refine (tellR (t := t) 5 0 h2.r ht hev).mono ?_
  rintro e w' ⟨rfl, r, h3⟩
  exact ⟨rfl, r, h2.trans h3⟩
def MadeS (p : Prm) (s : Pl) (g : Geo) (w : World) (ty : Nat) (l : List B.V) (x : Int) (o : Bool) (w2 : World) : Prop :=
  (o = true ∧ ∃ (c : Nat) (kd1 : B.Kd) (g' : Geo), x = (c : Int) ∧ 1 ≤ c ∧ c ≤ p.n ∧ kd1.on c = false ∧ B.HeldL kd1 p.n (rootsL p s) s.M ∧ KdF (rootsL p s).length p.n (B.stL (rootsL p s) s.M) s.kd kd1 ∧ Tr p s g w (s.newS kd1 c ty l) g' w2 ∧ g'.tb = g.tb ∧ g'.fb = g.fb) ∨
  (o = false ∧ (∀ c, 1 ≤ c → c ≤ p.n → B.RchL (rootsL p s) s.M c) ∧ ∃ (kd1 : B.Kd) (g' : Geo), B.HeldL kd1 p.n (rootsL p s) s.M ∧ Tr p s g w (s.kdS kd1) g' w2 ∧ g'.tb = g.tb)
theorem laidR {p : Prm} {s : Pl} {g : Geo} {w w' : World} {ty : Nat} {l : List B.V} {v : Value} (h : Rep p s g w) (hOn : Only (Sbk p.sb p.pb p.n s.kd (vsOf s g)) w w') (hL : Laid w w' p.sb p.pb p.eb p.n (rootsL p s).length ty l s.kd (vsOf s g) (B.stL (rootsL p s) s.M) v) :
    ∃ (x : Int) (o : Bool), v = .tuple #[.agg #[.int .i64 x, .int .i64 0], .bool o] ∧ MadeS p s g w ty l x o w' := by
  rcases hL with ⟨k, vg, kd1, h1, h2, h3, h3', rfl, h5, h6⟩ | ⟨rfl, h2, kd1, h3, h4, h5⟩
  · refine ⟨_, _, rfl, Or.inl ⟨rfl, k + 1, kd1, _, by omega, by omega, by omega, h2, h3, h3', h.sto (s' := s.newS kd1 (k + 1) ty l) (vb := (vsOf s g).put (k + 1) vg ty) rfl rfl rfl rfl rfl rfl rfl rfl rfl rfl rfl h5 hOn h6, rfl, rfl⟩⟩
  · exact ⟨_, _, rfl, Or.inr ⟨rfl, h2, kd1, _, h4, h.sto (s' := s.kdS kd1) (vb := vsOf s g) rfl rfl rfl rfl rfl rfl rfl rfl rfl rfl rfl h3 hOn h5, rfl⟩⟩
theorem madeEnd {p : Prm} {s : Pl} {g : Geo} {w : World} {t a ty : Nat} {l : List B.V} (op b c : Nat) (hR : Rn p s t) (ha : a < p.rg (topF s t).f) (hev : s.ev.length ≤ 100000) :
    (∀ x w2 w3, MadeS p s g w ty l x true w2 → w2.grownBy w3 none → Calls Tryz.prog 149 #[stpV p s g t (op, a, b, c), .agg #[.int .i64 x, .int .i64 0]] w3 fun e w' => e = .returned (.tuple #[]) ∧ ∃ s' g', madeR p s t a ty l s' ∧ Tr p s g w s' g' w') ∧
    (∀ x w2 w3, MadeS p s g w ty l x false w2 → w2.grownBy w3 none → Calls Tryz.prog 156 #[P0 p.eb, P0 (g.tb t)] w3 fun e w' => e = .returned (.tuple #[]) ∧ ∃ s' g', madeR p s t a ty l s' ∧ Tr p s g w s' g' w') := by
  constructor
  · intro x w2 w3 hS hg
    rcases hS with ⟨_, q, kd1, g', rfl, h1, h2, h3, h4, h5, h6, h7, h8⟩ | ⟨h0, _⟩
    · have h9 := h6.kept hg
      have := setR (s := s.newS kd1 q ty l) (g := g') (t := t) (i := topN s t) (a := a) op b c (g.tb t) p.eb (q, 0) h9.r hR.ht hR.hi ha
      rw [h8] at this
      refine this.mono ?_
      rintro e w' ⟨rfl, h10⟩
      exact ⟨rfl, _, g', Or.inl ⟨q, kd1, h1, h2, h3, h4, h5, rfl⟩, h9.trans h10⟩
    · cases h0
  · intro x w2 w3 hS hg
    rcases hS with ⟨h0, _⟩ | ⟨_, h1, kd1, g', h2, h3, h4⟩
    · cases h0
    · have h9 := h3.kept hg
      have := spendR (s := s.kdS kd1) (g := g') (t := t) h9.r hR.ht hev
      rw [h4] at this
      refine this.mono ?_
      rintro e w' ⟨rfl, r, h10⟩
      exact ⟨rfl, _, _, Or.inr ⟨h1, kd1, h2, rfl⟩, h9.trans h10⟩
theorem i9 {p : Prm} {s : Pl} {g : Geo} {w : World} {t op a b c : Nat} (h : Rep p s g w) (hP : PW p) (hR : Rn p s t) (ha : a < p.rg (topF s t).f) (hb : b ≤ 8) (hev : s.ev.length ≤ 100000) :
    Calls Tryz.prog 163 #[stpV p s g t (op, a, b, c), P0 (p.ac + 15)] w fun e w' => e = .returned (.int .i64 0) ∧ ∃ s' g', madeR p s t a 0 (List.replicate b (0, 0)) s' ∧ Tr p s g w s' g' w' := by
  have h1 := hP.box h.fix (j := 15) (by omega) rfl
  refine doesMakes op a b c _ _ _ (p.ac + 14) (p.ac + 15) (fun w' => ∃ s' g', madeR p s t a 0 (List.replicate b (0, 0)) s' ∧ Tr p s g w s' g' w') w h1.1 (fun w1 hg1 => ?_)
  have hk1 := h.kept hg1
  have h0 := hP.box hk1.fix (j := 14) (by omega) rfl
  obtain ⟨E1, E2⟩ := madeEnd (w := w1) (g := g) (ty := 0) (l := List.replicate b (0, 0)) op b c hR ha hev
  have key := makesL100 op a b c (g.fb t (topN s t)) (g.tb t) p.eb (p.ac + 14) (MadeS p s g w1 0 (List.replicate b (0, 0))) (fun w' => ∃ s' g', madeR p s t a 0 (List.replicate b (0, 0)) s' ∧ Tr p s g w1 s' g' w') w1 h0.1 (fun w2 hg2 hb2 => ?_) E1 E2
  · refine key.mono ?_
    rintro e w' ⟨rfl, s', g', k1, k2⟩
    exact ⟨rfl, s', g', k1, k2.ahead hg1⟩
  · have hk2 := hk1.kept hg2
    refine (newCell_any (MineQ p s g) op a b c _ _ p.eb p.sb p.pb p.n (rootsL p s).length s.kd (vsOf s g) (B.stL (rootsL p s) s.M) w2 (rtsR hk2 hP hR.ok) hb (hk2.e27 hP) hk2.esb).mono ?_
    rintro e w3 ⟨v, rfl, hOn, hL⟩
    obtain ⟨x, o, rfl, hS⟩ := laidR hk2 hOn hL
    refine ⟨x, o, rfl, ?_, hOn.block hb2 (fun hm => ?_)⟩
    · rcases hS with ⟨e0, q, kd1, g', e1, h1, h2, h3, h4, h5, h6, h7⟩ | ⟨e0, h1, kd1, g', h2, h3, h4⟩
      · exact Or.inl ⟨e0, q, kd1, g', e1, h1, h2, h3, h4, h5, h6.ahead hg2, h7⟩
      · exact Or.inr ⟨e0, h1, kd1, g', h2, h3.ahead hg2, h4⟩
    · have := hk1.lt ⟨1, 0, 0, hm⟩
      omega
theorem i12 {p : Prm} {s : Pl} {g : Geo} {w : World} {t op a b c : Nat} (h : Rep p s g w) (hP : PW p) (hR : Rn p s t) (ha : a < p.rg (topF s t).f) (hb : b < 256) (hc : c < p.rg (topF s t).f) (hev : s.ev.length ≤ 100000) :
    Calls Tryz.prog 163 #[stpV p s g t (op, a, b, c), P0 (p.ac + 17)] w fun e w' => e = .returned (.int .i64 0) ∧ ∃ s' g', madeR p s t a (b + 1) [(topF s t).R c] s' ∧ Tr p s g w s' g' w' := by
  have h1 := hP.box h.fix (j := 17) (by omega) rfl
  refine doesMakes op a b c _ _ _ (p.ac + 16) (p.ac + 17) (fun w' => ∃ s' g', madeR p s t a (b + 1) [(topF s t).R c] s' ∧ Tr p s g w s' g' w') w h1.1 (fun w1 hg1 => ?_)
  have hk1 := h.kept hg1
  have h0 := hP.box hk1.fix (j := 16) (by omega) rfl
  obtain ⟨E1, E2⟩ := madeEnd (w := w1) (g := g) (ty := b + 1) (l := [(topF s t).R c]) op b c hR ha hev
  have key := makesL103 op a b c (g.fb t (topN s t)) (g.tb t) p.eb (p.ac + 16) (MadeS p s g w1 (b + 1) [(topF s t).R c]) (fun w' => ∃ s' g', madeR p s t a (b + 1) [(topF s t).R c] s' ∧ Tr p s g w1 s' g' w') w1 h0.1 (fun w2 hg2 hb2 => ?_) E1 E2
  · refine key.mono ?_
    rintro e w' ⟨rfl, s', g', k1, k2⟩
    exact ⟨rfl, s', g', k1, k2.ahead hg1⟩
  · have hk2 := hk1.kept hg2
    refine (newFunction_any (MineQ p s g) op a b c _ _ p.eb p.sb p.pb p.n (rootsL p s).length ((topF s t).R c) s.kd (vsOf s g) (B.stL (rootsL p s) s.M) w2 (rtsR hk2 hP hR.ok) hb (In.c hk2 hR.inn op a b c _ _ hc) (hk2.e27 hP) hk2.esb).mono ?_
    rintro e w3 ⟨v, rfl, hOn, hL⟩
    obtain ⟨x, o, rfl, hS⟩ := laidR hk2 hOn hL
    refine ⟨x, o, rfl, ?_, hOn.block hb2 (fun hm => ?_)⟩
    · rcases hS with ⟨e0, q, kd1, g', e1, h1, h2, h3, h4, h5, h6, h7⟩ | ⟨e0, h1, kd1, g', h2, h3, h4⟩
      · exact Or.inl ⟨e0, q, kd1, g', e1, h1, h2, h3, h4, h5, h6.ahead hg2, h7⟩
      · exact Or.inr ⟨e0, h1, kd1, g', h2, h3.ahead hg2, h4⟩
    · have := hk1.lt ⟨1, 0, 0, hm⟩
      omega
theorem i10 {p : Prm} {s : Pl} {g : Geo} {w : World} {t op a b c : Nat} (h : Rep p s g w) (hP : PW p) (hR : Rn p s t) (ha : a < p.rg (topF s t).f) (hb : b < p.rg (topF s t).f) (hc : c < p.rg (topF s t).f) :
    Calls Tryz.prog 101 #[stpV p s g t (op, a, b, c)] w fun e w' => ∃ (why : Int) (s' : Pl), e = .returned (.int .i64 why) ∧ instR p s t (10, a, b, c) why s' ∧ ∃ g', Tr p s g w s' g' w' := by
  refine (act10_any op a b c _ _ p.eb _ _ _ _ _ p.sb p.pb p.n _ s.kd (vsOf s g) _ s.M w (In.fr h hR.inn) h.S (fun i hi => hR.ok.vok (hR.got hi)) hP.n2 ha hb hc (h.e27 hP) h.E.lt (h.E.ne (h.rg hR.ht hR.hi) (by decide))).mono ?_
  rintro e w' (⟨k0, rfl, k1, k2⟩ | ⟨k0, rfl, k1⟩)
  · exact ⟨0, _, rfl, Or.inl ⟨k0, rfl, rfl⟩, g, In.set h hR.inn k1 k2⟩
  · exact ⟨_, s, rfl, Or.inr ⟨k0, rfl, rfl⟩, g, (Tr.refl h).kept k1⟩
theorem i11 {p : Prm} {s : Pl} {g : Geo} {w : World} {t op a b c : Nat} (h : Rep p s g w) (hP : PW p) (hR : Rn p s t) (ha : a < p.rg (topF s t).f) (hb : b < p.rg (topF s t).f) (hc : c < p.rg (topF s t).f) :
    Calls Tryz.prog 102 #[stpV p s g t (op, a, b, c)] w fun e w' => ∃ (why : Int) (s' : Pl), e = .returned (.int .i64 why) ∧ instR p s t (11, a, b, c) why s' ∧ ∃ g', Tr p s g w s' g' w' := by
  refine (act11_any op a b c _ _ p.eb _ _ _ _ _ p.sb p.pb p.n (rootsL p s).length _ s.kd (vsOf s g) (B.stL (rootsL p s) s.M) _ w (In.fr h hR.inn) h.S hR.ok.hl (fun i hi => hR.ok.vok (hR.got hi)) (fun i hi h0 => B.Got.rch (hR.got hi) h0) hP.n2 ha hb hc (h.e27 hP) h.E.lt (fun hk => h.esb (Or.inr (Or.inr hk)))).mono ?_
  rintro e w' (⟨k0, rfl, vb', k1, k2, k3, k4⟩ | ⟨k0, rfl, k1⟩)
  · exact ⟨0, s.putS ((topF s t).R a).1 ((topF s t).R b).2.toNat ((topF s t).R c), rfl, Or.inl ⟨k0, rfl, rfl⟩, _, h.sto (s' := s.putS ((topF s t).R a).1 ((topF s t).R b).2.toNat ((topF s t).R c)) (vb := vb') rfl rfl rfl rfl rfl rfl rfl rfl rfl rfl (by rw [k4]; rfl) k1 (k2.mono (fun k hk _ => Or.inr (Or.inr hk))) k3⟩
  · exact ⟨_, s, rfl, Or.inr ⟨k0, rfl, rfl⟩, g, (Tr.refl h).kept k1⟩
theorem workR {p : Prm} {s : Pl} {g : Geo} {w : World} (h : Rep p s g w) (hP : PW p) (hO : Ok p s) (hu : p.wk ≤ 50) :
    Calls Tryz.prog 69 #[P0 p.sb, .int .i64 p.wk] w fun e w' => e = .returned (.tuple #[]) ∧ ∃ g', Tr p s g w (s.works p) g' w' := by
  refine (work_any (MineQ p s g) p.eb p.sb p.pb p.n (rootsL p s).length p.wk s.kd (vsOf s g) (B.stL (rootsL p s) s.M) w (rtsR h hP hO) hu).mono ?_
  rintro e w' ⟨rfl, vb', k1, k2, k3, k4, k5⟩
  exact ⟨rfl, _, h.sto (s' := s.works p) (vb := vb') rfl rfl rfl rfl rfl rfl rfl rfl rfl rfl (by rw [k5]; rfl) k1 k3 k4⟩
theorem topR {p : Prm} {s : Pl} {g : Geo} {w : World} {t : Nat} (h : Rep p s g w) (hR : Rn p s t) :
    Calls Tryz.prog 164 #[P0 (g.tb t)] w fun e w' => e = .returned (P0 (g.fb t (topN s t))) ∧ w.grownBy w' none := by
  have hl := top_len hR.inn
  have hr := h.row (x := 12) (y := t) (by unfold rowx; omega) (vld_t (by omega) hR.ht)
  have hl12 : rlen s 12 t = topN s t + 1 := hl
  obtain ⟨kb, cap, he⟩ := row_form hr (by rw [hl12]; omega)
  rw [he, hl12] at hr
  have hr2 : w.ownsRow 0 184 1 (.slice (some ⟨kb, 0, none⟩) (topN s t + 1) cap) (topN s t + 1) (((List.range (s.T t).fr.length).map (g.fb t)).map P0) := hr
  have c1 : w.cell? ⟨g.tb t, 1, none⟩ = some (.slice (some ⟨kb, 0, none⟩) (topN s t + 1) cap) := by
    rw [(h.tk hR.ht).cell 1 (by omega)]
    show some (sl s g 12 t) = _
    rw [he, hl12]
  have ck : w.cell? ⟨kb, topN s t, none⟩ = some (P0 (g.fb t (topN s t))) := (own_ge hr2).2.2.2.2.2 (topN s t) _ (by
    rw [List.getElem?_map, List.getElem?_map, List.getElem?_range hR.hi]; rfl)
  exact topL (g.tb t) kb cap (topN s t) (g.fb t (topN s t)) w c1 ck (by have := hR.fw.n2; omega)
theorem atEndR {p : Prm} {s : Pl} {g : Geo} {w : World} {t : Nat} (h : Rep p s g w) (hR : Rn p s t) :
    Calls Tryz.prog 185 #[P0 (g.fb t (topN s t))] w fun e w' => e = .returned (.bool (decide ((topF s t).nx = p.len (topF s t).f))) ∧ w.grownBy w' none :=
  atEnd_any _ _ _ _ _ _ _ w (In.fr h hR.inn).1
theorem tookR {p : Prm} {s : Pl} {g : Geo} {w : World} {t : Nat} (h : Rep p s g w) (hP : PW p) (hR : Rn p s t) (hn : (topF s t).nx ≠ p.len (topF s t).f) {op a b c : Nat} (hi : p.ins (topF s t).f (topF s t).nx = (op, a, b, c)) :
    Calls Tryz.prog 186 #[P0 (g.fb t (topN s t))] w fun e w' => e = .returned (insV op a b c) ∧ Tr p s g w (s.took t) g w' := by
  have hF := In.fr h hR.inn
  have hff := hR.ff
  obtain ⟨l1, l2⟩ := hP.cd w h.fix (topF s t).f hff.1
  obtain ⟨k0, k1, k2, k3⟩ := l2 (topF s t).nx (by omega)
  rw [hi] at k0 k1 k2 k3
  refine (take_any _ _ _ _ _ _ op a b c _ w hF.1 (by omega) (hP.le _ hff.1) l1 k0 k1 k2 k3).mono ?_
  rintro e w' ⟨rfl, hg, hf⟩
  exact ⟨rfl, In.next h hR.inn hg ⟨hf, hF.2.1.block (hg.block _ hF.2.1.lt (by intro e; injection e with e; exact hF.2.2 e.symm)), hF.2.2⟩⟩
theorem giveBackQ {p : Prm} {s : Pl} {g : Geo} {w : World} {t : Nat} (v : B.V) (h : Rep p s g w) (hP : PW p) (hR : Rn p s t) (hev : s.ev.length ≤ 100000) :
    Calls Tryz.prog 107 #[P0 (g.tb t), vA v] w fun e w' => e = .returned (.tuple #[]) ∧ ∃ g', Tr p s g w (s.back t v) g' w' := by
  have hn := hR.fw.n2
  have hk := hR.ok.kl
  have hp := hP.n2
  refine giveBackR v h hR.ok.lw hR.ok.ww hR.ht hR.lf hR.wh hR.fw.n1 (by omega) hR.lv hR.ok.nd hR.ok.lt hR.ok.ol (by omega) hev (fun e => ?_)
  have := hR.fw.b (topN s t - 1) (by have := hR.hi; omega)
  rw [show topN s t - 1 + 1 = topN s t by omega] at this
  exact this
theorem failQ {p : Prm} {s : Pl} {g : Geo} {w : World} {t why : Nat} (hw : why ≤ 8) (h : Rep p s g w) (hP : PW p) (hR : Rn p s t) (hev : s.ev.length ≤ 100000) :
    Calls Tryz.prog 187 #[P0 p.eb, P0 (g.tb t), .int .i64 why] w fun e w' => e = .returned (.tuple #[]) ∧ ∃ g', Tr p s g w (s.leave t (0, -(why : Int)) 3 why) g' w' := by
  have hk := hR.ok.kl
  have hp := hP.n2
  exact failR hw h hR.ok.lw hR.ok.ww hR.ht hR.lv hR.ok.nd hR.ok.lt hR.ok.ol (by omega) hev
def OneI (p : Prm) (s : Pl) (g : Geo) (w : World) (t n : Nat) (wr : World) : Prop :=
  ∃ s1 g1 k, Tr p s g w s1 g1 wr ∧ Rn p s1 t ∧ s1.ev = s.ev ∧ (s1.T t).fr.length ≤ k ∧ s1.ends p t k = s.ends p t 21 ∧ (s1.T t).fr.length = n
theorem ends_here {p : Prm} {s : Pl} {t k : Nat} (hk : 0 < k) (h : (topF s t).nx ≠ p.len (topF s t).f) : s.ends p t k = s := by
  cases k with
  | zero => omega
  | succ k => unfold Pl.ends; rw [if_neg (fun e => h e.2)]
theorem ends_next {p : Prm} {s : Pl} {t k : Nat} (hr : (s.T t).run = true) (h : (topF s t).nx = p.len (topF s t).f) : s.ends p t (k + 1) = (s.back t (0, 0)).ends p t k := by
  show (if (s.T t).run = true ∧ (topF s t).nx = p.len (topF s t).f then Pl.ends p t k (s.back t (0, 0)) else s) = _
  rw [if_pos ⟨hr, h⟩]
theorem ends_stop {p : Prm} {s : Pl} {t : Nat} (k : Nat) (hr : (s.T t).run = false) : s.ends p t k = s := by
  cases k with
  | zero => rfl
  | succ k => unfold Pl.ends; rw [if_neg (fun e => by rw [hr] at e; cases e.1)]
theorem Rep.run {p : Prm} {s : Pl} {g : Geo} {w : World} {t : Nat} (h : Rep p s g w) (ht : isT s t) {b : Bool} (hb : (s.T t).run = b) : w.cell? ⟨g.tb t, 2, none⟩ = some (.bool b) := by
  rw [(h.tk ht).cell 2 (by omega)]
  show some (Value.bool (s.T t).run) = _
  rw [hb]
theorem took_topN (s : Pl) (t : Nat) : topN (s.took t) t = topN s t := by
  unfold topN
  rw [show ((s.took t).T t).fr.length = (s.T t).fr.length from (setF_wh s t (topN s t) t { topF s t with nx := (topF s t).nx + 1 }).2.2.2.2]
set_option maxRecDepth 100000 in
set_option maxHeartbeats 4000000 in
theorem one163 {p : Prm} {s : Pl} {g : Geo} {w : World} {t op a b c : Nat} {wb : Nat} (h : Rep p s g w) (hP : PW p) (hR : Rn p s t) (hev : s.ev.length ≤ 1000) (hop : op < 23)
    (hi : ((s.ends p t 21).T t).run = true → p.ins (topF (s.ends p t 21) t).f (topF (s.ends p t 21) t).nx = (op, a, b, c) ∧ p.E0 (4 + op) = Fv 163 #[P0 wb])
    (hc : ((s.ends p t 21).T t).run = true → ∀ g1 w1, Rep p ((s.ends p t 21).took t) g1 w1 → Rn p ((s.ends p t 21).took t) t → Calls Tryz.prog 163 #[stpV p ((s.ends p t 21).took t) g1 t (op, a, b, c), P0 wb] w1 fun e w' => ∃ (why : Int) (s3 : Pl), e = .returned (.int .i64 why) ∧ instR p ((s.ends p t 21).took t) t (op, a, b, c) why s3 ∧ ∃ g', Tr p ((s.ends p t 21).took t) g1 w1 s3 g' w') :
    Calls Tryz.prog 134 #[P0 p.eb, P0 (g.tb t)] w fun e w' => e = .returned (.tuple #[]) ∧ ∃ s' g', stepR p t s s' ∧ Tr p s g w s' g' w' := by
  have HC := hid hc
  have HI := hid hi
  have HE : Hid (s.ev.length ≤ 1000) := hev
  have HP := hid hP
  have HTs := hid hR.ht
  have HI0 : Hid (OneI p s g w t (s.T t).fr.length w) := ⟨s, g, 21, Tr.refl h, hR, rfl, Nat.le_trans hR.fw.n2 (by omega), rfl, rfl⟩
  have HEB : Hid (p.eb < w.heap.size) := h.E.lt
  have HTB : Hid (g.tb t < w.heap.size) := (h.tk hR.ht).lt
  clear hc hi hev hP hR h
  go_enter Tryz.func134, Tryz.ntmps134
  go_wp2_with fail
  go_loopg [] ((s.T t).fr.length) (fun n wr => Hid (OneI p s g w t n wr))
  case atStart => exact HI0
  case round =>
    obtain ⟨s1, g1, k, hT, hR1, he1, hk1, hS, hln⟩ := hrel.out
    have htb := hT.t t HTs.out
    have h164 := topR hT.r hR1
    rw [htb] at h164
    have H164 := hid h164
    have KT := hid hT
    have KR := hid hR1
    have KK := hid (And.intro he1 (And.intro hk1 (And.intro hS hln)))
    have HTb : Hid (g1.tb t = g.tb t) := htb
    clear h164 hT hR1 he1 hk1 hS hln htb HI0
    go_wp2_with fail
    refine H164.out.mono ?_
    rintro e w1 ⟨rfl, hg1⟩
    have KG1 := hid hg1
    clear hg1 H164
    go_wp2_with fail
    refine (atEndR (KT.out.r.kept KG1.out) KR.out).mono ?_
    rintro e w2 ⟨rfl, hg2⟩
    have KG2 := hid (grown_trans KG1.out hg2)
    clear hg2
    by_cases hd : (topF s1 t).nx = p.len (topF s1 t).f
    · have hdd : decide ((topF s1 t).nx = p.len (topF s1 t).f) = true := by simpa using hd
      have HD := hid hd
      simp only [hdd]
      clear hd hdd
      go_wp2_with fail
      refine (number_any 0 _).mono ?_
      rintro e w3 ⟨rfl, rfl⟩
      go_wp2_with fail
      have KG3 := hid (grown_alloc KG2.out (.cells #[.int .i64 0, .int .i64 0] 149))
      have hgb := giveBackQ (0, 0) (KT.out.r.kept KG3.out) HP.out KR.out (by rw [KK.out.1]; have := HE.out; omega)
      rw [HTb.out] at hgb
      refine hgb.mono ?_
      rintro e w4 ⟨rfl, g4, hT4⟩
      have hT5 := (KT.out.kept KG3.out).trans hT4
      have htb4 := hT5.t t HTs.out
      have hB := KR.out.ok.back KR.out.lv KR.out.wh (PGot.num (s := s1) 0)
      have hrr := back_run KR.out.ok.lw KR.out.ht (0, 0)
      have hst := back_st s1 t (0, 0)
      have ht4 : isT (s1.back t (0, 0)) t := by
        by_cases e0 : topN s1 t = 0
        · exact (isT_nt (hst.1 e0).2.2).2 KR.out.ht
        · exact (isT_nt (hst.2 e0).2.2.1).2 KR.out.ht
      have lt4 : g.tb t < w4.heap.size := by
        have := (hT5.r.tk ht4).lt
        rw [htb4] at this
        exact this
      by_cases e0 : topN s1 t = 0
      · have c2 := hT5.r.run ht4 (hrr.1 e0)
        rw [htb4] at c2
        have HT5 := hid hT5
        have hEn : s.ends p t 21 = s1.back t (0, 0) := by
          obtain ⟨_, q2, q3, _⟩ := KK.out
          obtain ⟨k', rfl⟩ : ∃ k', k = k' + 1 := ⟨k - 1, by have := KR.out.hi; omega⟩
          rw [ends_next KR.out.run HD.out, ends_stop k' (hrr.1 e0)] at q3
          exact q3.symm
        have HEn := hid (And.intro hEn (hrr.1 e0))
        clear hgb hT4 hT5 htb4 hB hrr hst ht4 e0 hEn
        go_wp2_with fail
        refine bodyPost_ret (results_none rfl _ _ _) rfl ?_
        refine ⟨rfl, s1.back t (0, 0), g4, ?_, ?_⟩
        · unfold stepR
          rw [HEn.out.1, if_neg (by rw [HEn.out.2]; decide)]
        · first | exact HT5.out | exact HT5.out.kept (grown_drew (grown_refl _ _)) | exact HT5.out.kept (grown_drewN (grown_refl _ _) _)
      · obtain ⟨r1, r2⟩ := hrr.2 e0
        obtain ⟨b1, b2, b3, b4⟩ := hst.2 e0
        have c2 := hT5.r.run ht4 (r1.trans KR.out.run)
        rw [htb4] at c2
        have hIn : ∀ w5, w4.grownBy w5 none → OneI p s g w t ((s1.T t).fr.length - 1) w5 := fun w5 hg5 => by
          obtain ⟨q1, q2, q3, q4⟩ := KK.out
          obtain ⟨k', rfl⟩ : ∃ k', k = k' + 1 := ⟨k - 1, by have := KR.out.hi; omega⟩
          rw [ends_next KR.out.run HD.out] at q3
          exact ⟨s1.back t (0, 0), g4, k', hT5.kept hg5, ⟨hB, by rw [b1]; exact KR.out.lv, r1.trans KR.out.run⟩, b2.trans q1, by rw [r2]; omega, q3, r2⟩
        have HIn := hid hIn
        clear hgb hT4 hT5 htb4 hB hrr hst ht4 e0 r1 r2 b1 b2 b3 b4 hIn
        go_wp2_with fail
        go_roundg ((s1.T t).fr.length - 1)
        case measure =>
          have q4 := KK.out.2.2.2
          have q5 := KR.out.hi
          omega
        case rel => first | exact HIn.out _ (grown_refl _ _) | exact HIn.out _ (grown_drew (grown_refl _ _)) | exact HIn.out _ (grown_drewN (grown_refl _ _) _)
    · have hdd : decide ((topF s1 t).nx = p.len (topF s1 t).f) = false := by simpa using hd
      have hEn : s.ends p t 21 = s1 := by
        obtain ⟨_, q2, q3, _⟩ := KK.out
        rw [← q3]
        exact ends_here (by have := KR.out.hi; omega) hd
      rw [hEn] at HC HI
      have HC2 := hid (HC.out KR.out.run)
      obtain ⟨hi1, hi2⟩ := HI.out KR.out.run
      have HI1 := hid hi1
      have HI2 := hid hi2
      have HD := hid hd
      have HEn := hid hEn
      have h164 := topR (KT.out.r.kept KG2.out) KR.out
      rw [HTb.out] at h164
      have H164 := hid h164
      simp only [hdd]
      clear hd hdd hEn HC HI hi1 hi2 h164
      go_wp2_with fail
      refine H164.out.mono ?_
      rintro e w3 ⟨rfl, hg3⟩
      have KG3 := hid (grown_trans KG2.out hg3)
      clear hg3 H164
      go_wp2_with fail
      refine (tookR (KT.out.r.kept KG3.out) HP.out KR.out HD.out HI1.out).mono ?_
      rintro e w4 ⟨rfl, hT4⟩
      have KT4 := hid ((KT.out.kept KG3.out).trans hT4)
      clear hT4
      have hfbe : g1.fb t (topN (s1.took t) t) = g1.fb t (topN s1 t) := by rw [took_topN]
      generalize hfb : g1.fb t (topN s1 t) = fb at *
      have HFB := hid hfbe
      clear hfbe hfb
      go_wp2_with fail
      have HX := hid (s7_new w4 op a b c fb (g.tb t) p.eb)
      have KG5 := hid (World.grownBy_alloc w4 (.cells #[.int .u8 (op : Int), .int .u8 (a : Int), .int .u8 (b : Int), .int .u8 (c : Int), P0 fb, P0 (g.tb t), P0 p.eb] 186) none)
      have hz5 : (w4.alloc (.cells #[.int .u8 (op : Int), .int .u8 (a : Int), .int .u8 (b : Int), .int .u8 (c : Int), P0 fb, P0 (g.tb t), P0 p.eb] 186)).heap.size = w4.heap.size + 1 := by simp
      generalize hW : w4.alloc (.cells #[.int .u8 (op : Int), .int .u8 (a : Int), .int .u8 (b : Int), .int .u8 (c : Int), P0 fb, P0 (g.tb t), P0 p.eb] 186) = w5 at *
      clear hW
      obtain ⟨x0, x1, x2, x3, x4, x5, x6⟩ := s7_of HX.out
      have lx := heap_lt HX.out
      have KT5 := hid (KT4.out.kept KG5.out)
      have e5 : w5.cell? ⟨p.eb, 4 + op, none⟩ = some (Fv 163 #[P0 wb]) := by
        rw [KT5.out.r.E.cell (4 + op) (by omega)]
        unfold engE
        rw [if_pos (by omega), HI2.out]
      have le5 := KT5.out.r.E.lt
      have hop2 : (op : Int) < 23 := by omega
      have hcall := HC2.out g1 w5.drew (KT5.out.kept (grown_drew (grown_refl _ _))).r (took_ok KR.out HD.out).1
      have hstp : stpV p (s1.took t) g1 t (op, a, b, c) = stepV op a b c fb (g.tb t) p.eb := by
        show stepV op a b c (g1.fb t (topN (s1.took t) t)) (g1.tb t) p.eb = _
        rw [HFB.out, HTb.out]
      rw [hstp] at hcall
      have HCL := hid hcall
      have HP2 := HP
      clear hcall hstp HC2
      go_region_with (go_at_call 163; refine HCL.out.mono ?_; rintro e w6 ⟨why, s3, rfl, hin6, g6, hT6⟩; have HN6 := hid hin6; have HT6 := hid hT6; clear hin6 hT6)
      all_goals
        have KT6 := hid ((KT5.out.kept (grown_drew (grown_refl _ _))).trans HT6.out)
        clear HCL e5 x0 x1 x2 x3 x4 x5 x6 lx le5 HX hz5
        by_cases hwy : why = 0
        · subst hwy
          have HST : Hid (stepR p t s s3) := by
            show stepR p t s s3
            unfold stepR
            rw [HEn.out, if_pos KR.out.run]
            exact ⟨0, s3, by rw [HI1.out]; exact HN6.out, by rw [if_pos rfl]⟩
          go_wp2_with fail
          go_end0
          exact ⟨rfl, s3, g6, HST.out, KT6.out⟩
        · obtain ⟨v1, v2, v3⟩ := inst_why (show ((op, a, b, c) : Ins).1 < 23 from hop) HN6.out
          obtain ⟨n8, hn8⟩ : ∃ n8 : Nat, why = (n8 : Int) := ⟨why.toNat, by omega⟩
          have hs3 := v3 hwy
          subst hs3
          subst hn8
          have HST : Hid (stepR p t s ((s1.took t).leave t (0, -(n8 : Int)) 3 n8)) := by
            show stepR p t s _
            unfold stepR
            rw [HEn.out, if_pos KR.out.run]
            exact ⟨n8, s1.took t, by rw [HI1.out]; exact HN6.out, by rw [if_neg hwy]⟩
          have hfl := failQ (why := n8) (by omega) KT6.out.r HP2.out (took_ok KR.out HD.out).1 (by show s1.ev.length ≤ _; rw [KK.out.1]; have := HE.out; omega)
          rw [show g6.tb t = g.tb t from KT6.out.t t HTs.out] at hfl
          have HFL := hid hfl
          have hwz : ¬ ((n8 : Int) = 0) := hwy
          clear hfl v1 v2 v3 hwy
          go_wp2_with fail
          refine HFL.out.mono ?_
          rintro e w7 ⟨rfl, g7, hT7⟩
          have KT7 := hid (KT6.out.trans hT7)
          clear hT7
          go_wp2_with fail
          go_end0
          exact ⟨rfl, _, g7, HST.out, KT7.out⟩
end Go.Proofs.YtnjiinbhbjpfkaaGreatDoor.F
