/-
  The instruction Cell: a new cell, or the machine is spent.
-/
import Derived.Test.YtnjiinbhbjpfkaaGreatDoorRoomH
import Derived.Test.YtnjiinbhbjpfkaaGreatDoorRoomC
import Derived.Deep.RegionHeld3
import Derived.Test.YtnjiinbhbjpfkaaGreatDoorRoomA
import Derived.Test.YtnjiinbhbjpfkaaGreatDoorRoomE
namespace Go.Proofs.YtnjiinbhbjpfkaaGreatDoor
open Go.RowKit

/-- What a request for a new cell gives. -/
def Laid (w w' : World) (sb pb eb n nr b : Nat) (kd : B.Kd) (vb : Vs) (s : B.St) (v : Value) : Prop :=
  (∃ (k vg : Nat) (kd1 : B.Kd), k < n ∧ kd1.on (k + 1) = false ∧ B.Held kd1 nr n s ∧ KdF nr n s kd kd1 ∧ v = .tuple #[.agg #[.int .i64 ((k : Int) + 1), .int .i64 0], .bool true] ∧ Str w' sb pb eb n (B.laid kd1 (k + 1)) (vb.put (k + 1) vg) (B.lay s.2.2 (k + 1) (List.replicate b (0, 0))) ∧ Grew n kd vb (B.laid kd1 (k + 1)) (vb.put (k + 1) vg) w.heap.size) ∨
  (v = .tuple #[.agg #[.int .i64 0, .int .i64 0], .bool false] ∧ (∀ p, 1 ≤ p → p ≤ n → B.Reach nr s p) ∧ ∃ kd1, Str w' sb pb eb n kd1 vb s.2.2 ∧ B.Held kd1 nr n s ∧ Grew n kd vb kd1 vb w.heap.size)
theorem Laid.pre {w0 w w' : World} {sb pb eb n nr b : Nat} {kd : B.Kd} {vb : Vs} {s : B.St} {v : Value} (hz : w0.heap.size ≤ w.heap.size) (h : Laid w w' sb pb eb n nr b kd vb s v) : Laid w0 w' sb pb eb n nr b kd vb s v := by
  rcases h with ⟨k, vg, kd1, h1, h2, h3, h3', h4, h5, h6⟩ | ⟨h1, h2, kd1, h3, h4, h5⟩
  · exact Or.inl ⟨k, vg, kd1, h1, h2, h3, h3', h4, h5, fun x hx => (h6 x hx).imp id (fun h => Nat.le_trans hz h)⟩
  · exact Or.inr ⟨h1, h2, kd1, h3, h4, fun x hx => (h5 x hx).imp id (fun h => Nat.le_trans hz h)⟩
theorem Laid.form {w w' : World} {sb pb eb n nr b : Nat} {kd : B.Kd} {vb : Vs} {s : B.St} {v : Value} (h : Laid w w' sb pb eb n nr b kd vb s v) : ∃ (x : Int) (o : Bool), v = .tuple #[.agg #[.int .i64 x, .int .i64 0], .bool o] := by
  rcases h with ⟨k, vg, kd1, h1, h2, h3, _, h4, _⟩ | ⟨h, _⟩
  · exact ⟨_, _, h4⟩
  · exact ⟨_, _, h⟩
set_option maxRecDepth 100000 in
set_option maxHeartbeats 1000000 in
theorem newSlots_any (Q : Nat → Prop) (eb sb pb n nr b : Nat) (kd : B.Kd) (vb : Vs) (s : B.St) (w : World) (hR : Rts w Q eb sb pb n nr kd vb s) (hb8 : b ≤ 8) :
    Calls Tryz.prog 157 #[P0 sb, .int .i64 b] w fun e w' => ∃ v, e = .returned v ∧ Only (Sbk sb pb n kd vb) w w' ∧ Laid w w' sb pb eb n nr b kd vb s v := by
  have KR := hid hR
  have lp : pb < w.heap.size := hR.hs.p.p.lt
  have ls : sb < w.heap.size := heap_lt hR.hs.b
  have HVB : Hid (∀ x, Own n kd vb x → x < w.heap.size) := hR.hs.lt
  clear hR
  obtain ⟨i0, hi, hz0, hz1, hz2⟩ := info_parts Tryz.info149
  go_enter Tryz.func157, Tryz.ntmps157
  go_wp2_with (at_make; go_loud (refine wpList_make_full _ rfl _ _ 137 rfl 0 149 i0 _ 2 Tryz.underlying137 hi hz0 hz1 _ _ _ _ b rfl rfl rfl rfl (by rw [hz2]; omega) (by unfold maxLen; omega) (Nat.zero_le _) ?_))
  intro w3 hown hg3
  have hz3 := hg3.size
  simp at hz3
  have hf3 : Full w3 (w.heap.size + 1) 149 (b * 2) (b * 2) (regP (fun _ => (0, 0))) := by
    rcases hown.2 with ⟨h, _⟩ | ⟨g', cap', cur, h1, h2, h3, h4, h5, h6, h7⟩
    · cases h
    · injection h1 with h1 _ hc
      injection h1 with h1
      injection h1 with h1 _ _
      have hg' : g' = w.heap.size + 1 := by simpa using h1.symm
      subst hg' hc
      refine ⟨cur, h3, h6, fun j hj => ?_⟩
      have e1 := congrArg (fun l => l[j]?) h7
      have e2 : (madeCells #[.int .i64 0, .int .i64 0] (b * 2)).toList[j]? = some (.int .i64 0) := by
        simp only [madeCells, Array.getElem?_toList, Array.getElem?_map, Array.getElem?_range]
        rw [if_pos hj]
        have : j % 2 = 0 ∨ j % 2 = 1 := by omega
        rcases this with h | h <;> simp [h]
      simp only [e2, List.getElem?_take] at e1
      rw [if_pos hj] at e1
      have e3 : regP (fun _ => ((0, 0) : B.V)) j = .int .i64 0 := by unfold regP; split <;> rfl
      rw [e3]
      simpa using e1
  have x3 := grown_heap hg3 (show (w.alloc (.cells #[.int .i64 0, .int .i64 0] 149)).heap[w.heap.size]? = _ from heap_alloc_new w _) (by intro e; cases e)
  have KG3 : Hid (w.grownBy w3 none) := grown_trans (World.grownBy_alloc _ _ _) hg3
  have HF3 := hid hf3
  have HX3 := hid x3
  have KR3 := hid (KR.out.kept KG3.out)
  clear hown hg3 hf3 x3
  go_wp2_with fail
  refine (lay_any Q eb sb pb n nr (w.heap.size + 1) b kd vb s w3 KR3.out HF3.out hb8 (fun h => by have := HVB.out _ h; omega)).mono ?_
  intro e w4 h4
  have lf3 := HF3.out.lt
  have hO4 := h4.1
  obtain ⟨x, o, he, hL4⟩ : ∃ (x : Int) (o : Bool), e = .returned (.tuple #[.agg #[.int .i64 x, .int .i64 0], .bool o]) ∧ ∀ y : Value, Laid w (w4.setCell ⟨w.heap.size, 0, none⟩ y |>.setCell ⟨w.heap.size, 1, none⟩ (.int .i64 0)) sb pb eb n nr b kd vb s (.tuple #[.agg #[.int .i64 x, .int .i64 0], .bool o]) := by
    have key : ∀ (kd1 : B.Kd) (vb1 : Vs) (M : Nat → List B.V) (y : Value), Str w4 sb pb eb n kd1 vb1 M → (∀ x, Own n kd1 vb1 x → Own n kd vb x ∨ x = w.heap.size + 1) → Str (w4.setCell ⟨w.heap.size, 0, none⟩ y |>.setCell ⟨w.heap.size, 1, none⟩ (.int .i64 0)) sb pb eb n kd1 vb1 M := fun kd1 vb1 M y hS hG =>
      hS.block ((Below.heap_setCell _ _ _ _ (by show sb ≠ w.heap.size; omega)).trans (Below.heap_setCell _ _ _ _ (by show sb ≠ w.heap.size; omega))) ((Below.heap_setCell _ _ _ _ (by show pb ≠ w.heap.size; omega)).trans (Below.heap_setCell _ _ _ _ (by show pb ≠ w.heap.size; omega))) (fun k hk => by
        have hne : k ≠ w.heap.size := by
          rcases hG k hk with h | h
          · have := HVB.out k h; omega
          · omega
        exact (Below.heap_setCell _ _ _ _ hne).trans (Below.heap_setCell _ _ _ _ hne))
    rcases h4.2 with ⟨k, kd1, h1, h2, h3, h3', rfl, h5, h6⟩ | ⟨rfl, h5, kd1, h6, h7, h8⟩
    · exact ⟨_, _, rfl, fun y => Or.inl ⟨k, w.heap.size + 1, kd1, h1, h2, h3, h3', rfl, key _ _ _ y h5 h6, fun x hx => (h6 x hx).imp id (fun h => by omega)⟩⟩
    · exact ⟨_, _, rfl, fun y => Or.inr ⟨rfl, h5, kd1, key _ _ _ y h6 (fun x hx => Or.inl (h8 x hx)), h7, fun x hx => Or.inl (h8 x hx)⟩⟩
  subst he
  have hx := hO4.block HX3.out (by
    rintro (h | h | h)
    · omega
    · omega
    · have := HVB.out _ h; omega)
  have r0 : w4.cell? ⟨w.heap.size, 0, none⟩ = some (.int .i64 0) := by simp [World.cell?, hx]
  have r1 : w4.cell? ⟨w.heap.size, 1, none⟩ = some (.int .i64 0) := by simp [World.cell?, hx]
  have t0 : w4.frozen? ⟨w.heap.size, 0, none⟩ = false := by simp [World.frozen?, hx]
  have t1 : w4.frozen? ⟨w.heap.size, 1, none⟩ = false := by simp [World.frozen?, hx]
  have lb1 := heap_lt hx
  have KO4 := hid ((only_none (S := Sbk sb pb n kd vb) KG3.out).trans hO4 (fun _ h _ => h))
  have HL4 := hid hL4
  clear h4 hO4 hL4 hx
  go_wp2_with fail
  refine bodyPost_ret (v := .tuple #[.agg #[.int .i64 x, .int .i64 0], .bool o]) (by simp [results, Tryz.results157, go_sem, r0, r1]) rfl ?_
  refine ⟨_, rfl, only_setCell (only_setCell KO4.out (Or.inr (by simp)) _) (Or.inr (by simp)) _, ?_⟩
  exact HL4.out _

set_option maxRecDepth 100000 in
set_option maxHeartbeats 2000000 in
theorem newCell_any (Q : Nat → Prop) (op a b c fb tb eb sb pb n nr : Nat) (kd : B.Kd) (vb : Vs) (s : B.St) (w : World) (hR : Rts w Q eb sb pb n nr kd vb s) (hb8 : b ≤ 8) (h26 : w.cell? ⟨eb, 27, none⟩ = some (P0 sb)) (he : ¬ Sbk sb pb n kd vb eb) :
    Calls Tryz.prog 100 #[stepV op a b c fb tb eb] w fun e w' => ∃ v, e = .returned v ∧ Only (Sbk sb pb n kd vb) w w' ∧ Laid w w' sb pb eb n nr b kd vb s v := by
  have KR := hid hR
  have le := cell_lt h26
  have lp : pb < w.heap.size := hR.hs.p.p.lt
  have ls : sb < w.heap.size := heap_lt hR.hs.b
  have lvb : Hid (∀ x, Own n kd vb x → x < w.heap.size) := hR.hs.lt
  have HSB : Hid (∀ x, w.heap.size ≤ x → ¬ Sbk sb pb n kd vb x) := fun x hx h => by
    rcases h with h | h | h
    · omega
    · omega
    · have := lvb.out x h; omega
  clear hR
  go_enter Tryz.func100, Tryz.ntmps100
  go_wp2_with fail
  generalize hW : (w.alloc (.cells #[.int .u8 (op : Int), .int .u8 (a : Int), .int .u8 (b : Int), .int .u8 (c : Int), P0 fb, P0 tb, P0 eb] 186)).alloc (.cells #[.int .i64 0, .int .i64 0] 149) = w1
  have KG1 : Hid (w.grownBy w1 none) := by rw [← hW]; exact grown_alloc (World.grownBy_alloc _ _ _) _
  have hx : w1.heap[w.heap.size]? = some (stpB op a b c fb tb eb) := by rw [← hW, Below.heap_alloc _ _ _ (by simp)]; exact heap_alloc_new w _
  have hr : w1.heap[w.heap.size + 1]? = some (.cells #[.int .i64 0, .int .i64 0] 149 (0, 0)) := by
    rw [← hW]
    have := heap_alloc_new (w.alloc (.cells #[.int .u8 (op : Int), .int .u8 (a : Int), .int .u8 (b : Int), .int .u8 (c : Int), P0 fb, P0 tb, P0 eb] 186)) (.cells #[.int .i64 0, .int .i64 0] 149)
    simpa using this
  clear hW
  have HX := hid hx
  have HR := hid hr
  have KR1 := hid (KR.out.kept (grown_drew KG1.out))
  obtain ⟨x0, x1, x2, x3, x4, x5, x6⟩ := s7_of hx
  have lx := heap_lt hx
  have lr := heap_lt hr
  obtain ⟨d26, _⟩ := grown_cell KG1.out (a := ⟨eb, 27, none⟩) le
  rw [h26] at d26
  have le1 : eb < w1.heap.size := by have := KG1.out.size; omega
  clear hx hr
  have hzz := KG1.out.size
  have HS : ∀ w' : World, Only (Sbk sb pb n kd vb) w1 w' → w'.cell? ⟨w.heap.size, 6, none⟩ = some (P0 eb) ∧ w'.cell? ⟨w.heap.size, 2, none⟩ = some (.int .u8 (b : Int)) ∧ w'.cell? ⟨eb, 27, none⟩ = some (P0 sb) := by
    intro w' hO
    exact ⟨(hO.cell (o := 6) lx (HSB.out _ (Nat.le_refl _))).trans x6, (hO.cell (o := 2) lx (HSB.out _ (Nat.le_refl _))).trans x2, (hO.cell (o := 27) le1 he).trans d26⟩
  have HSK := hid HS
  clear HS
  have hwb : IntKind.i64.wrap (b : Int) = (b : Int) := by simp [IntKind.wrap, IntKind.bits, IntKind.signed]; omega
  have hwb2 : wrap64 (b : Int) = (b : Int) := IntWalk.wrap64_in (b : Int) ⟨by omega, by omega⟩
  go_region_held3 (fun w' => w'.cell? ⟨w.heap.size, 6, none⟩ = some (P0 eb) ∧ w'.cell? ⟨w.heap.size, 2, none⟩ = some (.int .u8 (b : Int)) ∧ w'.cell? ⟨eb, 27, none⟩ = some (P0 sb)) (first | exact HSK.out _ (only_refl _ _) | exact HSK.out _ KO4.out | exact HSK5.out) (first | (go_at_call 157; refine (newSlots_any Q eb sb pb n nr b kd vb s w1.drew KR1.out hb8).mono ?_; rintro e w4 ⟨v, rfl, hO4, hL4⟩; obtain ⟨x, ob, rfl⟩ := hL4.form; have KO4 : Hid (Only (Sbk sb pb n kd vb) w1 w4) := hO4; have HL4 : Hid (Laid w1 w4 sb pb eb n nr b kd vb s (.tuple #[.agg #[.int .i64 x, .int .i64 0], .bool ob])) := hL4; have hr4 := hO4.block (k := w.heap.size + 1) HR.out (HSB.out _ (Nat.le_succ _)); have r0 : w4.cell? ⟨w.heap.size + 1, 0, none⟩ = some (.int .i64 0) := (by simp [World.cell?, hr4]); have r1 : w4.cell? ⟨w.heap.size + 1, 1, none⟩ = some (.int .i64 0) := (by simp [World.cell?, hr4]); have r2 : w4.frozen? ⟨w.heap.size + 1, 0, none⟩ = false := (by simp [World.frozen?, hr4]); have r3 : w4.frozen? ⟨w.heap.size + 1, 1, none⟩ = false := (by simp [World.frozen?, hr4]); have lr4 := heap_lt hr4; have HSK5 : Hid (((w4.setCell ⟨w.heap.size + 1, 0, none⟩ (.int .i64 x)).setCell ⟨w.heap.size + 1, 1, none⟩ (.int .i64 0)).cell? ⟨w.heap.size, 6, none⟩ = some (P0 eb) ∧ ((w4.setCell ⟨w.heap.size + 1, 0, none⟩ (.int .i64 x)).setCell ⟨w.heap.size + 1, 1, none⟩ (.int .i64 0)).cell? ⟨w.heap.size, 2, none⟩ = some (.int .u8 (b : Int)) ∧ ((w4.setCell ⟨w.heap.size + 1, 0, none⟩ (.int .i64 x)).setCell ⟨w.heap.size + 1, 1, none⟩ (.int .i64 0)).cell? ⟨eb, 27, none⟩ = some (P0 sb)) := (by have h := HSK.out w4 hO4; exact ⟨(World.cell?_of_block (a := ⟨w.heap.size, 6, none⟩) ((Below.heap_setCell _ _ _ _ (by simp)).trans (Below.heap_setCell _ _ _ _ (by simp)))).trans h.1, (World.cell?_of_block (a := ⟨w.heap.size, 2, none⟩) ((Below.heap_setCell _ _ _ _ (by simp)).trans (Below.heap_setCell _ _ _ _ (by simp)))).trans h.2.1, (World.cell?_of_block (a := ⟨eb, 27, none⟩) ((Below.heap_setCell _ _ _ _ (by show eb ≠ w.heap.size + 1; omega)).trans (Below.heap_setCell _ _ _ _ (by show eb ≠ w.heap.size + 1; omega)))).trans h.2.2⟩); clear hr4 hO4 hL4))
  all_goals
    go_wp2_with fail
    refine bodyPost_ret (v := .tuple #[.agg #[.int .i64 x, .int .i64 0], .bool ob]) (by simp [results, Tryz.results100, go_sem, r0, r1]) rfl ?_
    refine ⟨_, rfl, only_setCell (only_setCell ((only_none KG1.out).trans KO4.out (fun _ h _ => h)) (Or.inr (by simp)) _) (Or.inr (by simp)) _, ?_⟩
    have hne : ∀ (kd1 : B.Kd) (vb1 : Vs) (M : Nat → List B.V), Str w4 sb pb eb n kd1 vb1 M → Grew n kd vb kd1 vb1 w1.heap.size → ∀ x, Own n kd1 vb1 x → x ≠ w.heap.size + 1 := fun kd1 vb1 M hS hG x hx => by
      have := heap_lt HR.out
      rcases hG x hx with h | h
      · have := lvb.out x h; omega
      · omega
    have key : ∀ (kd1 : B.Kd) (vb1 : Vs) (M : Nat → List B.V) (y z : Value), Str w4 sb pb eb n kd1 vb1 M → Grew n kd vb kd1 vb1 w1.heap.size → Str ((w4.setCell ⟨w.heap.size + 1, 0, none⟩ y).setCell ⟨w.heap.size + 1, 1, none⟩ z) sb pb eb n kd1 vb1 M := fun kd1 vb1 M y z hS hG =>
      hS.block ((Below.heap_setCell _ _ _ _ (by show sb ≠ w.heap.size + 1; omega)).trans (Below.heap_setCell _ _ _ _ (by show sb ≠ w.heap.size + 1; omega))) ((Below.heap_setCell _ _ _ _ (by show pb ≠ w.heap.size + 1; omega)).trans (Below.heap_setCell _ _ _ _ (by show pb ≠ w.heap.size + 1; omega))) (fun k hk => (Below.heap_setCell _ _ _ _ (hne _ _ _ hS hG k hk)).trans (Below.heap_setCell _ _ _ _ (hne _ _ _ hS hG k hk)))
    have hzz1 := KG1.out.size
    rcases HL4.out with ⟨k, vg, kd1, h1, h2, h3, h3', h4, h5, h6⟩ | ⟨h1, h2, kd1, h3, h4, h5⟩
    · exact Or.inl ⟨k, vg, kd1, h1, h2, h3, h3', h4, key _ _ _ _ _ h5 h6, fun x hx => (h6 x hx).imp id (fun h => by omega)⟩
    · exact Or.inr ⟨h1, h2, kd1, key _ _ _ _ _ h3 h5, h4, fun x hx => (h5 x hx).imp id (fun h => by omega)⟩
end Go.Proofs.YtnjiinbhbjpfkaaGreatDoor

/-
  The instruction Cell, whole.
-/
namespace Go.Proofs.YtnjiinbhbjpfkaaGreatDoor
open Go.RowKit

/-- What Cell does. -/
def Celled (w w' : World) (a b eb tb fb cb L nx rb nr sb pb n base : Nat) (back : Value) (kd : B.Kd) (vb : Vs) (s : B.St) (ad : Option Addr) (ne cap : Nat) (ev : List B.Ev) (E Tk : Nat → Value) : Prop :=
  (∃ (k : Nat) (kd1 : B.Kd) (vb1 : Vs), k < n ∧ kd1.on (k + 1) = false ∧ B.Held kd1 nr n s ∧ KdF nr n s kd kd1 ∧ Str w' sb pb eb n (B.laid kd1 (k + 1)) vb1 (B.lay s.2.2 (k + 1) (List.replicate b (0, 0))) ∧ Grew n kd vb (B.laid kd1 (k + 1)) vb1 w.heap.size ∧ Fr w' fb cb L nx rb nr back (B.set s.2.1 a (k + 1, 0)) ∧ Only (fun x => Sbk sb pb n kd vb x ∨ x = rb) w w') ∨
  ((∀ p, 1 ≤ p → p ≤ n → B.Reach nr s p) ∧ (∃ kd1, Str w' sb pb eb n kd1 vb s.2.2 ∧ B.Held kd1 nr n s ∧ Grew n kd vb kd1 vb w.heap.size) ∧ ∃ g c, w'.ownsRow base 48 3 (.slice (some ⟨g, 0, none⟩) (ne + 1) c) (ne + 1) (evL (ev ++ [(5, 0)])) ∧ Full w' eb 144 44 44 (upd (upd E 42 (.bool true)) 43 (.slice (some ⟨g, 0, none⟩) (ne + 1) c)) ∧ Full w' tb 160 7 7 (upd Tk 2 (.bool false)) ∧ Only (fun x => Sbk sb pb n kd vb x ∨ x = eb ∨ x = tb ∨ (Value.slice ad ne cap).ownBlock = some x) w w')
theorem Celled.pre {w0 w w' : World} {a b eb tb fb cb L nx rb nr sb pb n base : Nat} {back : Value} {kd : B.Kd} {vb : Vs} {s : B.St} {ad : Option Addr} {ne cap : Nat} {ev : List B.Ev} {E Tk : Nat → Value} (hg : w0.grownBy w none) (h : Celled w w' a b eb tb fb cb L nx rb nr sb pb n base back kd vb s ad ne cap ev E Tk) : Celled w0 w' a b eb tb fb cb L nx rb nr sb pb n base back kd vb s ad ne cap ev E Tk := by
  have hz := hg.size
  rcases h with ⟨k, kd1, vb1, h1, h2, h3, h4, h5, h6, h7, h8⟩ | ⟨h1, ⟨kd1, h2, h3, h4⟩, g, c, h5, h6, h7, h8⟩
  · exact Or.inl ⟨k, kd1, vb1, h1, h2, h3, h4, h5, fun x hx => (h6 x hx).imp id (fun h => Nat.le_trans hz h), h7, (only_none hg).trans h8 (fun _ h _ => h)⟩
  · exact Or.inr ⟨h1, ⟨kd1, h2, h3, fun x hx => (h4 x hx).imp id (fun h => Nat.le_trans hz h)⟩, g, c, h5, h6, h7, (only_none hg).trans h8 (fun _ h _ => h)⟩
/-- A block whose type is none of the store's. -/
theorem Str.no_sbk {w : World} {sb pb eb n : Nat} {kd : B.Kd} {vb : Vs} {M : Nat → List B.V} (h : Str w sb pb eb n kd vb M) {k : Nat} {cur : Array Value} {T : TypeId} {f : Nat × Nat} (hk : w.heap[k]? = some (.cells cur T f)) (hT : T ≠ 207 ∧ T ≠ 228 ∧ T ≠ 149 ∧ T ≠ 275 ∧ T ≠ 4 ∧ T ≠ 3) : ¬ Sbk sb pb n kd vb k := by
  rintro (rfl | rfl | hx)
  · exact cells_ne hk h.b hT.1 rfl
  · obtain ⟨cu, hp, _⟩ := h.p.p; exact cells_ne hk hp hT.2.1 rfl
  · obtain ⟨cu, T', h1, h2⟩ := h.ty k hx
    refine cells_ne hk h1 ?_ rfl
    rcases h2 with rfl | rfl | rfl | rfl
    · exact hT.2.2.1
    · exact hT.2.2.2.1
    · exact hT.2.2.2.2.1
    · exact hT.2.2.2.2.2

set_option maxRecDepth 100000 in
set_option maxHeartbeats 2000000 in
theorem makes93_any (Q : Nat → Prop) (op a b c eb tb fb cb L nx rb nr base vbx : Nat) (back : Value) (sb pb n : Nat) (kd : B.Kd) (vb : Vs) (s : B.St) (ad : Option Addr) (ne cap : Nat) (ev : List B.Ev) (E Tk : Nat → Value) (w : World)
    (hR : Rts w Q eb sb pb n nr kd vb s) (hFr : Fr w fb cb L nx rb nr back s.2.1) (hb8 : b ≤ 8) (ha : a < nr) (hE : Full w eb 144 44 44 E) (hT : Full w tb 160 7 7 Tk) (h26 : E 27 = P0 sb) (h42 : E 43 = .slice ad ne cap) (o42 : w.ownsRow base 48 3 (.slice ad ne cap) ne (evL ev)) (t0 : Tk 0 = .int .i64 1) (hbs : base ≤ w.heap.size) (hne : ne ≤ 100000)
    (hvr : ∀ k, Own n kd vb k → k ≠ rb) (hv : w.heap[vbx]? = some (.cells #[Fv 100 #[]] 195 (0, 0))) :
    Calls Tryz.prog 155 #[stepV op a b c fb tb eb, P0 vbx] w fun e w' => e = .returned (.tuple #[]) ∧ Celled w w' a b eb tb fb cb L nx rb nr sb pb n base back kd vb s ad ne cap ev E Tk := by
  have KR := hid hR
  have KE := hid hE
  have KT := hid hT
  have HF := hid (And.intro h26 (And.intro h42 (And.intro o42 t0)))
  have HVR := hid hvr
  have KF := hid hFr
  have HS := hid hR.hs
  have hep : ¬ Sbk sb pb n kd vb eb := by obtain ⟨c1, h1, _⟩ := hE; exact hR.hs.no_sbk h1 (by decide)
  have htp : ¬ Sbk sb pb n kd vb tb := by obtain ⟨c1, h1, _⟩ := hT; exact hR.hs.no_sbk h1 (by decide)
  have hfp : ¬ Sbk sb pb n kd vb fb := hR.hs.no_sbk hFr.1 (by decide)
  have hrs : rb ≠ sb ∧ rb ≠ pb := by
    obtain ⟨c1, h1, _⟩ := hFr.2.1
    obtain ⟨c2, h2, _⟩ := hR.hs.p.p
    exact ⟨cells_ne h1 hR.hs.b (by decide), cells_ne h1 h2 (by decide)⟩
  have hrp : ¬ Sbk sb pb n kd vb rb := by
    rintro (h | h | h)
    · exact hrs.1 h
    · exact hrs.2 h
    · exact hvr rb h rfl
  have hop : ∀ k, (Value.slice ad ne cap).ownBlock = some k → ¬ Sbk sb pb n kd vb k := by
    intro k hk
    obtain ⟨_, _, c1, h1⟩ := own_ty o42 k hk
    exact hR.hs.no_sbk h1 (by decide)
  have HOP := hid hop
  have HSB : Hid (∀ x, w.heap.size ≤ x → ¬ Sbk sb pb n kd vb x) := fun x hx h => by
    have l1 := heap_lt hR.hs.b
    have l2 := hR.hs.p.p.lt
    rcases h with h | h | h
    · omega
    · omega
    · have := hR.hs.lt x h; omega
  have lr : rb < w.heap.size := hFr.2.1.lt
  have c0 : w.cell? ⟨vbx, 0, none⟩ = some (Fv 100 #[]) := by simp [World.cell?, hv]
  have lv := heap_lt hv
  clear hR hE hT h26 h42 o42 t0 hvr hop hv hFr
  go_enter Tryz.func155, Tryz.ntmps155
  go_wp2_with fail
  have KG1 := hid (World.grownBy_alloc w (.cells #[.int .u8 (op : Int), .int .u8 (a : Int), .int .u8 (b : Int), .int .u8 (c : Int), P0 fb, P0 tb, P0 eb] 186) none)
  have HX1 := hid (s7_new w op a b c fb tb eb)
  generalize hW : w.alloc (.cells #[.int .u8 (op : Int), .int .u8 (a : Int), .int .u8 (b : Int), .int .u8 (c : Int), P0 fb, P0 tb, P0 eb] 186) = w1 at *
  have hz1 : w1.heap.size = w.heap.size + 1 := by rw [← hW]; simp
  clear hW
  have KE1 := hid (KE.out.block (KG1.out.block eb KE.out.lt (by intro e; cases e)))
  have d26 := KE1.out.cell 27 (by omega)
  rw [HF.out.1] at d26
  refine (newCell_any Q op a b c fb tb eb sb pb n nr kd vb s w1 (KR.out.kept KG1.out) hb8 d26 hep).mono ?_
  rintro e w2 ⟨v, rfl, hO2, hL2⟩
  have KO2 := hid ((only_none (S := Sbk sb pb n kd vb) KG1.out).trans hO2 (fun _ h _ => h))
  have hz2 := hO2.size
  have HX2 := hid (hO2.block HX1.out (HSB.out _ (Nat.le_refl _)))
  clear hO2 d26
  rcases hL2 with ⟨k, vg, kd1, h1, h2, h3, h3', rfl, h5, h6⟩ | ⟨rfl, hm, hkd⟩
  · have HL := hid (And.intro h1 (And.intro h2 (And.intro h3 (And.intro h3' (And.intro h5 h6)))))
    clear h1 h2 h3 h3' h5 h6
    obtain ⟨x0, x1, x2, x3, x4, x5, x6⟩ := s7_of HX2.out
    have lx := heap_lt HX2.out
    have HF2 : Hid (Fr w2 fb cb L nx rb nr back s.2.1) := ⟨KO2.out.block KF.out.1 hfp, KF.out.2.1.only KO2.out hrp, KF.out.2.2⟩
    go_wp2_with fail
    refine (set_any op a b c fb tb eb cb L nx rb nr back s.2.1 (k + 1, 0) _ (HF2.out.kept (World.grownBy_alloc _ _ _)).1 (HF2.out.kept (World.grownBy_alloc _ _ _)).2.1 ha).mono ?_
    rintro e w3 ⟨rfl, hg3, hf3⟩
    have hz3 := hg3.size
    simp at hz3
    have hGr : Grew n kd vb (B.laid kd1 (k + 1)) (vb.put (k + 1) vg) w.heap.size := fun x hx => (HL.out.2.2.2.2.2 x hx).imp id (fun h => by omega)
    have hS3 : Str w3 sb pb eb n (B.laid kd1 (k + 1)) (vb.put (k + 1) vg) (B.lay s.2.2 (k + 1) (List.replicate b (0, 0))) := by
      have hS := HL.out.2.2.2.2.1.kept (World.grownBy_alloc w2 (.cells #[.int .i64 ((k : Int) + 1), .int .i64 0] 149) none)
      refine hS.block (hg3.block sb (heap_lt hS.b) (by intro e; injection e with e; exact hrs.1 e.symm)) (hg3.block pb hS.p.p.lt (by intro e; injection e with e; exact hrs.2 e.symm)) (fun x hx => hg3.block x (hS.lt x hx) ?_)
      intro e
      injection e with e
      rcases hGr x hx with h | h
      · exact HVR.out x h e
      · omega
    have HR : Hid (Celled w w3 a b eb tb fb cb L nx rb nr sb pb n base back kd vb s ad ne cap ev E Tk) := by
      refine Or.inl ⟨k, kd1, vb.put (k + 1) vg, HL.out.1, HL.out.2.1, HL.out.2.2.1, HL.out.2.2.2.1, hS3, hGr, ⟨grown_heap hg3 (HF2.out.kept (World.grownBy_alloc _ _ _)).1 (by intro e; injection e with e; exact KF.out.2.2 e), hf3, KF.out.2.2⟩, ?_⟩
      exact ((KO2.out.mono (fun x h _ => Or.inl h)).then0 (World.grownBy_alloc _ _ _)).then hg3 (Or.inl (Or.inr rfl))
    clear hg3 hf3 hS3 hGr x0 x1 x2 x3 x4 x5 x6
    go_wp2_with fail
    go_end0
    exact ⟨rfl, HR.out⟩
  · have HM := hid hm
    have HKD := hid hkd
    clear hm hkd
    obtain ⟨x0, x1, x2, x3, x4, x5, x6⟩ := s7_of HX2.out
    have lx := heap_lt HX2.out
    have KE2 := hid (KE.out.only KO2.out hep)
    have KT2 := hid (KT.out.only KO2.out htp)
    have o2 := hid (own_of HF.out.2.2.1 (fun k h => KO2.out.same (own_ty HF.out.2.2.1 k h).2.1 (HOP.out k h)))
    go_wp2_with fail
    have KG3 := hid (World.grownBy_alloc w2 (.cells #[.int .i64 0, .int .i64 0] 149) none)
    have hk3 : ∀ k, k < w2.heap.size → (w2.alloc (.cells #[.int .i64 0, .int .i64 0] 149)).heap[k]? = w2.heap[k]? := fun k hk => KG3.out.block k hk (by intro e; cases e)
    refine (spend_any eb tb base ad ne cap ev E Tk _ (KE2.out.block (hk3 _ KE2.out.lt)) HF.out.2.1 (KT2.out.block (hk3 _ KT2.out.lt)) HF.out.2.2.2 (own_of o2.out (fun k h => hk3 k (own_ty o2.out k h).2.1)) (by simp; omega) hne).mono ?_
    rintro e w3 ⟨rfl, g, cc, h1, h2, h3, h4⟩
    have HR : Hid (Celled w w3 a b eb tb fb cb L nx rb nr sb pb n base back kd vb s ad ne cap ev E Tk) := by
      obtain ⟨kd1, k1, k2, k3⟩ := HKD.out
      have k1' := k1.kept KG3.out
      have hno : ∀ (k : Nat) (cur : Array Value) (T : TypeId) (f : Nat × Nat), w2.heap[k]? = some (.cells cur T f) → (T = 207 ∨ T = 228 ∨ T = 149 ∨ T = 275 ∨ T = 4 ∨ T = 3) → ¬ (k = eb ∨ k = tb ∨ (Value.slice ad ne cap).ownBlock = some k) := by
        intro k cur T f hk hT h
        have hT' : T ≠ 144 ∧ T ≠ 160 ∧ T ≠ 48 := by rcases hT with rfl | rfl | rfl | rfl | rfl | rfl <;> decide
        rcases h with rfl | rfl | h
        · obtain ⟨cu, h1, _⟩ := KE2.out; exact cells_ne hk h1 hT'.1 rfl
        · obtain ⟨cu, h1, _⟩ := KT2.out; exact cells_ne hk h1 hT'.2.1 rfl
        · obtain ⟨_, _, cu, h1⟩ := own_ty o2.out k h; exact cells_ne hk h1 hT'.2.2 rfl
      have k1'' : Str w3 sb pb eb n kd1 vb s.2.2 := by
        refine k1'.block (h4.same (heap_lt k1'.b) (hno sb _ _ _ k1.b (by decide))) (h4.same k1'.p.p.lt ?_) (fun x hx => h4.same (k1'.lt x hx) ?_)
        · obtain ⟨cu, h1, _⟩ := k1.p.p; exact hno pb _ _ _ h1 (by decide)
        · obtain ⟨cu, T, h1, h2⟩ := k1.ty x hx
          exact hno x _ _ _ h1 (by rcases h2 with rfl | rfl | rfl | rfl <;> decide)
      refine Or.inr ⟨HM.out, ⟨kd1, k1'', k2, fun x hx => (k3 x hx).imp id (fun h => by omega)⟩, g, cc, h1, h2, h3, ?_⟩
      refine ((KO2.out.mono (fun x h _ => Or.inl h)).then0 KG3.out).trans h4 (fun x h _ => ?_)
      rcases h with h | h | h
      · exact Or.inr (Or.inl h)
      · exact Or.inr (Or.inr (Or.inl h))
      · exact Or.inr (Or.inr (Or.inr h))
    clear h1 h2 h3 h4 x0 x1 x2 x3 x4 x5 x6 hk3
    go_wp2_with fail
    go_end0
    exact ⟨rfl, HR.out⟩
end Go.Proofs.YtnjiinbhbjpfkaaGreatDoor

/-
  The instructions Emit and Return.
-/
namespace Go.Proofs.YtnjiinbhbjpfkaaGreatDoor
open Go.RowKit

set_option maxRecDepth 100000 in
theorem emit_any (op a b c fb tb eb base : Nat) (x : Int) (ad : Option Addr) (n cap : Nat) (ev : List B.Ev) (E Tk : Nat → Value) (w : World) (hE : Full w eb 144 44 44 E) (hE42 : E 43 = .slice ad n cap) (hT : Full w tb 160 7 7 Tk) (hT0 : Tk 0 = .int .i64 1)
    (hown : w.ownsRow base 48 3 (.slice ad n cap) n (evL ev)) (hb : base ≤ w.heap.size) (hn : n ≤ 100000) :
    Calls Tryz.prog 115 #[stepV op a b c fb tb eb, .int .i64 x] w fun e w' => e = .returned (.int .i64 0) ∧ ∃ g c, w'.ownsRow base 48 3 (.slice (some ⟨g, 0, none⟩) (n + 1) c) (n + 1) (evL (ev ++ [(1, x)])) ∧ Full w' eb 144 44 44 (upd E 43 (.slice (some ⟨g, 0, none⟩) (n + 1) c)) ∧ Only (fun k => k = eb ∨ (Value.slice ad n cap).ownBlock = some k) w w' := by
  have KE := hid hE
  have KT := hid hT
  have KO := hid hown
  have HF := hid (And.intro hE42 hT0)
  clear hE hT hown hE42 hT0
  go_enter Tryz.func115, Tryz.ntmps115
  go_wp2_with fail
  have KG1 := hid (World.grownBy_alloc w (.cells #[.int .u8 (op : Int), .int .u8 (a : Int), .int .u8 (b : Int), .int .u8 (c : Int), P0 fb, P0 tb, P0 eb] 186) none)
  have hk : ∀ k, k < w.heap.size → (w.alloc (.cells #[.int .u8 (op : Int), .int .u8 (a : Int), .int .u8 (b : Int), .int .u8 (c : Int), P0 fb, P0 tb, P0 eb] 186)).heap[k]? = w.heap[k]? := fun k hk => KG1.out.block k hk (by intro e; cases e)
  refine (tell_any eb tb base 1 x ad n cap ev E Tk _ (KE.out.block (hk _ KE.out.lt)) HF.out.1 (KT.out.block (hk _ KT.out.lt)) HF.out.2 (own_of KO.out (fun k h => hk k (own_ty KO.out k h).2.1)) (by simp; omega) hn).mono ?_
  rintro e w2 ⟨rfl, g, cc, h1, h2, h3⟩
  have HH := hid (And.intro h1 (And.intro h2 ((only_none (S := fun k => k = eb ∨ (Value.slice ad n cap).ownBlock = some k) KG1.out).trans h3 (fun _ h _ => h))))
  clear h1 h2 h3 hk
  go_wp2_with fail
  go_ret
  exact ⟨rfl, g, cc, HH.out⟩

set_option maxRecDepth 100000 in
set_option maxHeartbeats 1000000 in
/-- Emit. -/
theorem act20_any (op a b c fb tb eb cb L nx rb nr base v1 v2 : Nat) (back : Value) (R : Nat → B.V) (ha : a < nr) (ad : Option Addr) (n cap : Nat) (ev : List B.Ev) (E Tk : Nat → Value) (w : World) (hF : Fr w fb cb L nx rb nr back R) (hE : Full w eb 144 44 44 E) (hE42 : E 43 = .slice ad n cap) (hT : Full w tb 160 7 7 Tk) (hT0 : Tk 0 = .int .i64 1)
    (hown : w.ownsRow base 48 3 (.slice ad n cap) n (evL ev)) (hb : base ≤ w.heap.size) (hn : n ≤ 100000) (hv1 : w.heap[v1]? = some (.cells #[Fv 98 #[]] 187 (0, 0))) (hv2 : w.heap[v2]? = some (.cells #[Fv 115 #[]] 202 (0, 0))) :
    Calls Tryz.prog 167 #[stepV op a b c fb tb eb, P0 v1, P0 v2] w fun e w' => ((R a).1 = 0 ∧ e = .returned (.int .i64 0) ∧ ∃ g c, w'.ownsRow base 48 3 (.slice (some ⟨g, 0, none⟩) (n + 1) c) (n + 1) (evL (ev ++ [(1, (R a).2)])) ∧ Full w' eb 144 44 44 (upd E 43 (.slice (some ⟨g, 0, none⟩) (n + 1) c)) ∧ Only (fun k => k = eb ∨ (Value.slice ad n cap).ownBlock = some k) w w') ∨ ((R a).1 ≠ 0 ∧ e = .returned (.int .i64 1) ∧ w.grownBy w' none) := by
  have KF := hid hF
  have KE := hid hE
  have KT := hid hT
  have KO := hid hown
  have HF := hid (And.intro hE42 hT0)
  have c1 : w.cell? ⟨v1, 0, none⟩ = some (Fv 98 #[]) := by simp [World.cell?, hv1]
  have lv1 := heap_lt hv1
  have HV2 := hid hv2
  clear hF hE hT hown hE42 hT0 hv1 hv2
  go_enter Tryz.func167, Tryz.ntmps167
  go_wp2_with fail
  have HX1 := hid (s7_new w op a b c fb tb eb)
  have KG1 := hid (World.grownBy_alloc w (.cells #[.int .u8 (op : Int), .int .u8 (a : Int), .int .u8 (b : Int), .int .u8 (c : Int), P0 fb, P0 tb, P0 eb] 186) none)
  generalize hW : w.alloc (.cells #[.int .u8 (op : Int), .int .u8 (a : Int), .int .u8 (b : Int), .int .u8 (c : Int), P0 fb, P0 tb, P0 eb] 186) = w1 at *
  clear hW
  refine (a_any op a b c fb tb eb cb L nx rb nr back R w1 (KF.out.kept KG1.out).1 (KF.out.kept KG1.out).2.1 ha).mono ?_
  rintro e w2 ⟨rfl, hg2⟩
  have KG2 := hid (grown_trans KG1.out hg2)
  have HX2 := hid (grown_out hg2 HX1.out)
  clear hg2
  go_wp2_with fail
  refine (vnumber_any (R a) _).mono ?_
  rintro e w3 ⟨rfl, hg3⟩
  have KG3 := hid (grown_trans KG2.out hg3)
  have HX3 := hid (grown_out hg3 HX2.out)
  clear hg3
  by_cases h0 : (R a).1 = 0
  · have hd : decide ((R a).1 = 0) = true := by simpa using h0
    simp only [hd]
    have H0 := hid h0
    clear h0 hd
    obtain ⟨x0, x1, x2, x3, x4, x5, x6⟩ := s7_of HX3.out
    have lx := heap_lt HX3.out
    have hv := grown_out KG3.out HV2.out
    have c2 : w3.cell? ⟨v2, 0, none⟩ = some (Fv 115 #[]) := by simp [World.cell?, hv]
    have lv2 := heap_lt hv
    clear hv
    go_wp2_with fail
    have hk : ∀ k, k < w.heap.size → w3.heap[k]? = w.heap[k]? := fun k hk => KG3.out.block k hk (by intro e; cases e)
    refine (emit_any op a b c fb tb eb base (R a).2 ad n cap ev E Tk w3 (KE.out.block (hk _ KE.out.lt)) HF.out.1 (KT.out.block (hk _ KT.out.lt)) HF.out.2 (own_of KO.out (fun k h => hk k (own_ty KO.out k h).2.1)) (Nat.le_trans hb KG3.out.size) hn).mono ?_
    rintro e w4 ⟨rfl, g, cc, h1, h2, h3⟩
    have HH := hid (And.intro h1 (And.intro h2 ((only_none (S := fun k => k = eb ∨ (Value.slice ad n cap).ownBlock = some k) KG3.out).trans h3 (fun _ h _ => h))))
    clear h1 h2 h3 hk x0 x1 x2 x3 x4 x5 x6 c2
    go_wp2_with fail
    go_ret
    exact Or.inl ⟨H0.out, rfl, g, cc, HH.out⟩
  · have hd : decide ((R a).1 = 0) = false := by simpa using h0
    simp only [hd]
    have H0 := hid h0
    clear h0 hd
    go_wp2_with fail
    go_ret
    exact Or.inr ⟨H0.out, rfl, KG3.out⟩

set_option maxRecDepth 100000 in
set_option maxHeartbeats 2000000 in
theorem ret_any (op a b c eb tb lb cl ob co base xe xt kb ck fb cb L nx rb nr : Nat) (R : Nat → B.V) (ha : a < nr) (ad : Option Addr) (n cap : Nat) (ev : List B.Ev) (E Tk : Nat → Value) (w : World) (hL : Leav w eb tb lb cl ob co base ad n cap ev E Tk) (he : w.heap[xe]? = some (.cells #[P0 eb] 95 (0, 0))) (ht : w.heap[xt]? = some (.cells #[P0 tb] 155 (0, 0)))
    (hT1 : Tk 1 = .slice (some ⟨kb, 0, none⟩) 1 ck) (hK : w.ownsRow 0 184 1 (.slice (some ⟨kb, 0, none⟩) 1 ck) 1 [P0 fb]) (hF : Fr w fb cb L nx rb nr (Fv 120 #[P0 xe, P0 xt]) R) :
    Calls Tryz.prog 106 #[stepV op a b c fb tb eb] w fun e w' => e = .returned (.tuple #[]) ∧ ∃ w1, Left w1 w' eb tb lb ob base n ad cap (ev ++ [(2, (R a).2)]) E (R a) ∧ Only (fun k => k = tb ∨ k = kb) w w1 := by
  have HL := hid hL
  have HE := hid he
  have HT := hid ht
  have HK := hid hK
  have KF := hid hF
  have HT1 := hid hT1
  clear hL he ht hK hF hT1
  go_enter Tryz.func106, Tryz.ntmps106
  go_wp2_with fail
  have HX1 := hid (s7_new w op a b c fb tb eb)
  have KG1 := hid (World.grownBy_alloc w (.cells #[.int .u8 (op : Int), .int .u8 (a : Int), .int .u8 (b : Int), .int .u8 (c : Int), P0 fb, P0 tb, P0 eb] 186) none)
  generalize hW : w.alloc (.cells #[.int .u8 (op : Int), .int .u8 (a : Int), .int .u8 (b : Int), .int .u8 (c : Int), P0 fb, P0 tb, P0 eb] 186) = w1 at *
  clear hW
  obtain ⟨x0, x1, x2, x3, x4, x5, x6⟩ := s7_of HX1.out
  have lx := heap_lt HX1.out
  go_region_with (first | (go_at_call 98; refine (a_any op a b c fb tb eb cb L nx rb nr (Fv 120 #[P0 xe, P0 xt]) R w1.drew (KF.out.kept (grown_drew KG1.out)).1 (KF.out.kept (grown_drew KG1.out)).2.1 ha).mono ?_; rintro e w2 ⟨rfl, hg2⟩; have KG2 : Hid (w.grownBy w2 none) := grown_trans (grown_drew KG1.out) hg2; obtain ⟨x0, x1, x2, x3, x4, x5, x6⟩ := s7_of (grown_out hg2 (show w1.drew.heap[w.heap.size]? = _ from HX1.out)); have lx2 := heap_lt (grown_out hg2 (show w1.drew.heap[w.heap.size]? = _ from HX1.out)); clear hg2) | (go_at_call 107; refine (giveBack_any eb tb lb cl ob co base xe xt kb ck fb cb L nx rb nr (R a) ad n cap ev E Tk w2 (HL.out.alloc KG2.out) (grown_out KG2.out HE.out) (grown_out KG2.out HT.out) HT1.out (own_of HK.out (fun k h => KG2.out.block k (own_ty HK.out k h).2.1 (by intro e; cases e))) (KF.out.kept KG2.out).1).mono ?_; rintro e w3 ⟨rfl, w4, hL4, hO4⟩; have HR := hid (And.intro hL4 ((only_none (S := fun k => k = tb ∨ k = kb) KG2.out).trans hO4 (fun _ h _ => h))); clear hL4 hO4))
  all_goals
    go_wp2_with fail
    go_end0
    exact ⟨rfl, w4, HR.out⟩

set_option maxRecDepth 100000 in
/-- Return. -/
theorem act14_any (op a b c eb tb lb cl ob co base xe xt kb ck fb cb L nx rb nr wb : Nat) (R : Nat → B.V) (ha : a < nr) (ad : Option Addr) (n cap : Nat) (ev : List B.Ev) (E Tk : Nat → Value) (w : World) (hL : Leav w eb tb lb cl ob co base ad n cap ev E Tk) (he : w.heap[xe]? = some (.cells #[P0 eb] 95 (0, 0))) (ht : w.heap[xt]? = some (.cells #[P0 tb] 155 (0, 0)))
    (hT1 : Tk 1 = .slice (some ⟨kb, 0, none⟩) 1 ck) (hK : w.ownsRow 0 184 1 (.slice (some ⟨kb, 0, none⟩) 1 ck) 1 [P0 fb]) (hF : Fr w fb cb L nx rb nr (Fv 120 #[P0 xe, P0 xt]) R) (hw : w.heap[wb]? = some (.cells #[Fv 106 #[]] 199 (0, 0))) :
    Calls Tryz.prog 163 #[stepV op a b c fb tb eb, P0 wb] w fun e w' => e = .returned (.int .i64 0) ∧ ∃ w1, Left w1 w' eb tb lb ob base n ad cap (ev ++ [(2, (R a).2)]) E (R a) ∧ Only (fun k => k = tb ∨ k = kb) w w1 := by
  have HL := hid hL
  have HE := hid he
  have HT := hid ht
  have HK := hid hK
  have KF := hid hF
  have HT1 := hid hT1
  have c0 : w.cell? ⟨wb, 0, none⟩ = some (Fv 106 #[]) := by simp [World.cell?, hw]
  have lw := heap_lt hw
  clear hL he ht hK hF hT1 hw
  go_enter Tryz.func163, Tryz.ntmps163
  go_wp2_with fail
  have KG1 := hid (World.grownBy_alloc w (.cells #[.int .u8 (op : Int), .int .u8 (a : Int), .int .u8 (b : Int), .int .u8 (c : Int), P0 fb, P0 tb, P0 eb] 186) none)
  refine (ret_any op a b c eb tb lb cl ob co base xe xt kb ck fb cb L nx rb nr R ha ad n cap ev E Tk _ (HL.out.alloc KG1.out) (grown_out KG1.out HE.out) (grown_out KG1.out HT.out) HT1.out (own_of HK.out (fun k h => KG1.out.block k (own_ty HK.out k h).2.1 (by intro e; cases e))) (KF.out.kept KG1.out)).mono ?_
  rintro e w3 ⟨rfl, w4, hL4, hO4⟩
  have HR := hid (And.intro hL4 ((only_none (S := fun k => k = tb ∨ k = kb) KG1.out).trans hO4 (fun _ h _ => h)))
  clear hL4 hO4
  go_wp2_with fail
  go_ret
  exact ⟨rfl, w4, HR.out⟩
end Go.Proofs.YtnjiinbhbjpfkaaGreatDoor

/-
  What 'pick' answers.
-/
namespace Go.Proofs.YtnjiinbhbjpfkaaGreatDoor
open Go.RowKit

/-- The number that 'pick' gives. -/
def pk (c : Int) (n : Nat) : Nat := ((if c < 0 then -(c + 1) else c) % n).toNat
theorem pk_lt (c : Int) (n : Nat) (h : 0 < n) : pk c n < n := by
  unfold pk
  have h1 := Int.emod_nonneg (if c < 0 then -(c + 1) else c) (show (n : Int) ≠ 0 by omega)
  have h2 := Int.emod_lt_of_pos (if c < 0 then -(c + 1) else c) (show (0 : Int) < n by omega)
  omega
theorem pk_is (c : Int) (n : Nat) (h : 0 < n) : ((pk c n : Nat) : Int) = (if c < 0 then -(c + 1) else c) % n := by
  unfold pk
  have h1 := Int.emod_nonneg (if c < 0 then -(c + 1) else c) (show (n : Int) ≠ 0 by omega)
  omega

theorem pick_any (c : Int) (n : Nat) (hn : 0 < n) (hn2 : n ≤ 1000000) (h1 : -9223372036854775808 ≤ c) (h2 : c ≤ 9223372036854775807) (w : World) : Calls Tryz.prog 21 #[.int .i64 c, .int .i64 n] w fun e w' => e = .returned (.int .i64 (pk c n : Nat)) ∧ w' = w := by
  have hp := pk_is c n hn
  by_cases hc : c < 0
  · rw [if_pos hc] at hp
    have e : ((pk c n : Nat) : Int) = -(c + 1).tmod n := by rw [hp, ← Int.neg_tmod, Int.tmod_eq_emod_of_nonneg (by omega)]
    rw [e]
    clear e hp
    go_enter Tryz.func21, Tryz.ntmps21
    go_wp2
    go_ret
    exact ⟨rfl, rfl⟩
  · rw [if_neg hc] at hp
    rw [hp]
    clear hp
    go_enter Tryz.func21, Tryz.ntmps21
    go_wp2
    go_ret
    exact ⟨rfl, rfl⟩
end Go.Proofs.YtnjiinbhbjpfkaaGreatDoor

/-
  What 'function' answers: the bytes of a function.
-/
namespace Go.Proofs.YtnjiinbhbjpfkaaGreatDoor
open Go.RowKit

/-- A text by its bytes. -/
def txt (l : List Nat) : ByteArray := ⟨(l.map UInt8.ofNat).toArray⟩
def u8s (l : List Nat) : List Value := l.map (fun (x : Nat) => Value.int .u8 (x : Int))
theorem Tryz.info5 : (Tryz.prog.info? 5).map (fun i => (i.zero, i.size, i.bytes)) = some (some (.int .u8 0), 1, 1) := by kernel_rfl

theorem fold_txt_from (l : List Nat) : ∀ (s : ByteArray), (l.map (fun (x : Nat) => (x : Int))).foldl (fun r n => r.push (UInt8.ofNat n.toNat)) s = ⟨s.data ++ (l.map UInt8.ofNat).toArray⟩ := by
  induction l with
  | nil => intro s; simp
  | cons a l ih =>
    intro s
    simp only [List.map_cons, List.foldl_cons]
    rw [ih]
    simp [ByteArray.push]
theorem fold_txt (l : List Nat) : (l.map (fun (x : Nat) => (x : Int))).foldl (fun r n => r.push (UInt8.ofNat n.toNat)) ByteArray.empty = txt l := by
  rw [fold_txt_from]
  unfold txt
  congr 1
  exact Array.empty_append

/-- The bytes of the first i instructions. -/
def codeL (x : Nat → Nat) (i : Nat) : List Nat := (List.range (4 * i)).map x
theorem codeL_succ (x : Nat → Nat) (i : Nat) : codeL x (i + 1) = codeL x i ++ [x (4 * i), x (4 * i + 1), x (4 * i + 2), x (4 * i + 3)] := by
  unfold codeL
  rw [show 4 * (i + 1) = 4 * i + 1 + 1 + 1 + 1 by omega]
  simp only [List.range_succ, List.map_append, List.map_cons, List.map_nil, List.append_assoc, List.cons_append, List.nil_append]

set_option maxRecDepth 100000 in
set_option maxHeartbeats 1000000 in
theorem function_any (regs k g cap T m : Nat) (x : Nat → Nat) (w : World) (hr : regs < 256) (hk : k ≤ 200) (hx : ∀ j, j < 4 * k → x j < 256) (hf : Full w g T m (4 * k) (fun j => .int .u8 (x j : Int))) (hkc : k ≤ cap) :
    Calls Tryz.prog 22 #[.int .i64 regs, .slice (some ⟨g, 0, none⟩) k cap] w fun e w' => e = .returned (.string (txt (regs :: k :: codeL x k))) ∧ Below w.heap.size w w' := by
  have HX : Hid (∀ j, j < 4 * k → x j < 256) := hx
  have HF : Hid (Full w g T m (4 * k) (fun j => .int .u8 (x j : Int))) := hf
  have hgz := hf.lt
  clear hx hf
  obtain ⟨i0, hi, hz0, hz1, hz2⟩ := info_parts Tryz.info5
  go_enter Tryz.func22, Tryz.ntmps22
  go_wp2_with fail
  have KO : Hid ((w.alloc (.cells #[.int .u8 regs, .int .u8 k] 5)).ownsRow w.heap.size 5 1 (.slice (some ⟨w.heap.size, 0, none⟩) 2 2) (2 + 4 * 0) (u8s (regs :: k :: codeL x 0))) :=
    ⟨by simp [u8s, codeL], Or.inr ⟨w.heap.size, 2, #[.int .u8 regs, .int .u8 k], rfl, Nat.le_refl _, heap_alloc_new w _, by omega, by decide, rfl, rfl⟩⟩
  have KB : Hid (Below w.heap.size w (w.alloc (.cells #[.int .u8 regs, .int .u8 k] 5))) := (Below.refl _ _).alloc (Nat.le_refl _) _
  go_loopw [5, 6] (fun b i wr => ∃ j, j ≤ k ∧ i = .int .i64 j ∧ Hid (wr.ownsRow w.heap.size 5 1 b (2 + 4 * j) (u8s (regs :: k :: codeL x j))) ∧ Hid (Below w.heap.size w wr)) (fun _ i _ => k - (intOf i).toNat)
  case atStart => exact ⟨0, by omega, rfl, KO, KB⟩
  case round =>
    obtain ⟨j, hj, rfl, rO, rB⟩ := hrel
    clear KO KB
    obtain ⟨gb, cb, rfl⟩ := row_form rO.out (by omega)
    by_cases hlt : j < k
    · have hf : Full wr g T m (4 * k) (fun j => .int .u8 (x j : Int)) := HF.out.block (rB.out.block _ hgz)
      have c0 := hf.cell (j * 4) (by omega)
      have c1 := hf.cell (j * 4 + 1) (by omega)
      have c2 := hf.cell (j * 4 + 2) (by omega)
      have c3 := hf.cell (j * 4 + 3) (by omega)
      have hz := rB.out.size
      clear hf
      have hjk : (j : Int) < (k : Int) := by omega
      go_wp2_with fail
      go_region_law (refine step_append_own rfl (.tmp 19) (.tmp 40) 86 rfl w.heap.size 5 i0 _ 1 1 Tryz.underlying86 hi hz0 hz1 hz2 rfl (by decide) (.slice (some ⟨gb, 0, none⟩) (2 + 4 * j) cb) (2 + 4 * j) (u8s (regs :: k :: codeL x j)) (by simp [Act.eval]) (own_drew (own_alloc rO.out _)) ⟨wr.heap.size, 0, none⟩ 4 4 [.int .u8 (x (j * 4) : Int), .int .u8 (x (j * 4 + 1) : Int), .int .u8 (x (j * 4 + 2) : Int), .int .u8 (x (j * 4 + 3) : Int)] (by simp [Act.eval]) rfl (by intro q u hq; match q, hq with | 0, hq => (simp at hq; subst hq; simp [Addr.add, go_sem]) | 1, hq => (simp at hq; subst hq; simp [Addr.add, go_sem]) | 2, hq => (simp at hq; subst hq; simp [Addr.add, go_sem]) | 3, hq => (simp at hq; subst hq; simp [Addr.add, go_sem])) (by simp [Value.oneCell']) (by unfold maxLen; omega) (by omega) (by simp; omega) ?_; intro v' w6 hown hgrow; have KO6 : Hid (w6.ownsRow w.heap.size 5 1 v' (2 + 4 * j + 4) (u8s (regs :: k :: codeL x j) ++ [.int .u8 (x (j * 4) : Int), .int .u8 (x (j * 4 + 1) : Int), .int .u8 (x (j * 4 + 2) : Int), .int .u8 (x (j * 4 + 3) : Int)])) := hown; have KB6 : Hid (Below w.heap.size w w6) := (below_own (rB.out.trans (((Below.refl _ _).alloc (by omega) _).drew)) hgrow (own_drew (own_alloc rO.out _)) (Nat.le_refl _)); clear hown hgrow)
      all_goals
        clear c0 c1 c2 c3 rO rB i0 hi hz0 hz1 hz2
        go_wp2_with fail
        go_roundw
        case rel =>
          refine ⟨j + 1, by omega, by go_num, ?_, KB6⟩
          show World.ownsRow _ _ _ _ _ _ _
          have e := KO6.out
          rw [show 2 + 4 * (j + 1) = 2 + 4 * j + 4 by omega, codeL_succ]
          simp only [u8s, List.map_cons, List.map_append, List.map_nil, List.cons_append, Nat.mul_comm 4 j] at e ⊢
          exact e
        case measure => simp [intOf]; omega
    · obtain rfl : j = k := by omega
      have hcv := run_convert_bytes_string (P := Tryz.prog) wr 86 9 5 (some ⟨gb, 0, none⟩) (2 + 4 * j) cb Tryz.underlying86 Tryz.underlying5 Tryz.underlying9
      have hld : (loadCells ⟨gb, 0, none⟩ (2 + 4 * j)).run Tryz.prog wr = .ok (((regs :: j :: codeL x j).map (fun (x : Nat) => (x : Int))).map (Value.int .u8)).toArray wr := by
        have e := rO.out
        have := run_loadCells_list (P := Tryz.prog) wr ⟨gb, 0, none⟩ (u8s (regs :: j :: codeL x j)) (fun q v hv => ?_)
        · have hlen : (u8s (regs :: j :: codeL x j)).length = 2 + 4 * j := by simp [u8s, codeL]; omega
          rw [hlen] at this
          rw [this]
          congr 2
          unfold u8s
          rw [List.map_map]
          rfl
        · rcases e.2 with ⟨h, _⟩ | ⟨g', cap', cur, h1, _, h2, _, _, h3, h4⟩
          · cases h
          · cases h1
            rw [Addr.add_mid]
            have hq : cur[q]? = some v := by
              rw [← h4] at hv
              rw [List.getElem?_take] at hv
              split at hv
              · simpa using hv
              · cases hv
            simp [World.cell?, h2, hq]
      have hst := run_bytesToString (P := Tryz.prog) wr ⟨gb, 0, none⟩ (2 + 4 * j) cb _ hld
      rw [hst] at hcv
      have ht : (((regs :: j :: codeL x j).map (fun (x : Nat) => (x : Int))).foldl (fun r n => r.push (UInt8.ofNat n.toNat)) ByteArray.empty) = txt (regs :: j :: codeL x j) := fold_txt _
      rw [ht] at hcv
      clear hst hld ht
      go_wp2_with fail
      go_ret
      exact ⟨rfl, rB.out⟩
end Go.Proofs.YtnjiinbhbjpfkaaGreatDoor

/-
  What the laws on programs of one function ask of Load, Turn and State: stated as a property of a predicate 'Mach' that tells what lies in the memory of a machine.
-/
namespace Go.Proofs.YtnjiinbhbjpfkaaGreatDoor
open Go.RowKit

theorem Only.below {F : Nat → Prop} {b : Nat} {w0 w w' : World} (h0 : Below b w0 w) (h : Only F w w') (hF : ∀ k, F k → b ≤ k) (hb : b ≤ w.heap.size) : Below b w0 w' :=
  ⟨h.1.trans h0.os, h.2.1.trans h0.tape, h.2.2.1.trans h0.output, Nat.le_trans h0.size h.2.2.2.1, fun k hk => (h.2.2.2.2 k (by omega) (fun hf => by have := hF k hf; omega)).trans (h0.block k hk)⟩

/-- The bytes of instructions. -/
def flat (C : List B.In) : List Nat := C.flatMap (fun i => [i.1, i.2.1, i.2.2.1, i.2.2.2])
/-- Instructions of a program of one function: those that the machine of one task knows. -/
def okIn (nr len : Nat) (i : B.In) : Bool :=
  match i with
  | (0, a, b, c) => decide (a < nr ∧ b ≤ 255 ∧ c ≤ 255)
  | (1, a, b, c) => decide (a < nr ∧ b < nr ∧ c = 0)
  | (3, a, b, c) => decide (a < nr ∧ b < nr ∧ c < nr)
  | (6, a, b, c) => decide (a < nr ∧ b < nr ∧ c < nr)
  | (7, a, b, c) => decide (a = 0 ∧ b = 0 ∧ c ≤ len ∧ c ≤ 255)
  | (8, a, b, c) => decide (a < nr ∧ b = 0 ∧ c ≤ len ∧ c ≤ 255)
  | (9, a, b, c) => decide (a < nr ∧ b ≤ 8 ∧ c = 0)
  | (10, a, b, c) => decide (a < nr ∧ b < nr ∧ c < nr)
  | (11, a, b, c) => decide (a < nr ∧ b < nr ∧ c < nr)
  | (14, a, b, c) => decide (a < nr ∧ b = 0 ∧ c = 0)
  | (20, a, b, c) => decide (a < nr ∧ b = 0 ∧ c = 0)
  | _ => false
def okCode (nr : Nat) (C : List B.In) : Prop := 2 ≤ nr ∧ nr ≤ 8 ∧ 1 ≤ C.length ∧ C.length ≤ 200 ∧ C.all (okIn nr C.length) = true

/-- Events lie in a list. -/
def Evs (w : World) (ad : Option Addr) (len : Nat) (ev : List B.Ev) : Prop := len = ev.length ∧ (ev ≠ [] → ∃ g T fr cur, ad = some ⟨g, 0, none⟩ ∧ w.heap[g]? = some (.cells cur T fr) ∧
  ∀ i x, ev[i]? = some x → cur[i * 3]? = some (.int .i64 (x.1 : Int)) ∧ cur[i * 3 + 1]? = some (.int .i64 1) ∧ cur[i * 3 + 2]? = some (.int .i64 x.2))

abbrev MachT := World → Nat → (Nat → Prop) → List B.In → Nat → Nat → Nat → B.St → Nat → Prop

def LoadOk (Good : World → Prop) (Mach : MachT) : Prop := ∀ (C : List B.In) (nr n q wk : Nat) (w : World), okCode nr C → 1 ≤ n → n ≤ 200 → 1 ≤ q → q ≤ 50 → 1 ≤ wk → wk ≤ 50 → Good w →
  Calls Tryz.prog 23 #[.string (txt (1 :: nr :: C.length :: flat C)), .agg #[.int .i64 n, .int .i64 q, .int .i64 wk, .int .i64 1]] w fun e w' =>
    ∃ mb F, e = .returned (.tuple #[P0 mb, .agg #[.int .i64 0, .int .i64 0]]) ∧ Below w.heap.size w w' ∧ (∀ k, F k → w.heap.size ≤ k ∧ k < w'.heap.size) ∧ Mach w' mb F C nr n q (0, fun _ => (0, 0), fun _ => []) 0

def TurnOk (Mach : MachT) : Prop := ∀ (C : List B.In) (nr n q mb : Nat) (F : Nat → Prop) (s : B.St) (w : World), Mach w mb F C nr n q s 0 →
  Calls Tryz.prog 24 #[P0 mb, .int .i64 0, .slice none 0 0] w fun e w' =>
    ∃ F' s' r ev ad len cap, e = .returned (.slice ad len cap) ∧ len ≤ maxLen ∧ Evs w' ad len ev ∧ Only F w w' ∧ (∀ k, F' k → F k ∨ (w.heap.size ≤ k ∧ k < w'.heap.size)) ∧ B.Runs C nr n q s s' r ev ∧ (r < 3 → Mach w' mb F' C nr n q s' r)

def TurnOff (Mach : MachT) : Prop := ∀ (C : List B.In) (nr n q mb : Nat) (F : Nat → Prop) (s : B.St) (r : Nat) (w : World), r ≠ 0 → Mach w mb F C nr n q s r →
  Calls Tryz.prog 24 #[P0 mb, .int .i64 0, .slice none 0 0] w fun e w' =>
    ∃ F' ad cap, e = .returned (.slice ad 0 cap) ∧ Only F w w' ∧ (∀ k, F' k → F k ∨ (w.heap.size ≤ k ∧ k < w'.heap.size)) ∧ Mach w' mb F' C nr n q s r

def StateOk (Mach : MachT) : Prop := ∀ (C : List B.In) (nr n q mb : Nat) (F : Nat → Prop) (s : B.St) (r : Nat) (w : World), Mach w mb F C nr n q s r →
  Calls Tryz.prog 25 #[P0 mb] w fun e w' => e = .returned (.int .i64 (if r = 0 then 1 else if r = 1 then 4 else 5)) ∧ Only F w w'

def KeepOk (Mach : MachT) : Prop := ∀ (C : List B.In) (nr n q mb : Nat) (F : Nat → Prop) (s : B.St) (r : Nat) (w w' : World), Mach w mb F C nr n q s r → (∀ k, F k → w'.heap[k]? = w.heap[k]?) → Mach w' mb F C nr n q s r

def GoodOk (Good : World → Prop) : Prop := ∀ w w', Good w → Below w.heap.size w w' → Good w'

def Iface (Good : World → Prop) (Mach : MachT) : Prop := LoadOk Good Mach ∧ TurnOk Mach ∧ TurnOff Mach ∧ StateOk Mach ∧ KeepOk Mach ∧ GoodOk Good

theorem txt_cons (l : List Nat) : ({ data := #[1] } : ByteArray) ++ txt l = txt (1 :: l) := by
  unfold txt
  apply ByteArray.ext
  simp

/-- What lies in an event's place. -/
theorem Evs.cells {w : World} {ad : Option Addr} {len : Nat} {ev : List B.Ev} (h : Evs w ad len ev) (hne : ev ≠ []) : ∃ g, ad = some ⟨g, 0, none⟩ ∧ g < w.heap.size ∧ ∀ i x, ev[i]? = some x → w.cell? ⟨g, i * 3, none⟩ = some (.int .i64 (x.1 : Int)) ∧ w.cell? ⟨g, i * 3 + 1, none⟩ = some (.int .i64 1) ∧ w.cell? ⟨g, i * 3 + 2, none⟩ = some (.int .i64 x.2) := by
  obtain ⟨g, T, fr, cur, h1, h2, h3⟩ := h.2 hne
  refine ⟨g, h1, heap_lt h2, fun i x hx => ?_⟩
  obtain ⟨a, b, c⟩ := h3 i x hx
  exact ⟨by simp [World.cell?, h2, a], by simp [World.cell?, h2, b], by simp [World.cell?, h2, c]⟩

end Go.Proofs.YtnjiinbhbjpfkaaGreatDoor

/-
  The machine of one task, with the time: Sleep and Now.
-/
namespace Go.Proofs.YtnjiinbhbjpfkaaGreatDoor

namespace B
/-- What an instruction does at a time: 4: the task sleeps; 5: it goes behind the queue. -/
def Does2 (clk : Int) (nr n : Nat) (i : In) (s s' : St) (r : Nat) (ev : List Ev) : Prop :=
  match i.1 with
  | 16 => r = 5 ∧ ev = [] ∧ s' = (s.1 + 1, s.2.1, s.2.2)
  | 17 => if (s.2.1 i.2.1).1 = 0 then r = 4 ∧ ev = [] ∧ s' = (s.1 + 1, s.2.1, s.2.2) else r = 3
  | 22 => r = 0 ∧ ev = [] ∧ s' = (s.1 + 1, set s.2.1 i.2.1 (0, clk), s.2.2)
  | _ => Does nr n i s s' r ev
def Step2 (clk : Int) (C : List In) (nr n : Nat) (s s' : St) (r : Nat) (ev : List Ev) : Prop :=
  match C[s.1]? with
  | some i => Does2 clk nr n i s s' r ev
  | none => r = 1 ∧ ev = [(2, 0)]
def Runs2 (clk : Int) (C : List In) (nr n : Nat) : Nat → St → St → Nat → List Ev → Prop
  | 0, s, s', r, ev => s' = s ∧ r = 0 ∧ ev = []
  | m + 1, s, s', r, ev => ∃ s1 r1 ev1, Step2 clk C nr n s s1 r1 ev1 ∧ ((r1 = 0 ∧ ∃ ev2, Runs2 clk C nr n m s1 s' r ev2 ∧ ev = ev1 ++ ev2) ∨ (r1 ≠ 0 ∧ r = r1 ∧ ev = ev1 ∧ (r1 = 4 → s' = s1)))
/-- What an instruction behind which the machine goes on lets the collector know. -/
def Kdo (nr n : Nat) (i : In) (s s' : St) (kd kd' : Kd) : Prop :=
  match i.1 with
  | 9 => ∃ kd1 p, 1 ≤ p ∧ p ≤ n ∧ kd1.on p = false ∧ kd' = laid kd1 p ∧ s' = (s.1 + 1, set s.2.1 i.2.1 (p, 0), lay s.2.2 p (List.replicate i.2.2.1 (0, 0))) ∧
      (kd1 = kd ∨ ((∀ p, 1 ≤ p → p ≤ n → kd.on p = true) ∧ kd1.cy = none ∧ kd1.un = kd.un ∧ kd1.fo = kd.fo + 1 ∧ kd1.cc = kd.cc ∧ ∀ p, 1 ≤ p → p ≤ n → (kd1.on p = true ↔ Reach nr s p)))
  | 11 => kd' = told kd ((s.2.2 (s.2.1 i.2.1).1).getD (s.2.1 i.2.2.1).2.toNat (0, 0))
  | _ => kd' = kd
/-- The same, with the collector. -/
def Step3 (clk : Int) (C : List In) (nr n : Nat) (s : St) (kd : Kd) (s' : St) (kd' : Kd) (r : Nat) (ev : List Ev) : Prop :=
  Step2 clk C nr n s s' r ev ∧ (r = 0 ∨ r = 4 ∨ r = 5 → ∀ i, C[s.1]? = some i → Kdo nr n i s s' kd kd')
def Runs3 (clk : Int) (C : List In) (nr n : Nat) : Nat → St → Kd → St → Kd → Nat → List Ev → Prop
  | 0, s, kd, s', kd', r, ev => s' = s ∧ kd' = kd ∧ r = 0 ∧ ev = []
  | m + 1, s, kd, s', kd', r, ev => ∃ s1 kd1 r1 ev1, Step3 clk C nr n s kd s1 kd1 r1 ev1 ∧ ((r1 = 0 ∧ ∃ ev2, Runs3 clk C nr n m s1 kd1 s' kd' r ev2 ∧ ev = ev1 ++ ev2) ∨ (r1 ≠ 0 ∧ r = r1 ∧ ev = ev1 ∧ (r1 = 4 ∨ r1 = 5 → s' = s1 ∧ kd' = kd1)))
theorem runs_two {clk : Int} {C : List In} {nr n : Nat} : ∀ m s kd s' kd' r ev, Runs3 clk C nr n m s kd s' kd' r ev → Runs2 clk C nr n m s s' r ev := by
  intro m
  induction m with
  | zero => rintro s kd s' kd' r ev ⟨h1, _, h2, h3⟩; exact ⟨h1, h2, h3⟩
  | succ m ih =>
    rintro s kd s' kd' r ev ⟨s1, kd1, r1, ev1, h1, h2⟩
    refine ⟨s1, r1, ev1, h1.1, ?_⟩
    rcases h2 with ⟨a, ev2, b, c⟩ | ⟨a, b, c, d⟩
    · exact Or.inl ⟨a, ev2, ih _ _ _ _ _ _ b, c⟩
    · exact Or.inr ⟨a, b, c, fun e => (d (Or.inl e)).1⟩
theorem does_of {clk : Int} {nr n : Nat} {i : In} {s s' : St} {r : Nat} {ev : List Ev} (h0 : i.1 ≠ 16) (h1 : i.1 ≠ 17) (h2 : i.1 ≠ 22) (h : Does2 clk nr n i s s' r ev) : Does nr n i s s' r ev := by
  unfold Does2 at h
  split at h
  · exact absurd (by assumption) h0
  · exact absurd (by assumption) h1
  · exact absurd (by assumption) h2
  · exact h
theorem runs_of {clk : Int} {C : List In} {nr n : Nat} (hC : ∀ i, i ∈ C → i.1 ≠ 16 ∧ i.1 ≠ 17 ∧ i.1 ≠ 22) : ∀ m s s' r ev, Runs2 clk C nr n m s s' r ev → Runs C nr n m s s' r ev := by
  intro m
  induction m with
  | zero => intro s s' r ev h; exact h
  | succ m ih =>
    rintro s s' r ev ⟨s1, r1, ev1, h1, h2⟩
    refine ⟨s1, r1, ev1, ?_, ?_⟩
    · unfold Step2 at h1
      unfold Step
      cases hc : C[s.1]? with
      | none => rw [hc] at h1; exact h1
      | some i =>
        rw [hc] at h1
        have := hC i (List.mem_of_getElem? hc)
        exact does_of this.1 this.2.1 this.2.2 h1
    · rcases h2 with ⟨a, ev2, b, c⟩ | h2
      · exact Or.inl ⟨a, ev2, ih _ _ _ _ b, c⟩
      · exact Or.inr ⟨h2.1, h2.2.1, h2.2.2.1⟩
end B

/-- Instructions of a program of one function: Sleep and Now too. -/
def okIn2 (nr len : Nat) (i : B.In) : Bool :=
  match i with
  | (16, a, b, c) => decide (a = 0 ∧ b = 0 ∧ c = 0)
  | (17, a, b, c) => decide (a < nr ∧ b = 0 ∧ c = 0)
  | (22, a, b, c) => decide (a < nr ∧ b = 0 ∧ c = 0)
  | i => okIn nr len i
def okCode2 (nr : Nat) (C : List B.In) : Prop := 2 ≤ nr ∧ nr ≤ 8 ∧ 1 ≤ C.length ∧ C.length ≤ 200 ∧ C.all (okIn2 nr C.length) = true
theorem okIn_ops {nr L op a b c : Nat} (h : okIn nr L (op, a, b, c) = true) : op = 0 ∨ op = 1 ∨ op = 3 ∨ op = 6 ∨ op = 7 ∨ op = 8 ∨ op = 9 ∨ op = 10 ∨ op = 11 ∨ op = 14 ∨ op = 20 := by
  unfold okIn at h
  split at h
  all_goals first
    | (rename_i he; injection he with he _; omega)
    | cases h
theorem ok_two {nr len : Nat} {i : B.In} (h : okIn nr len i = true) : okIn2 nr len i = true := by
  obtain ⟨op, a, b, c⟩ := i
  have ho := okIn_ops h
  unfold okIn2
  split
  · rename_i he; injection he with he _; omega
  · rename_i he; injection he with he _; omega
  · rename_i he; injection he with he _; omega
  · exact h
theorem code_two {nr : Nat} {C : List B.In} (h : okCode nr C) : okCode2 nr C :=
  ⟨h.1, h.2.1, h.2.2.1, h.2.2.2.1, List.all_eq_true.2 (fun i hi => ok_two (List.all_eq_true.1 h.2.2.2.2 i hi))⟩
theorem code_plain {nr : Nat} {C : List B.In} (h : okCode nr C) : ∀ i, i ∈ C → i.1 ≠ 16 ∧ i.1 ≠ 17 ∧ i.1 ≠ 22 := by
  rintro ⟨op, a, b, c⟩ hi
  have := okIn_ops (List.all_eq_true.1 h.2.2.2.2 _ hi)
  simp only
  omega
theorem okIn2_ops {nr L op a b c : Nat} (h : okIn2 nr L (op, a, b, c) = true) : (op = 16 ∧ a = 0 ∧ b = 0 ∧ c = 0) ∨ (op = 17 ∧ a < nr ∧ b = 0 ∧ c = 0) ∨ (op = 22 ∧ a < nr ∧ b = 0 ∧ c = 0) ∨ okIn nr L (op, a, b, c) = true := by
  unfold okIn2 at h
  split at h
  · rename_i he; injection he with h1 h2; injection h2 with h2 h3; injection h3 with h3 h4
    subst h1 h2 h3 h4
    exact Or.inl ⟨rfl, by simpa using h⟩
  · rename_i he; injection he with h1 h2; injection h2 with h2 h3; injection h3 with h3 h4
    subst h1 h2 h3 h4
    exact Or.inr (Or.inl ⟨rfl, by simpa using h⟩)
  · rename_i he; injection he with h1 h2; injection h2 with h2 h3; injection h3 with h3 h4
    subst h1 h2 h3 h4
    exact Or.inr (Or.inr (Or.inl ⟨rfl, by simpa using h⟩))
  · exact Or.inr (Or.inr (Or.inr h))
end Go.Proofs.YtnjiinbhbjpfkaaGreatDoor
