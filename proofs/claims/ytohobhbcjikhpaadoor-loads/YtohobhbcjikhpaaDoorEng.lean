/-
  The program's engine is made: 'New' of package cells, 'enter', 'begin' and 'New' of package engine return and write into new memory alone, where the functions lie as the text says.
-/
import Derived.Test.YtohobhbcjikhpaaDoorActs
import Derived.Deep.RegionLawGrows
import Derived.Deep.DeepCutAuto
namespace Go.Proofs.YtohobhbcjikhpaaDoor
open Go.RowKit

theorem below_of_grown {w w' : World} {o : Obj} (h : (w.alloc o).grownBy w' (some w.heap.size)) : Below w.heap.size w w' :=
  ⟨h.os, h.tape, h.output, by have := h.size; simp at this; omega, fun k hk => (h.block k (by simp; omega) (by intro e; injection e; omega)).trans (Below.heap_alloc _ _ _ hk)⟩

theorem bcell {W w1 : World} (hb : Below W.heap.size W w1) : (∀ b o, b < W.heap.size → w1.cell? ⟨b, o, none⟩ = W.cell? ⟨b, o, none⟩) ∧ (∀ b o, b < W.heap.size → w1.frozen? ⟨b, o, none⟩ = W.frozen? ⟨b, o, none⟩) :=
  ⟨fun b o h => hb.cell (p := ⟨b, o, none⟩) h, fun b o h => hb.frozen (p := ⟨b, o, none⟩) h⟩

theorem Tab.below {w w' : World} (h : Tab w) (hb : Below w.heap.size w w') : Tab w' :=
  ⟨Nat.lt_of_lt_of_le h.1 hb.size, fun op ho => (hb.cell (p := ⟨0, op, none⟩) h.1).trans (h.2 op ho)⟩

theorem below_none {w w' : World} (h : w.grownBy w' none) : Below w.heap.size w w' := ⟨h.os, h.tape, h.output, h.size, fun k hk => h.block k hk (by intro e; cases e)⟩
theorem Tryd.info180 : (Tryd.prog.info? 180).map (fun i => (i.zero, i.size, i.bytes)) = some (some (.agg #[.int .u8 0, .int .i64 0, .slice none 0 0]), 3, 40) := by kernel_rfl
theorem Tryd.info92 : (Tryd.prog.info? 92).map (fun i => (i.zero, i.size, i.bytes)) = some (some (.agg #[.int .i64 0, .int .i64 0]), 2, 16) := by kernel_rfl
theorem Tryd.info121 : (Tryd.prog.info? 121).map (fun i => (i.zero, i.size, i.bytes)) = some (some (.pointer none), 1, 8) := by kernel_rfl
theorem Tryd.info122 : (Tryd.prog.info? 122).map (fun i => (i.zero, i.size, i.bytes)) = some (some (.pointer none), 1, 8) := by kernel_rfl

theorem row_form {w : World} {base size n : Nat} {e : TypeId} {v : Value} {xs : List Value} (h : w.ownsRow base e size v n xs) (hn : n ≠ 0) : ∃ g cap, v = .slice (some ⟨g, 0, none⟩) n cap := by
  rcases h.2 with ⟨_, h⟩ | ⟨g', cap', _, h, _⟩
  · omega
  · exact ⟨g', cap', h⟩

/-- A block that was there, behind new ones. -/

theorem grown_cell {w w1 : World} (h : w.grownBy w1 none) {a : Addr} (ha : a.block < w.heap.size) : w1.cell? a = w.cell? a ∧ w1.frozen? a = w.frozen? a :=
  ⟨World.cell?_of_block (h.block a.block ha (by intro e; cases e)), World.frozen?_of_block (h.block a.block ha (by intro e; cases e))⟩

theorem number_any (n : Int) (w : World) : Calls Tryd.prog 20 #[.int .i64 n] w fun e w' => e = .returned (.agg #[.int .i64 0, .int .i64 n]) ∧ w' = w.alloc (.cells #[.int .i64 0, .int .i64 n] 92) := by
  go_enter Tryd.func20, Tryd.ntmps20
  go_wp2
  refine bodyPost_ret (v := .agg #[.int .i64 0, .int .i64 n]) (by simp [results, Tryd.results20, go_sem]) rfl ⟨rfl, rfl⟩

theorem cellsNew_any (n : Nat) (k : Fn) (a c : Array Value) (hn : 1 ≤ n) (hn2 : n ≤ 200) (w : World) : Calls Tryd.prog 17 #[.int .i64 n, .func k a c] w fun e w' => (∃ sb, e = .returned (P0 sb)) ∧ Below w.heap.size w w' := by
  obtain ⟨i0, hi, hz0, hz1, hz2⟩ := info_parts Tryd.info180
  go_enter Tryd.func17, Tryd.ntmps17
  go_wp2_with (at_make; go_loud (refine wpList_make_full _ rfl _ _ 141 rfl 0 180 i0 _ 3 Tryd.underlying141 hi hz0 hz1 _ _ _ _ n rfl rfl rfl rfl (by rw [hz2]; omega) (by unfold maxLen; omega) (Nat.zero_le _) ?_))
  intro w3 hown hg3
  have hB3 := below_none hg3
  clear hg3 hown
  go_wp2_with fail
  go_ret
  exact ⟨⟨_, rfl⟩, hB3.alloc hB3.size _⟩

set_option maxRecDepth 100000 in
set_option maxHeartbeats 1000000 in
theorem enter_first (eb tb g n s0 c0 r0 : Nat) (a0 a1 b0 b1 : Int) (k : Fn) (ka kc : Array Value) (w : World)
    (h0 : w.cell? ⟨eb, 0, none⟩ = some (.slice (some ⟨g, 0, none⟩) n n)) (h1 : w.cell? ⟨g, 0, none⟩ = some (.int .i64 r0)) (h2 : w.cell? ⟨g, 1, none⟩ = some (.slice (some ⟨s0, 0, none⟩) c0 c0))
    (ht : w.cell? ⟨tb, 1, none⟩ = some (.slice none 0 0)) (hf : w.frozen? ⟨tb, 1, none⟩ = false) (he : eb < w.heap.size) (hg : g < w.heap.size) (htb : tb < w.heap.size) (hn : 1 ≤ n) (hr : 2 ≤ r0) (hr2 : r0 ≤ 8) :
    Calls Tryd.prog 57 #[P0 eb, P0 tb, .int .i64 0, .agg #[.int .i64 a0, .int .i64 a1], .agg #[.int .i64 b0, .int .i64 b1], .func k ka kc] w fun e w' => e = .returned (.tuple #[]) ∧ w.grownBy w' (some tb) := by
  obtain ⟨i0, hi, hz0, hz1, hz2⟩ := info_parts Tryd.info92
  have hn2 : (0 : Int) < (n : Int) := by omega
  have hn3 : 0 < n := by omega
  have he1 : eb < w.heap.size + 1 := by omega
  have he2 : eb < w.heap.size + 1 + 1 := by omega
  have hp1 : g < w.heap.size + 1 := by omega
  have hp2 : g < w.heap.size + 1 + 1 := by omega
  go_enter Tryd.func57, Tryd.ntmps57
  go_wp2_with (at_make; go_loud (refine wpList_make_full _ rfl _ _ 155 rfl 0 92 i0 _ 2 Tryd.underlying155 hi hz0 hz1 _ _ _ _ r0 rfl rfl rfl rfl (by rw [hz2]; omega) (by unfold maxLen; omega) (Nat.zero_le _) ?_))
  intro w3 hown hg3
  have hB3 := below_none hg3
  obtain ⟨hc, hfz⟩ := bcell hB3
  have hz := hB3.size
  simp at hz
  have KB3 : Hid (Below w.heap.size w w3) := ((((Below.refl _ _).alloc (Nat.le_refl _) _).alloc (by simp) _).alloc (by simp; omega) _).trans (hB3.mono (by simp; omega))
  have KW0 : Blk w3 (w.heap.size + 1 + 1 + 1) 92 (r0 * 2) := by have := Blk.owned hown; simpa using this
  have KW : Hid (Blk w3 (w.heap.size + 1 + 1 + 1) 92 (r0 * 2)) := KW0
  clear KW0
  have x0 : w3.cell? ⟨w.heap.size, 0, none⟩ = some (.int .i64 a0) := by rw [hc _ _ (by simp; omega)]; simp [go_sem]
  have x1 : w3.cell? ⟨w.heap.size, 1, none⟩ = some (.int .i64 a1) := by rw [hc _ _ (by simp; omega)]; simp [go_sem]
  have y0 : w3.cell? ⟨w.heap.size + 1, 0, none⟩ = some (.int .i64 b0) := by rw [hc _ _ (by simp)]; simp [go_sem]
  have y1 : w3.cell? ⟨w.heap.size + 1, 1, none⟩ = some (.int .i64 b1) := by rw [hc _ _ (by simp)]; simp [go_sem]
  have f1 : w3.cell? ⟨w.heap.size + 1 + 1, 1, none⟩ = some (.slice (some ⟨s0, 0, none⟩) c0 c0) := by rw [hc _ _ (by simp)]; simp [go_sem]
  have t1 : w3.cell? ⟨tb, 1, none⟩ = some (.slice none 0 0) := by rw [hc _ _ (by simp; omega)]; simp [go_sem, htb, show tb < w.heap.size + 1 by omega, show tb < w.heap.size + 1 + 1 by omega, ht]
  have t2 : w3.frozen? ⟨tb, 1, none⟩ = false := by rw [hfz _ _ (by simp; omega)]; simp [go_sem, htb, show tb < w.heap.size + 1 by omega, show tb < w.heap.size + 1 + 1 by omega, hf]
  obtain ⟨⟨v0, k0⟩, e0⟩ := KW.out.cell 0 (by omega)
  obtain ⟨⟨v1, k1⟩, e1⟩ := KW.out.cell 1 (by omega)
  obtain ⟨⟨v2, k2⟩, e2⟩ := KW.out.cell 2 (by omega)
  obtain ⟨⟨v3, k3⟩, e3⟩ := KW.out.cell 3 (by omega)
  have hq0 : (0 : Int) < (r0 : Int) := by omega
  have hq1 : (1 : Int) < (r0 : Int) := by omega
  clear hown hg3 hB3 hc hfz h0 h1 h2 ht hf
  go_wp2_with fail
  go_region
  all_goals
    generalize hw4 : World.drew ((((w3.setCell ⟨w.heap.size + 1 + 1 + 1, 0, none⟩ (.int .i64 a0)).setCell ⟨w.heap.size + 1 + 1 + 1, 1, none⟩ (.int .i64 a1)).setCell ⟨w.heap.size + 1 + 1 + 1, 2, none⟩ (.int .i64 b0)).setCell ⟨w.heap.size + 1 + 1 + 1, 3, none⟩ (.int .i64 b1)) = w4
    have hb : ∀ b, b ≠ w.heap.size + 1 + 1 + 1 → w4.heap[b]? = w3.heap[b]? := by
      intro b hb
      rw [← hw4]
      show (World.setCell _ _ _).heap[b]? = _
      repeat (rw [Below.heap_setCell _ _ _ _ (by simpa using hb)])
    have f1' : w4.cell? ⟨w.heap.size + 1 + 1, 1, none⟩ = some (.slice (some ⟨s0, 0, none⟩) c0 c0) := (World.cell?_of_block (hb _ (by simp))).trans f1
    have t1' : w4.cell? ⟨tb, 1, none⟩ = some (.slice none 0 0) := (World.cell?_of_block (hb _ (by simp; omega))).trans t1
    have t2' : w4.frozen? ⟨tb, 1, none⟩ = false := (World.frozen?_of_block (hb _ (by simp; omega))).trans t2
    have hz4 : w3.heap.size = w4.heap.size := by rw [← hw4]; simp [World.setCell, World.drew]
    have KG4 : Hid (w.grownBy w4 (some tb)) := by
      show World.grownBy _ _ _
      rw [← hw4]
      repeat (first | exact grown_of_below KB3.out | refine grown_drew ?_ | refine grown_setCell ?_ (Or.inr (by simp; omega)) _)
    have hm3 : tb < w4.heap.size := by omega
    have hm4 : w.heap.size + 1 + 1 < w4.heap.size := by omega
    clear hw4 hb f1 t1 t2 x0 x1 y0 y1 e0 e1 e2 e3 k0 k1 k2 k3 hq0 hq1 KB3 KW hz i0 hi hz0 hz1 hz2 hz4
    obtain ⟨j0, hj, hq0, hq1, hq2⟩ := info_parts Tryd.info121
    go_wp2_with fail
    go_region_law (refine step_append_grows rfl (.tmp 34) (.tmp 41) 144 rfl 121 j0 _ 1 8 Tryd.underlying144 hj hq0 hq1 hq2 rfl (by decide) none 0 0 [] (by simp [Act.eval]) (fun _ => ⟨rfl, rfl⟩) rfl (by intro _ h; cases h) ⟨w4.heap.size + 1, 0, none⟩ 1 1 [P0 w4.heap.size] (by simp [Act.eval]) rfl (by intro j u hj; match j, hj with | 0, hj => (simp at hj; subst hj; simp [Addr.add, go_sem])) (by simp [Value.oneCell']) (by omega) (by unfold maxLen; omega) (by omega) ?_; intro v' w6 hown hgrow; obtain ⟨g6, cap6, rfl⟩ := row_form hown (by omega); have hgn : w4.grownBy w6 none := grown_trans (by repeat (first | exact grown_refl _ _ | refine grown_drew ?_ | refine grown_alloc ?_ _)) hgrow; obtain ⟨t6, u6⟩ := grown_cell hgn (a := ⟨tb, 1, none⟩) hm3; rw [t1'] at t6; rw [t2'] at u6; have KG6 : Hid (w.grownBy w6 (some tb)) := grown_trans KG4.out (grown_of_none hgn); have hm7 : tb < w6.heap.size := Nat.lt_of_lt_of_le hm3 hgn.size; clear hown hgrow hgn t1' t2' KG4)
  all_goals
    go_wp2_with fail
    go_end0
    exact ⟨rfl, by repeat (first | exact KG6.out | refine grown_drew ?_ | refine grown_setCell ?_ (Or.inl rfl) _)⟩

set_option maxRecDepth 100000 in
set_option maxHeartbeats 2000000 in
theorem begin_first (eb g n s0 c0 r0 : Nat) (w : World)
    (h0 : w.cell? ⟨eb, 0, none⟩ = some (.slice (some ⟨g, 0, none⟩) n n)) (h1 : w.cell? ⟨g, 0, none⟩ = some (.int .i64 r0)) (h2 : w.cell? ⟨g, 1, none⟩ = some (.slice (some ⟨s0, 0, none⟩) c0 c0))
    (h6 : w.cell? ⟨eb, 31, none⟩ = some (.slice none 0 0)) (h7 : w.cell? ⟨eb, 32, none⟩ = some (.int .i64 0)) (h8 : w.cell? ⟨eb, 33, none⟩ = some (.slice none 0 0))
    (z6 : w.frozen? ⟨eb, 31, none⟩ = false) (z7 : w.frozen? ⟨eb, 32, none⟩ = false) (z8 : w.frozen? ⟨eb, 33, none⟩ = false) (he : eb < w.heap.size) (hg : g < w.heap.size) (hge : g ≠ eb) (hn : 1 ≤ n) (hr : 2 ≤ r0) (hr2 : r0 ≤ 8) :
    Calls Tryd.prog 19 #[P0 eb, .int .i64 0, .agg #[.int .i64 0, .int .i64 0], .agg #[.int .i64 0, .int .i64 0]] w fun e w' => e = .returned (.tuple #[]) ∧ w.grownBy w' (some eb) := by
  have H1 : Hid (w.cell? ⟨g, 0, none⟩ = some (.int .i64 r0)) := h1
  have H2 : Hid (w.cell? ⟨g, 1, none⟩ = some (.slice (some ⟨s0, 0, none⟩) c0 c0)) := h2
  have HG : Hid (g < w.heap.size ∧ g ≠ eb ∧ 1 ≤ n ∧ 2 ≤ r0 ∧ r0 ≤ 8) := ⟨hg, hge, hn, hr, hr2⟩
  clear h1 h2 hg hge hn hr hr2
  have he1 : eb < w.heap.size + 1 := by omega
  have he2 : eb < w.heap.size + 1 + 1 := by omega
  have he3 : eb < w.heap.size + 1 + 1 + 1 := by omega
  have he4 : eb < w.heap.size + 1 + 1 + 1 + 1 := by omega
  have he5 : eb < w.heap.size + 1 + 1 + 1 + 1 + 1 := by omega
  obtain ⟨j0, hj, hq0, hq1, hq2⟩ := info_parts Tryd.info122
  go_enter Tryd.func19, Tryd.ntmps19
  go_wp2_with fail
  generalize hw5 : ((((w.alloc (.cells #[P0 eb] 45)).alloc (.cells #[.int .i64 0, .int .i64 0] 92)).alloc (.cells #[.int .i64 0, .int .i64 0] 92)).alloc (.cells #[.int .i64 1, .slice none 0 0, .bool false, .int .i64 0, .int .i64 0] 146)).alloc (.cells #[.pointer (some ⟨w.heap.size + 1 + 1 + 1, 0, none⟩)] 122) = w5
  have hz5 : w5.heap.size = w.heap.size + 1 + 1 + 1 + 1 + 1 := by rw [← hw5]; simp
  have hbl : ∀ b, b < w.heap.size → w5.heap[b]? = w.heap[b]? := by
    intro b hb
    rw [← hw5]
    repeat (rw [Below.heap_alloc _ _ _ (by first | omega | (simp; omega))])
  have b0 : w5.cell? ⟨w.heap.size, 0, none⟩ = some (P0 eb) := by rw [← hw5]; simp [go_sem]
  have b1 : w5.cell? ⟨w.heap.size + 1, 0, none⟩ = some (.int .i64 0) ∧ w5.cell? ⟨w.heap.size + 1, 1, none⟩ = some (.int .i64 0) := by rw [← hw5]; simp [go_sem]
  have b2 : w5.cell? ⟨w.heap.size + 1 + 1, 0, none⟩ = some (.int .i64 0) ∧ w5.cell? ⟨w.heap.size + 1 + 1, 1, none⟩ = some (.int .i64 0) := by rw [← hw5]; simp [go_sem]
  have b3 : w5.cell? ⟨w.heap.size + 1 + 1 + 1, 1, none⟩ = some (.slice none 0 0) ∧ w5.frozen? ⟨w.heap.size + 1 + 1 + 1, 1, none⟩ = false := by rw [← hw5]; simp [go_sem]
  have b4 : w5.cell? ⟨w.heap.size + 1 + 1 + 1 + 1, 0, none⟩ = some (P0 (w.heap.size + 1 + 1 + 1)) := by rw [← hw5]; simp [go_sem]
  have KG5 : Hid (w.grownBy w5 (some eb)) := by
    show World.grownBy _ _ _
    rw [← hw5]
    repeat (first | exact grown_refl _ _ | refine grown_alloc ?_ _)
  obtain ⟨b1, b1'⟩ := b1
  obtain ⟨b2, b2'⟩ := b2
  obtain ⟨b3, b3'⟩ := b3
  rw [← World.cell?_of_block (a := ⟨eb, 0, none⟩) (hbl _ he)] at h0
  rw [← World.cell?_of_block (a := ⟨eb, 31, none⟩) (hbl _ he)] at h6
  rw [← World.cell?_of_block (a := ⟨eb, 32, none⟩) (hbl _ he)] at h7
  rw [← World.cell?_of_block (a := ⟨eb, 33, none⟩) (hbl _ he)] at h8
  rw [← World.frozen?_of_block (a := ⟨eb, 31, none⟩) (hbl _ he)] at z6
  rw [← World.frozen?_of_block (a := ⟨eb, 32, none⟩) (hbl _ he)] at z7
  rw [← World.frozen?_of_block (a := ⟨eb, 33, none⟩) (hbl _ he)] at z8
  clear hw5 hbl
  generalize hN : w.heap.size = N at *
  have l0 : N < w5.heap.size := by omega
  have l1 : N + 1 < w5.heap.size := by omega
  have l2 : N + 1 + 1 < w5.heap.size := by omega
  have l3 : N + 1 + 1 + 1 < w5.heap.size := by omega
  have l4 : N + 1 + 1 + 1 + 1 < w5.heap.size := by omega
  have l5 : eb < w5.heap.size := by omega
  go_cut [] from 17 to 26 (fun wx => ∃ (w6 : World) (g6 cap6 : Nat), wx = w6.setCell ⟨eb, 31, none⟩ (.slice (some ⟨g6, 0, none⟩) 1 cap6) ∧ w5.heap.size ≤ w6.heap.size ∧ Hid (w.grownBy w6 (some eb)) ∧ w6.cell? ⟨N, 0, none⟩ = some (P0 eb) ∧ w6.cell? ⟨N + 1, 0, none⟩ = some (.int .i64 0) ∧ w6.cell? ⟨N + 1, 1, none⟩ = some (.int .i64 0) ∧ w6.cell? ⟨N + 1 + 1, 0, none⟩ = some (.int .i64 0) ∧ w6.cell? ⟨N + 1 + 1, 1, none⟩ = some (.int .i64 0)
    ∧ w6.cell? ⟨N + 1 + 1 + 1, 1, none⟩ = some (.slice none 0 0) ∧ w6.frozen? ⟨N + 1 + 1 + 1, 1, none⟩ = false ∧ w6.cell? ⟨N + 1 + 1 + 1 + 1, 0, none⟩ = some (P0 (N + 1 + 1 + 1)) ∧ w6.cell? ⟨eb, 0, none⟩ = some (.slice (some ⟨g, 0, none⟩) n n) ∧ w6.cell? ⟨eb, 32, none⟩ = some (.int .i64 0) ∧ w6.cell? ⟨eb, 33, none⟩ = some (.slice none 0 0) ∧ w6.frozen? ⟨eb, 32, none⟩ = false ∧ w6.frozen? ⟨eb, 33, none⟩ = false)
  case first =>
    go_region_law (refine step_append_grows rfl (.tmp 21) (.tmp 23) 85 rfl 122 j0 _ 1 8 Tryd.underlying85 hj hq0 hq1 hq2 rfl (by decide) none 0 0 [] (by simp [Act.eval]) (fun _ => ⟨rfl, rfl⟩) rfl (by intro _ h; cases h) ⟨w5.heap.size, 0, none⟩ 1 1 [P0 (N + 1 + 1 + 1)] (by simp [Act.eval]) rfl (by intro j u hj; match j, hj with | 0, hj => (simp at hj; subst hj; simp [Addr.add, go_sem])) (by simp [Value.oneCell']) (by omega) (by unfold maxLen; omega) (by omega) ?_; intro v' w6 hown hgrow; obtain ⟨g6, cap6, rfl⟩ := row_form hown (by omega); have hgn : w5.grownBy w6 none := grown_trans (by repeat (first | exact grown_refl _ _ | refine grown_drew ?_ | refine grown_alloc ?_ _)) hgrow; clear hown hgrow; have hbk : ∀ a : Addr, a.block < w5.heap.size → w6.cell? a = w5.cell? a ∧ w6.frozen? a = w5.frozen? a := (fun a ha => grown_cell hgn ha); have hz6 := hgn.size; rw [← (hbk _ l0).1] at b0; rw [← (hbk _ l1).1] at b1; rw [← (hbk _ l1).1] at b1'; rw [← (hbk _ l2).1] at b2; rw [← (hbk _ l2).1] at b2'; rw [← (hbk _ l3).1] at b3; rw [← (hbk _ l3).2] at b3'; rw [← (hbk _ l4).1] at b4; rw [← (hbk _ l5).1] at h0; rw [← (hbk _ l5).1] at h6; rw [← (hbk _ l5).1] at h7; rw [← (hbk _ l5).1] at h8; rw [← (hbk _ l5).2] at z6; rw [← (hbk _ l5).2] at z7; rw [← (hbk _ l5).2] at z8; have KG6 : Hid (w.grownBy w6 (some eb)) := grown_trans KG5.out (grown_of_none hgn); clear hgn hbk KG5)
    all_goals
      go_wp2_with fail
      go_meet
      case rel => exact ⟨w6, g6, cap6, rfl, hz6, KG6, b0, b1, b1', b2, b2', b3, b3', b4, h0, h7, h8, z7, z8⟩
  case rest =>
    obtain ⟨w6, g6, cap6, rfl, hz6, KG6, c0', c1, c1', c2, c2', c3, c3', c4, d0, d7, d8, f7, f8⟩ := hcut
    clear b0 b1 b1' b2 b2' b3 b3' b4 h0 h6 h7 h8 z6 z7 z8 KG5
    have b0 := c0'
    have b3 := c3
    have b3' := c3'
    have b4 := c4
    have h0 := d0
    have h7 := d7
    have h8 := d8
    have z7 := f7
    have z8 := f8
    clear c0' c3 c3' c4 d0 d7 d8 f7 f8
    clear j0 hj hq0 hq1 hq2
    have m0 : N < w6.heap.size := by omega
    have m1 : N + 1 < w6.heap.size := by omega
    have m2 : N + 1 + 1 < w6.heap.size := by omega
    have m3 : N + 1 + 1 + 1 < w6.heap.size := by omega
    have m4 : N + 1 + 1 + 1 + 1 < w6.heap.size := by omega
    have m5 : eb < w6.heap.size := by omega
    have n0 : ¬ N = eb := by omega
    have n1 : ¬ N + 1 = eb := by omega
    have n2 : ¬ N + 1 + 1 = eb := by omega
    have n3 : ¬ N + 1 + 1 + 1 = eb := by omega
    have n4 : ¬ N + 1 + 1 + 1 + 1 = eb := by omega
    clear l0 l1 l2 l3 l4 l5 hz5 hz6
    go_wp2_with fail
    generalize hw7 : (w6.setCell ⟨eb, 31, none⟩ (.slice (some ⟨g6, 0, none⟩) 1 cap6)).setCell ⟨eb, 32, none⟩ (.int .i64 1) = w7
    have hb7 : ∀ b, b ≠ eb → w7.heap[b]? = w6.heap[b]? := by
      intro b hb
      rw [← hw7]
      repeat (rw [Below.heap_setCell _ _ _ _ (by simpa using hb)])
    have hz7 : w7.heap.size = w6.heap.size := by rw [← hw7]; simp [World.setCell]
    have KG7 : Hid (w.grownBy w7 (some eb)) := by
      show World.grownBy _ _ _
      rw [← hw7]
      exact grown_setCell (grown_setCell KG6.out (Or.inl rfl) _) (Or.inl rfl) _
    have q0 : w7.cell? ⟨eb, 0, none⟩ = some (.slice (some ⟨g, 0, none⟩) n n) := by rw [← hw7]; simp [go_sem, h0]
    have q8 : w7.cell? ⟨eb, 33, none⟩ = some (.slice none 0 0) := by rw [← hw7]; simp [go_sem, h8]
    have y8 : w7.frozen? ⟨eb, 33, none⟩ = false := by rw [← hw7]; simp [go_sem, z8]
    rw [← World.cell?_of_block (a := ⟨N, 0, none⟩) (hb7 _ n0)] at b0
    rw [← World.cell?_of_block (a := ⟨N + 1 + 1 + 1, 1, none⟩) (hb7 _ n3)] at b3
    rw [← World.frozen?_of_block (a := ⟨N + 1 + 1 + 1, 1, none⟩) (hb7 _ n3)] at b3'
    rw [← World.cell?_of_block (a := ⟨N + 1 + 1 + 1 + 1, 0, none⟩) (hb7 _ n4)] at b4
    have g1 : w7.cell? ⟨g, 0, none⟩ = some (.int .i64 r0) := (World.cell?_of_block (a := ⟨g, 0, none⟩) (KG7.out.block g (by have := HG.out; omega) (by have := HG.out; intro e; injection e; omega))).trans H1.out
    have g2 : w7.cell? ⟨g, 1, none⟩ = some (.slice (some ⟨s0, 0, none⟩) c0 c0) := (World.cell?_of_block (a := ⟨g, 1, none⟩) (KG7.out.block g (by have := HG.out; omega) (by have := HG.out; intro e; injection e; omega))).trans H2.out
    obtain ⟨hG1, hG2, hG3, hG4, hG5⟩ := HG.out
    clear hw7 hb7 KG6 h0 h7 h8 z7 z8 c1 c1' c2 c2'
    refine (enter_first eb (N + 1 + 1 + 1) g n s0 c0 r0 0 0 0 0 _ _ _ w7 q0 g1 g2 b3 b3' (by omega) (by omega) (by omega) hG3 hG4 hG5).mono ?_
    rintro e w8 ⟨rfl, hg8⟩
    have hb8 : ∀ b, b < w7.heap.size → b ≠ N + 1 + 1 + 1 → w8.heap[b]? = w7.heap[b]? := fun b hb hb2 => hg8.block b hb (by intro e; injection e; omega)
    have KG8 : Hid (w.grownBy w8 (some eb)) := by
      show World.grownBy _ _ _
      refine ⟨hg8.os.trans KG7.out.os, hg8.tape.trans KG7.out.tape, hg8.output.trans KG7.out.output, Nat.le_trans KG7.out.size hg8.size, fun k hk hr => ?_⟩
      rw [hb8 k (by omega) (by omega)]
      exact KG7.out.block k hk hr
    rw [← World.cell?_of_block (a := ⟨N, 0, none⟩) (hb8 N (by omega) (by omega))] at b0
    rw [← World.cell?_of_block (a := ⟨N + 1 + 1 + 1 + 1, 0, none⟩) (hb8 (N + 1 + 1 + 1 + 1) (by omega) (by omega))] at b4
    rw [← World.cell?_of_block (a := ⟨eb, 33, none⟩) (hb8 eb (by omega) (by omega))] at q8
    rw [← World.frozen?_of_block (a := ⟨eb, 33, none⟩) (hb8 eb (by omega) (by omega))] at y8
    have hz8 : w7.heap.size ≤ w8.heap.size := hg8.size
    have m0' : N < w8.heap.size := by omega
    have m4' : N + 1 + 1 + 1 + 1 < w8.heap.size := by omega
    have m5' : eb < w8.heap.size := by omega
    clear hg8 hb8 KG7 q0 g1 g2 b3 b3' m0 m1 m2 m3 m4 m5 hz7
    obtain ⟨j0, hj, hq0, hq1, hq2⟩ := info_parts Tryd.info122
    go_wp2_with fail
    go_region_law (refine step_append_grows rfl (.tmp 45) (.tmp 47) 85 rfl 122 j0 _ 1 8 Tryd.underlying85 hj hq0 hq1 hq2 rfl (by decide) none 0 0 [] (by simp [Act.eval]) (fun _ => ⟨rfl, rfl⟩) rfl (by intro _ h; cases h) ⟨w8.heap.size, 0, none⟩ 1 1 [P0 (N + 1 + 1 + 1)] (by simp [Act.eval]) rfl (by intro j u hj; match j, hj with | 0, hj => (simp at hj; subst hj; simp [Addr.add, go_sem])) (by simp [Value.oneCell']) (by omega) (by unfold maxLen; omega) (by omega) ?_; intro v' w9 hown hgrow; obtain ⟨g9, cap9, rfl⟩ := row_form hown (by omega); have hgn : w8.grownBy w9 none := grown_trans (by repeat (first | exact grown_refl _ _ | refine grown_drew ?_ | refine grown_alloc ?_ _)) hgrow; clear hown hgrow; rw [← (grown_cell hgn (a := ⟨N, 0, none⟩) m0').1] at b0; rw [← (grown_cell hgn (a := ⟨eb, 33, none⟩) m5').1] at q8; rw [← (grown_cell hgn (a := ⟨eb, 33, none⟩) m5').2] at y8; have hz9 := hgn.size; have m9 : eb < w9.heap.size := (by omega); have KG9 : Hid (w.grownBy w9 (some eb)) := grown_trans KG8.out (grown_of_none hgn); clear hgn KG8)
    all_goals
      go_wp2_with fail
      go_end0
      exact ⟨rfl, by repeat (first | exact KG9.out | refine grown_drew ?_ | refine grown_setCell ?_ (Or.inl rfl) _)⟩

end Go.Proofs.YtohobhbcjikhpaaDoor
