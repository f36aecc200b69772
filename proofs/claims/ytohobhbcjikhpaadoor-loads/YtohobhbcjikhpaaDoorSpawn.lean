/-
  The document's 'frame' and 'spawn' return and write into the machine alone, where its program has a function of two to eight registers.
-/
import Derived.Test.YtohobhbcjikhpaaDoorProgB
import Derived.Test.YtohobhbcjikhpaaDoorLoadA
import Derived.Deep.RegionLawGrows
namespace Go.Proofs.YtohobhbcjikhpaaDoor
open Go.RowKit

theorem Tryd.info71 : (Tryd.prog.info? 71).map (fun i => (i.zero, i.size, i.bytes)) = some (some (.agg #[.int .i64 0, .int .i64 0]), 2, 16) := by kernel_rfl

set_option maxRecDepth 100000 in
set_option maxHeartbeats 1000000 in
theorem frame_any (mb pb n c r0 : Nat) (w : World) (h0 : w.cell? ⟨mb, 0, none⟩ = some (.slice (some ⟨pb, 0, none⟩) n c)) (h1 : w.cell? ⟨pb, 0, none⟩ = some (.int .i64 r0)) (hm : mb < w.heap.size) (hp : pb < w.heap.size) (hn : 1 ≤ n) (hr : 2 ≤ r0) (hr2 : r0 ≤ 8) :
    Calls Tryd.prog 23 #[.pointer (some ⟨mb, 0, none⟩), .int .i64 0, .agg #[.int .i64 0, .int .i64 0], .agg #[.int .i64 0, .int .i64 0], .int .i64 0] w fun e w' => (∃ a : Option Addr, e = .returned (.agg #[.int .i64 0, .slice a r0 r0, .int .i64 0, .int .i64 0])) ∧ Below w.heap.size w w' := by
  obtain ⟨i0, hi, hz0, hz1, hz2⟩ := info_parts Tryd.info71
  have hn2 : (0 : Int) < (n : Int) := by omega
  have hn3 : 0 < n := by omega
  have hm1 : mb < w.heap.size + 1 := by omega
  have hm2 : mb < w.heap.size + 1 + 1 := by omega
  have hp1 : pb < w.heap.size + 1 := by omega
  have hp2 : pb < w.heap.size + 1 + 1 := by omega
  go_enter Tryd.func23, Tryd.ntmps23
  go_wp2_with (at_make; go_loud (refine wpList_make_full _ rfl _ _ 103 rfl 0 71 i0 _ 2 Tryd.underlying103 hi hz0 hz1 _ _ _ _ r0 rfl rfl rfl rfl (by rw [hz2]; omega) (by unfold maxLen; omega) (Nat.zero_le _) ?_))
  intro w3 hown hg3
  have hB3 := below_none hg3
  obtain ⟨hc, hf⟩ := bcell hB3
  have hz := hB3.size
  simp at hz
  have KB3 : Hid (Below w.heap.size w w3) := ((((Below.refl _ _).alloc (Nat.le_refl _) _).alloc (by simp) _).alloc (by simp; omega) _).trans (hB3.mono (by simp; omega))
  have KW0 : Blk w3 (w.heap.size + 1 + 1 + 1) 71 (r0 * 2) := by have := Blk.owned hown; simpa using this
  have KW : Hid (Blk w3 (w.heap.size + 1 + 1 + 1) 71 (r0 * 2)) := KW0
  clear KW0
  have a0 : w3.cell? ⟨w.heap.size, 0, none⟩ = some (.int .i64 0) := by rw [hc _ _ (by simp; omega)]; simp [go_sem]
  have a1 : w3.cell? ⟨w.heap.size, 1, none⟩ = some (.int .i64 0) := by rw [hc _ _ (by simp; omega)]; simp [go_sem]
  have b0 : w3.cell? ⟨w.heap.size + 1, 0, none⟩ = some (.int .i64 0) := by rw [hc _ _ (by simp)]; simp [go_sem]
  have b1 : w3.cell? ⟨w.heap.size + 1, 1, none⟩ = some (.int .i64 0) := by rw [hc _ _ (by simp)]; simp [go_sem]
  have r0' : w3.cell? ⟨w.heap.size + 1 + 1, 0, none⟩ = some (.int .i64 0) := by rw [hc _ _ (by simp)]; simp [go_sem]
  have r1 : w3.cell? ⟨w.heap.size + 1 + 1, 1, none⟩ = some (.slice none 0 0) := by rw [hc _ _ (by simp)]; simp [go_sem]
  have r2 : w3.cell? ⟨w.heap.size + 1 + 1, 2, none⟩ = some (.int .i64 0) := by rw [hc _ _ (by simp)]; simp [go_sem]
  have r3 : w3.cell? ⟨w.heap.size + 1 + 1, 3, none⟩ = some (.int .i64 0) := by rw [hc _ _ (by simp)]; simp [go_sem]
  have z0 : w3.frozen? ⟨w.heap.size + 1 + 1, 0, none⟩ = false := by rw [hf _ _ (by simp)]; simp [go_sem]
  have z1 : w3.frozen? ⟨w.heap.size + 1 + 1, 1, none⟩ = false := by rw [hf _ _ (by simp)]; simp [go_sem]
  have z2 : w3.frozen? ⟨w.heap.size + 1 + 1, 2, none⟩ = false := by rw [hf _ _ (by simp)]; simp [go_sem]
  have z3 : w3.frozen? ⟨w.heap.size + 1 + 1, 3, none⟩ = false := by rw [hf _ _ (by simp)]; simp [go_sem]
  obtain ⟨⟨x0, c0⟩, e0⟩ := KW.out.cell 0 (by omega)
  obtain ⟨⟨x1, c1⟩, e1⟩ := KW.out.cell 1 (by omega)
  obtain ⟨⟨x2, c2⟩, e2⟩ := KW.out.cell 2 (by omega)
  obtain ⟨⟨x3, c3⟩, e3⟩ := KW.out.cell 3 (by omega)
  have hq0 : (0 : Int) < (r0 : Int) := by omega
  have hq1 : (1 : Int) < (r0 : Int) := by omega
  clear hown hg3 hB3 hc hf hz h0 h1
  go_wp2_with fail
  refine bodyPost_ret (v := .agg #[.int .i64 0, .slice (some ⟨w.heap.size + 1 + 1 + 1, 0, none⟩) r0 r0, .int .i64 0, .int .i64 0]) (by simp [results, Tryd.results23, go_sem, r0', r1, r2, r3]) rfl ⟨⟨_, rfl⟩, ?_⟩
  repeat (refine Below.setCell ?_ (by simp; omega) _)
  exact KB3.out
theorem eight_new (w : World) (a0 a1 a2 a3 a4 a5 a6 a7 : Value) (T : TypeId) : ∀ j u, [a0, a1, a2, a3, a4, a5, a6, a7][j]? = some u → (w.alloc (.cells #[a0, a1, a2, a3, a4, a5, a6, a7] T)).cell? ((⟨w.heap.size, 0, none⟩ : Addr).add j) = some u := by
  intro j u hj
  match j, hj with
  | 0, hj => simp at hj; subst hj; simp [Addr.add]
  | 1, hj => simp at hj; subst hj; simp [Addr.add]
  | 2, hj => simp at hj; subst hj; simp [Addr.add]
  | 3, hj => simp at hj; subst hj; simp [Addr.add]
  | 4, hj => simp at hj; subst hj; simp [Addr.add]
  | 5, hj => simp at hj; subst hj; simp [Addr.add]
  | 6, hj => simp at hj; subst hj; simp [Addr.add]
  | 7, hj => simp at hj; subst hj; simp [Addr.add]
theorem eight_new2 (w : World) (A B : Obj) (a0 a1 a2 a3 a4 a5 a6 a7 : Value) (T : TypeId) : ∀ j u, [a0, a1, a2, a3, a4, a5, a6, a7][j]? = some u → (((w.alloc A).alloc B).alloc (.cells #[a0, a1, a2, a3, a4, a5, a6, a7] T)).drew.cell? ((⟨w.heap.size + 1 + 1, 0, none⟩ : Addr).add j) = some u := by
  have h := eight_new ((w.alloc A).alloc B) a0 a1 a2 a3 a4 a5 a6 a7 T
  have e : ((w.alloc A).alloc B).heap.size = w.heap.size + 1 + 1 := by simp
  rw [e] at h
  exact h
theorem Tryd.info109 : (Tryd.prog.info? 109).map (fun i => (i.zero, i.size, i.bytes)) = some (some (.agg #[.slice none 0 0, .int .i64 0, .int .i64 0, .int .i64 0, .int .i64 0, .int .i64 0, .int .i64 0, .int .i64 0]), 8, 80) := by kernel_rfl
theorem Tryd.info3 : (Tryd.prog.info? 3).map (fun i => (i.zero, i.size, i.bytes)) = some (some (.int .i64 0), 1, 8) := by kernel_rfl

set_option maxRecDepth 100000 in
set_option maxHeartbeats 1000000 in
theorem spawn_any (mb pb n c r0 : Nat) (w : World) (h0 : w.cell? ⟨mb, 0, none⟩ = some (.slice (some ⟨pb, 0, none⟩) n c)) (h1 : w.cell? ⟨pb, 0, none⟩ = some (.int .i64 r0)) (h6 : w.cell? ⟨mb, 6, none⟩ = some (.slice none 0 0)) (h7 : w.cell? ⟨mb, 7, none⟩ = some (.slice none 0 0))
    (z6 : w.frozen? ⟨mb, 6, none⟩ = false) (z7 : w.frozen? ⟨mb, 7, none⟩ = false) (hm : mb < w.heap.size) (hp : pb < w.heap.size) (hn : 1 ≤ n) (hr : 2 ≤ r0) (hr2 : r0 ≤ 8) :
    Calls Tryd.prog 13 #[.pointer (some ⟨mb, 0, none⟩), .int .i64 0, .agg #[.int .i64 0, .int .i64 0], .agg #[.int .i64 0, .int .i64 0]] w fun e w' => (∃ x : Int, e = .returned (.int .i64 x)) ∧ w.grownBy w' (some mb) := by
  have hm1 : mb < w.heap.size + 1 := by omega
  have hm2 : mb < w.heap.size + 1 + 1 := by omega
  go_enter Tryd.func13, Tryd.ntmps13
  go_wp2_with fail
  refine (frame_any mb pb n c r0 ((w.alloc (.cells #[.int .i64 0, .int .i64 0] 71)).alloc (.cells #[.int .i64 0, .int .i64 0] 71)) (by simp [go_sem, hm, hm1, h0]) (by simp [go_sem, hp, show pb < w.heap.size + 1 by omega, h1]) (by simp; omega) (by simp; omega) hn hr hr2).mono ?_
  rintro e w1 ⟨⟨a, rfl⟩, hB⟩
  have hm3 : mb < w1.heap.size := by have := hB.size; simp at this; omega
  obtain ⟨hc, hf⟩ := bcell hB
  have k6 : w1.cell? ⟨mb, 6, none⟩ = some (.slice none 0 0) := by rw [hc _ _ (by simp; omega)]; simp [go_sem, hm, hm1, h6]
  have k7 : w1.cell? ⟨mb, 7, none⟩ = some (.slice none 0 0) := by rw [hc _ _ (by simp; omega)]; simp [go_sem, hm, hm1, h7]
  have y6 : w1.frozen? ⟨mb, 6, none⟩ = false := by rw [hf _ _ (by simp; omega)]; simp [go_sem, hm, hm1, z6]
  have y7 : w1.frozen? ⟨mb, 7, none⟩ = false := by rw [hf _ _ (by simp; omega)]; simp [go_sem, hm, hm1, z7]
  have KG : Hid (w.grownBy w1 (some mb)) := grown_trans (grown_trans (World.grownBy_alloc _ _ _) (World.grownBy_alloc _ _ _)) (grown_of_below hB)
  clear hc hf hB h0 h1 h6 h7 z6 z7
  obtain ⟨i0, hi, hz0, hz1, hz2⟩ := info_parts Tryd.info109
  have hm4 : mb < w1.heap.size + 1 := by omega
  have hm5 : mb < w1.heap.size + 1 + 1 := by omega
  have hm6 : mb < w1.heap.size + 1 + 1 + 1 := by omega
  go_wp2_with fail
  go_region_law (refine step_append_grows rfl (.tmp 19) (.tmp 23) 59 rfl 109 i0 _ 8 80 Tryd.underlying59 hi hz0 hz1 hz2 rfl (by decide) none 0 0 [] (by simp [Act.eval]) (fun _ => ⟨rfl, rfl⟩) rfl (by intro _ h; cases h) ⟨w1.heap.size + 1 + 1, 0, none⟩ 1 1 [.slice (some ⟨w1.heap.size + 1, 0, none⟩) 1 1, .int .i64 1, .int .i64 0, .int .i64 0, .int .i64 0, .int .i64 0, .int .i64 0, .int .i64 0] (by simp [Act.eval]) rfl (eight_new2 _ _ _ _ _ _ _ _ _ _ _ _) (by simp [Value.oneCell']) (by omega) (by unfold maxLen; omega) (by omega) ?_; intro v' w6 hown hgrow; obtain ⟨g6, cap6, rfl⟩ := row_form hown (by omega); have hgn : w1.grownBy w6 none := grown_trans (grown_drew (grown_trans (grown_trans (World.grownBy_alloc _ _ _) (World.grownBy_alloc _ _ _)) (World.grownBy_alloc _ _ _))) hgrow; obtain ⟨t6, u6⟩ := grown_cell hgn (a := ⟨mb, 6, none⟩) hm3; obtain ⟨t7, u7⟩ := grown_cell hgn (a := ⟨mb, 7, none⟩) hm3; rw [k6] at t6; rw [k7] at t7; rw [y6] at u6; rw [y7] at u7; have KG6 : Hid (w.grownBy w6 (some mb)) := grown_trans KG.out (grown_of_none hgn); have hm7 : mb < w6.heap.size := Nat.lt_of_lt_of_le hm3 hgn.size; clear hown hgrow hgn k6 k7 y6 y7 KG)
  all_goals
    clear i0 hi hz0 hz1 hz2 hm4 hm5 hm6
    obtain ⟨j0, hj, hq0, hq1, hq2⟩ := info_parts Tryd.info3
    go_wp2_with fail
    go_region_law (refine step_append_grows rfl (.tmp 31) (.tmp 37) 60 rfl 3 j0 _ 1 8 Tryd.underlying60 hj hq0 hq1 hq2 rfl (by decide) none 0 0 [] (by simp [Act.eval]) (fun _ => ⟨rfl, rfl⟩) rfl (by intro _ h; cases h) ⟨w6.heap.size, 0, none⟩ 1 1 [.int .i64 1] (by simp [Act.eval]) rfl (by intro j u hj; match j, hj with | 0, hj => (simp at hj; subst hj; simp [Addr.add, go_sem])) (by simp [Value.oneCell']) (by omega) (by unfold maxLen; omega) (by omega) ?_; intro v' w8 hown hgrow; obtain ⟨g8, cap8, rfl⟩ := row_form hown (by omega); obtain ⟨t8, u8⟩ := grown_cell hgrow (a := ⟨mb, 6, none⟩) (by simp [go_sem]; omega); obtain ⟨t9, u9⟩ := grown_cell hgrow (a := ⟨mb, 7, none⟩) (by simp [go_sem]; omega); simp [go_sem, t6, t7, u6, u7, hm7] at t8 t9 u8 u9; have KG8 : Hid (w.grownBy w8 (some mb)) := grown_trans (by repeat (first | exact KG6.out | refine grown_drew ?_ | refine grown_alloc ?_ _ | refine grown_setCell ?_ (Or.inl rfl) _)) (grown_of_none hgrow); clear hown hgrow t6 t7 u6 u7 KG6)
  all_goals
    go_wp2_with fail
    go_ret
    exact ⟨⟨_, rfl⟩, by repeat (first | exact KG8.out | refine grown_setCell ?_ (Or.inl rfl) _)⟩

end Go.Proofs.YtohobhbcjikhpaaDoor
