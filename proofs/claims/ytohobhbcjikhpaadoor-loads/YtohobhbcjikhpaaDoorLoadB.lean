/-
  The document's Load tells what 'told' says, for every text and configuration.
-/
import Derived.Test.YtohobhbcjikhpaaDoorSpawn
namespace Go.Proofs.YtohobhbcjikhpaaDoor
open Go.RowKit

set_option maxRecDepth 100000 in
set_option maxHeartbeats 1000000 in
theorem loadB_good (s : ByteArray) (c0 c1 c2 c3 : Int) (w : World) (hs : s.size ≤ maxLen) (hs2 : s.size ≤ 140737488355328)
    (g0 : 1 ≤ c0) (g1 : c0 ≤ 200) (g2 : 1 ≤ c1) (g3 : c1 ≤ 50) (g4 : 1 ≤ c2) (g5 : c2 ≤ 50) (g6 : 1 ≤ c3) (g7 : c3 ≤ 16) :
    Calls Tryd.prog 7 #[.string s, .agg #[.int .i64 c0, .int .i64 c1, .int .i64 c2, .int .i64 c3]] w fun e w' => Load2 e (told s c0 c1 c2 c3) ∧ Below w.heap.size w w' := by
  have HS : Hid (s.size ≤ maxLen) := hs
  have HOK : Hid (okC c0 c1 c2 c3 = true) := by
    show _ = _
    simp [okC, inB]; omega
  have b0 : decide (c0 < 1) = false := by simp; omega
  have b1 : decide (200 < c0) = false := by simp; omega
  have b2 : decide (c1 < 1) = false := by simp; omega
  have b3 : decide (50 < c1) = false := by simp; omega
  have b4 : decide (c2 < 1) = false := by simp; omega
  have b5 : decide (50 < c2) = false := by simp; omega
  have b6 : decide (c3 < 1) = false := by simp; omega
  have b7 : decide (16 < c3) = false := by simp; omega
  clear hs
  go_enter Tryd.func7, Tryd.ntmps7
  go_wp2_with fail
  refine (programB_any s _ HS.out hs2).mono ?_
  rintro e w1 ⟨hP, hB⟩
  obtain ⟨hc, hf⟩ := bcell hB
  have hz := hB.size
  simp at hz
  have KB1 : Hid (Below w.heap.size w w1) := (((Below.refl _ _).alloc (Nat.le_refl _) _).alloc (by simp) _).trans (hB.mono (by simp; omega))
  have d0 : w1.cell? ⟨w.heap.size + 1, 0, none⟩ = some (.int .i64 0) := by rw [hc _ _ (by simp)]; simp [go_sem]
  have d1 : w1.cell? ⟨w.heap.size + 1, 1, none⟩ = some (.int .i64 0) := by rw [hc _ _ (by simp)]; simp [go_sem]
  have e0 : w1.frozen? ⟨w.heap.size + 1, 0, none⟩ = false := by rw [hf _ _ (by simp)]; simp [go_sem]
  have e1 : w1.frozen? ⟨w.heap.size + 1, 1, none⟩ = false := by rw [hf _ _ (by simp)]; simp [go_sem]
  have a0 : w1.cell? ⟨w.heap.size, 0, none⟩ = some (.int .i64 c0) := by rw [hc _ _ (by simp; omega)]; simp [go_sem]
  have a1 : w1.cell? ⟨w.heap.size, 1, none⟩ = some (.int .i64 c1) := by rw [hc _ _ (by simp; omega)]; simp [go_sem]
  have a2 : w1.cell? ⟨w.heap.size, 2, none⟩ = some (.int .i64 c2) := by rw [hc _ _ (by simp; omega)]; simp [go_sem]
  have a3 : w1.cell? ⟨w.heap.size, 3, none⟩ = some (.int .i64 c3) := by rw [hc _ _ (by simp; omega)]; simp [go_sem]
  clear hc hf hB b0 b1 b2 b3 b4 b5 b6 b7 g0 g1 g2 g3 g4 g5 g6 g7
  rcases hP with ⟨hno, rfl⟩ | ⟨hyes, ad, n, c, r0, rfl, n1, ra, rb, rc, rd, re, rf', rg⟩
  · have HN : Hid ((M.prg s).2 = false) := hno
    clear hno
    generalize hP : (M.prg s).1 = P at *
    have HP : Hid ((M.prg s).1 = P) := hP
    clear hP
    go_wp2_with fail
    refine bodyPost_ret (v := .tuple #[.pointer none, .agg #[.int .i64 2, .int .i64 P]]) (by simp [results, Tryd.results7, go_sem, d0, d1]) rfl ⟨?_, ?_⟩
    · have e : told s c0 c1 c2 c3 = (2, (P : Int), false) := by unfold told; rw [if_pos HOK.out, HN.out, HP.out]; rfl
      rw [e]; exact ⟨_, Or.inr ⟨rfl, rfl⟩, rfl⟩
    · repeat (refine Below.setCell ?_ (by simp) _)
      exact KB1.out
  · have HN : Hid ((M.prg s).2 = true) := hyes
    clear hyes
    obtain ⟨pb, po, ps⟩ := ad
    simp only at rd re
    subst rd re
    have hpb : pb < w1.heap.size := rg
    have l1 : w.heap.size + 1 < w1.heap.size := by omega
    go_wp2_with fail
    refine (spawn_any w1.heap.size pb n c r0 _ (by simp [go_sem]) (by simp [go_sem, hpb, rc]) (by simp [go_sem]) (by simp [go_sem]) (by simp [go_sem]) (by simp [go_sem]) (by simp) (by simp; omega) n1 ra rb).mono ?_
    rintro e w2 ⟨⟨x, rfl⟩, hg⟩
    have hgs := hg.size
    simp at hgs
    have q0 : w2.cell? ⟨w.heap.size + 1, 0, none⟩ = some (.int .i64 0) := hg.cell (by simp [go_sem, l1, d0]) (by intro e; injection e with e; simp only at e; omega)
    have q1 : w2.cell? ⟨w.heap.size + 1, 1, none⟩ = some (.int .i64 0) := hg.cell (by simp [go_sem, l1, d1]) (by intro e; injection e with e; simp only at e; omega)
    have k0 : w2.frozen? ⟨w.heap.size + 1, 0, none⟩ = false := by
      rw [World.frozen?_of_block (hg.block (w.heap.size + 1) (by simp; omega) (by intro e; injection e; omega))]; simp [go_sem, l1, e0]
    have k1 : w2.frozen? ⟨w.heap.size + 1, 1, none⟩ = false := by
      rw [World.frozen?_of_block (hg.block (w.heap.size + 1) (by simp; omega) (by intro e; injection e; omega))]; simp [go_sem, l1, e1]
    have KB2 : Hid (Below w.heap.size w w2) := KB1.out.trans ((below_of_grown hg).mono (by omega))
    clear hg d0 d1 e0 e1 a0 a1 a2 a3 KB1 rc rf' rg hpb
    go_wp2_with fail
    refine bodyPost_ret (v := .tuple #[.pointer (some ⟨w1.heap.size, 0, none⟩), .agg #[.int .i64 0, .int .i64 0]]) (by simp [results, Tryd.results7, go_sem, q0, q1]) rfl ⟨?_, ?_⟩
    · have e : told s c0 c1 c2 c3 = (0, 0, true) := by unfold told; rw [if_pos HOK.out, HN.out]; rfl
      rw [e]; exact ⟨_, Or.inl ⟨rfl, _, rfl⟩, rfl⟩
    · repeat (refine Below.setCell ?_ (by simp) _)
      exact KB2.out

theorem told_bad {s : ByteArray} {c0 c1 c2 c3 : Int} (h : okC c0 c1 c2 c3 = false) : told s c0 c1 c2 c3 = (1, 0, false) := by unfold told; rw [if_neg (by rw [h]; simp)]

set_option maxHeartbeats 400000 in
theorem loadB_bad0 (s : ByteArray) (c0 c1 c2 c3 : Int) (w : World)  (g0 : c0 < 1) :
    Calls Tryd.prog 7 #[.string s, .agg #[.int .i64 c0, .int .i64 c1, .int .i64 c2, .int .i64 c3]] w fun e w' => Load2 e (1, 0, false) ∧ Below w.heap.size w w' := by
  have b0 : decide (c0 < 1) = true := decide_eq_true g0
  clear g0
  go_enter Tryd.func7, Tryd.ntmps7
  go_wp2_with fail
  refine bodyPost_ret (v := .tuple #[.pointer none, .agg #[.int .i64 1, .int .i64 0]]) (by simp [results, Tryd.results7, go_sem]) rfl ⟨⟨_, Or.inr ⟨rfl, rfl⟩, rfl⟩, ?_⟩
  exact ((Below.refl _ _).alloc (Nat.le_refl _) _).alloc (by simp) _

set_option maxHeartbeats 400000 in
theorem loadB_bad1 (s : ByteArray) (c0 c1 c2 c3 : Int) (w : World) (g0 : ¬ c0 < 1) (g1 : 200 < c0) :
    Calls Tryd.prog 7 #[.string s, .agg #[.int .i64 c0, .int .i64 c1, .int .i64 c2, .int .i64 c3]] w fun e w' => Load2 e (1, 0, false) ∧ Below w.heap.size w w' := by
  have b0 : decide (c0 < 1) = false := decide_eq_false g0
  have b1 : decide (200 < c0) = true := decide_eq_true g1
  clear g0 g1
  go_enter Tryd.func7, Tryd.ntmps7
  go_wp2_with fail
  refine bodyPost_ret (v := .tuple #[.pointer none, .agg #[.int .i64 1, .int .i64 0]]) (by simp [results, Tryd.results7, go_sem]) rfl ⟨⟨_, Or.inr ⟨rfl, rfl⟩, rfl⟩, ?_⟩
  exact ((Below.refl _ _).alloc (Nat.le_refl _) _).alloc (by simp) _

set_option maxHeartbeats 400000 in
theorem loadB_bad2 (s : ByteArray) (c0 c1 c2 c3 : Int) (w : World) (g0 : ¬ c0 < 1) (g1 : ¬ 200 < c0) (g2 : c1 < 1) :
    Calls Tryd.prog 7 #[.string s, .agg #[.int .i64 c0, .int .i64 c1, .int .i64 c2, .int .i64 c3]] w fun e w' => Load2 e (1, 0, false) ∧ Below w.heap.size w w' := by
  have b0 : decide (c0 < 1) = false := decide_eq_false g0
  have b1 : decide (200 < c0) = false := decide_eq_false g1
  have b2 : decide (c1 < 1) = true := decide_eq_true g2
  clear g0 g1 g2
  go_enter Tryd.func7, Tryd.ntmps7
  go_wp2_with fail
  refine bodyPost_ret (v := .tuple #[.pointer none, .agg #[.int .i64 1, .int .i64 0]]) (by simp [results, Tryd.results7, go_sem]) rfl ⟨⟨_, Or.inr ⟨rfl, rfl⟩, rfl⟩, ?_⟩
  exact ((Below.refl _ _).alloc (Nat.le_refl _) _).alloc (by simp) _

set_option maxHeartbeats 400000 in
theorem loadB_bad3 (s : ByteArray) (c0 c1 c2 c3 : Int) (w : World) (g0 : ¬ c0 < 1) (g1 : ¬ 200 < c0) (g2 : ¬ c1 < 1) (g3 : 50 < c1) :
    Calls Tryd.prog 7 #[.string s, .agg #[.int .i64 c0, .int .i64 c1, .int .i64 c2, .int .i64 c3]] w fun e w' => Load2 e (1, 0, false) ∧ Below w.heap.size w w' := by
  have b0 : decide (c0 < 1) = false := decide_eq_false g0
  have b1 : decide (200 < c0) = false := decide_eq_false g1
  have b2 : decide (c1 < 1) = false := decide_eq_false g2
  have b3 : decide (50 < c1) = true := decide_eq_true g3
  clear g0 g1 g2 g3
  go_enter Tryd.func7, Tryd.ntmps7
  go_wp2_with fail
  refine bodyPost_ret (v := .tuple #[.pointer none, .agg #[.int .i64 1, .int .i64 0]]) (by simp [results, Tryd.results7, go_sem]) rfl ⟨⟨_, Or.inr ⟨rfl, rfl⟩, rfl⟩, ?_⟩
  exact ((Below.refl _ _).alloc (Nat.le_refl _) _).alloc (by simp) _

set_option maxHeartbeats 400000 in
theorem loadB_bad4 (s : ByteArray) (c0 c1 c2 c3 : Int) (w : World) (g0 : ¬ c0 < 1) (g1 : ¬ 200 < c0) (g2 : ¬ c1 < 1) (g3 : ¬ 50 < c1) (g4 : c2 < 1) :
    Calls Tryd.prog 7 #[.string s, .agg #[.int .i64 c0, .int .i64 c1, .int .i64 c2, .int .i64 c3]] w fun e w' => Load2 e (1, 0, false) ∧ Below w.heap.size w w' := by
  have b0 : decide (c0 < 1) = false := decide_eq_false g0
  have b1 : decide (200 < c0) = false := decide_eq_false g1
  have b2 : decide (c1 < 1) = false := decide_eq_false g2
  have b3 : decide (50 < c1) = false := decide_eq_false g3
  have b4 : decide (c2 < 1) = true := decide_eq_true g4
  clear g0 g1 g2 g3 g4
  go_enter Tryd.func7, Tryd.ntmps7
  go_wp2_with fail
  refine bodyPost_ret (v := .tuple #[.pointer none, .agg #[.int .i64 1, .int .i64 0]]) (by simp [results, Tryd.results7, go_sem]) rfl ⟨⟨_, Or.inr ⟨rfl, rfl⟩, rfl⟩, ?_⟩
  exact ((Below.refl _ _).alloc (Nat.le_refl _) _).alloc (by simp) _

set_option maxHeartbeats 400000 in
theorem loadB_bad5 (s : ByteArray) (c0 c1 c2 c3 : Int) (w : World) (g0 : ¬ c0 < 1) (g1 : ¬ 200 < c0) (g2 : ¬ c1 < 1) (g3 : ¬ 50 < c1) (g4 : ¬ c2 < 1) (g5 : 50 < c2) :
    Calls Tryd.prog 7 #[.string s, .agg #[.int .i64 c0, .int .i64 c1, .int .i64 c2, .int .i64 c3]] w fun e w' => Load2 e (1, 0, false) ∧ Below w.heap.size w w' := by
  have b0 : decide (c0 < 1) = false := decide_eq_false g0
  have b1 : decide (200 < c0) = false := decide_eq_false g1
  have b2 : decide (c1 < 1) = false := decide_eq_false g2
  have b3 : decide (50 < c1) = false := decide_eq_false g3
  have b4 : decide (c2 < 1) = false := decide_eq_false g4
  have b5 : decide (50 < c2) = true := decide_eq_true g5
  clear g0 g1 g2 g3 g4 g5
  go_enter Tryd.func7, Tryd.ntmps7
  go_wp2_with fail
  refine bodyPost_ret (v := .tuple #[.pointer none, .agg #[.int .i64 1, .int .i64 0]]) (by simp [results, Tryd.results7, go_sem]) rfl ⟨⟨_, Or.inr ⟨rfl, rfl⟩, rfl⟩, ?_⟩
  exact ((Below.refl _ _).alloc (Nat.le_refl _) _).alloc (by simp) _

set_option maxHeartbeats 400000 in
theorem loadB_bad6 (s : ByteArray) (c0 c1 c2 c3 : Int) (w : World) (g0 : ¬ c0 < 1) (g1 : ¬ 200 < c0) (g2 : ¬ c1 < 1) (g3 : ¬ 50 < c1) (g4 : ¬ c2 < 1) (g5 : ¬ 50 < c2) (g6 : c3 < 1) :
    Calls Tryd.prog 7 #[.string s, .agg #[.int .i64 c0, .int .i64 c1, .int .i64 c2, .int .i64 c3]] w fun e w' => Load2 e (1, 0, false) ∧ Below w.heap.size w w' := by
  have b0 : decide (c0 < 1) = false := decide_eq_false g0
  have b1 : decide (200 < c0) = false := decide_eq_false g1
  have b2 : decide (c1 < 1) = false := decide_eq_false g2
  have b3 : decide (50 < c1) = false := decide_eq_false g3
  have b4 : decide (c2 < 1) = false := decide_eq_false g4
  have b5 : decide (50 < c2) = false := decide_eq_false g5
  have b6 : decide (c3 < 1) = true := decide_eq_true g6
  clear g0 g1 g2 g3 g4 g5 g6
  go_enter Tryd.func7, Tryd.ntmps7
  go_wp2_with fail
  refine bodyPost_ret (v := .tuple #[.pointer none, .agg #[.int .i64 1, .int .i64 0]]) (by simp [results, Tryd.results7, go_sem]) rfl ⟨⟨_, Or.inr ⟨rfl, rfl⟩, rfl⟩, ?_⟩
  exact ((Below.refl _ _).alloc (Nat.le_refl _) _).alloc (by simp) _

set_option maxHeartbeats 400000 in
theorem loadB_bad7 (s : ByteArray) (c0 c1 c2 c3 : Int) (w : World) (g0 : ¬ c0 < 1) (g1 : ¬ 200 < c0) (g2 : ¬ c1 < 1) (g3 : ¬ 50 < c1) (g4 : ¬ c2 < 1) (g5 : ¬ 50 < c2) (g6 : ¬ c3 < 1) (g7 : 16 < c3) :
    Calls Tryd.prog 7 #[.string s, .agg #[.int .i64 c0, .int .i64 c1, .int .i64 c2, .int .i64 c3]] w fun e w' => Load2 e (1, 0, false) ∧ Below w.heap.size w w' := by
  have b0 : decide (c0 < 1) = false := decide_eq_false g0
  have b1 : decide (200 < c0) = false := decide_eq_false g1
  have b2 : decide (c1 < 1) = false := decide_eq_false g2
  have b3 : decide (50 < c1) = false := decide_eq_false g3
  have b4 : decide (c2 < 1) = false := decide_eq_false g4
  have b5 : decide (50 < c2) = false := decide_eq_false g5
  have b6 : decide (c3 < 1) = false := decide_eq_false g6
  have b7 : decide (16 < c3) = true := decide_eq_true g7
  clear g0 g1 g2 g3 g4 g5 g6 g7
  go_enter Tryd.func7, Tryd.ntmps7
  go_wp2_with fail
  refine bodyPost_ret (v := .tuple #[.pointer none, .agg #[.int .i64 1, .int .i64 0]]) (by simp [results, Tryd.results7, go_sem]) rfl ⟨⟨_, Or.inr ⟨rfl, rfl⟩, rfl⟩, ?_⟩
  exact ((Below.refl _ _).alloc (Nat.le_refl _) _).alloc (by simp) _

theorem loadB_any (s : ByteArray) (c0 c1 c2 c3 : Int) (w : World) (hs : s.size ≤ maxLen) (hs2 : s.size ≤ 140737488355328) :
    Calls Tryd.prog 7 #[.string s, .agg #[.int .i64 c0, .int .i64 c1, .int .i64 c2, .int .i64 c3]] w fun e w' => Load2 e (told s c0 c1 c2 c3) ∧ Below w.heap.size w w' := by
  by_cases g0 : c0 < 1
  · rw [told_bad (by simp [okC, inB]; omega)]
    exact loadB_bad0 s c0 c1 c2 c3 w g0
  by_cases g1 : 200 < c0
  · rw [told_bad (by simp [okC, inB]; omega)]
    exact loadB_bad1 s c0 c1 c2 c3 w g0 g1
  by_cases g2 : c1 < 1
  · rw [told_bad (by simp [okC, inB]; omega)]
    exact loadB_bad2 s c0 c1 c2 c3 w g0 g1 g2
  by_cases g3 : 50 < c1
  · rw [told_bad (by simp [okC, inB]; omega)]
    exact loadB_bad3 s c0 c1 c2 c3 w g0 g1 g2 g3
  by_cases g4 : c2 < 1
  · rw [told_bad (by simp [okC, inB]; omega)]
    exact loadB_bad4 s c0 c1 c2 c3 w g0 g1 g2 g3 g4
  by_cases g5 : 50 < c2
  · rw [told_bad (by simp [okC, inB]; omega)]
    exact loadB_bad5 s c0 c1 c2 c3 w g0 g1 g2 g3 g4 g5
  by_cases g6 : c3 < 1
  · rw [told_bad (by simp [okC, inB]; omega)]
    exact loadB_bad6 s c0 c1 c2 c3 w g0 g1 g2 g3 g4 g5 g6
  by_cases g7 : 16 < c3
  · rw [told_bad (by simp [okC, inB]; omega)]
    exact loadB_bad7 s c0 c1 c2 c3 w g0 g1 g2 g3 g4 g5 g6 g7
  exact loadB_good s c0 c1 c2 c3 w hs hs2 (by omega) (by omega) (by omega) (by omega) (by omega) (by omega) (by omega) (by omega)

end Go.Proofs.YtohobhbcjikhpaaDoor
