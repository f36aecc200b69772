/-
  The program's table of actions: what the closures are that it holds, and that nothing but new memory is written.
-/
import Derived.Test.YtbmjlbcaplgfmaaGreatDoorPartD
import Derived.Laws.ByValue
import Derived.Test.YtbmjlbcaplgfmaaGreatDoorPartA
import Derived.Test.YtbmjlbcaplgfmaaGreatDoorPartB
import Derived.Test.YtbmjlbcaplgfmaaGreatDoorPartC
namespace Go.Proofs.YtbmjlbcaplgfmaaGreatDoor
open Go.RowKit

theorem does_any (k : Nat) (c : Array Value) (w : World) : Calls Tryz.prog 98 #[Fv k c] w fun e w' => e = .returned (Fv 150 #[P0 w.heap.size]) ∧ w' = w.alloc (.cells #[Fv k c] 197) := by
  go_enter Tryz.func98, Tryz.ntmps98
  go_wp2
  go_ret
  exact ⟨rfl, rfl⟩

theorem gives_any (k : Nat) (c : Array Value) (w : World) : Calls Tryz.prog 76 #[Fv k c] w fun e w' => e = .returned (Fv 150 #[P0 (w.heap.size + 1)]) ∧ w' = (w.alloc (.cells #[Fv k c] 185)).alloc (.cells #[Fv 137 #[P0 w.heap.size]] 197) := by
  go_enter Tryz.func76, Tryz.ntmps76
  go_wp2_with fail
  refine (does_any _ _ _).mono ?_
  rintro e w1 ⟨rfl, rfl⟩
  go_wp2
  go_ret
  exact ⟨by simp, rfl⟩

theorem goesOn_any (k : Nat) (c : Array Value) (w : World) : Calls Tryz.prog 88 #[Fv k c] w fun e w' => e = .returned (Fv 150 #[P0 (w.heap.size + 1)]) ∧ w' = (w.alloc (.cells #[Fv k c] 191)).alloc (.cells #[Fv 142 #[P0 w.heap.size]] 197) := by
  go_enter Tryz.func88, Tryz.ntmps88
  go_wp2_with fail
  refine (does_any _ _ _).mono ?_
  rintro e w1 ⟨rfl, rfl⟩
  go_wp2
  go_ret
  exact ⟨by simp, rfl⟩

theorem makes_any (k : Nat) (c : Array Value) (w : World) : Calls Tryz.prog 92 #[Fv k c] w fun e w' => e = .returned (Fv 150 #[P0 (w.heap.size + 1)]) ∧ w' = (w.alloc (.cells #[Fv k c] 193)).alloc (.cells #[Fv 144 #[P0 w.heap.size]] 197) := by
  go_enter Tryz.func92, Tryz.ntmps92
  go_wp2_with fail
  refine (does_any _ _ _).mono ?_
  rintro e w1 ⟨rfl, rfl⟩
  go_wp2
  go_ret
  exact ⟨by simp, rfl⟩

theorem ofNumbers_any (k : Nat) (c : Array Value) (w : World) : Calls Tryz.prog 80 #[Fv k c] w fun e w' => e = .returned (Fv 140 #[P0 w.heap.size]) ∧ w' = w.alloc (.cells #[Fv k c] 188) := by
  go_enter Tryz.func80, Tryz.ntmps80
  go_wp2
  go_ret
  exact ⟨rfl, rfl⟩

theorem takes_any (k k2 : Nat) (c c2 : Array Value) (w : World) : Calls Tryz.prog 104 #[Fv k c, Fv k2 c2] w fun e w' => e = .returned (Fv 154 #[P0 w.heap.size, P0 (w.heap.size + 1)]) ∧ w' = (w.alloc (.cells #[Fv k c] 185)).alloc (.cells #[Fv k2 c2] 200) := by
  go_enter Tryz.func104, Tryz.ntmps104
  go_wp2
  go_ret
  exact ⟨by simp, rfl⟩

/-- The table, where its closures' blocks begin at b. -/
def acts (b : Nat) : Array Value := #[Fv 150 #[P0 (b + 1)], Fv 150 #[P0 (b + 3)], Fv 140 #[P0 (b + 4)], Fv 140 #[P0 (b + 5)], Fv 140 #[P0 (b + 6)], Fv 140 #[P0 (b + 7)], Fv 150 #[P0 (b + 9)], Fv 150 #[P0 (b + 11)], Fv 150 #[P0 (b + 13)], Fv 150 #[P0 (b + 15)], Fv 94 #[], Fv 95 #[], Fv 150 #[P0 (b + 17)], Fv 97 #[], Fv 150 #[P0 (b + 18)], Fv 101 #[], Fv 150 #[P0 (b + 19)], Fv 154 #[P0 (b + 20), P0 (b + 21)], Fv 154 #[P0 (b + 22), P0 (b + 23)], Fv 154 #[P0 (b + 24), P0 (b + 25)], Fv 154 #[P0 (b + 26), P0 (b + 27)], Fv 154 #[P0 (b + 28), P0 (b + 29)], Fv 150 #[P0 (b + 31)]]
/-- The blocks of the table's closures. -/
def actB (b : Nat) : List (Value × TypeId) := [(Fv 77 #[], 185), (Fv 137 #[P0 b], 197), (Fv 79 #[], 185), (Fv 137 #[P0 (b + 2)], 197), (Fv 81 #[], 188), (Fv 82 #[], 188), (Fv 83 #[], 188), (Fv 84 #[], 188), (Fv 86 #[], 185), (Fv 137 #[P0 (b + 8)], 197), (Fv 89 #[], 191), (Fv 142 #[P0 (b + 10)], 197), (Fv 90 #[], 191), (Fv 142 #[P0 (b + 12)], 197), (Fv 93 #[], 193), (Fv 144 #[P0 (b + 14)], 197), (Fv 96 #[], 193), (Fv 144 #[P0 (b + 16)], 197), (Fv 99 #[], 197), (Fv 102 #[], 197), (Fv 91 #[], 185), (Fv 105 #[], 200), (Fv 79 #[], 185), (Fv 106 #[], 200), (Fv 91 #[], 185), (Fv 107 #[], 200), (Fv 91 #[], 185), (Fv 108 #[], 200), (Fv 79 #[], 185), (Fv 109 #[], 200), (Fv 110 #[], 185), (Fv 137 #[P0 (b + 30)], 197)]
section
variable (k : Nat) (c : Array Value) (b : Nat) (w w0 : World) (l : List (Value × TypeId)) (h : Hid (w = laid1 w0 l)) (hz : Hid (w.heap.size = b))
theorem laid1_two (x y : Value × TypeId) : ((laid1 w0 l).alloc (.cells #[x.1] x.2)).alloc (.cells #[y.1] y.2) = laid1 w0 (l ++ [x, y]) := by
  induction l generalizing w0 with
  | nil => rfl
  | cons z r ih => exact ih _
theorem laid1_one (x : Value × TypeId) : (laid1 w0 l).alloc (.cells #[x.1] x.2) = laid1 w0 (l ++ [x]) := by
  induction l generalizing w0 with
  | nil => rfl
  | cons z r ih => exact ih _
include h hz
theorem gives_l : Calls Tryz.prog 76 #[Fv k c] w fun e w' => e = .returned (Fv 150 #[P0 (b + 1)]) ∧ Hid (w' = laid1 w0 (l ++ [(Fv k c, 185), (Fv 137 #[P0 b], 197)])) ∧ Hid (w'.heap.size = b + 2) := by
  refine (gives_any k c w).mono ?_
  rintro e w' ⟨rfl, rfl⟩
  have hz' := hz.out
  subst hz'
  refine ⟨rfl, ?_, ?_⟩
  · show _ = _; rw [← laid1_two, ← h.out]
  · show _ = _; simp
theorem goesOn_l : Calls Tryz.prog 88 #[Fv k c] w fun e w' => e = .returned (Fv 150 #[P0 (b + 1)]) ∧ Hid (w' = laid1 w0 (l ++ [(Fv k c, 191), (Fv 142 #[P0 b], 197)])) ∧ Hid (w'.heap.size = b + 2) := by
  refine (goesOn_any k c w).mono ?_
  rintro e w' ⟨rfl, rfl⟩
  have hz' := hz.out
  subst hz'
  refine ⟨rfl, ?_, ?_⟩
  · show _ = _; rw [← laid1_two, ← h.out]
  · show _ = _; simp
theorem makes_l : Calls Tryz.prog 92 #[Fv k c] w fun e w' => e = .returned (Fv 150 #[P0 (b + 1)]) ∧ Hid (w' = laid1 w0 (l ++ [(Fv k c, 193), (Fv 144 #[P0 b], 197)])) ∧ Hid (w'.heap.size = b + 2) := by
  refine (makes_any k c w).mono ?_
  rintro e w' ⟨rfl, rfl⟩
  have hz' := hz.out
  subst hz'
  refine ⟨rfl, ?_, ?_⟩
  · show _ = _; rw [← laid1_two, ← h.out]
  · show _ = _; simp
theorem ofNumbers_l : Calls Tryz.prog 80 #[Fv k c] w fun e w' => e = .returned (Fv 140 #[P0 b]) ∧ Hid (w' = laid1 w0 (l ++ [(Fv k c, 188)])) ∧ Hid (w'.heap.size = b + 1) := by
  refine (ofNumbers_any k c w).mono ?_
  rintro e w' ⟨rfl, rfl⟩
  have hz' := hz.out
  subst hz'
  refine ⟨rfl, ?_, ?_⟩
  · show _ = _; rw [← laid1_one, ← h.out]
  · show _ = _; simp
theorem does_l : Calls Tryz.prog 98 #[Fv k c] w fun e w' => e = .returned (Fv 150 #[P0 b]) ∧ Hid (w' = laid1 w0 (l ++ [(Fv k c, 197)])) ∧ Hid (w'.heap.size = b + 1) := by
  refine (does_any k c w).mono ?_
  rintro e w' ⟨rfl, rfl⟩
  have hz' := hz.out
  subst hz'
  refine ⟨rfl, ?_, ?_⟩
  · show _ = _; rw [← laid1_one, ← h.out]
  · show _ = _; simp
theorem takes_l (k2 : Nat) (c2 : Array Value) : Calls Tryz.prog 104 #[Fv k c, Fv k2 c2] w fun e w' => e = .returned (Fv 154 #[P0 b, P0 (b + 1)]) ∧ Hid (w' = laid1 w0 (l ++ [(Fv k c, 185), (Fv k2 c2, 200)])) ∧ Hid (w'.heap.size = b + 2) := by
  refine (takes_any k k2 c c2 w).mono ?_
  rintro e w' ⟨rfl, rfl⟩
  have hz' := hz.out
  subst hz'
  refine ⟨rfl, ?_, ?_⟩
  · show _ = _; rw [← laid1_two, ← h.out]
  · show _ = _; simp
end

set_option maxRecDepth 100000 in
set_option maxHeartbeats 8000000 in
theorem actions_any (w : World) : Calls Tryz.prog 52 #[] w fun e w' => e = .returned (.agg (acts (w.heap.size + 1))) ∧ ∃ w1, Hid (w1 = laid1 (w.alloc (.cells (Array.replicate 23 Value.nilFunc) 132)) (actB (w.heap.size + 1))) ∧ w' = w1.setCells w.heap.size 0 (acts (w.heap.size + 1)).toList := by
  go_enter Tryz.func52, Tryz.ntmps52
  go_wp2_with fail
  have hq0 : Hid (w.alloc (.cells (Array.replicate 23 Value.nilFunc) 132) = laid1 (w.alloc (.cells (Array.replicate 23 Value.nilFunc) 132)) []) := rfl
  have hs0 : Hid ((w.alloc (.cells (Array.replicate 23 Value.nilFunc) 132)).heap.size = w.heap.size + 1) := by show _ = _; simp
  refine (gives_l 77 #[] _ _ _ _ hq0 hs0).mono ?_
  rintro e w1 ⟨rfl, hq1, hs1⟩
  clear hq0 hs0
  go_wp2_with fail
  refine (gives_l 79 #[] _ _ _ _ hq1 hs1).mono ?_
  rintro e w2 ⟨rfl, hq2, hs2⟩
  clear hq1 hs1
  go_wp2_with fail
  refine (ofNumbers_l 81 #[] _ _ _ _ hq2 hs2).mono ?_
  rintro e w3 ⟨rfl, hq3, hs3⟩
  clear hq2 hs2
  go_wp2_with fail
  refine (ofNumbers_l 82 #[] _ _ _ _ hq3 hs3).mono ?_
  rintro e w4 ⟨rfl, hq4, hs4⟩
  clear hq3 hs3
  go_wp2_with fail
  refine (ofNumbers_l 83 #[] _ _ _ _ hq4 hs4).mono ?_
  rintro e w5 ⟨rfl, hq5, hs5⟩
  clear hq4 hs4
  go_wp2_with fail
  refine (ofNumbers_l 84 #[] _ _ _ _ hq5 hs5).mono ?_
  rintro e w6 ⟨rfl, hq6, hs6⟩
  clear hq5 hs5
  go_wp2_with fail
  refine (gives_l 86 #[] _ _ _ _ hq6 hs6).mono ?_
  rintro e w7 ⟨rfl, hq7, hs7⟩
  clear hq6 hs6
  go_wp2_with fail
  refine (goesOn_l 89 #[] _ _ _ _ hq7 hs7).mono ?_
  rintro e w8 ⟨rfl, hq8, hs8⟩
  clear hq7 hs7
  go_wp2_with fail
  refine (goesOn_l 90 #[] _ _ _ _ hq8 hs8).mono ?_
  rintro e w9 ⟨rfl, hq9, hs9⟩
  clear hq8 hs8
  go_wp2_with fail
  refine (makes_l 93 #[] _ _ _ _ hq9 hs9).mono ?_
  rintro e w10 ⟨rfl, hq10, hs10⟩
  clear hq9 hs9
  go_wp2_with fail
  refine (makes_l 96 #[] _ _ _ _ hq10 hs10).mono ?_
  rintro e w11 ⟨rfl, hq11, hs11⟩
  clear hq10 hs10
  go_wp2_with fail
  refine (does_l 99 #[] _ _ _ _ hq11 hs11).mono ?_
  rintro e w12 ⟨rfl, hq12, hs12⟩
  clear hq11 hs11
  go_wp2_with fail
  refine (does_l 102 #[] _ _ _ _ hq12 hs12).mono ?_
  rintro e w13 ⟨rfl, hq13, hs13⟩
  clear hq12 hs12
  go_wp2_with fail
  refine (takes_l 91 #[] _ _ _ _ hq13 hs13 105 #[]).mono ?_
  rintro e w14 ⟨rfl, hq14, hs14⟩
  clear hq13 hs13
  go_wp2_with fail
  refine (takes_l 79 #[] _ _ _ _ hq14 hs14 106 #[]).mono ?_
  rintro e w15 ⟨rfl, hq15, hs15⟩
  clear hq14 hs14
  go_wp2_with fail
  refine (takes_l 91 #[] _ _ _ _ hq15 hs15 107 #[]).mono ?_
  rintro e w16 ⟨rfl, hq16, hs16⟩
  clear hq15 hs15
  go_wp2_with fail
  refine (takes_l 91 #[] _ _ _ _ hq16 hs16 108 #[]).mono ?_
  rintro e w17 ⟨rfl, hq17, hs17⟩
  clear hq16 hs16
  go_wp2_with fail
  refine (takes_l 79 #[] _ _ _ _ hq17 hs17 109 #[]).mono ?_
  rintro e w18 ⟨rfl, hq18, hs18⟩
  clear hq17 hs17
  go_wp2_with fail
  refine (gives_l 110 #[] _ _ _ _ hq18 hs18).mono ?_
  rintro e w19 ⟨rfl, hq19, hs19⟩
  clear hq18 hs18
  simp only []
  iterate 4 (first | go_values | go_skip | go_guarded | go_step | go_upon | go_back)
  have hth : w19.there w.heap.size 0 (acts (w.heap.size + 1)).size := by
    have hb := laid1_below (actB (w.heap.size + 1)) (w.alloc (.cells (Array.replicate 23 Value.nilFunc) 132))
    have hbl : w19.heap[w.heap.size]? = some (.cells (Array.replicate 23 Value.nilFunc) 132 (0, 0)) := by
      rw [hq19.out]; exact (hb.block _ (by simp)).trans (heap_alloc_new w _)
    exact Blk.there (n := 23) (T := 132) ⟨_, hbl, by simp⟩ 0 _ (by simp [acts])
  refine wpList_store_mid rfl 132 (.tmp 0) (.tmp 20) rfl w.heap.size 0 (acts (w.heap.size + 1)) rfl rfl hth (by kernel_rfl) (by simp [acts, Value.oneCell']) ?_
  have HW5 : ∃ w5, w5 = w19.setCells w.heap.size 0 (acts (w.heap.size + 1)).toList := ⟨_, rfl⟩
  obtain ⟨w5, hw5⟩ := HW5
  have hld : (loadVar 132 ⟨w.heap.size, 0, none⟩).run Tryz.prog w5 = .ok (.agg (acts (w.heap.size + 1))) w5 := by
    have := run_loadVar_mid (P := Tryz.prog) w5 w.heap.size 0 132 (acts (w.heap.size + 1)).toList _ (by rw [hw5]; exact World.rangeAt_setCells_same _ _ _ _ (by simpa using hth)) Tryz.underlying132 rfl (by kernel_rfl)
    simpa using this
  rw [← hw5]
  have HQ : Hid (w19 = laid1 (w.alloc (.cells (Array.replicate 23 Value.nilFunc) 132)) (actB (w.heap.size + 1))) := hq19
  clear hq19 hs19 hth
  go_wp2_with fail
  refine bodyPost_ret (v := .agg (acts (w.heap.size + 1))) (results_cell Tryz.results52 _ rfl hld) rfl ⟨rfl, w19, HQ, hw5⟩

/-- The same, the block's number given, and the world behind by what lies in it. -/
theorem actions_b (b : Nat) (w : World) (hb : Hid (w.heap.size = b)) : Calls Tryz.prog 52 #[] w fun e w' => e = .returned (.agg #[Fv 150 #[P0 (b + 2)], Fv 150 #[P0 (b + 4)], Fv 140 #[P0 (b + 5)], Fv 140 #[P0 (b + 6)], Fv 140 #[P0 (b + 7)], Fv 140 #[P0 (b + 8)], Fv 150 #[P0 (b + 10)], Fv 150 #[P0 (b + 12)], Fv 150 #[P0 (b + 14)], Fv 150 #[P0 (b + 16)], Fv 94 #[], Fv 95 #[], Fv 150 #[P0 (b + 18)], Fv 97 #[], Fv 150 #[P0 (b + 19)], Fv 101 #[], Fv 150 #[P0 (b + 20)], Fv 154 #[P0 (b + 21), P0 (b + 22)], Fv 154 #[P0 (b + 23), P0 (b + 24)], Fv 154 #[P0 (b + 25), P0 (b + 26)], Fv 154 #[P0 (b + 27), P0 (b + 28)], Fv 154 #[P0 (b + 29), P0 (b + 30)], Fv 150 #[P0 (b + 32)]]) ∧ Below w.heap.size w w' ∧ w'.heap.size = b + 33 ∧ ∀ k x, (actB (b + 1))[k]? = some x → w'.heap[b + 1 + k]? = some (.cells #[x.1] x.2 (0, 0)) := by
  refine (actions_any w).mono ?_
  rintro e w' ⟨rfl, w1, h1, rfl⟩
  have hb' := hb.out
  subst hb'
  have hl := laid1_below (actB (w.heap.size + 1)) (w.alloc (.cells (Array.replicate 23 Value.nilFunc) 132))
  have hz := laid1_size (actB (w.heap.size + 1)) (w.alloc (.cells (Array.replicate 23 Value.nilFunc) 132))
  rw [← h1.out] at hl hz
  have hz' : w1.heap.size = w.heap.size + 33 := by rw [hz]; simp [actB]
  refine ⟨rfl, ?_, ?_, ?_⟩
  · have : w.grownBy (w1.setCells w.heap.size 0 (acts (w.heap.size + 1)).toList) none := grown_setCells _ _ _ _ _ (grown_trans (World.grownBy_alloc _ _ _) ⟨hl.os, hl.tape, hl.output, hl.size, fun k hk _ => hl.block k hk⟩) (Nat.le_refl _)
    exact ⟨this.os, this.tape, this.output, this.size, fun k hk => this.block k hk (by intro e; cases e)⟩
  · rw [← hz']; exact setCells_size _ _ _ _
  · intro k x hx
    rw [heap_setCells _ _ (by omega), h1.out]
    have := laid1_at (actB (w.heap.size + 1)) (w.alloc (.cells (Array.replicate 23 Value.nilFunc) 132)) k x hx
    simpa using this

end Go.Proofs.YtbmjlbcaplgfmaaGreatDoor

/-
  How a collector goes through what can be reached: marks, and a stack of places that are marked and not gone through. Nothing of the program is imported here.
-/
namespace Go.Proofs.YtbmjlbcaplgfmaaGreatDoor.B

/-- A value that is a number, or a cell at a place that is not free. -/
def Vok (kd : Nat → Bool) (n : Nat) (v : V) : Prop := v.1 = 0 ∨ (1 ≤ v.1 ∧ v.1 ≤ n ∧ kd v.1 = true ∧ v.2 = 0)
/-- Registers and slots hold such values. -/
def Held (kd : Nat → Bool) (nr n : Nat) (s : St) : Prop := (∀ i, i < nr → Vok kd n (s.2.1 i)) ∧ ∀ p, kd p = true → ∀ v, v ∈ s.2.2 p → Vok kd n v
theorem reach_kd {kd : Nat → Bool} {nr n : Nat} {s : St} (h : Held kd nr n s) {p : Nat} (hp : Reach nr s p) : kd p = true ∧ 1 ≤ p ∧ p ≤ n := by
  refine hp (fun p => kd p = true ∧ 1 ≤ p ∧ p ≤ n) (fun i hi h0 => ?_) (fun k hk v hv h0 => ?_)
  · rcases h.1 i hi with h1 | ⟨h1, h2, h3, _⟩
    · exact absurd h1 h0
    · exact ⟨h3, h1, h2⟩
  · rcases h.2 k hk.1 v hv with h1 | ⟨h1, h2, h3, _⟩
    · exact absurd h1 h0
    · exact ⟨h3, h1, h2⟩

def mark (m : Nat → Bool) (p : Nat) : Nat → Bool := fun k => if k = p then true else m k
theorem mark_at (m : Nat → Bool) (p : Nat) : mark m p p = true := if_pos rfl
theorem mark_off (m : Nat → Bool) (p k : Nat) (h : k ≠ p) : mark m p k = m k := if_neg h
theorem mark_up {m : Nat → Bool} {k : Nat} (p : Nat) (h : m k = true) : mark m p k = true := by unfold mark; split <;> simp [h]
/-- How many of the first n places are not marked. -/
def cnt (m : Nat → Bool) : Nat → Nat
  | 0 => 0
  | n + 1 => cnt m n + if m (n + 1) = true then 0 else 1
theorem cnt_mark_off (m : Nat → Bool) (p : Nat) : ∀ n, n < p → cnt (mark m p) n = cnt m n
  | 0, _ => rfl
  | n + 1, h => by rw [cnt, cnt, cnt_mark_off m p n (by omega), mark_off m p _ (by omega)]
theorem cnt_mark (m : Nat → Bool) (p : Nat) (hp : 1 ≤ p) (hm : m p = false) : ∀ n, p ≤ n → cnt (mark m p) n + 1 = cnt m n
  | 0, h => by omega
  | n + 1, h => by
    by_cases e : p = n + 1
    · subst e
      rw [cnt, cnt, mark_at, hm, cnt_mark_off m (n + 1) n (by omega)]
      simp
    · rw [cnt, cnt, mark_off m p _ (by omega)]
      have := cnt_mark m p hp hm n (by omega)
      omega
theorem cnt_all : ∀ n, cnt (fun _ => false) n = n
  | 0 => rfl
  | n + 1 => by rw [cnt, cnt_all n]; simp

/-- The marks so far: roots from the j-th on, and the values of 'rest', are not gone through yet. -/
def Marks (nr n : Nat) (s : St) (j : Nat) (rest : List V) (m : Nat → Bool) (st : List Nat) : Prop :=
  (∀ p, m p = true → Reach nr s p) ∧ (∀ p, p ∈ st → m p = true) ∧ (∀ i, i < nr → i < j → (s.2.1 i).1 ≠ 0 → m (s.2.1 i).1 = true) ∧
  (∀ p, m p = true → p ∉ st → ∀ v, v ∈ s.2.2 p → v.1 ≠ 0 → m v.1 = true ∨ v ∈ rest) ∧ st.length + cnt m n ≤ n

/-- What a visit does to the marks and to the stack. -/
def seen (m : Nat → Bool) (st : List Nat) (v : V) : (Nat → Bool) × List Nat := if v.1 ≠ 0 ∧ m v.1 = false then (mark m v.1, st ++ [v.1]) else (m, st)

theorem marks_none (nr n : Nat) (s : St) : Marks nr n s 0 [] (fun _ => false) [] :=
  ⟨fun _ h => (by cases h), fun _ h => (by simp at h), fun _ _ h => (by omega), fun _ h => (by cases h), by simp [cnt_all]⟩

theorem seen_sum {m : Nat → Bool} {st : List Nat} {v : V} {n : Nat} (hv : v.1 ≠ 0 → v.1 ≤ n) : (seen m st v).2.length + cnt (seen m st v).1 n = st.length + cnt m n := by
  unfold seen
  split
  · rename_i h
    have := cnt_mark m v.1 (by omega) h.2 n (hv h.1)
    simp; omega
  · rfl

/-- A visit, with any of the two reasons for it. -/
theorem marks_seen {nr n : Nat} {s : St} {j : Nat} {rest : List V} {m : Nat → Bool} {st : List Nat} {v : V} (h : Marks nr n s j rest m st) (hr : v.1 ≠ 0 → Reach nr s v.1) (hv : v.1 ≠ 0 → v.1 ≤ n) :
    Marks nr n s j rest (seen m st v).1 (seen m st v).2 ∧ (v.1 ≠ 0 → (seen m st v).1 v.1 = true) := by
  obtain ⟨h1, h2, h3, h4, h5⟩ := h
  have hs := seen_sum (m := m) (st := st) hv
  unfold seen at *
  by_cases c : v.1 ≠ 0 ∧ m v.1 = false
  · rw [if_pos c] at *
    refine ⟨⟨fun p hp => ?_, fun p hp => ?_, fun i hi hj h0 => mark_up _ (h3 i hi hj h0), fun p hp hn u hu h0 => ?_, by simp only at hs ⊢; omega⟩, fun _ => mark_at _ _⟩
    · by_cases e : p = v.1
      · rw [e]; exact hr c.1
      · simp only [mark_off m v.1 p e] at hp; exact h1 p hp
    · simp only [List.mem_append, List.mem_singleton] at hp
      rcases hp with hp | rfl
      · exact mark_up _ (h2 p hp)
      · exact mark_at _ _
    · simp only [List.mem_append, List.mem_singleton, not_or] at hn
      simp only [mark_off m v.1 p hn.2] at hp
      rcases h4 p hp hn.1 u hu h0 with h | h
      · exact Or.inl (mark_up _ h)
      · exact Or.inr h
  · rw [if_neg c] at *
    refine ⟨⟨h1, h2, h3, h4, h5⟩, fun h0 => ?_⟩
    cases hm : m v.1
    · exact absurd ⟨h0, hm⟩ c
    · exact hm

/-- A register is visited. -/
theorem marks_root {kd : Nat → Bool} {nr n : Nat} {s : St} {j : Nat} {m : Nat → Bool} {st : List Nat} (hH : Held kd nr n s) (hj : j < nr) (h : Marks nr n s j [] m st) :
    Marks nr n s (j + 1) [] (seen m st (s.2.1 j)).1 (seen m st (s.2.1 j)).2 := by
  have hr : (s.2.1 j).1 ≠ 0 → Reach nr s (s.2.1 j).1 := fun h0 => reach_reg j hj h0
  obtain ⟨⟨h1, h2, h3, h4, h5⟩, h6⟩ := marks_seen h hr (fun h0 => (reach_kd hH (hr h0)).2.2)
  refine ⟨h1, h2, fun i hi hij h0 => ?_, h4, h5⟩
  by_cases e : i = j
  · subst e; exact h6 h0
  · exact h3 i hi (by omega) h0

/-- The last of the stack is taken: its values are what is left. -/
theorem marks_pop {nr n : Nat} {s : St} {m : Nat → Bool} {st : List Nat} {p : Nat} (h : Marks nr n s nr [] m (st ++ [p])) : Marks nr n s nr (s.2.2 p) m st ∧ st.length + cnt m n < n ∧ Reach nr s p := by
  obtain ⟨h1, h2, h3, h4, h5⟩ := h
  simp at h5
  refine ⟨⟨h1, fun k hk => h2 k (by simp [hk]), h3, fun k hk hn v hv h0 => ?_, by omega⟩, by omega, h1 p (h2 p (by simp))⟩
  by_cases e : k = p
  · subst e; exact Or.inr hv
  · rcases h4 k hk (by simp [hn, e]) v hv h0 with h | h
    · exact Or.inl h
    · simp at h

/-- A slot is visited. -/
theorem marks_slot {kd : Nat → Bool} {nr n : Nat} {s : St} {p : Nat} {v : V} {rest : List V} {m : Nat → Bool} {st : List Nat} (hH : Held kd nr n s) (hp : Reach nr s p) (hv : v ∈ s.2.2 p) (h : Marks nr n s nr (v :: rest) m st) :
    Marks nr n s nr rest (seen m st v).1 (seen m st v).2 := by
  have hr : v.1 ≠ 0 → Reach nr s v.1 := fun h0 => reach_slot hp hv h0
  obtain ⟨⟨h1, h2, h3, h4, h5⟩, h6⟩ := marks_seen h hr (fun h0 => (reach_kd hH (hr h0)).2.2)
  refine ⟨h1, h2, h3, fun k hk hn u hu h0 => ?_, h5⟩
  rcases h4 k hk hn u hu h0 with h | h
  · exact Or.inl h
  · rcases List.mem_cons.1 h with rfl | h
    · exact Or.inl (h6 h0)
    · exact Or.inr h

/-- At the end just what can be reached is marked. -/
theorem marks_end {nr n : Nat} {s : St} {m : Nat → Bool} (h : Marks nr n s nr [] m []) (p : Nat) : m p = true ↔ Reach nr s p := by
  obtain ⟨h1, _, h3, h4, _⟩ := h
  refine ⟨h1 p, fun hp => hp (fun p => m p = true) (fun i hi h0 => h3 i hi hi h0) (fun k hk v hv h0 => ?_)⟩
  rcases h4 k hk (by simp) v hv h0 with h | h
  · exact h
  · simp at h

end Go.Proofs.YtbmjlbcaplgfmaaGreatDoor.B

/-
  What registers and slots hold, behind an instruction, a new cell and a collection. Nothing of the program is imported here.
-/
namespace Go.Proofs.YtbmjlbcaplgfmaaGreatDoor.B

theorem vok_num (kd : Nat → Bool) (n : Nat) (x : Int) : Vok kd n (0, x) := Or.inl rfl
theorem Vok.up {kd kd' : Nat → Bool} {n : Nat} {v : V} (h : Vok kd n v) (hu : ∀ k, kd k = true → kd' k = true) : Vok kd' n v := by
  rcases h with h | ⟨h1, h2, h3, h4⟩
  · exact Or.inl h
  · exact Or.inr ⟨h1, h2, hu _ h3, h4⟩
theorem held_none (nr n : Nat) : Held (fun _ => false) nr n (0, fun _ => (0, 0), fun _ => []) := ⟨fun _ _ => Or.inl rfl, fun _ h => by cases h⟩
theorem held_at {kd : Nat → Bool} {nr n : Nat} {s : St} (h : Held kd nr n s) (x : Nat) : Held kd nr n (x, s.2.1, s.2.2) := h
theorem held_set {kd : Nat → Bool} {nr n : Nat} {s : St} (h : Held kd nr n s) (x a : Nat) (v : V) (hv : Vok kd n v) : Held kd nr n (x, set s.2.1 a v, s.2.2) := by
  refine ⟨fun i hi => ?_, h.2⟩
  by_cases e : i = a
  · subst e; simp only [set_at]; exact hv
  · simp only [set_off _ _ _ _ e]; exact h.1 i hi
theorem held_put {kd : Nat → Bool} {nr n : Nat} {s : St} (h : Held kd nr n s) (x p i : Nat) (v : V) (hp : kd p = true) (hv : Vok kd n v) : Held kd nr n (x, s.2.1, lay s.2.2 p ((s.2.2 p).set i v)) := by
  refine ⟨h.1, fun k hk u hu => ?_⟩
  by_cases e : k = p
  · subst e
    simp only [lay_at] at hu
    rcases List.mem_or_eq_of_mem_set hu with hu | rfl
    · exact h.2 k hk u hu
    · exact hv
  · simp only [lay_off _ _ _ _ e] at hu
    exact h.2 k hk u hu
theorem held_get {kd : Nat → Bool} {nr n : Nat} {s : St} (h : Held kd nr n s) {p : Nat} (hp : kd p = true) (i : Nat) : Vok kd n ((s.2.2 p).getD i (0, 0)) := by
  by_cases hi : i < (s.2.2 p).length
  · rw [List.getD_eq_getElem?_getD, List.getElem?_eq_getElem hi]
    exact h.2 p hp _ (List.getElem_mem hi)
  · rw [List.getD_eq_getElem?_getD, List.getElem?_eq_none (by omega)]
    exact Or.inl rfl
/-- A new cell at a free place. -/
theorem held_new {kd : Nat → Bool} {nr n : Nat} {s : St} (h : Held kd nr n s) (x a p b : Nat) (h1 : 1 ≤ p) (h2 : p ≤ n) :
    Held (mark kd p) nr n (x, set s.2.1 a (p, 0), lay s.2.2 p (List.replicate b (0, 0))) := by
  refine ⟨fun i hi => ?_, fun k hk u hu => ?_⟩
  · by_cases e : i = a
    · subst e; simp only [set_at]; exact Or.inr ⟨h1, h2, mark_at _ _, rfl⟩
    · simp only [set_off _ _ _ _ e]; exact (h.1 i hi).up (fun k => mark_up p)
  · by_cases e : k = p
    · subst e
      simp only [lay_at] at hu
      rw [List.eq_of_mem_replicate hu]
      exact Or.inl rfl
    · simp only [lay_off _ _ _ _ e] at hu
      rw [mark_off _ _ _ e] at hk
      exact (h.2 k hk u hu).up (fun k => mark_up p)
/-- A collection. -/
theorem held_sweep {kd m : Nat → Bool} {nr n : Nat} {s : St} (h : Held kd nr n s) (hm : ∀ p, m p = true ↔ Reach nr s p) : Held (fun p => kd p && m p) nr n s := by
  have key : ∀ v, Vok kd n v → (v.1 ≠ 0 → Reach nr s v.1) → Vok (fun p => kd p && m p) n v := by
    intro v hv hr
    rcases hv with h | ⟨h1, h2, h3, h4⟩
    · exact Or.inl h
    · exact Or.inr ⟨h1, h2, by simp [h3, (hm _).2 (hr (by omega))], h4⟩
  refine ⟨fun i hi => key _ (h.1 i hi) (fun h0 => reach_reg i hi h0), fun k hk u hu => ?_⟩
  simp only [Bool.and_eq_true] at hk
  exact key _ (h.2 k hk.1 u hu) (fun h0 => reach_slot ((hm k).1 hk.2) hu h0)
/-- The instruction Cell where a place was free. -/
theorem does_cell {kd : Nat → Bool} {nr n : Nat} {s : St} (h : Held kd nr n s) (a p b : Nat) (h1 : 1 ≤ p) (h2 : p ≤ n) (h3 : kd p = false) (c : Nat) :
    Does nr n (9, a, b, c) s (s.1 + 1, set s.2.1 a (p, 0), lay s.2.2 p (List.replicate b (0, 0))) 0 [] := by
  have hn : ¬ Reach nr s p := fun hp => by have := (reach_kd h hp).1; rw [h3] at this; cases this
  exact Or.inr ⟨rfl, rfl, p, _, h1, h2, hn, fun k hk => lay_off _ p k _ (fun e => hn (by rw [← e]; exact hk)), lay_at _ _ _, rfl⟩
/-- The instruction Cell where no place was free behind a collection. -/
theorem does_spend {kd m : Nat → Bool} {nr n : Nat} {s : St} (hm : ∀ p, m p = true ↔ Reach nr s p) (ha : ∀ p, 1 ≤ p → p ≤ n → (kd p && m p) = true) (a b c : Nat) (s' : St) : Does nr n (9, a, b, c) s s' 2 [(5, 0)] := by
  refine Or.inl ⟨fun p h1 h2 => (hm p).1 ?_, rfl, rfl⟩
  have := ha p h1 h2
  simp only [Bool.and_eq_true] at this
  exact this.2

end Go.Proofs.YtbmjlbcaplgfmaaGreatDoor.B

/-
  The store of cells: what lies at its places; a cell is looked up; a free place is sought.
-/
namespace Go.Proofs.YtbmjlbcaplgfmaaGreatDoor
open Go.RowKit

/-- A place's cell, its slots in the block vb. -/
def kdV (k : Bool) : Value := .int .u8 (if k = true then 1 else 0)
def slV (k : Bool) (vb ln : Nat) : Value := if k = true then .slice (some ⟨vb, 0, none⟩) ln ln else .slice none 0 0
/-- The places, one behind the other. -/
def plcP (kd : Nat → Bool) (vb : Nat → Nat) (M : Nat → List B.V) : Nat → Value := fun j =>
  if j % 3 = 0 then kdV (kd (j / 3 + 1)) else if j % 3 = 1 then .int .i64 0 else slV (kd (j / 3 + 1)) (vb (j / 3 + 1)) (M (j / 3 + 1)).length
theorem plc_0 (kd : Nat → Bool) (vb : Nat → Nat) (M : Nat → List B.V) (k : Nat) : plcP kd vb M (k * 3) = kdV (kd (k + 1)) := by
  unfold plcP; rw [if_pos (by omega), show k * 3 / 3 = k by omega]
theorem plc_1 (kd : Nat → Bool) (vb : Nat → Nat) (M : Nat → List B.V) (k : Nat) : plcP kd vb M (k * 3 + 1) = .int .i64 0 := by
  unfold plcP; rw [if_neg (by omega), if_pos (by omega)]
theorem plc_2 (kd : Nat → Bool) (vb : Nat → Nat) (M : Nat → List B.V) (k : Nat) : plcP kd vb M (k * 3 + 2) = slV (kd (k + 1)) (vb (k + 1)) (M (k + 1)).length := by
  unfold plcP; rw [if_neg (by omega), if_neg (by omega), show (k * 3 + 2) / 3 = k by omega]
abbrev slots (M : Nat → List B.V) (p : Nat) : Nat → B.V := fun i => (M p).getD i (0, 0)
/-- The store. -/
def Str (w : World) (sb pb eb n : Nat) (kd : Nat → Bool) (vb : Nat → Nat) (M : Nat → List B.V) : Prop :=
  w.heap[sb]? = some (.cells #[.slice (some ⟨pb, 0, none⟩) n n, .func (.func 54) #[P0 eb] #[]] 204 (0, 0)) ∧ Full w pb 278 (n * 3) (n * 3) (plcP kd vb M) ∧
  (∀ p, 1 ≤ p → p ≤ n → kd p = true → Full w (vb p) 148 ((M p).length * 2) ((M p).length * 2) (regP (slots M p))) ∧ (∀ p q, 1 ≤ p → p ≤ n → 1 ≤ q → q ≤ n → kd p = true → kd q = true → vb p = vb q → p = q) ∧ (∀ p, kd p = true → (M p).length ≤ 8)
theorem Str.kept {w w' : World} {sb pb eb n : Nat} {kd : Nat → Bool} {vb : Nat → Nat} {M : Nat → List B.V} (h : Str w sb pb eb n kd vb M) (hg : w.grownBy w' none) : Str w' sb pb eb n kd vb M :=
  ⟨grown_heap hg h.1 (by intro e; cases e), h.2.1.block (hg.block pb h.2.1.lt (by intro e; cases e)), fun p h1 h2 h3 => (h.2.2.1 p h1 h2 h3).block (hg.block _ (h.2.2.1 p h1 h2 h3).lt (by intro e; cases e)), h.2.2.2⟩

set_option maxRecDepth 100000 in
theorem at_none (sb : Nat) (x : Int) (w : World) : Calls Tryz.prog 184 #[P0 sb, vA (0, x)] w fun e w' => e = .returned (.agg #[.int .u8 0, .int .i64 0, .slice none 0 0]) ∧ w.grownBy w' none := by
  go_enter Tryz.func184, Tryz.ntmps184
  go_wp2_with fail
  refine bodyPost_ret (v := .agg #[.int .u8 0, .int .i64 0, .slice none 0 0]) (by simp [results, Tryz.results184, go_sem]) rfl ⟨rfl, ?_⟩
  repeat (first | exact grown_refl _ _ | refine grown_drew ?_ | refine grown_alloc ?_ _ | refine grown_setCell ?_ (Or.inr (by simp)) _)

set_option maxRecDepth 100000 in
set_option maxHeartbeats 1000000 in
theorem at_some (sb pb eb n k : Nat) (x : Int) (kd : Nat → Bool) (vb : Nat → Nat) (M : Nat → List B.V) (w : World) (hS : Str w sb pb eb n kd vb M) (hk : k < n) (hn : n ≤ 200) :
    Calls Tryz.prog 184 #[P0 sb, vA (k + 1, x)] w fun e w' => e = .returned (.agg #[kdV (kd (k + 1)), .int .i64 0, slV (kd (k + 1)) (vb (k + 1)) (M (k + 1)).length]) ∧ w.grownBy w' none := by
  have q0 : w.cell? ⟨sb, 0, none⟩ = some (.slice (some ⟨pb, 0, none⟩) n n) := by simp [World.cell?, hS.1]
  have l0 := heap_lt hS.1
  have l1 := hS.2.1.lt
  have c0 := hS.2.1.cell (k * 3) (by omega)
  have c1 := hS.2.1.cell (k * 3 + 1) (by omega)
  have c2 := hS.2.1.cell (k * 3 + 2) (by omega)
  rw [plc_0] at c0
  rw [plc_1] at c1
  rw [plc_2] at c2
  clear hS
  obtain ⟨y0, hy0⟩ : ∃ y, kdV (kd (k + 1)) = .int .u8 y := ⟨_, rfl⟩
  obtain ⟨a2, n2, m2, hy2⟩ : ∃ a n m, slV (kd (k + 1)) (vb (k + 1)) (M (k + 1)).length = .slice a n m := by unfold slV; split <;> exact ⟨_, _, _, rfl⟩
  rw [hy0] at c0 ⊢
  rw [hy2] at c2 ⊢
  clear hy0 hy2
  have hk2 : (k : Int) < (n : Int) := by omega
  have hne : ¬ ((k : Int) + 1 = 0) := by omega
  have hsub : (k : Int) + 1 - 1 = (k : Int) := by omega
  have hwr : IntKind.i64.wrap (k : Int) = (k : Int) := by simp [IntKind.wrap, IntKind.bits, IntKind.signed]; omega
  have hwr2 : wrap64 (k : Int) = (k : Int) := IntWalk.wrap64_in (k : Int) ⟨by omega, by omega⟩
  have l0' : sb < w.heap.size + 1 := by omega
  have l1' : pb < w.heap.size + 1 := by omega
  have l0'' : sb < w.heap.size + 1 + 1 := by omega
  have l1'' : pb < w.heap.size + 1 + 1 := by omega
  go_enter Tryz.func184, Tryz.ntmps184
  go_wp2_with fail
  go_region
  all_goals
    go_wp2_with fail
    refine bodyPost_ret (v := .agg #[.int .u8 y0, .int .i64 0, .slice a2 n2 m2]) (by simp [results, Tryz.results184, go_sem]) rfl ⟨rfl, ?_⟩
    repeat (first | exact grown_refl _ _ | refine grown_drew ?_ | refine grown_alloc ?_ _ | refine grown_setCell ?_ (Or.inr (by simp)) _)

theorem isFree_any (k : Bool) (c1 : Int) (v : Value) (w : World) : Calls Tryz.prog 210 #[.agg #[kdV k, .int .i64 c1, v]] w fun e w' => e = .returned (.bool (!k)) ∧ w.grownBy w' none := by
  cases k
  · show Calls Tryz.prog 210 #[.agg #[.int .u8 0, .int .i64 c1, v]] w _
    go_enter Tryz.func210, Tryz.ntmps210
    go_wp2_with fail
    go_ret
    exact ⟨rfl, World.grownBy_alloc _ _ _⟩
  · show Calls Tryz.prog 210 #[.agg #[.int .u8 1, .int .i64 c1, v]] w _
    go_enter Tryz.func210, Tryz.ntmps210
    go_wp2_with fail
    go_ret
    exact ⟨rfl, World.grownBy_alloc _ _ _⟩
end Go.Proofs.YtbmjlbcaplgfmaaGreatDoor

/-
  The program's engine is made: what lies in its memory.
-/
namespace Go.Proofs.YtbmjlbcaplgfmaaGreatDoor
open Go.RowKit

theorem Tab.below {w w' : World} (h : Tab w) (hb : Below w.heap.size w w') : Tab w' :=
  ⟨Nat.lt_of_lt_of_le h.1 hb.size, fun op ho => (hb.cell (p := ⟨0, op, none⟩) h.1).trans (h.2 op ho)⟩

theorem Tryz.info278' : (Tryz.prog.info? 278).map (fun i => (i.zero, i.size, i.bytes)) = some (some (.agg #[.int .u8 0, .int .i64 0, .slice none 0 0]), 3, 40) := by kernel_rfl

set_option maxRecDepth 100000 in
theorem cellsNew_any (n eb : Nat) (hn : 1 ≤ n) (hn2 : n ≤ 200) (w : World) : Calls Tryz.prog 53 #[.int .i64 n, .func (.func 54) #[P0 eb] #[]] w fun e w' => ∃ sb pb, e = .returned (P0 sb) ∧ w.grownBy w' none ∧ w.heap.size ≤ sb ∧ w.heap.size ≤ pb ∧ Str w' sb pb eb n (fun _ => false) (fun _ => 0) (fun _ => []) := by
  obtain ⟨i0, hi, hz0, hz1, hz2⟩ := info_parts Tryz.info278'
  go_enter Tryz.func53, Tryz.ntmps53
  go_wp2_with (at_make; go_loud (refine wpList_make_full _ rfl _ _ 202 rfl 0 278 i0 _ 3 Tryz.underlying202 hi hz0 hz1 _ _ _ _ n rfl rfl rfl rfl (by rw [hz2]; omega) (by unfold maxLen; omega) (Nat.zero_le _) ?_))
  intro w3 hown hg3
  have hf3 : Full w3 w.heap.size 278 (n * 3) (n * 3) (plcP (fun _ => false) (fun _ => 0) (fun _ => [])) := by
    rcases hown.2 with ⟨h, _⟩ | ⟨g', cap', cur, h1, h2, h3, h4, h5, h6, h7⟩
    · cases h
    · cases h1
      refine ⟨cur, h3, h6, fun j hj => ?_⟩
      have e1 := congrArg (fun l => l[j]?) h7
      have e2 : (madeCells #[.int .u8 0, .int .i64 0, .slice none 0 0] (n * 3)).toList[j]? = some (plcP (fun _ => false) (fun _ => 0) (fun _ => []) j) := by
        simp only [madeCells, Array.getElem?_toList, Array.getElem?_map, Array.getElem?_range]
        rw [if_pos hj]
        have : j % 3 = 0 ∨ j % 3 = 1 ∨ j % 3 = 2 := by omega
        rcases this with h | h | h <;> simp [h, plcP, kdV, slV]
      simp only [e2, List.getElem?_take] at e1
      rw [if_pos hj] at e1
      simpa using e1
  have HF := hid hf3
  have HG := hid hg3
  clear hown hf3 hg3
  go_wp2_with fail
  go_ret
  refine ⟨w3.heap.size, w.heap.size, rfl, grown_alloc HG.out _, HG.out.size, Nat.le_refl _, heap_alloc_new _ _, HF.out.block (Below.heap_alloc _ _ _ HF.out.lt), fun p _ _ h => (by cases h), fun p q _ _ _ _ h => (by cases h), fun p h => (by cases h)⟩

/-- The engine's block as it is made first, its table's closures from b on. -/
def eng0 (fs : Value) (q t : Int) (b : Nat) : Array Value := #[fs, .int .i64 q, .int .i64 t, Fv 150 #[P0 (b + 2)], Fv 150 #[P0 (b + 4)], Fv 140 #[P0 (b + 5)], Fv 140 #[P0 (b + 6)], Fv 140 #[P0 (b + 7)], Fv 140 #[P0 (b + 8)], Fv 150 #[P0 (b + 10)], Fv 150 #[P0 (b + 12)], Fv 150 #[P0 (b + 14)], Fv 150 #[P0 (b + 16)], Fv 94 #[], Fv 95 #[], Fv 150 #[P0 (b + 18)], Fv 97 #[], Fv 150 #[P0 (b + 19)], Fv 101 #[], Fv 150 #[P0 (b + 20)], Fv 154 #[P0 (b + 21), P0 (b + 22)], Fv 154 #[P0 (b + 23), P0 (b + 24)], Fv 154 #[P0 (b + 25), P0 (b + 26)], Fv 154 #[P0 (b + 27), P0 (b + 28)], Fv 154 #[P0 (b + 29), P0 (b + 30)], Fv 150 #[P0 (b + 32)], .pointer none, .int .i64 0, .slice none 0 0, .slice none 0 0, .slice none 0 0, .slice none 0 0, .slice none 0 0, .slice none 0 0, .slice none 0 0, .slice none 0 0, .slice none 0 0, .slice none 0 0, .slice none 0 0, .slice none 0 0, .slice none 0 0, .bool false, .slice none 0 0]
def engF (fs : Value) (q t : Int) (b : Nat) : Nat → Value := fun j => (eng0 fs q t b).getD j undef
theorem engF_full {w : World} {eb : Nat} {fs : Value} {q t : Int} {b : Nat} (h : w.heap[eb]? = some (.cells (eng0 fs q t b) 143 (0, 0))) : Full w eb 143 43 43 (engF fs q t b) := by
  refine ⟨_, h, rfl, fun j hj => ?_⟩
  have hs : (eng0 fs q t b).size = 43 := rfl
  unfold engF
  rw [Array.getD_eq_getD_getElem?, Array.getElem?_eq_getElem (by omega)]
  rfl

/-- What the engine's making leaves. -/
def Born (w w' : World) (eb g nf s0 c0 r0 n : Nat) (q t : Int) : Prop :=
  ∃ (w5 : World) (sb pb ac : Nat), w.heap.size ≤ eb ∧ w.heap.size ≤ sb ∧ w.heap.size ≤ pb ∧ w.heap.size ≤ ac ∧ w.heap.size ≤ w5.heap.size ∧ w5.grownBy w' (some eb) ∧ (∀ k x, (actB (ac + 1))[k]? = some x → w5.heap[ac + 1 + k]? = some (.cells #[x.1] x.2 (0, 0))) ∧
    Str w5 sb pb eb n (fun _ => false) (fun _ => 0) (fun _ => []) ∧ Full w5 eb 143 43 43 (upd (engF (.slice (some ⟨g, 0, none⟩) nf nf) q t ac) 26 (P0 sb)) ∧ Begun w5 w' eb s0 c0 r0 (upd (engF (.slice (some ⟨g, 0, none⟩) nf nf) q t ac) 26 (P0 sb))

set_option maxRecDepth 100000 in
set_option maxHeartbeats 4000000 in
theorem engNew_any (g nf s0 c0 r0 : Nat) (c1 c2 c3 : Int) (cl : Nat) (w : World) (h1 : w.cell? ⟨g, 0, none⟩ = some (.int .i64 r0)) (h2 : w.cell? ⟨g, 1, none⟩ = some (.slice (some ⟨s0, 0, none⟩) c0 c0)) (hg : g < w.heap.size) (hn : 1 ≤ nf) (hr : 2 ≤ r0) (hr2 : r0 ≤ 8) (hc1 : 1 ≤ cl) (hc2 : cl ≤ 200) :
    Calls Tryz.prog 34 #[.slice (some ⟨g, 0, none⟩) nf nf, .agg #[.int .i64 cl, .int .i64 c1, .int .i64 c2, .int .i64 c3]] w fun e w' => ∃ eb, e = .returned (P0 eb) ∧ Below w.heap.size w w' ∧ Born w w' eb g nf s0 c0 r0 cl c1 c3 := by
  have H1 := hid h1
  have H2 := hid h2
  clear h1 h2
  go_enter Tryz.func34, Tryz.ntmps34
  go_wp2_with fail
  generalize hw1 : w.alloc (.cells #[.int .i64 cl, .int .i64 c1, .int .i64 c2, .int .i64 c3] 23) = w1
  have hz1 : w1.heap.size = w.heap.size + 1 := by rw [← hw1]; simp
  have b0 : w1.cell? ⟨w.heap.size, 0, none⟩ = some (.int .i64 cl) := by rw [← hw1]; simp [go_sem]
  have b1 : w1.cell? ⟨w.heap.size, 1, none⟩ = some (.int .i64 c1) := by rw [← hw1]; simp [go_sem]
  have b3 : w1.cell? ⟨w.heap.size, 3, none⟩ = some (.int .i64 c3) := by rw [← hw1]; simp [go_sem]
  have KB1 : Hid (Below w.heap.size w w1) := by show Below _ _ _; rw [← hw1]; exact (Below.refl _ _).alloc (Nat.le_refl _) _
  clear hw1
  generalize hN : w.heap.size = N at *
  have l0 : N < w1.heap.size := by omega
  have hS : Hid (w1.drew.heap.size = N + 1) := hz1
  go_cut [5] from 6 to 13 (fun x wx => ∃ (w2 : World), x = P0 w2.heap.size ∧ wx = w2.alloc (.cells (eng0 (.slice (some ⟨g, 0, none⟩) nf nf) c1 c3 (N + 1)) 143) ∧ Hid (Below w1.heap.size w1 w2) ∧ w2.heap.size = N + 34 ∧ Hid (∀ k x, (actB (N + 1 + 1))[k]? = some x → w2.heap[N + 1 + 1 + k]? = some (.cells #[x.1] x.2 (0, 0))))
  case first =>
    go_region_with (go_at_call 52; refine (actions_b (N + 1) w1.drew hS).mono ?_; rintro e w2 ⟨rfl, hB2, hz2, ha2⟩; have b1' : w2.cell? ⟨N, 1, none⟩ = some (.int .i64 c1) := ((hB2.cell (p := ⟨N, 1, none⟩) l0).trans b1); have b3' : w2.cell? ⟨N, 3, none⟩ = some (.int .i64 c3) := ((hB2.cell (p := ⟨N, 3, none⟩) l0).trans b3); have HA2 := hid ha2; clear ha2)
    all_goals
      go_wp2_with fail
      go_meet
      case rel => exact ⟨w2, by rw [hz2], rfl, ⟨hB2.os, hB2.tape, hB2.output, hB2.size, hB2.block⟩, hz2, HA2⟩
  case rest =>
    obtain ⟨w2, rfl, hwx, hB2, hz2, HA2⟩ := hcut
    have hz3 : wc.heap.size = N + 35 := by rw [hwx]; simp; omega
    have KB3 : Hid (Below N w wc) := by
      show Below _ _ _
      rw [hwx]
      exact (KB1.out.trans (hB2.out.mono (by omega))).alloc (by omega) _
    have HA3 : Hid (∀ k x, (actB (N + 1 + 1))[k]? = some x → wc.heap[N + 1 + 1 + k]? = some (.cells #[x.1] x.2 (0, 0))) := fun k x hx => by
      have := HA2.out k x hx
      rw [hwx, Below.heap_alloc _ _ _ (heap_lt this)]; exact this
    have c0' : wc.cell? ⟨N, 0, none⟩ = some (.int .i64 cl) := by
      have e1 : wc.cell? ⟨N, 0, none⟩ = w2.cell? ⟨N, 0, none⟩ := by rw [hwx]; exact World.cell?_of_block (Below.heap_alloc _ _ _ (by show N < _; omega))
      rw [e1]
      exact (hB2.out.cell (p := ⟨N, 0, none⟩) l0).trans b0
    have hbE : wc.heap[N + 34]? = some (.cells (eng0 (.slice (some ⟨g, 0, none⟩) nf nf) c1 c3 (N + 1)) 143 (0, 0)) := by rw [hwx, ← hz2]; exact heap_alloc_new _ _
    have KE3 := hid (engF_full hbE)
    obtain ⟨e26, f26⟩ := KE3.out.cells 26 (by omega)
    have e26 : wc.cell? ⟨N + 34, 26, none⟩ = some (.pointer none) := e26
    rw [hz2]
    clear hwx hbE hB2 b0 b1 b3 KB1 hz1 l0 hS hz2 HA2
    generalize hE : N + 34 = eb at *
    go_wp2_with fail
    refine (cellsNew_any cl eb hc1 hc2 _).mono ?_
    rintro e w4 ⟨sb, pb, rfl, hg4, hsb, hpb, hS4⟩
    have hz4 := hg4.size
    have KE4 := hid (KE3.out.block (hg4.block eb (by omega) (by intro e; cases e)))
    obtain ⟨d26, g26⟩ := KE4.out.cells 26 (by omega)
    have d26 : w4.cell? ⟨eb, 26, none⟩ = some (.pointer none) := d26
    have KB4 : Hid (Below N w w4) := KB3.out.trans ((below_none hg4).mono (by omega))
    have HS4 := hid hS4
    have HA4 : Hid (∀ k x, (actB (N + 1 + 1))[k]? = some x → w4.heap[N + 1 + 1 + k]? = some (.cells #[x.1] x.2 (0, 0))) := fun k x hx => grown_out hg4 (HA3.out k x hx)
    have le4 : eb < w4.heap.size := by omega
    clear hg4 hS4 e26 f26 KE3 KB3 HA3 c0'
    go_wp2_with fail
    refine (number_any 0 _).mono ?_
    rintro e w5 ⟨rfl, rfl⟩
    go_wp2_with fail
    refine (number_any 0 _).mono ?_
    rintro e w6 ⟨rfl, rfl⟩
    go_wp2_with fail
    generalize hW : ((w4.setCell ⟨eb, 26, none⟩ (P0 sb)).alloc (.cells #[.int .i64 0, .int .i64 0] 148)).alloc (.cells #[.int .i64 0, .int .i64 0] 148) = w7
    have hz7 : w7.heap.size = w4.heap.size + 2 := by rw [← hW]; simp [World.setCell]
    have hb7 : ∀ k, k < w4.heap.size → k ≠ eb → w7.heap[k]? = w4.heap[k]? := fun k hk hne => by rw [← hW, Below.heap_alloc _ _ _ (by simp [World.setCell]; omega), Below.heap_alloc _ _ _ (by simp [World.setCell]; omega), Below.heap_setCell _ _ _ _ hne]
    have KE7 : Hid (Full w7 eb 143 43 43 (upd (engF (.slice (some ⟨g, 0, none⟩) nf nf) c1 c3 (N + 1)) 26 (P0 sb))) := by
      show Full _ _ _ _ _ _
      rw [← hW]
      exact ((KE4.out.upd 26 _).block (Below.heap_alloc _ _ _ (by simp [World.setCell]; omega))).block (Below.heap_alloc _ _ _ (by simp [World.setCell]; omega))
    have KB7 : Hid (Below N w w7) := by
      show Below _ _ _
      rw [← hW]
      exact ((KB4.out.setCell (by show N ≤ eb; omega) _).alloc (by simp [World.setCell]; omega) _).alloc (by simp [World.setCell]; omega) _
    have HS7 : Hid (Str w7 sb pb eb cl (fun _ => false) (fun _ => 0) (fun _ => [])) := by
      obtain ⟨s1, s2, s3, s4⟩ := HS4.out
      exact ⟨(hb7 sb (heap_lt s1) (by omega)).trans s1, s2.block (hb7 pb s2.lt (by omega)), fun p _ _ h => (by cases h), s4⟩
    have HA7 : Hid (∀ k x, (actB (N + 1 + 1))[k]? = some x → w7.heap[N + 1 + 1 + k]? = some (.cells #[x.1] x.2 (0, 0))) := fun k x hx => by
      have h := HA4.out k x hx
      refine (hb7 _ (heap_lt h) ?_).trans h
      intro e
      rw [e] at h
      obtain ⟨c5, h5, h6, _⟩ := KE4.out
      rw [h5] at h; injection h with h; injection h with h _ _
      rw [h] at h6; simp at h6
    have g0 : w7.cell? ⟨g, 0, none⟩ = some (.int .i64 r0) := (KB7.out.cell (p := ⟨g, 0, none⟩) hg).trans H1.out
    have g1 : w7.cell? ⟨g, 1, none⟩ = some (.slice (some ⟨s0, 0, none⟩) c0 c0) := (KB7.out.cell (p := ⟨g, 1, none⟩) hg).trans H2.out
    clear hW hb7 KE4 KB4 HS4 HA4 d26 g26
    refine (begin_any eb g nf s0 c0 r0 _ w7 KE7.out rfl g0 g1 rfl rfl rfl (by omega) (by omega) hn hr hr2).mono ?_
    rintro e w8 ⟨⟨x, rfl⟩, hg8, hBg⟩
    have HB8 : Hid (Below N w w8) := KB7.out.trans ⟨hg8.os, hg8.tape, hg8.output, hg8.size, fun k hk => hg8.block k (by omega) (by intro e; injection e with e; omega)⟩
    have HR : Hid (Born w w8 eb g nf s0 c0 r0 cl c1 c3) := ⟨w7, sb, pb, N + 1, by omega, by omega, by omega, by omega, by omega, hg8, HA7.out, HS7.out, KE7.out, hBg⟩
    clear hg8 hBg g0 g1
    go_wp2_with fail
    go_ret
    exact ⟨eb, rfl, by rw [hN]; exact HB8.out, HR.out⟩
end Go.Proofs.YtbmjlbcaplgfmaaGreatDoor

/-
  The store of cells: a free place is sought; the slots of a cell.
-/
namespace Go.Proofs.YtbmjlbcaplgfmaaGreatDoor
open Go.RowKit

set_option maxRecDepth 100000 in
set_option maxHeartbeats 1000000 in
theorem indexFree_any (sb pb eb n : Nat) (kd : Nat → Bool) (vb : Nat → Nat) (M : Nat → List B.V) (w : World) (hS : Str w sb pb eb n kd vb M) (hn : n ≤ 200) :
    Calls Tryz.prog 209 #[.slice (some ⟨pb, 0, none⟩) n n, Fv 210 #[]] w fun e w' => w.grownBy w' none ∧ ((∃ k : Nat, k < n ∧ kd (k + 1) = false ∧ e = .returned (.int .i64 k)) ∨ ((∀ p, 1 ≤ p → p ≤ n → kd p = true) ∧ e = .returned (.int .i64 (-1)))) := by
  have KS := hid hS
  clear hS
  go_enter Tryz.func209, Tryz.ntmps209
  go_wp2_with fail
  go_loopw [8] (fun i wr => ∃ k : Nat, k ≤ n ∧ i = .int .i64 k ∧ Hid (∀ p, 1 ≤ p → p ≤ k → kd p = true) ∧ Hid (w.grownBy wr none)) (fun i _ => n - (intOf i).toNat)
  case atStart => exact ⟨0, by omega, rfl, fun p h1 h2 => (by omega), grown_refl _ _⟩
  case round =>
    obtain ⟨k, hk, rfl, hK, hG⟩ := hrel
    by_cases hlt : k < n
    · have hS := KS.out.kept hG.out
      have c0 := hS.2.1.cell (k * 3) (by omega)
      have c1 := hS.2.1.cell (k * 3 + 1) (by omega)
      have c2 := hS.2.1.cell (k * 3 + 2) (by omega)
      rw [plc_0] at c0
      rw [plc_1] at c1
      rw [plc_2] at c2
      have lp := hS.2.1.lt
      clear hS
      have hf := isFree_any (kd (k + 1)) 0 (slV (kd (k + 1)) (vb (k + 1)) (M (k + 1)).length)
      obtain ⟨y0, hy0⟩ : ∃ y, kdV (kd (k + 1)) = .int .u8 y := ⟨_, rfl⟩
      obtain ⟨a2, n2, m2, hy2⟩ : ∃ a n m, slV (kd (k + 1)) (vb (k + 1)) (M (k + 1)).length = .slice a n m := by unfold slV; split <;> exact ⟨_, _, _, rfl⟩
      rw [hy0] at c0
      rw [hy2] at c2
      rw [hy0, hy2] at hf
      have HF := hid hf
      clear hf hy0 hy2
      have hlt2 : (k : Int) < (n : Int) := by omega
      go_wp2_with fail
      refine (HF.out _).mono ?_
      rintro e w1 ⟨rfl, hg1⟩
      have KG1 := hid (grown_trans hG.out hg1)
      clear hg1 c0 c1 c2
      cases hkd : kd (k + 1)
      · have HK := hid hkd
        clear hkd
        simp only [Bool.not_false]
        go_wp2_with fail
        go_ret
        exact ⟨KG1.out, Or.inl ⟨k, hlt, HK.out, rfl⟩⟩
      · have HK := hid hkd
        clear hkd
        simp only [Bool.not_true]
        go_wp2_with fail
        go_roundw
        case rel =>
          refine ⟨k + 1, by omega, by go_num, fun p h1 h2 => ?_, KG1⟩
          by_cases e : p = k + 1
          · subst e; exact HK.out
          · exact hK.out p h1 (by omega)
        case measure => simp [intOf]; omega
    · obtain rfl : k = n := by omega
      have hge : decide ((k : Int) < (k : Int)) = false := by simp
      go_wp2_with fail
      go_ret
      exact ⟨hG.out, Or.inr ⟨hK.out, rfl⟩⟩

set_option maxRecDepth 100000 in
theorem freePlace_any (sb pb eb n : Nat) (kd : Nat → Bool) (vb : Nat → Nat) (M : Nat → List B.V) (w : World) (hS : Str w sb pb eb n kd vb M) (hn : n ≤ 200) :
    Calls Tryz.prog 200 #[P0 sb] w fun e w' => w.grownBy w' none ∧ ((∃ k : Nat, k < n ∧ kd (k + 1) = false ∧ e = .returned (.int .i64 k)) ∨ ((∀ p, 1 ≤ p → p ≤ n → kd p = true) ∧ e = .returned (.int .i64 (-1)))) := by
  have q0 : w.cell? ⟨sb, 0, none⟩ = some (.slice (some ⟨pb, 0, none⟩) n n) := by simp [World.cell?, hS.1]
  have HI := hid (indexFree_any sb pb eb n kd vb M w hS hn)
  clear hS
  go_enter Tryz.func200, Tryz.ntmps200
  go_wp2_with fail
  refine HI.out.mono ?_
  rintro e w1 ⟨hg, ⟨k, h1, h2, rfl⟩ | ⟨h1, rfl⟩⟩
  · have HH := hid (And.intro hg (And.intro h1 h2))
    clear hg h1 h2
    go_wp2_with fail
    go_ret
    exact ⟨HH.out.1, Or.inl ⟨k, HH.out.2.1, HH.out.2.2, rfl⟩⟩
  · have HH := hid (And.intro hg h1)
    clear hg h1
    go_wp2_with fail
    go_ret
    exact ⟨HH.out.1, Or.inr ⟨HH.out.2, rfl⟩⟩

set_option maxRecDepth 100000 in
/-- The slots of a cell; of a number there are none. -/
theorem slots_any (sb pb eb n : Nat) (v : B.V) (kd : Nat → Bool) (vb : Nat → Nat) (M : Nat → List B.V) (w : World) (hS : Str w sb pb eb n kd vb M) (hn : n ≤ 200) (hv : B.Vok kd n v) :
    Calls Tryz.prog 183 #[P0 sb, vA v] w fun e w' => w.grownBy w' none ∧ ((v.1 = 0 ∧ e = .returned (.tuple #[.slice none 0 0, .bool false])) ∨ (v.1 ≠ 0 ∧ e = .returned (.tuple #[.slice (some ⟨vb v.1, 0, none⟩) (M v.1).length (M v.1).length, .bool true]))) := by
  have KS := hid hS
  clear hS
  obtain ⟨v1, v2⟩ := v
  rcases hv with hv | ⟨hv1, hv2, hv3, hv4⟩
  · have hv : v1 = 0 := hv
    subst hv
    go_enter Tryz.func183, Tryz.ntmps183
    go_wp2_with fail
    refine (at_none sb v2 _).mono ?_
    rintro e w1 ⟨rfl, hg⟩
    have KG := hid (grown_trans (World.grownBy_alloc w _ none) hg)
    clear hg
    go_wp2_with fail
    go_ret2
    exact ⟨grown_alloc KG.out _, Or.inl ⟨trivial, rfl⟩⟩
  · obtain ⟨k, hk⟩ : ∃ k, v1 = k + 1 := ⟨v1 - 1, by have : 1 ≤ v1 := hv1; omega⟩
    subst hk
    have hkd : kd (k + 1) = true := hv3
    have hkn : k < n := by have : k + 1 ≤ n := hv2; omega
    have ha := fun w' (hS : Str w' sb pb eb n kd vb M) => at_some sb pb eb n k v2 kd vb M w' hS hkn hn
    have e0 : kdV (kd (k + 1)) = .int .u8 1 := by rw [hkd]; rfl
    have e2 : slV (kd (k + 1)) (vb (k + 1)) (M (k + 1)).length = .slice (some ⟨vb (k + 1), 0, none⟩) (M (k + 1)).length (M (k + 1)).length := by rw [hkd]; rfl
    rw [e0, e2] at ha
    generalize (M (k + 1)).length = m at *
    generalize vb (k + 1) = g at *
    have HA := hid ha
    clear ha e0 e2 hv1 hv2 hv3 hv4 hkd
    go_enter Tryz.func183, Tryz.ntmps183
    go_wp2_with fail
    refine (HA.out _ (KS.out.kept (World.grownBy_alloc _ _ _))).mono ?_
    rintro e w1 ⟨rfl, hg⟩
    have KG := hid (grown_trans (World.grownBy_alloc w _ none) hg)
    clear hg
    go_wp2_with fail
    go_ret2
    exact ⟨grown_alloc KG.out _, Or.inr ⟨by simp, rfl⟩⟩
end Go.Proofs.YtbmjlbcaplgfmaaGreatDoor
