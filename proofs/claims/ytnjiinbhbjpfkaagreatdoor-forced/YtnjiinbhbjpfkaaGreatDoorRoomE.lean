/-
  The program's table of actions: what the closures are that it holds, and that nothing but new memory is written.
-/
import Derived.Test.YtnjiinbhbjpfkaaGreatDoorRoomD
import Derived.Laws.ByValue
import Derived.Test.YtnjiinbhbjpfkaaGreatDoorRoomA
import Derived.Deep.AppendSrc
namespace Go.Proofs.YtnjiinbhbjpfkaaGreatDoor
open Go.RowKit

theorem does_any (k : Nat) (c : Array Value) (w : World) : Calls Tryz.prog 105 #[Fv k c] w fun e w' => e = .returned (Fv 163 #[P0 w.heap.size]) ∧ w' = w.alloc (.cells #[Fv k c] 199) := by
  go_enter Tryz.func105, Tryz.ntmps105
  go_wp2
  go_ret
  exact ⟨rfl, rfl⟩

theorem gives_any (k : Nat) (c : Array Value) (w : World) : Calls Tryz.prog 83 #[Fv k c] w fun e w' => e = .returned (Fv 163 #[P0 (w.heap.size + 1)]) ∧ w' = (w.alloc (.cells #[Fv k c] 187)).alloc (.cells #[Fv 148 #[P0 w.heap.size]] 199) := by
  go_enter Tryz.func83, Tryz.ntmps83
  go_wp2_with fail
  refine (does_any _ _ _).mono ?_
  rintro e w1 ⟨rfl, rfl⟩
  go_wp2
  go_ret
  exact ⟨by simp, rfl⟩

theorem goesOn_any (k : Nat) (c : Array Value) (w : World) : Calls Tryz.prog 95 #[Fv k c] w fun e w' => e = .returned (Fv 163 #[P0 (w.heap.size + 1)]) ∧ w' = (w.alloc (.cells #[Fv k c] 193)).alloc (.cells #[Fv 153 #[P0 w.heap.size]] 199) := by
  go_enter Tryz.func95, Tryz.ntmps95
  go_wp2_with fail
  refine (does_any _ _ _).mono ?_
  rintro e w1 ⟨rfl, rfl⟩
  go_wp2
  go_ret
  exact ⟨by simp, rfl⟩

theorem makes_any (k : Nat) (c : Array Value) (w : World) : Calls Tryz.prog 99 #[Fv k c] w fun e w' => e = .returned (Fv 163 #[P0 (w.heap.size + 1)]) ∧ w' = (w.alloc (.cells #[Fv k c] 195)).alloc (.cells #[Fv 155 #[P0 w.heap.size]] 199) := by
  go_enter Tryz.func99, Tryz.ntmps99
  go_wp2_with fail
  refine (does_any _ _ _).mono ?_
  rintro e w1 ⟨rfl, rfl⟩
  go_wp2
  go_ret
  exact ⟨by simp, rfl⟩

theorem ofNumbers_any (k : Nat) (c : Array Value) (w : World) : Calls Tryz.prog 87 #[Fv k c] w fun e w' => e = .returned (Fv 151 #[P0 w.heap.size]) ∧ w' = w.alloc (.cells #[Fv k c] 190) := by
  go_enter Tryz.func87, Tryz.ntmps87
  go_wp2
  go_ret
  exact ⟨rfl, rfl⟩

theorem takes_any (k k2 : Nat) (c c2 : Array Value) (w : World) : Calls Tryz.prog 111 #[Fv k c, Fv k2 c2] w fun e w' => e = .returned (Fv 167 #[P0 w.heap.size, P0 (w.heap.size + 1)]) ∧ w' = (w.alloc (.cells #[Fv k c] 187)).alloc (.cells #[Fv k2 c2] 202) := by
  go_enter Tryz.func111, Tryz.ntmps111
  go_wp2
  go_ret
  exact ⟨by simp, rfl⟩

/-- The table, where its closures' blocks begin at b. -/
def acts (b : Nat) : Array Value := #[Fv 163 #[P0 (b + 1)], Fv 163 #[P0 (b + 3)], Fv 151 #[P0 (b + 4)], Fv 151 #[P0 (b + 5)], Fv 151 #[P0 (b + 6)], Fv 151 #[P0 (b + 7)], Fv 163 #[P0 (b + 9)], Fv 163 #[P0 (b + 11)], Fv 163 #[P0 (b + 13)], Fv 163 #[P0 (b + 15)], Fv 101 #[], Fv 102 #[], Fv 163 #[P0 (b + 17)], Fv 104 #[], Fv 163 #[P0 (b + 18)], Fv 108 #[], Fv 163 #[P0 (b + 19)], Fv 167 #[P0 (b + 20), P0 (b + 21)], Fv 167 #[P0 (b + 22), P0 (b + 23)], Fv 167 #[P0 (b + 24), P0 (b + 25)], Fv 167 #[P0 (b + 26), P0 (b + 27)], Fv 167 #[P0 (b + 28), P0 (b + 29)], Fv 163 #[P0 (b + 31)]]
/-- The blocks of the table's closures. -/
def actB (b : Nat) : List (Value × TypeId) := [(Fv 84 #[], 187), (Fv 148 #[P0 b], 199), (Fv 86 #[], 187), (Fv 148 #[P0 (b + 2)], 199), (Fv 88 #[], 190), (Fv 89 #[], 190), (Fv 90 #[], 190), (Fv 91 #[], 190), (Fv 93 #[], 187), (Fv 148 #[P0 (b + 8)], 199), (Fv 96 #[], 193), (Fv 153 #[P0 (b + 10)], 199), (Fv 97 #[], 193), (Fv 153 #[P0 (b + 12)], 199), (Fv 100 #[], 195), (Fv 155 #[P0 (b + 14)], 199), (Fv 103 #[], 195), (Fv 155 #[P0 (b + 16)], 199), (Fv 106 #[], 199), (Fv 109 #[], 199), (Fv 98 #[], 187), (Fv 112 #[], 202), (Fv 86 #[], 187), (Fv 113 #[], 202), (Fv 98 #[], 187), (Fv 114 #[], 202), (Fv 98 #[], 187), (Fv 115 #[], 202), (Fv 86 #[], 187), (Fv 116 #[], 202), (Fv 117 #[], 187), (Fv 148 #[P0 (b + 30)], 199)]
section
variable (k : Nat) (c : Array Value) (b : Nat) (w w0 : World) (l : List (Value × TypeId)) (h : Hid (w = laid1 w0 l)) (hz : Hid (w.heap.size = b))
theorem laid1_two (x y : Value × TypeId) : ((laid1 w0 l).alloc (.cells #[x.1] x.2)).alloc (.cells #[y.1] y.2) = laid1 w0 (l ++ [x, y]) := by
  induction l generalizing w0 with
  | nil => rfl
  | cons z r ih => exact ih _
theorem laid1_one (x : Value × TypeId) : (laid1 w0 l).alloc (.cells #[x.1] x.2) = laid1 w0 (l ++ [x]) := by
  induction l generalizing w0 with
  | nil => rfl
  | cons z r ih => exact ih _
include h hz
theorem gives_l : Calls Tryz.prog 83 #[Fv k c] w fun e w' => e = .returned (Fv 163 #[P0 (b + 1)]) ∧ Hid (w' = laid1 w0 (l ++ [(Fv k c, 187), (Fv 148 #[P0 b], 199)])) ∧ Hid (w'.heap.size = b + 2) := by
  refine (gives_any k c w).mono ?_
  rintro e w' ⟨rfl, rfl⟩
  have hz' := hz.out
  subst hz'
  refine ⟨rfl, ?_, ?_⟩
  · show _ = _; rw [← laid1_two, ← h.out]
  · show _ = _; simp
theorem goesOn_l : Calls Tryz.prog 95 #[Fv k c] w fun e w' => e = .returned (Fv 163 #[P0 (b + 1)]) ∧ Hid (w' = laid1 w0 (l ++ [(Fv k c, 193), (Fv 153 #[P0 b], 199)])) ∧ Hid (w'.heap.size = b + 2) := by
  refine (goesOn_any k c w).mono ?_
  rintro e w' ⟨rfl, rfl⟩
  have hz' := hz.out
  subst hz'
  refine ⟨rfl, ?_, ?_⟩
  · show _ = _; rw [← laid1_two, ← h.out]
  · show _ = _; simp
theorem makes_l : Calls Tryz.prog 99 #[Fv k c] w fun e w' => e = .returned (Fv 163 #[P0 (b + 1)]) ∧ Hid (w' = laid1 w0 (l ++ [(Fv k c, 195), (Fv 155 #[P0 b], 199)])) ∧ Hid (w'.heap.size = b + 2) := by
  refine (makes_any k c w).mono ?_
  rintro e w' ⟨rfl, rfl⟩
  have hz' := hz.out
  subst hz'
  refine ⟨rfl, ?_, ?_⟩
  · show _ = _; rw [← laid1_two, ← h.out]
  · show _ = _; simp
theorem ofNumbers_l : Calls Tryz.prog 87 #[Fv k c] w fun e w' => e = .returned (Fv 151 #[P0 b]) ∧ Hid (w' = laid1 w0 (l ++ [(Fv k c, 190)])) ∧ Hid (w'.heap.size = b + 1) := by
  refine (ofNumbers_any k c w).mono ?_
  rintro e w' ⟨rfl, rfl⟩
  have hz' := hz.out
  subst hz'
  refine ⟨rfl, ?_, ?_⟩
  · show _ = _; rw [← laid1_one, ← h.out]
  · show _ = _; simp
theorem does_l : Calls Tryz.prog 105 #[Fv k c] w fun e w' => e = .returned (Fv 163 #[P0 b]) ∧ Hid (w' = laid1 w0 (l ++ [(Fv k c, 199)])) ∧ Hid (w'.heap.size = b + 1) := by
  refine (does_any k c w).mono ?_
  rintro e w' ⟨rfl, rfl⟩
  have hz' := hz.out
  subst hz'
  refine ⟨rfl, ?_, ?_⟩
  · show _ = _; rw [← laid1_one, ← h.out]
  · show _ = _; simp
theorem takes_l (k2 : Nat) (c2 : Array Value) : Calls Tryz.prog 111 #[Fv k c, Fv k2 c2] w fun e w' => e = .returned (Fv 167 #[P0 b, P0 (b + 1)]) ∧ Hid (w' = laid1 w0 (l ++ [(Fv k c, 187), (Fv k2 c2, 202)])) ∧ Hid (w'.heap.size = b + 2) := by
  refine (takes_any k k2 c c2 w).mono ?_
  rintro e w' ⟨rfl, rfl⟩
  have hz' := hz.out
  subst hz'
  refine ⟨rfl, ?_, ?_⟩
  · show _ = _; rw [← laid1_two, ← h.out]
  · show _ = _; simp
end

set_option maxRecDepth 100000 in
set_option maxHeartbeats 8000000 in
theorem actions_any (w : World) : Calls Tryz.prog 57 #[] w fun e w' => e = .returned (.agg (acts (w.heap.size + 1))) ∧ ∃ w1, Hid (w1 = laid1 (w.alloc (.cells (Array.replicate 23 Value.nilFunc) 133)) (actB (w.heap.size + 1))) ∧ w' = w1.setCells w.heap.size 0 (acts (w.heap.size + 1)).toList := by
  go_enter Tryz.func57, Tryz.ntmps57
  go_wp2_with fail
  have hq0 : Hid (w.alloc (.cells (Array.replicate 23 Value.nilFunc) 133) = laid1 (w.alloc (.cells (Array.replicate 23 Value.nilFunc) 133)) []) := rfl
  have hs0 : Hid ((w.alloc (.cells (Array.replicate 23 Value.nilFunc) 133)).heap.size = w.heap.size + 1) := by show _ = _; simp
  refine (gives_l 84 #[] _ _ _ _ hq0 hs0).mono ?_
  rintro e w1 ⟨rfl, hq1, hs1⟩
  clear hq0 hs0
  go_wp2_with fail
  refine (gives_l 86 #[] _ _ _ _ hq1 hs1).mono ?_
  rintro e w2 ⟨rfl, hq2, hs2⟩
  clear hq1 hs1
  go_wp2_with fail
  refine (ofNumbers_l 88 #[] _ _ _ _ hq2 hs2).mono ?_
  rintro e w3 ⟨rfl, hq3, hs3⟩
  clear hq2 hs2
  go_wp2_with fail
  refine (ofNumbers_l 89 #[] _ _ _ _ hq3 hs3).mono ?_
  rintro e w4 ⟨rfl, hq4, hs4⟩
  clear hq3 hs3
  go_wp2_with fail
  refine (ofNumbers_l 90 #[] _ _ _ _ hq4 hs4).mono ?_
  rintro e w5 ⟨rfl, hq5, hs5⟩
  clear hq4 hs4
  go_wp2_with fail
  refine (ofNumbers_l 91 #[] _ _ _ _ hq5 hs5).mono ?_
  rintro e w6 ⟨rfl, hq6, hs6⟩
  clear hq5 hs5
  go_wp2_with fail
  refine (gives_l 93 #[] _ _ _ _ hq6 hs6).mono ?_
  rintro e w7 ⟨rfl, hq7, hs7⟩
  clear hq6 hs6
  go_wp2_with fail
  refine (goesOn_l 96 #[] _ _ _ _ hq7 hs7).mono ?_
  rintro e w8 ⟨rfl, hq8, hs8⟩
  clear hq7 hs7
  go_wp2_with fail
  refine (goesOn_l 97 #[] _ _ _ _ hq8 hs8).mono ?_
  rintro e w9 ⟨rfl, hq9, hs9⟩
  clear hq8 hs8
  go_wp2_with fail
  refine (makes_l 100 #[] _ _ _ _ hq9 hs9).mono ?_
  rintro e w10 ⟨rfl, hq10, hs10⟩
  clear hq9 hs9
  go_wp2_with fail
  refine (makes_l 103 #[] _ _ _ _ hq10 hs10).mono ?_
  rintro e w11 ⟨rfl, hq11, hs11⟩
  clear hq10 hs10
  go_wp2_with fail
  refine (does_l 106 #[] _ _ _ _ hq11 hs11).mono ?_
  rintro e w12 ⟨rfl, hq12, hs12⟩
  clear hq11 hs11
  go_wp2_with fail
  refine (does_l 109 #[] _ _ _ _ hq12 hs12).mono ?_
  rintro e w13 ⟨rfl, hq13, hs13⟩
  clear hq12 hs12
  go_wp2_with fail
  refine (takes_l 98 #[] _ _ _ _ hq13 hs13 112 #[]).mono ?_
  rintro e w14 ⟨rfl, hq14, hs14⟩
  clear hq13 hs13
  go_wp2_with fail
  refine (takes_l 86 #[] _ _ _ _ hq14 hs14 113 #[]).mono ?_
  rintro e w15 ⟨rfl, hq15, hs15⟩
  clear hq14 hs14
  go_wp2_with fail
  refine (takes_l 98 #[] _ _ _ _ hq15 hs15 114 #[]).mono ?_
  rintro e w16 ⟨rfl, hq16, hs16⟩
  clear hq15 hs15
  go_wp2_with fail
  refine (takes_l 98 #[] _ _ _ _ hq16 hs16 115 #[]).mono ?_
  rintro e w17 ⟨rfl, hq17, hs17⟩
  clear hq16 hs16
  go_wp2_with fail
  refine (takes_l 86 #[] _ _ _ _ hq17 hs17 116 #[]).mono ?_
  rintro e w18 ⟨rfl, hq18, hs18⟩
  clear hq17 hs17
  go_wp2_with fail
  refine (gives_l 117 #[] _ _ _ _ hq18 hs18).mono ?_
  rintro e w19 ⟨rfl, hq19, hs19⟩
  clear hq18 hs18
  simp only []
  iterate 4 (first | go_values | go_skip | go_guarded | go_step | go_upon | go_back)
  have hth : w19.there w.heap.size 0 (acts (w.heap.size + 1)).size := by
    have hb := laid1_below (actB (w.heap.size + 1)) (w.alloc (.cells (Array.replicate 23 Value.nilFunc) 133))
    have hbl : w19.heap[w.heap.size]? = some (.cells (Array.replicate 23 Value.nilFunc) 133 (0, 0)) := by
      rw [hq19.out]; exact (hb.block _ (by simp)).trans (heap_alloc_new w _)
    exact Blk.there (n := 23) (T := 133) ⟨_, hbl, by simp⟩ 0 _ (by simp [acts])
  refine wpList_store_mid rfl 133 (.tmp 0) (.tmp 20) rfl w.heap.size 0 (acts (w.heap.size + 1)) rfl rfl hth (by kernel_rfl) (by simp [acts, Value.oneCell']) ?_
  have HW5 : ∃ w5, w5 = w19.setCells w.heap.size 0 (acts (w.heap.size + 1)).toList := ⟨_, rfl⟩
  obtain ⟨w5, hw5⟩ := HW5
  have hld : (loadVar 133 ⟨w.heap.size, 0, none⟩).run Tryz.prog w5 = .ok (.agg (acts (w.heap.size + 1))) w5 := by
    have := run_loadVar_mid (P := Tryz.prog) w5 w.heap.size 0 133 (acts (w.heap.size + 1)).toList _ (by rw [hw5]; exact World.rangeAt_setCells_same _ _ _ _ (by simpa using hth)) Tryz.underlying133 rfl (by kernel_rfl)
    simpa using this
  rw [← hw5]
  have HQ : Hid (w19 = laid1 (w.alloc (.cells (Array.replicate 23 Value.nilFunc) 133)) (actB (w.heap.size + 1))) := hq19
  clear hq19 hs19 hth
  go_wp2_with fail
  refine bodyPost_ret (v := .agg (acts (w.heap.size + 1))) (results_cell Tryz.results57 _ rfl hld) rfl ⟨rfl, w19, HQ, hw5⟩

/-- The same, the block's number given, and the world behind by what lies in it. -/
theorem actions_b (b : Nat) (w : World) (hb : Hid (w.heap.size = b)) : Calls Tryz.prog 57 #[] w fun e w' => e = .returned (.agg #[Fv 163 #[P0 (b + 2)], Fv 163 #[P0 (b + 4)], Fv 151 #[P0 (b + 5)], Fv 151 #[P0 (b + 6)], Fv 151 #[P0 (b + 7)], Fv 151 #[P0 (b + 8)], Fv 163 #[P0 (b + 10)], Fv 163 #[P0 (b + 12)], Fv 163 #[P0 (b + 14)], Fv 163 #[P0 (b + 16)], Fv 101 #[], Fv 102 #[], Fv 163 #[P0 (b + 18)], Fv 104 #[], Fv 163 #[P0 (b + 19)], Fv 108 #[], Fv 163 #[P0 (b + 20)], Fv 167 #[P0 (b + 21), P0 (b + 22)], Fv 167 #[P0 (b + 23), P0 (b + 24)], Fv 167 #[P0 (b + 25), P0 (b + 26)], Fv 167 #[P0 (b + 27), P0 (b + 28)], Fv 167 #[P0 (b + 29), P0 (b + 30)], Fv 163 #[P0 (b + 32)]]) ∧ Below w.heap.size w w' ∧ w'.heap.size = b + 33 ∧ ∀ k x, (actB (b + 1))[k]? = some x → w'.heap[b + 1 + k]? = some (.cells #[x.1] x.2 (0, 0)) := by
  refine (actions_any w).mono ?_
  rintro e w' ⟨rfl, w1, h1, rfl⟩
  have hb' := hb.out
  subst hb'
  have hl := laid1_below (actB (w.heap.size + 1)) (w.alloc (.cells (Array.replicate 23 Value.nilFunc) 133))
  have hz := laid1_size (actB (w.heap.size + 1)) (w.alloc (.cells (Array.replicate 23 Value.nilFunc) 133))
  rw [← h1.out] at hl hz
  have hz' : w1.heap.size = w.heap.size + 33 := by rw [hz]; simp [actB]
  refine ⟨rfl, ?_, ?_, ?_⟩
  · have : w.grownBy (w1.setCells w.heap.size 0 (acts (w.heap.size + 1)).toList) none := grown_setCells _ _ _ _ _ (grown_trans (World.grownBy_alloc _ _ _) ⟨hl.os, hl.tape, hl.output, hl.size, fun k hk _ => hl.block k hk⟩) (Nat.le_refl _)
    exact ⟨this.os, this.tape, this.output, this.size, fun k hk => this.block k hk (by intro e; cases e)⟩
  · rw [← hz']; exact setCells_size _ _ _ _
  · intro k x hx
    rw [heap_setCells _ _ (by omega), h1.out]
    have := laid1_at (actB (w.heap.size + 1)) (w.alloc (.cells (Array.replicate 23 Value.nilFunc) 133)) k x hx
    simpa using this

end Go.Proofs.YtnjiinbhbjpfkaaGreatDoor

/-
  How a collector goes through what can be reached: marks, a stack of places that are marked and not gone through, cycles. Nothing of the program is imported here.
-/
namespace Go.Proofs.YtnjiinbhbjpfkaaGreatDoor.B

/-- A cycle: the marks, the stack, how many places have been looked at. -/
structure Cy where
  m : Nat → Bool
  st : List Nat
  nx : Nat
/-- What the collector knows: which places are not free; the cycle that is going on; units, forced collections, cycles. -/
structure Kd where
  on : Nat → Bool
  cy : Option Cy
  un : Nat
  fo : Nat
  cc : Nat
def kd0 : Kd := ⟨fun _ => false, none, 0, 0, 0⟩

/-- A value that is a number, or a cell at a place that is not free. -/
def Vok (on : Nat → Bool) (n : Nat) (v : V) : Prop := v.1 = 0 ∨ (1 ≤ v.1 ∧ v.1 ≤ n ∧ on v.1 = true ∧ v.2 = 0)

def mark (m : Nat → Bool) (p : Nat) : Nat → Bool := fun k => if k = p then true else m k
theorem mark_at (m : Nat → Bool) (p : Nat) : mark m p p = true := if_pos rfl
theorem mark_off (m : Nat → Bool) (p k : Nat) (h : k ≠ p) : mark m p k = m k := if_neg h
theorem mark_up {m : Nat → Bool} {k : Nat} (p : Nat) (h : m k = true) : mark m p k = true := by unfold mark; split <;> simp [h]
def free (m : Nat → Bool) (p : Nat) : Nat → Bool := fun k => if k = p then false else m k
theorem free_at (m : Nat → Bool) (p : Nat) : free m p p = false := if_pos rfl
theorem free_off (m : Nat → Bool) (p k : Nat) (h : k ≠ p) : free m p k = m k := if_neg h
theorem free_dn {m : Nat → Bool} {p k : Nat} (h : free m p k = true) : m k = true := by unfold free at h; split at h <;> simp_all
/-- How many of the first n places are not marked. -/
def cnt (m : Nat → Bool) : Nat → Nat
  | 0 => 0
  | n + 1 => cnt m n + if m (n + 1) = true then 0 else 1
theorem cnt_mark_off (m : Nat → Bool) (p : Nat) : ∀ n, n < p → cnt (mark m p) n = cnt m n
  | 0, _ => rfl
  | n + 1, h => by rw [cnt, cnt, cnt_mark_off m p n (by omega), mark_off m p _ (by omega)]
theorem cnt_mark (m : Nat → Bool) (p : Nat) (hp : 1 ≤ p) (hm : m p = false) : ∀ n, p ≤ n → cnt (mark m p) n + 1 = cnt m n
  | 0, h => by omega
  | n + 1, h => by
    by_cases e : p = n + 1
    · subst e
      rw [cnt, cnt, mark_at, hm, cnt_mark_off m (n + 1) n (by omega)]
      simp
    · rw [cnt, cnt, mark_off m p _ (by omega)]
      have := cnt_mark m p hp hm n (by omega)
      omega
theorem cnt_all : ∀ n, cnt (fun _ => false) n = n
  | 0 => rfl
  | n + 1 => by rw [cnt, cnt_all n]; simp
theorem cnt_le (m : Nat → Bool) : ∀ n, cnt m n ≤ n
  | 0 => Nat.le_refl _
  | n + 1 => by rw [cnt]; have := cnt_le m n; split <;> omega

/-- What a visit does to the marks and to the stack. -/
def seen (m : Nat → Bool) (st : List Nat) (v : V) : (Nat → Bool) × List Nat := if v.1 ≠ 0 ∧ m v.1 = false then (mark m v.1, st ++ [v.1]) else (m, st)
def seenL (m : Nat → Bool) (st : List Nat) : List V → (Nat → Bool) × List Nat
  | [] => (m, st)
  | v :: r => seenL (seen m st v).1 (seen m st v).2 r
theorem seenL_snoc (v : V) : ∀ (l : List V) (m : Nat → Bool) (st : List Nat), seenL m st (l ++ [v]) = seen (seenL m st l).1 (seenL m st l).2 v
  | [], _, _ => rfl
  | u :: l, m, st => by rw [List.cons_append, seenL, seenL_snoc v l]; rfl
/-- The registers, one behind the other. -/
def regs (R : Nat → V) (nr : Nat) : List V := (List.range nr).map R
theorem regs_succ (R : Nat → V) (j : Nat) : regs R (j + 1) = regs R j ++ [R j] := by simp [regs, List.range_succ]
theorem regs_mem {R : Nat → V} {nr : Nat} {v : V} : v ∈ regs R nr ↔ ∃ i, i < nr ∧ R i = v := by simp [regs]

theorem seen_sum {m : Nat → Bool} {st : List Nat} {v : V} {n : Nat} (hv : v.1 ≠ 0 → v.1 ≤ n) : (seen m st v).2.length + cnt (seen m st v).1 n = st.length + cnt m n := by
  unfold seen
  split
  · rename_i h
    have := cnt_mark m v.1 (by omega) h.2 n (hv h.1)
    simp; omega
  · rfl
theorem seenL_sum {n : Nat} : ∀ (l : List V) (m : Nat → Bool) (st : List Nat), (∀ v, v ∈ l → v.1 ≠ 0 → v.1 ≤ n) → (seenL m st l).2.length + cnt (seenL m st l).1 n = st.length + cnt m n
  | [], _, _, _ => rfl
  | v :: l, m, st, h => by
    rw [seenL, seenL_sum l _ _ (fun u hu => h u (List.mem_cons_of_mem _ hu))]
    exact seen_sum (h v (List.mem_cons_self ..))
theorem seen_up {m : Nat → Bool} {st : List Nat} {v : V} {k : Nat} (h : m k = true) : (seen m st v).1 k = true := by
  unfold seen; split
  · exact mark_up _ h
  · exact h
theorem seen_st {m : Nat → Bool} {st : List Nat} {v : V} {k : Nat} (h : k ∈ st) : k ∈ (seen m st v).2 := by
  unfold seen; split
  · simp [h]
  · exact h
theorem seen_at {m : Nat → Bool} {st : List Nat} {v : V} (h : v.1 ≠ 0) : (seen m st v).1 v.1 = true := by
  unfold seen; split
  · exact mark_at _ _
  · rename_i c
    cases hm : m v.1
    · exact absurd ⟨h, hm⟩ c
    · exact hm
/-- Who is marked by a visit stands on the stack. -/
theorem seen_new {m : Nat → Bool} {st : List Nat} {v : V} {k : Nat} (h : (seen m st v).1 k = true) (h0 : m k = false) : k ∈ (seen m st v).2 ∧ k = v.1 ∧ v.1 ≠ 0 := by
  unfold seen at *
  split at h
  · rename_i c
    rw [if_pos c]
    by_cases e : k = v.1
    · exact ⟨by simp [e], e, c.1⟩
    · simp only [mark_off m v.1 k e, h0] at h; cases h
  · have h' : m k = true := h
    rw [h0] at h'; cases h'

/-- From the marks, the stack and a list of values, through cells that are not marked. -/
def Cov (m : Nat → Bool) (st : List Nat) (rest : List V) (M : Nat → List V) (p : Nat) : Prop :=
  ∀ S : Nat → Prop, (∀ k, m k = true → S k) → (∀ k, k ∈ st → ∀ v, v ∈ M k → v.1 ≠ 0 → S v.1) → (∀ v, v ∈ rest → v.1 ≠ 0 → S v.1) → (∀ k, m k = false → S k → ∀ v, v ∈ M k → v.1 ≠ 0 → S v.1) → S p
theorem cov_seen {m : Nat → Bool} {st : List Nat} {v : V} {rest : List V} {M : Nat → List V} {p : Nat} (h : Cov m st (v :: rest) M p) : Cov (seen m st v).1 (seen m st v).2 rest M p := by
  intro S h1 h2 h3 h4
  refine h S (fun k hk => h1 k (seen_up hk)) (fun k hk => h2 k (seen_st hk)) (fun u hu h0 => ?_) (fun k hk hS u hu h0 => ?_)
  · rcases List.mem_cons.1 hu with rfl | hu
    · exact h1 _ (seen_at h0)
    · exact h3 u hu h0
  · cases hm : (seen m st v).1 k
    · exact h4 k hm hS u hu h0
    · exact h2 k (seen_new hm hk).1 u hu h0
theorem cov_seenL {M : Nat → List V} {p : Nat} : ∀ (l : List V) (m : Nat → Bool) (st : List Nat), Cov m st l M p → Cov (seenL m st l).1 (seenL m st l).2 [] M p
  | [], _, _, h => h
  | _ :: l, _, _, h => cov_seenL l _ _ (cov_seen h)
theorem cov_pop {m : Nat → Bool} {st : List Nat} {q : Nat} {M : Nat → List V} {p : Nat} (h : Cov m (st ++ [q]) [] M p) : Cov m st (M q) M p := by
  intro S h1 h2 h3 h4
  refine h S h1 (fun k hk v hv h0 => ?_) (fun v hv => by simp at hv) h4
  rcases List.mem_append.1 hk with hk | hk
  · exact h2 k hk v hv h0
  · rw [List.mem_singleton.1 hk] at hv; exact h3 v hv h0
theorem cov_reach {nr : Nat} {s : St} {p : Nat} (h : Reach nr s p) : Cov (fun _ => false) [] (regs s.2.1 nr) s.2.2 p := by
  intro S _ _ h3 h4
  exact h S (fun i hi h0 => h3 _ (regs_mem.2 ⟨i, hi, rfl⟩) h0) (fun k hk => h4 k rfl hk)
theorem cov_end {m : Nat → Bool} {M : Nat → List V} {p : Nat} (h : Cov m [] [] M p) : m p = true :=
  h (fun k => m k = true) (fun _ h => h) (fun k hk => by simp at hk) (fun v hv => by simp at hv) (fun k h1 h2 => by rw [h1] at h2; cases h2)
theorem mem_of_set {l : List V} {i : Nat} {v u : V} (h : u ∈ l) : u ∈ l.set i v ∨ u = l.getD i (0, 0) := by
  obtain ⟨j, hj, rfl⟩ := List.getElem_of_mem h
  by_cases e : i = j
  · right; subst e; rw [List.getD_eq_getElem?_getD, List.getElem?_eq_getElem hj]; rfl
  · left
    have : (l.set i v)[j]? = some l[j] := by rw [List.getElem?_set, if_neg e, List.getElem?_eq_getElem hj]
    exact List.mem_of_getElem? this
/-- A slot is written, and what was there is visited. -/
theorem cov_put {m : Nat → Bool} {st : List Nat} {M : Nat → List V} {p : Nat} (a i : Nat) (v : V) (h : Cov m st [] M p) :
    Cov (seen m st ((M a).getD i (0, 0))).1 (seen m st ((M a).getD i (0, 0))).2 [] (lay M a ((M a).set i v)) p := by
  intro S h1 h2 _ h4
  have hu : ∀ k u, u ∈ M k → u ∈ lay M a ((M a).set i v) k ∨ u = (M a).getD i (0, 0) := by
    intro k u hu
    by_cases e : k = a
    · subst e; rw [lay_at]; exact mem_of_set hu
    · rw [lay_off _ _ _ _ e]; exact Or.inl hu
  refine h S (fun k hk => h1 k (seen_up hk)) (fun k hk u hm h0 => ?_) (fun v hv => by simp at hv) (fun k hk hS u hm h0 => ?_)
  · rcases hu k u hm with h | h
    · exact h2 k (seen_st hk) u h h0
    · subst h; exact h1 _ (seen_at h0)
  · rcases hu k u hm with h | h
    · cases hc : (seen m st ((M a).getD i (0, 0))).1 k
      · exact h4 k hc hS u h h0
      · exact h2 k (seen_new hc hk).1 u h h0
    · subst h; exact h1 _ (seen_at h0)

/-- A set that holds all that is or may be marked: closed, none of it free; and how far marks and places are. -/
structure Snap (on : Nat → Bool) (n : Nat) (M : Nat → List V) (c : Cy) (T : Nat → Prop) : Prop where
  ha : ∀ p, T p → 1 ≤ p ∧ p ≤ n ∧ on p = true
  hb : ∀ p, T p → ∀ v, v ∈ M p → Vok on n v ∧ (v.1 ≠ 0 → T v.1)
  hc : ∀ p, c.m p = true → T p
  hd : ∀ p, p ∈ c.st → c.m p = true
  he : c.st.Nodup
  hf : ∀ p, T p → Cov c.m c.st [] M p
  hg : 0 < c.nx → c.st = []
  hh : c.nx ≤ n
  hi : ∀ p, 1 ≤ p → p ≤ c.nx → on p = true → c.m p = true

theorem seen_pre {m : Nat → Bool} {st : List Nat} {v : V} {T : Nat → Prop} (hc : ∀ p, m p = true → T p) (hd : ∀ p, p ∈ st → m p = true) (he : st.Nodup) (hv : v.1 ≠ 0 → T v.1) :
    (∀ p, (seen m st v).1 p = true → T p) ∧ (∀ p, p ∈ (seen m st v).2 → (seen m st v).1 p = true) ∧ (seen m st v).2.Nodup := by
  refine ⟨fun p hp => ?_, fun p hp => ?_, ?_⟩
  · cases h : m p
    · obtain ⟨_, rfl, h0⟩ := seen_new hp h; exact hv h0
    · exact hc p h
  · unfold seen at hp ⊢
    split at hp
    · rename_i c
      rw [if_pos c]
      rcases List.mem_append.1 hp with hp | hp
      · exact mark_up _ (hd p hp)
      · rw [List.mem_singleton.1 hp]; exact mark_at _ _
    · rename_i c
      rw [if_neg c]; exact hd p hp
  · unfold seen
    split
    · rename_i c
      rw [List.nodup_append]
      refine ⟨he, by simp, fun a ha b hb => ?_⟩
      rw [List.mem_singleton.1 hb]
      rintro rfl
      have := hd _ ha
      rw [c.2] at this; cases this
    · exact he
theorem seenL_pre {T : Nat → Prop} : ∀ (l : List V) (m : Nat → Bool) (st : List Nat), (∀ p, m p = true → T p) → (∀ p, p ∈ st → m p = true) → st.Nodup → (∀ v, v ∈ l → v.1 ≠ 0 → T v.1) →
    (∀ p, (seenL m st l).1 p = true → T p) ∧ (∀ p, p ∈ (seenL m st l).2 → (seenL m st l).1 p = true) ∧ (seenL m st l).2.Nodup
  | [], _, _, h1, h2, h3, _ => ⟨h1, h2, h3⟩
  | v :: l, m, st, h1, h2, h3, h4 => by
    obtain ⟨a, b, c⟩ := seen_pre h1 h2 h3 (h4 v (List.mem_cons_self ..))
    exact seenL_pre l _ _ a b c (fun u hu => h4 u (List.mem_cons_of_mem _ hu))
theorem seenL_up : ∀ (l : List V) {m : Nat → Bool} {st : List Nat} {k : Nat}, m k = true → (seenL m st l).1 k = true
  | [], _, _, _, h => h
  | _ :: l, _, _, _, h => seenL_up l (seen_up h)

/-- The last of the stack is gone through. -/
def thru (M : Nat → List V) (c : Cy) (st : List Nat) (p : Nat) : Cy := ⟨(seenL c.m st (M p)).1, (seenL c.m st (M p)).2, c.nx⟩
/-- The next place is looked at. -/
def look (c : Cy) : Cy := ⟨c.m, c.st, c.nx + 1⟩
def swept (on : Nat → Bool) (c : Cy) : Nat → Bool := if c.m (c.nx + 1) = true then on else free on (c.nx + 1)
theorem swept_dn {on : Nat → Bool} {c : Cy} {p : Nat} (h : swept on c p = true) : on p = true := by
  unfold swept at h; split at h
  · exact h
  · exact free_dn h
theorem swept_off {on : Nat → Bool} {c : Cy} {p : Nat} (h : p ≠ c.nx + 1) : swept on c p = on p := by
  unfold swept; split
  · rfl
  · exact free_off _ _ _ h
theorem swept_m {on : Nat → Bool} {c : Cy} {p : Nat} (h : c.m p = true) : swept on c p = on p := by
  unfold swept; split
  · rfl
  · rename_i h'
    refine free_off _ _ _ ?_
    rintro rfl
    exact h' h
theorem swept_at {on : Nat → Bool} {c : Cy} (h : swept on c (c.nx + 1) = true) : c.m (c.nx + 1) = true := by
  unfold swept at h; split at h
  · assumption
  · rw [free_at] at h; cases h

section
variable {on : Nat → Bool} {n : Nat} {M : Nat → List V} {c : Cy} {T : Nat → Prop}
theorem Snap.len (h : Snap on n M c T) : c.st.length ≤ n := by
  have := len_le c.st ((List.range n).map (· + 1)) h.he (fun x hx => by
    rw [upto_mem]
    have := h.ha x (h.hc x (h.hd x hx))
    exact ⟨this.1, this.2.1⟩)
  simpa using this
theorem mem_cnt (m : Nat → Bool) : ∀ n, (((List.range n).map (· + 1)).filter m).length + cnt m n = n
  | 0 => rfl
  | n + 1 => by
    have := mem_cnt m n
    rw [List.range_succ, List.map_append, List.filter_append, List.length_append, cnt]
    cases h : m (n + 1) <;> simp [h] <;> omega
/-- No more is to be done than there are places. -/
theorem Snap.sum (h : Snap on n M c T) : c.st.length + cnt c.m n ≤ n := by
  have h1 := len_le c.st (((List.range n).map (· + 1)).filter c.m) h.he (fun x hx => by
    rw [List.mem_filter, upto_mem]
    have := h.ha x (h.hc x (h.hd x hx))
    exact ⟨⟨this.1, this.2.1⟩, h.hd x hx⟩)
  have := mem_cnt c.m n
  omega
theorem Snap.thru {st : List Nat} {p : Nat} (h : Snap on n M c T) (hs : c.st = st ++ [p]) : Snap on n M (thru M c st p) T := by
  have hp : c.m p = true := h.hd p (by rw [hs]; simp)
  have hn := h.he
  rw [hs, List.nodup_append] at hn
  obtain ⟨a, b, d⟩ := seenL_pre (T := T) (M p) c.m st h.hc (fun k hk => h.hd k (by rw [hs]; simp [hk])) hn.1 (fun v hv h0 => (h.hb p (h.hc p hp) v hv).2 h0)
  refine ⟨h.ha, h.hb, a, b, d, fun k hk => ?_, fun h0 => ?_, h.hh, fun k h1 h2 h3 => ?_⟩
  · have := h.hf k hk
    rw [hs] at this
    exact cov_seenL (M p) c.m st (cov_pop this)
  · have := h.hg h0
    rw [hs] at this
    simp at this
  · have := h.hi k h1 h2 h3
    exact seenL_up _ this
theorem Snap.look (h : Snap on n M c T) (hs : c.st = []) (hn : c.nx < n) : Snap (swept on c) n M (look c) T := by
  have hT : ∀ p, T p → c.m p = true := fun p hp => by
    have := h.hf p hp
    rw [hs] at this
    exact cov_end this
  have hv : ∀ v, Vok on n v → (v.1 ≠ 0 → T v.1) → Vok (swept on c) n v := by
    rintro v (h1 | ⟨h1, h2, h3, h4⟩) h5
    · exact Or.inl h1
    · exact Or.inr ⟨h1, h2, by rw [swept_m (hT _ (h5 (by omega)))]; exact h3, h4⟩
  refine ⟨fun p hp => ?_, fun p hp v hm => ?_, h.hc, h.hd, h.he, h.hf, fun _ => hs, hn, fun p h1 h2 h3 => ?_⟩
  · obtain ⟨a, b, d⟩ := h.ha p hp
    exact ⟨a, b, by rw [swept_m (hT p hp)]; exact d⟩
  · have := h.hb p hp v hm
    exact ⟨hv v this.1 this.2, this.2⟩
  · by_cases e : p = c.nx + 1
    · subst e; exact swept_at h3
    · have h2' : p ≤ c.nx + 1 := h2
      exact h.hi p h1 (by omega) (swept_dn h3)
theorem Snap.last (h : Snap on n M c T) (hs : c.st = []) (p : Nat) : c.m p = true ↔ T p :=
  ⟨h.hc p, fun hp => by have := h.hf p hp; rw [hs] at this; exact cov_end this⟩
end

/-- A cycle begins. -/
def begun (R : Nat → V) (nr : Nat) : Cy := ⟨(seenL (fun _ => false) [] (regs R nr)).1, (seenL (fun _ => false) [] (regs R nr)).2, 0⟩

/-- Registers and slots that can be reached hold values that are there; a cycle that is going on covers them. -/
structure Held (kd : Kd) (nr n : Nat) (s : St) : Prop where
  h1 : ∀ i, i < nr → Vok kd.on n (s.2.1 i)
  h2 : ∀ p, Reach nr s p → ∀ v, v ∈ s.2.2 p → Vok kd.on n v
  h3 : ∀ c, kd.cy = some c → c.nx < n ∧ ∃ T, (∀ p, Reach nr s p → T p) ∧ Snap kd.on n s.2.2 c T

theorem reach_kd {kd : Kd} {nr n : Nat} {s : St} (h : Held kd nr n s) {p : Nat} (hp : Reach nr s p) : kd.on p = true ∧ 1 ≤ p ∧ p ≤ n := by
  have := hp (fun p => Reach nr s p ∧ kd.on p = true ∧ 1 ≤ p ∧ p ≤ n) (fun i hi h0 => ?_) (fun k hk v hv h0 => ?_)
  · exact this.2
  · rcases h.h1 i hi with h1 | ⟨h1, h2, h3, _⟩
    · exact absurd h1 h0
    · exact ⟨reach_reg i hi h0, h3, h1, h2⟩
  · rcases h.h2 k hk.1 v hv with h1 | ⟨h1, h2, h3, _⟩
    · exact absurd h1 h0
    · exact ⟨reach_slot hk.1 hv h0, h3, h1, h2⟩
/-- What can be reached is a set of which a cycle may begin. -/
theorem snap_begun {kd : Kd} {nr n : Nat} {s : St} (h : Held kd nr n s) : Snap kd.on n s.2.2 (begun s.2.1 nr) (Reach nr s) := by
  obtain ⟨a, b, d⟩ := seenL_pre (T := Reach nr s) (regs s.2.1 nr) (fun _ => false) [] (fun p h => by cases h) (fun p h => by simp at h) (by simp) (fun v hv h0 => by
    obtain ⟨i, hi, rfl⟩ := regs_mem.1 hv
    exact reach_reg i hi h0)
  refine ⟨fun p hp => ?_, fun p hp v hv => ⟨h.h2 p hp v hv, fun h0 => reach_slot hp hv h0⟩, a, b, d, fun p hp => cov_seenL _ _ _ (cov_reach hp), fun h0 => absurd h0 (Nat.lt_irrefl 0), Nat.zero_le _, fun p h1 h2 => by have h2' : p ≤ 0 := h2; omega⟩
  have := reach_kd h hp
  exact ⟨this.2.1, this.2.2, this.1⟩
end Go.Proofs.YtnjiinbhbjpfkaaGreatDoor.B

/-
  What registers and slots hold, behind an instruction, a new cell, a collection and the collector's units. Nothing of the program is imported here.
-/
namespace Go.Proofs.YtnjiinbhbjpfkaaGreatDoor.B

theorem vok_num (on : Nat → Bool) (n : Nat) (x : Int) : Vok on n (0, x) := Or.inl rfl
theorem Vok.up {on on' : Nat → Bool} {n : Nat} {v : V} (h : Vok on n v) (hu : ∀ k, on k = true → on' k = true) : Vok on' n v := by
  rcases h with h | ⟨h1, h2, h3, h4⟩
  · exact Or.inl h
  · exact Or.inr ⟨h1, h2, hu _ h3, h4⟩
theorem held_none (nr n : Nat) : Held kd0 nr n (0, fun _ => (0, 0), fun _ => []) :=
  ⟨fun _ _ => Or.inl rfl, fun _ _ v hv => (by simp at hv), fun c h => by cases h⟩
/-- Fewer can be reached. -/
theorem held_sub {kd : Kd} {nr nr' n : Nat} {s s' : St} (h : Held kd nr n s) (hM : s'.2.2 = s.2.2) (hr : ∀ p, Reach nr' s' p → Reach nr s p) (hv : ∀ i, i < nr' → Vok kd.on n (s'.2.1 i)) : Held kd nr' n s' :=
  ⟨hv, fun p hp v hm => h.h2 p (hr p hp) v (by rw [← hM]; exact hm), fun c hc => by
    obtain ⟨h1, T, h2, h3⟩ := h.h3 c hc
    exact ⟨h1, T, fun p hp => h2 p (hr p hp), by rw [hM]; exact h3⟩⟩
/-- Other registers, of which each holds what could be reached. -/
theorem reach_regs {nr nr' : Nat} {s : St} {R : Nat → V} {x : Nat} (h : ∀ i, i < nr' → (R i).1 ≠ 0 → Reach nr s (R i).1) {p : Nat} (hp : Reach nr' (x, R, s.2.2) p) : Reach nr s p :=
  hp (Reach nr s) (fun i hi h0 => h i hi h0) (fun _ hk _ hv h0 => reach_slot hk hv h0)
theorem held_at {kd : Kd} {nr n : Nat} {s : St} (h : Held kd nr n s) (x : Nat) : Held kd nr n (x, s.2.1, s.2.2) :=
  held_sub h rfl (fun _ hp => reach_regs (s := s) (fun i hi h0 => reach_reg i hi h0) hp) h.h1
theorem held_set {kd : Kd} {nr n : Nat} {s : St} (h : Held kd nr n s) (x a : Nat) (v : V) (hv : Vok kd.on n v) (hr : v.1 ≠ 0 → Reach nr s v.1) : Held kd nr n (x, set s.2.1 a v, s.2.2) := by
  refine held_sub h rfl (fun p hp => reach_regs (s := s) (fun i hi h0 => ?_) hp) (fun i hi => ?_)
  · by_cases e : i = a
    · subst e; rw [set_at] at h0 ⊢; exact hr h0
    · rw [set_off _ _ _ _ e] at h0 ⊢; exact reach_reg i hi h0
  · by_cases e : i = a
    · subst e; simp only [set_at]; exact hv
    · simp only [set_off _ _ _ _ e]; exact h.h1 i hi
theorem held_num {kd : Kd} {nr n : Nat} {s : St} (h : Held kd nr n s) (x a : Nat) (y : Int) : Held kd nr n (x, set s.2.1 a (0, y), s.2.2) := held_set h x a _ (vok_num _ _ _) (fun h => absurd rfl h)
theorem held_get {kd : Kd} {nr n : Nat} {s : St} (h : Held kd nr n s) {p : Nat} (hp : Reach nr s p) (i : Nat) : Vok kd.on n ((s.2.2 p).getD i (0, 0)) ∧ (((s.2.2 p).getD i (0, 0)).1 ≠ 0 → Reach nr s ((s.2.2 p).getD i (0, 0)).1) := by
  by_cases hi : i < (s.2.2 p).length
  · rw [List.getD_eq_getElem?_getD, List.getElem?_eq_getElem hi]
    exact ⟨h.h2 p hp _ (List.getElem_mem hi), fun h0 => reach_slot hp (List.getElem_mem hi) h0⟩
  · rw [List.getD_eq_getElem?_getD, List.getElem?_eq_none (by omega)]
    exact ⟨Or.inl rfl, fun h => absurd rfl h⟩

/-- The collector is told of what was in a slot. -/
def told (kd : Kd) (v : V) : Kd := { kd with cy := kd.cy.map (fun c => ⟨(seen c.m c.st v).1, (seen c.m c.st v).2, c.nx⟩) }
/-- A new cell at a place. -/
def laid (kd : Kd) (p : Nat) : Kd := { kd with on := mark kd.on p, cy := kd.cy.map (fun c => ⟨mark c.m p, c.st, c.nx⟩) }

theorem reach_put {nr : Nat} {s : St} {x p i : Nat} {v : V} (hp : Reach nr s p) (hv : v.1 ≠ 0 → Reach nr s v.1) {k : Nat} (hk : Reach nr (x, s.2.1, lay s.2.2 p ((s.2.2 p).set i v)) k) : Reach nr s k := by
  refine hk (Reach nr s) (fun i hi h0 => reach_reg i hi h0) (fun j hj u hu h0 => ?_)
  by_cases e : j = p
  · subst e
    simp only [lay_at] at hu
    rcases List.mem_or_eq_of_mem_set hu with hu | rfl
    · exact reach_slot hj hu h0
    · exact hv h0
  · simp only [lay_off _ _ _ _ e] at hu
    exact reach_slot hj hu h0
theorem held_put {kd : Kd} {nr n : Nat} {s : St} (h : Held kd nr n s) (x p i : Nat) (v : V) (hp : Reach nr s p) (hv : Vok kd.on n v) (hr : v.1 ≠ 0 → Reach nr s v.1) :
    Held (told kd ((s.2.2 p).getD i (0, 0))) nr n (x, s.2.1, lay s.2.2 p ((s.2.2 p).set i v)) := by
  refine ⟨h.h1, fun k hk u hu => ?_, fun c hc => ?_⟩
  · have hk' := reach_put hp hr hk
    by_cases e : k = p
    · subst e
      simp only [lay_at] at hu
      rcases List.mem_or_eq_of_mem_set hu with hu | rfl
      · exact h.h2 k hk' u hu
      · exact hv
    · simp only [lay_off _ _ _ _ e] at hu
      exact h.h2 k hk' u hu
  · have hc' : kd.cy.map (fun c : Cy => (⟨(seen c.m c.st ((s.2.2 p).getD i (0, 0))).1, (seen c.m c.st ((s.2.2 p).getD i (0, 0))).2, c.nx⟩ : Cy)) = some c := hc
    rw [Option.map_eq_some_iff] at hc'
    obtain ⟨c0, hc0, rfl⟩ := hc'
    obtain ⟨hx, T, hT, hs⟩ := h.h3 c0 hc0
    have hpT := hT p hp
    obtain ⟨a, b, d⟩ := seen_pre (v := (s.2.2 p).getD i (0, 0)) hs.hc hs.hd hs.he (fun h0 => hT _ ((held_get h hp i).2 h0))
    refine ⟨hx, T, fun k hk => hT k (reach_put hp hr hk), hs.ha, fun k hk u hu => ?_, a, b, d, fun k hk => cov_put p i v (hs.hf k hk), fun h0 => ?_, hs.hh, fun k h1 h2 h3 => seen_up (hs.hi k h1 h2 h3)⟩
    · by_cases e : k = p
      · subst e
        simp only [lay_at] at hu
        rcases List.mem_or_eq_of_mem_set hu with hu | rfl
        · exact hs.hb k hk u hu
        · exact ⟨hv, fun h0 => hT _ (hr h0)⟩
      · simp only [lay_off _ _ _ _ e] at hu
        exact hs.hb k hk u hu
    · have hst := hs.hg h0
      show (seen c0.m c0.st ((s.2.2 p).getD i (0, 0))).2 = []
      unfold seen
      split
      · rename_i hn
        have := (hs.last hst _).2 (hT _ ((held_get h hp i).2 hn.1))
        rw [hn.2] at this; cases this
      · exact hst
/-- A new cell at a free place. -/
theorem reach_new {nr : Nat} {s : St} {x a p b : Nat} {k : Nat} (hk : Reach nr (x, set s.2.1 a (p, 0), lay s.2.2 p (List.replicate b (0, 0))) k) : k = p ∨ Reach nr s k := by
  refine hk (fun k => k = p ∨ Reach nr s k) (fun i hi h0 => ?_) (fun k hk u hu h0 => ?_)
  · by_cases e : i = a
    · subst e
      show (set s.2.1 i (p, 0) i).1 = p ∨ _
      rw [set_at]; exact Or.inl rfl
    · simp only [set_off _ _ _ _ e] at h0 ⊢; exact Or.inr (reach_reg i hi h0)
  · by_cases e : k = p
    · subst e
      simp only [lay_at] at hu
      rw [List.eq_of_mem_replicate hu] at h0
      exact absurd rfl h0
    · simp only [lay_off _ _ _ _ e] at hu
      rcases hk with hk | hk
      · exact absurd hk e
      · exact Or.inr (reach_slot hk hu h0)
theorem held_new {kd : Kd} {nr n : Nat} {s : St} (h : Held kd nr n s) (x a p b : Nat) (h1 : 1 ≤ p) (h2 : p ≤ n) (h3 : kd.on p = false) :
    Held (laid kd p) nr n (x, set s.2.1 a (p, 0), lay s.2.2 p (List.replicate b (0, 0))) := by
  refine ⟨fun i hi => ?_, fun k hk u hu => ?_, fun c hc => ?_⟩
  · by_cases e : i = a
    · subst e; simp only [set_at]; exact Or.inr ⟨h1, h2, mark_at _ _, rfl⟩
    · simp only [set_off _ _ _ _ e]; exact (h.h1 i hi).up (fun k => mark_up p)
  · by_cases e : k = p
    · subst e
      simp only [lay_at] at hu
      rw [List.eq_of_mem_replicate hu]
      exact Or.inl rfl
    · simp only [lay_off _ _ _ _ e] at hu
      rcases reach_new hk with hk | hk
      · exact absurd hk e
      · exact (h.h2 k hk u hu).up (fun k => mark_up p)
  · have hc' : kd.cy.map (fun c : Cy => (⟨mark c.m p, c.st, c.nx⟩ : Cy)) = some c := hc
    rw [Option.map_eq_some_iff] at hc'
    obtain ⟨c0, hc0, rfl⟩ := hc'
    obtain ⟨hx, T, hT, hs⟩ := h.h3 c0 hc0
    have hn : ∀ k, T k → k ≠ p := by
      rintro k hk rfl
      have := (hs.ha k hk).2.2
      rw [h3] at this; cases this
    refine ⟨hx, fun k => k = p ∨ T k, fun k hk => (reach_new hk).imp id (hT k), fun k hk => ?_, fun k hk u hu => ?_, fun k hk => ?_, fun k hk => mark_up _ (hs.hd k hk), hs.he, fun k hk => ?_, hs.hg, hs.hh, fun k a1 a2 a3 => ?_⟩
    · rcases hk with rfl | hk
      · exact ⟨h1, h2, mark_at _ _⟩
      · have := hs.ha k hk
        exact ⟨this.1, this.2.1, mark_up _ this.2.2⟩
    · rcases hk with rfl | hk
      · simp only [lay_at] at hu
        rw [List.eq_of_mem_replicate hu]
        exact ⟨Or.inl rfl, fun h => absurd rfl h⟩
      · simp only [lay_off _ _ _ _ (hn k hk)] at hu
        have := hs.hb k hk u hu
        exact ⟨this.1.up (fun k => mark_up p), fun h0 => Or.inr (this.2 h0)⟩
    · by_cases e : k = p
      · exact Or.inl e
      · have hk' : mark c0.m p k = true := hk
        rw [mark_off _ _ _ e] at hk'
        exact Or.inr (hs.hc k hk')
    · intro S s1 s2 _ s4
      rcases hk with rfl | hk
      · exact s1 k (mark_at _ _)
      · refine (hs.hf k hk (fun k => S k ∧ T k) (fun k hk => ⟨s1 k (mark_up _ hk), hs.hc k hk⟩) (fun k hk u hu h0 => ?_) (fun v hv => by simp at hv) (fun k hm hk u hu h0 => ?_)).1
        · have hkT := hs.hc k (hs.hd k hk)
          exact ⟨s2 k hk u (by simp only [lay_off _ _ _ _ (hn k hkT)]; exact hu) h0, (hs.hb k hkT u hu).2 h0⟩
        · have hkp := hn k hk.2
          exact ⟨s4 k (by show mark c0.m p k = false; rw [mark_off _ _ _ hkp]; exact hm) hk.1 u (by simp only [lay_off _ _ _ _ hkp]; exact hu) h0, (hs.hb k hk.2 u hu).2 h0⟩
    · by_cases e : k = p
      · subst e; exact mark_at _ _
      · have a3' : mark kd.on p k = true := a3
        rw [mark_off _ _ _ e] at a3'
        exact mark_up _ (hs.hi k a1 a2 a3')
/-- A forced collection: what can be reached stays, and nothing else. -/
theorem held_force {kd : Kd} {on : Nat → Bool} {nr n : Nat} {s : St} (h : Held kd nr n s) (hm : ∀ p, Reach nr s p → on p = true) : Held ⟨on, none, kd.un, kd.fo + 1, kd.cc⟩ nr n s := by
  have key : ∀ v, Vok kd.on n v → (v.1 ≠ 0 → Reach nr s v.1) → Vok on n v := by
    intro v hv hr
    rcases hv with h | ⟨h1, h2, h3, h4⟩
    · exact Or.inl h
    · exact Or.inr ⟨h1, h2, hm _ (hr (by omega)), h4⟩
  exact ⟨fun i hi => key _ (h.h1 i hi) (fun h0 => reach_reg i hi h0), fun k hk u hu => key _ (h.h2 k hk u hu) (fun h0 => reach_slot hk hu h0), fun c hc => by cases hc⟩
/-- The instruction Cell where a place was free. -/
theorem does_cell {kd : Kd} {nr n : Nat} {s : St} (h : Held kd nr n s) (a p b : Nat) (h1 : 1 ≤ p) (h2 : p ≤ n) (h3 : kd.on p = false) (c : Nat) :
    Does nr n (9, a, b, c) s (s.1 + 1, set s.2.1 a (p, 0), lay s.2.2 p (List.replicate b (0, 0))) 0 [] := by
  have hn : ¬ Reach nr s p := fun hp => by have := (reach_kd h hp).1; rw [h3] at this; cases this
  exact Or.inr ⟨rfl, rfl, p, _, h1, h2, hn, fun k hk => lay_off _ p k _ (fun e => hn (by rw [← e]; exact hk)), lay_at _ _ _, rfl⟩
/-- The instruction Cell where no place was free behind a collection. -/
theorem does_spend {nr n : Nat} {s : St} (ha : ∀ p, 1 ≤ p → p ≤ n → Reach nr s p) (a b c : Nat) (s' : St) : Does nr n (9, a, b, c) s s' 2 [(5, 0)] :=
  Or.inl ⟨ha, rfl, rfl⟩

/-- One unit: places, and the cycle. -/
def unit (M : Nat → List V) (on : Nat → Bool) (c : Cy) : (Nat → Bool) × Cy :=
  match c.st.getLast? with
  | some p => (on, thru M c c.st.dropLast p)
  | none => (swept on c, look c)
theorem unit_thru {M : Nat → List V} {on : Nat → Bool} {c : Cy} {st : List Nat} {p : Nat} (h : c.st = st ++ [p]) : unit M on c = (on, thru M c st p) := by
  unfold unit; rw [h]; simp
theorem unit_look {M : Nat → List V} {on : Nat → Bool} {c : Cy} (h : c.st = []) : unit M on c = (swept on c, look c) := by
  unfold unit; rw [h]; rfl
/-- So many units, no further than a cycle's end. -/
def units (M : Nat → List V) (n : Nat) : Nat → Kd → Kd
  | 0, kd => kd
  | u + 1, kd =>
    match kd.cy with
    | none => kd
    | some c => units M n u (if (unit M kd.on c).2.nx = n then ⟨(unit M kd.on c).1, none, kd.un + 1, kd.fo, kd.cc + 1⟩ else ⟨(unit M kd.on c).1, some (unit M kd.on c).2, kd.un + 1, kd.fo, kd.cc⟩)
/-- The collector's work at a turn. -/
def work (R : Nat → V) (nr : Nat) (M : Nat → List V) (n u : Nat) (kd : Kd) : Kd :=
  units M n u (match kd.cy with | none => { kd with cy := some (begun R nr) } | some _ => kd)

theorem snap_unit {on : Nat → Bool} {n : Nat} {M : Nat → List V} {c : Cy} {T : Nat → Prop} (h : Snap on n M c T) (hx : c.nx < n) : Snap (unit M on c).1 n M (unit M on c).2 T := by
  rcases List.eq_nil_or_concat c.st with hs | ⟨st, p, hs⟩
  · rw [unit_look hs]; exact h.look hs hx
  · rw [List.concat_eq_append] at hs
    rw [unit_thru hs]; exact h.thru hs
theorem unit_dn {on : Nat → Bool} {M : Nat → List V} {c : Cy} {p : Nat} (h : (unit M on c).1 p = true) : on p = true := by
  rcases List.eq_nil_or_concat c.st with hs | ⟨st, q, hs⟩
  · rw [unit_look hs] at h; exact swept_dn h
  · rw [List.concat_eq_append] at hs
    rw [unit_thru hs] at h; exact h
/-- The places that are not free hold on to what can be reached. -/
theorem held_on {kd kd' : Kd} {nr n : Nat} {s : St} {T : Nat → Prop} (h : Held kd nr n s) (hT : ∀ p, Reach nr s p → T p) (ho : ∀ p, T p → kd'.on p = true) (hc : ∀ c, kd'.cy = some c → c.nx < n ∧ Snap kd'.on n s.2.2 c T) : Held kd' nr n s := by
  have key : ∀ v, Vok kd.on n v → (v.1 ≠ 0 → Reach nr s v.1) → Vok kd'.on n v := by
    intro v hv hr
    rcases hv with h | ⟨h1, h2, h3, h4⟩
    · exact Or.inl h
    · exact Or.inr ⟨h1, h2, ho _ (hT _ (hr (by omega))), h4⟩
  exact ⟨fun i hi => key _ (h.h1 i hi) (fun h0 => reach_reg i hi h0), fun k hk u hu => key _ (h.h2 k hk u hu) (fun h0 => reach_slot hk hu h0), fun c h => ⟨(hc c h).1, T, hT, (hc c h).2⟩⟩
theorem held_begun {kd : Kd} {nr n : Nat} {s : St} (h : Held kd nr n s) (hn : 1 ≤ n) : Held { kd with cy := some (begun s.2.1 nr) } nr n s :=
  held_on (T := Reach nr s) h (fun _ h => h) (fun _ h' => (reach_kd h h').1) (fun c hc => by
    have : begun s.2.1 nr = c := by injection hc
    subst this
    exact ⟨hn, snap_begun (kd := kd) h⟩)
/-- A unit of a cycle that is going on. -/
def stepK (M : Nat → List V) (n : Nat) (kd : Kd) (c : Cy) : Kd := if (unit M kd.on c).2.nx = n then ⟨(unit M kd.on c).1, none, kd.un + 1, kd.fo, kd.cc + 1⟩ else ⟨(unit M kd.on c).1, some (unit M kd.on c).2, kd.un + 1, kd.fo, kd.cc⟩
theorem held_step {kd : Kd} {nr n : Nat} {s : St} {c : Cy} (h : Held kd nr n s) (hc : kd.cy = some c) : Held (stepK s.2.2 n kd c) nr n s := by
  obtain ⟨hx, T, hT, hs⟩ := h.h3 c hc
  have hs' := snap_unit hs hx
  unfold stepK
  split
  · exact held_on (T := T) h hT (fun p hp => (hs'.ha p hp).2.2) (fun c hc => by cases hc)
  · rename_i hne
    refine held_on (T := T) h hT (fun p hp => (hs'.ha p hp).2.2) (fun c' hc' => ?_)
    have : (unit s.2.2 kd.on c).2 = c' := by injection hc'
    subst this
    exact ⟨Nat.lt_of_le_of_ne hs'.hh hne, hs'⟩
theorem units_succ {M : Nat → List V} {n u : Nat} {kd : Kd} {c : Cy} (h : kd.cy = some c) : units M n (u + 1) kd = units M n u (stepK M n kd c) := by
  rw [units, h]; rfl
theorem units_none {M : Nat → List V} {n u : Nat} {kd : Kd} (h : kd.cy = none) : units M n u kd = kd := by
  cases u with
  | zero => rfl
  | succ u => rw [units, h]
end Go.Proofs.YtnjiinbhbjpfkaaGreatDoor.B

/-
  A list of one cell an element, that may begin within its block (it was cut in front): one more at its end.
-/
namespace Go.Proofs.YtnjiinbhbjpfkaaGreatDoor
open Go.RowKit

/-- The list xs lies at the slice v. -/
def Qrow (w : World) (e : TypeId) (v : Value) (xs : List Value) : Prop :=
  (v = .slice none 0 0 ∧ xs = []) ∨
  ∃ g off cap n P, v = .slice (some ⟨g, off, none⟩) xs.length cap ∧ xs.length ≤ cap ∧ cap ≤ maxLen ∧ off + cap ≤ n ∧ Full w g e n (off + xs.length) P ∧ ∀ j u, xs[j]? = some u → P (off + j) = u

theorem Qrow.lt {w : World} {e : TypeId} {v : Value} {xs : List Value} (h : Qrow w e v xs) : ∀ k, v.ownBlock = some k → k < w.heap.size := by
  intro k hk
  rcases h with ⟨rfl, _⟩ | ⟨g, off, cap, n, P, rfl, _, _, _, hF, _⟩
  · simp [Value.ownBlock] at hk
  · simp [Value.ownBlock] at hk; subst hk; exact hF.lt
theorem Qrow.block {w w' : World} {e : TypeId} {v : Value} {xs : List Value} (h : Qrow w e v xs) (hb : ∀ k, v.ownBlock = some k → w'.heap[k]? = w.heap[k]?) : Qrow w' e v xs := by
  rcases h with h | ⟨g, off, cap, n, P, rfl, h1, h2, h3, hF, hP⟩
  · exact Or.inl h
  · exact Or.inr ⟨g, off, cap, n, P, rfl, h1, h2, h3, hF.block (hb g rfl), hP⟩
theorem Qrow.cell {w : World} {e : TypeId} {g off len cap : Nat} {xs : List Value} (h : Qrow w e (.slice (some ⟨g, off, none⟩) len cap) xs) : len = xs.length ∧ ∀ j u, xs[j]? = some u → w.cell? ⟨g, off + j, none⟩ = some u := by
  rcases h with ⟨h, _⟩ | ⟨g', off', cap', n, P, h, h1, h2, h3, hF, hP⟩
  · cases h
  · injection h with a b c
    injection a with a
    injection a with a1 a2
    subst a1 a2
    refine ⟨b, fun j u hu => ?_⟩
    have hj : j < xs.length := by
      rcases Nat.lt_or_ge j xs.length with hlt | hge
      · exact hlt
      · rw [List.getElem?_eq_none hge] at hu; cases hu
    rw [hF.cell (off + j) (by omega), hP j u hu]

theorem Qrow.nil (w : World) (e : TypeId) : Qrow w e (.slice none 0 0) [] := Or.inl ⟨rfl, rfl⟩
/-- The list without its last element, and that element. -/
theorem Qrow.pop {w : World} {e : TypeId} {ad : Option Addr} {cap : Nat} {xs : List Value} {x : Value} (h : Qrow w e (.slice ad (xs.length + 1) cap) (xs ++ [x])) :
    ∃ g off, ad = some ⟨g, off, none⟩ ∧ g < w.heap.size ∧ xs.length + 1 ≤ cap ∧ w.cell? ⟨g, off + xs.length, none⟩ = some x ∧ Qrow w e (.slice ad xs.length cap) xs := by
  rcases h with ⟨_, h⟩ | ⟨g, off, cap', n, P, h, h1, h2, h3, hF, hP⟩
  · simp at h
  · injection h with a b c
    subst a c
    simp only [List.length_append, List.length_singleton] at h1 hF
    refine ⟨g, off, rfl, hF.lt, h1, ?_, Or.inr ⟨g, off, cap, n, P, rfl, by omega, h2, h3, ?_, fun j u hu => hP j u ?_⟩⟩
    · rw [hF.cell (off + xs.length) (by omega), hP xs.length x (by simp)]
    · obtain ⟨cur, f1, f2, f3⟩ := hF
      exact ⟨cur, f1, f2, fun j hj => f3 j (by omega)⟩
    · have hj : j < xs.length := by
        rcases Nat.lt_or_ge j xs.length with hlt | hge
        · exact hlt
        · rw [List.getElem?_eq_none hge] at hu; cases hu
      rw [List.getElem?_append_left hj]; exact hu
theorem Qrow.ty {w : World} {e : TypeId} {v : Value} {xs : List Value} (h : Qrow w e v xs) (k : Nat) (hk : v.ownBlock = some k) : ∃ cur, w.heap[k]? = some (.cells cur e (0, 0)) := by
  rcases h with ⟨rfl, _⟩ | ⟨g, off, cap, n, P, rfl, _, _, _, ⟨cur, h1, _⟩, _⟩
  · simp [Value.ownBlock] at hk
  · simp [Value.ownBlock] at hk; subst hk; exact ⟨cur, h1⟩

/-- 'append' of one. -/
theorem run_append_q {P : Program} (w : World) (t ty e : TypeId) (i : TypeInfo) (z : Value) (bytes : Nat) (ht : P.underlying t = some (.slice e)) (hi : P.info? e = some i) (hz : i.zero = some z)
    (hsize : i.size = 1) (hby : i.bytes = bytes) (hzs : z.cells.size = 1) (v : Value) (xs : List Value) (hq : Qrow w e v xs) (ad : Addr) (c : Nat) (y : Value) (hy : w.cell? ad = some y) (h1 : y.oneCell' = true)
    (hm : xs.length + 1 ≤ maxLen) (hbytes : (xs.length + 1) * bytes ≤ 140737488355328) :
    ∃ g off cap w', (Builtin.append_ #[t, t] ty #[v, .slice (some ad) 1 c]).run P w = .ok (.slice (some ⟨g, off, none⟩) (xs.length + 1) cap) w' ∧ Qrow w' e (.slice (some ⟨g, off, none⟩) (xs.length + 1) cap) (xs ++ [y]) ∧ w.grownBy w' v.ownBlock ∧ (v.ownBlock = some g ∨ g = w.heap.size) := by
  have hnews : ∀ j u, [y][j]? = some u → w.cell? (ad.add j) = some u := by
    intro j u hu
    match j, hu with
    | 0, hu => simp at hu; subst hu; simpa [Addr.add] using hy
  have hs : Src P i.size t (.slice (some ad) 1 c) 1 [y] w := Src.ofSlice w ht ad 1 c [y] (by rw [hsize]; rfl) hnews (by intro u hu; simp at hu; subst hu; exact h1)
  have hsm : ((xs.length + 1 : Nat) : Int) ≤ 9223372036854775807 := by unfold maxLen at hm; omega
  -- a new row
  have grown : ∀ (b : Option Addr) (old : Nat), v = .slice b xs.length old → old < xs.length + 1 → (∀ j u, xs[j]? = some u → ∃ a, b = some a ∧ w.cell? (a.add j) = some u) → ∃ g off cap w', (Builtin.append_ #[t, t] ty #[v, .slice (some ad) 1 c]).run P w = .ok (.slice (some ⟨g, off, none⟩) (xs.length + 1) cap) w' ∧ Qrow w' e (.slice (some ⟨g, off, none⟩) (xs.length + 1) cap) (xs ++ [y]) ∧ w.grownBy w' v.ownBlock ∧ (v.ownBlock = some g ∨ g = w.heap.size) := by
    intro b old hv ho hc
    subst hv
    have hold : (Builtin.firstCells i.size xs.length (.slice b xs.length old)).run P w.drew = .ok xs.toArray w.drew := by
      match b, hc with
      | none, hc =>
        have hx : xs = [] := by
          cases xs with
          | nil => rfl
          | cons a l => obtain ⟨_, h, _⟩ := hc 0 a rfl; cases h
        subst hx
        exact run_firstCells_none w.drew i.size 0 0 old
      | some a, hc => exact run_firstCells_some w.drew i.size xs.length a xs.length old xs (by rw [hsize, Nat.mul_one]) (fun j u hu => by obtain ⟨a', h, h2⟩ := hc j u hu; cases h; simpa using h2)
    have hr := run_append_grow_src (P := P) w t t ty e i z ht hi hz b xs.length old xs hold _ 1 [y] hs ho hsm (by rw [hby]; exact growslice_fits ho hbytes)
    have hge := grownCap_ge w (xs.length + 1) old e
    have hcm := grownCap_le_maxLen w (xs.length + 1) old e hm
    refine ⟨_, _, _, _, hr, Or.inr ⟨w.heap.size, 0, _, grownCap w (xs.length + 1) old e, fun j => (xs ++ [y]).getD j y, by simp, by simpa using hge, hcm, by omega, ⟨_, heap_alloc_new w.drew _, ?_, fun j hj => ?_⟩, fun j u hu => ?_⟩, ⟨rfl, rfl, rfl, by simp, fun k hk _ => Go.heap_alloc_old w.drew _ hk⟩, Or.inr rfl⟩
    · simp only [Array.size_append, List.size_toArray, size_zeroCells, hzs, List.length_append, List.length_cons, List.length_nil]
      omega
    · have hj2 : j < (xs ++ [y]).length := by simpa using hj
      rw [Array.getElem?_append_left (by simpa using hj2), List.getElem?_toArray, List.getElem?_eq_getElem hj2]
      show _ = some ((xs ++ [y]).getD j y)
      rw [List.getD_eq_getElem?_getD, List.getElem?_eq_getElem hj2]; rfl
    · show (xs ++ [y]).getD (0 + j) y = u
      rw [Nat.zero_add, List.getD_eq_getElem?_getD, hu]; rfl
  rcases hq with ⟨rfl, rfl⟩ | ⟨g, off, cap, n, Q, rfl, hlc, hcm, hn, hF, hP⟩
  · exact grown none 0 rfl (by omega) (fun j u hu => by simp at hu)
  · by_cases hroom : xs.length + 1 ≤ cap
    · have hk : off + xs.length < n := by omega
      have hF2 := (hF.congr (Q := upd Q (off + xs.length) y) (fun j hj => (upd_off _ _ _ _ (by omega)).symm)).set hk
      rw [upd_at] at hF2
      obtain ⟨cur, hh, hcs, _⟩ := hF
      have hr := run_append_room_src (P := P) w t t ty e i ht hi g off xs.length cap _ 1 [y] hs hroom (by
        intro j hj
        simp at hj; subst hj
        rw [hsize, Nat.mul_one, Nat.add_zero]
        simp [World.cell?, hh, hcs, hk]) (by
        intro j hj
        simp at hj; subst hj
        simp [World.frozen?, hh])
      rw [hsize, Nat.mul_one] at hr
      refine ⟨g, off, cap, _, hr, Or.inr ⟨g, off, cap, n, upd Q (off + xs.length) y, by simp, by simpa using hroom, hcm, hn, ?_, fun j u hu => ?_⟩, ?_, Or.inl rfl⟩
      · rw [List.length_append]
        exact hF2
      · by_cases hj : j < xs.length
        · rw [List.getElem?_append_left hj] at hu
          rw [upd_off _ _ _ _ (by omega)]
          exact hP j u hu
        · rw [List.getElem?_append_right (by omega)] at hu
          have : j = xs.length := by
            rcases Nat.lt_or_ge (j - xs.length) 1 with h | h
            · omega
            · rw [List.getElem?_eq_none (by simpa using h)] at hu; cases hu
          subst this
          simp at hu
          rw [upd_at]; exact hu
      · exact grown_setCell (a := ⟨g, off + xs.length, none⟩) (grown_refl _ _) (Or.inl rfl) y
    · refine grown (some ⟨g, off, none⟩) cap rfl (by omega) (fun j u hu => ⟨_, rfl, ?_⟩)
      have hj : j < xs.length := by
        rcases Nat.lt_or_ge j xs.length with hlt | hge
        · exact hlt
        · rw [List.getElem?_eq_none hge] at hu; cases hu
      have := hF.cell (off + j) (by omega)
      rw [hP j u hu] at this
      rw [Addr.add_lit]; exact this
/-- At the operation. -/
theorem wp_append_q {P : Program} (w : World) {o : Oper} {a : Act} {K : Act → World → Prop} {Q : Exit → Act → World → Prop} (s x : Operand) (t : TypeId)
    (ho : o.op = .call { callee := .builtin .append, args := #[s, x], argTypes := #[t, t] })
    (e : TypeId) (i : TypeInfo) (z : Value) (bytes : Nat) (ht : P.underlying t = some (.slice e)) (hi : P.info? e = some i) (hz : i.zero = some z) (hsize : i.size = 1) (hby : i.bytes = bytes) (hzs : z.cells.size = 1)
    (v : Value) (xs : List Value) (hs : a.eval s = v) (hq : Qrow w e v xs) (ad : Addr) (c : Nat) (y : Value) (hx : a.eval x = .slice (some ad) 1 c) (hy : w.cell? ad = some y) (h1 : y.oneCell' = true)
    (hm : xs.length + 1 ≤ maxLen) (hbytes : (xs.length + 1) * bytes ≤ 140737488355328)
    (h : ∀ g off cap w', Qrow w' e (.slice (some ⟨g, off, none⟩) (xs.length + 1) cap) (xs ++ [y]) → w.grownBy w' v.ownBlock → (v.ownBlock = some g ∨ g = w.heap.size) → K (a.put o.dst (.slice (some ⟨g, off, none⟩) (xs.length + 1) cap)) w') : o.wp P a w K Q := by
  obtain ⟨g, off, cap, w', hr, h2, h3, h4⟩ := run_append_q (P := P) w t o.type e i z bytes ht hi hz hsize hby hzs v xs hq ad c y hy h1 hm hbytes
  unfold Oper.wp execOp
  simp only [ho, resolve, invoke, builtin, Sem.run_bind, Sem.run_pure, Result.andThen_ok, List.map_toArray, List.map_cons, List.map_nil, hs, hx, hr]
  exact h g off cap w' h2 h3 h4
/-- At the list of a plain region's operations. -/
theorem wpList_append_q {P : Program} (w : World) {ops : Array Oper} {rest : List Oper} {o : Oper} {a : Act} {Q : Exit → Act → World → Prop} (hgd : o.guard = none) (s x : Operand) (t : TypeId)
    (ho : o.op = .call { callee := .builtin .append, args := #[s, x], argTypes := #[t, t] })
    (e : TypeId) (i : TypeInfo) (z : Value) (bytes : Nat) (ht : P.underlying t = some (.slice e)) (hi : P.info? e = some i) (hz : i.zero = some z) (hsize : i.size = 1) (hby : i.bytes = bytes) (hzs : z.cells.size = 1)
    (v : Value) (xs : List Value) (hs : a.eval s = v) (hq : Qrow w e v xs) (ad : Addr) (c : Nat) (y : Value) (hx : a.eval x = .slice (some ad) 1 c) (hy : w.cell? ad = some y) (h1 : y.oneCell' = true)
    (hm : xs.length + 1 ≤ maxLen) (hbytes : (xs.length + 1) * bytes ≤ 140737488355328)
    (h : ∀ g off cap w', Qrow w' e (.slice (some ⟨g, off, none⟩) (xs.length + 1) cap) (xs ++ [y]) → w.grownBy w' v.ownBlock → (v.ownBlock = some g ∨ g = w.heap.size) → wpList P ops Q rest (a.put o.dst (.slice (some ⟨g, off, none⟩) (xs.length + 1) cap)) w') : wpList P ops Q (o :: rest) a w :=
  wpList_plain hgd fun _ hK => wp_append_q w s x t ho e i z bytes ht hi hz hsize hby hzs v xs hs hq ad c y hx hy h1 hm hbytes fun g off cap w' h2 h3 h4 => hK _ _ (h g off cap w' h2 h3 h4)
/-- At a step of a region that draws its order. -/
theorem step_append_q {P : Program} (w : World) {ops : Array Oper} {o : Oper} {a : Act} {K : Act → World → Prop} {Q : Exit → Act → World → Prop} {E : Prop} (hgd : o.guard = none) (s x : Operand) (t : TypeId)
    (ho : o.op = .call { callee := .builtin .append, args := #[s, x], argTypes := #[t, t] })
    (e : TypeId) (i : TypeInfo) (z : Value) (bytes : Nat) (ht : P.underlying t = some (.slice e)) (hi : P.info? e = some i) (hz : i.zero = some z) (hsize : i.size = 1) (hby : i.bytes = bytes) (hzs : z.cells.size = 1)
    (v : Value) (xs : List Value) (hs : a.eval s = v) (hq : Qrow w e v xs) (ad : Addr) (c : Nat) (y : Value) (hx : a.eval x = .slice (some ad) 1 c) (hy : w.cell? ad = some y) (h1 : y.oneCell' = true)
    (hm : xs.length + 1 ≤ maxLen) (hbytes : (xs.length + 1) * bytes ≤ 140737488355328)
    (h : ∀ g off cap w', Qrow w' e (.slice (some ⟨g, off, none⟩) (xs.length + 1) cap) (xs ++ [y]) → w.grownBy w' v.ownBlock → (v.ownBlock = some g ∨ g = w.heap.size) → K (a.put o.dst (.slice (some ⟨g, off, none⟩) (xs.length + 1) cap)) w') :
    if Region.wanted o (yielded ops a.tmps) = true then Oper.wp P o a w K Q else E := by
  have hw : Region.wanted o (yielded ops a.tmps) = true := by simp [Region.wanted, hgd]
  rw [if_pos hw]
  exact wp_append_q w s x t ho e i z bytes ht hi hz hsize hby hzs v xs hs hq ad c y hx hy h1 hm hbytes h
end Go.Proofs.YtnjiinbhbjpfkaaGreatDoor
