/-
  The program's table of actions: what the closures are that it holds, and that nothing but new memory is written.
-/
import Derived.Test.YtohobhbcjikhpaaDoorProgram
import Derived.Laws.ByValue
namespace Go.Proofs.YtohobhbcjikhpaaDoor
open Go.RowKit

abbrev P0 (b : Nat) : Value := .pointer (some ⟨b, 0, none⟩)
abbrev Fv (k : Nat) (cap : Array Value) : Value := .func (.func k) #[] cap

theorem does_any (k : Nat) (c : Array Value) (w : World) : Calls Tryd.prog 48 #[Fv k c] w fun e w' => e = .returned (Fv 75 #[P0 w.heap.size]) ∧ w' = w.alloc (.cells #[Fv k c] 139) := by
  go_enter Tryd.func48, Tryd.ntmps48
  go_wp2
  go_ret
  exact ⟨rfl, rfl⟩

theorem gives_any (k : Nat) (c : Array Value) (w : World) : Calls Tryd.prog 26 #[Fv k c] w fun e w' => e = .returned (Fv 75 #[P0 (w.heap.size + 1)]) ∧ w' = (w.alloc (.cells #[Fv k c] 126)).alloc (.cells #[Fv 62 #[P0 w.heap.size]] 139) := by
  go_enter Tryd.func26, Tryd.ntmps26
  go_wp2_with fail
  refine (does_any _ _ _).mono ?_
  rintro e w1 ⟨rfl, rfl⟩
  go_wp2
  go_ret
  exact ⟨by simp, rfl⟩

theorem goesOn_any (k : Nat) (c : Array Value) (w : World) : Calls Tryd.prog 38 #[Fv k c] w fun e w' => e = .returned (Fv 75 #[P0 (w.heap.size + 1)]) ∧ w' = (w.alloc (.cells #[Fv k c] 132)).alloc (.cells #[Fv 67 #[P0 w.heap.size]] 139) := by
  go_enter Tryd.func38, Tryd.ntmps38
  go_wp2_with fail
  refine (does_any _ _ _).mono ?_
  rintro e w1 ⟨rfl, rfl⟩
  go_wp2
  go_ret
  exact ⟨by simp, rfl⟩

theorem makes_any (k : Nat) (c : Array Value) (w : World) : Calls Tryd.prog 42 #[Fv k c] w fun e w' => e = .returned (Fv 75 #[P0 (w.heap.size + 1)]) ∧ w' = (w.alloc (.cells #[Fv k c] 134)).alloc (.cells #[Fv 69 #[P0 w.heap.size]] 139) := by
  go_enter Tryd.func42, Tryd.ntmps42
  go_wp2_with fail
  refine (does_any _ _ _).mono ?_
  rintro e w1 ⟨rfl, rfl⟩
  go_wp2
  go_ret
  exact ⟨by simp, rfl⟩

theorem ofNumbers_any (k : Nat) (c : Array Value) (w : World) : Calls Tryd.prog 30 #[Fv k c] w fun e w' => e = .returned (Fv 65 #[P0 w.heap.size]) ∧ w' = w.alloc (.cells #[Fv k c] 129) := by
  go_enter Tryd.func30, Tryd.ntmps30
  go_wp2
  go_ret
  exact ⟨rfl, rfl⟩

/-- The table, where its closures' blocks begin at b. -/
def acts (b : Nat) : Array Value := #[Fv 75 #[P0 (b + 1)], Fv 75 #[P0 (b + 3)], Fv 65 #[P0 (b + 4)], Fv 65 #[P0 (b + 5)], Fv 65 #[P0 (b + 6)], Fv 65 #[P0 (b + 7)], Fv 75 #[P0 (b + 9)], Fv 75 #[P0 (b + 11)], Fv 75 #[P0 (b + 13)], Fv 75 #[P0 (b + 15)],
  Fv 44 #[], Fv 45 #[], Fv 75 #[P0 (b + 17)], Fv 47 #[], Fv 75 #[P0 (b + 18)], Fv 51 #[], Fv 75 #[P0 (b + 19)], Fv 51 #[], Fv 51 #[], Fv 51 #[], Fv 54 #[], Fv 51 #[], Fv 75 #[P0 (b + 21)]]
/-- The blocks of the table's closures. -/
def actB (b : Nat) : List (Value × TypeId) := [(Fv 27 #[], 126), (Fv 62 #[P0 b], 139), (Fv 29 #[], 126), (Fv 62 #[P0 (b + 2)], 139), (Fv 31 #[], 129), (Fv 32 #[], 129), (Fv 33 #[], 129), (Fv 34 #[], 129), (Fv 36 #[], 126), (Fv 62 #[P0 (b + 8)], 139),
  (Fv 39 #[], 132), (Fv 67 #[P0 (b + 10)], 139), (Fv 40 #[], 132), (Fv 67 #[P0 (b + 12)], 139), (Fv 43 #[], 134), (Fv 69 #[P0 (b + 14)], 139), (Fv 46 #[], 134), (Fv 69 #[P0 (b + 16)], 139), (Fv 49 #[], 139), (Fv 52 #[], 139), (Fv 55 #[], 126), (Fv 62 #[P0 (b + 20)], 139)]
/-- New blocks of one cell each. -/
def laid1 (w : World) : List (Value × TypeId) → World
  | [] => w
  | x :: r => laid1 (w.alloc (.cells #[x.1] x.2)) r
theorem laid1_below (l : List (Value × TypeId)) : ∀ (w : World), Below w.heap.size w (laid1 w l) := by
  induction l with
  | nil => intro w; exact Below.refl _ _
  | cons x r ih => intro w; exact ((Below.refl _ _).alloc (Nat.le_refl _) _).trans ((ih _).mono (by simp))
theorem laid1_size (l : List (Value × TypeId)) : ∀ (w : World), (laid1 w l).heap.size = w.heap.size + l.length := by
  induction l with
  | nil => intro w; rfl
  | cons x r ih => intro w; rw [laid1, ih]; simp; omega
theorem laid1_at (l : List (Value × TypeId)) : ∀ (w : World) (k : Nat) (x : Value × TypeId), l[k]? = some x → (laid1 w l).heap[w.heap.size + k]? = some (.cells #[x.1] x.2 (0, 0)) := by
  induction l with
  | nil => intro w k x h; simp at h
  | cons y r ih =>
    intro w k x h
    cases k with
    | zero =>
      simp at h; subst h
      rw [laid1]
      exact ((laid1_below r (w.alloc (.cells #[y.1] y.2))).block _ (by simp)).trans (heap_alloc_new w _)
    | succ k =>
      have := ih (w.alloc (.cells #[y.1] y.2)) k x (by simpa using h)
      rw [laid1]
      simpa [Nat.add_assoc, Nat.add_comm 1 k] using this

section
variable (k : Nat) (c : Array Value) (b : Nat) (w w0 : World) (l : List (Value × TypeId)) (h : Hid (w = laid1 w0 l)) (hz : Hid (w.heap.size = b))
theorem laid1_two (x y : Value × TypeId) : ((laid1 w0 l).alloc (.cells #[x.1] x.2)).alloc (.cells #[y.1] y.2) = laid1 w0 (l ++ [x, y]) := by
  induction l generalizing w0 with
  | nil => rfl
  | cons z r ih => exact ih _
theorem laid1_one (x : Value × TypeId) : (laid1 w0 l).alloc (.cells #[x.1] x.2) = laid1 w0 (l ++ [x]) := by
  induction l generalizing w0 with
  | nil => rfl
  | cons z r ih => exact ih _
include h hz
theorem gives_l : Calls Tryd.prog 26 #[Fv k c] w fun e w' => e = .returned (Fv 75 #[P0 (b + 1)]) ∧ Hid (w' = laid1 w0 (l ++ [(Fv k c, 126), (Fv 62 #[P0 b], 139)])) ∧ Hid (w'.heap.size = b + 2) := by
  refine (gives_any k c w).mono ?_
  rintro e w' ⟨rfl, rfl⟩
  have hz' := hz.out
  subst hz'
  refine ⟨rfl, ?_, ?_⟩
  · show _ = _; rw [← laid1_two, ← h.out]
  · show _ = _; simp
theorem goesOn_l : Calls Tryd.prog 38 #[Fv k c] w fun e w' => e = .returned (Fv 75 #[P0 (b + 1)]) ∧ Hid (w' = laid1 w0 (l ++ [(Fv k c, 132), (Fv 67 #[P0 b], 139)])) ∧ Hid (w'.heap.size = b + 2) := by
  refine (goesOn_any k c w).mono ?_
  rintro e w' ⟨rfl, rfl⟩
  have hz' := hz.out
  subst hz'
  refine ⟨rfl, ?_, ?_⟩
  · show _ = _; rw [← laid1_two, ← h.out]
  · show _ = _; simp
theorem makes_l : Calls Tryd.prog 42 #[Fv k c] w fun e w' => e = .returned (Fv 75 #[P0 (b + 1)]) ∧ Hid (w' = laid1 w0 (l ++ [(Fv k c, 134), (Fv 69 #[P0 b], 139)])) ∧ Hid (w'.heap.size = b + 2) := by
  refine (makes_any k c w).mono ?_
  rintro e w' ⟨rfl, rfl⟩
  have hz' := hz.out
  subst hz'
  refine ⟨rfl, ?_, ?_⟩
  · show _ = _; rw [← laid1_two, ← h.out]
  · show _ = _; simp
theorem ofNumbers_l : Calls Tryd.prog 30 #[Fv k c] w fun e w' => e = .returned (Fv 65 #[P0 b]) ∧ Hid (w' = laid1 w0 (l ++ [(Fv k c, 129)])) ∧ Hid (w'.heap.size = b + 1) := by
  refine (ofNumbers_any k c w).mono ?_
  rintro e w' ⟨rfl, rfl⟩
  have hz' := hz.out
  subst hz'
  refine ⟨rfl, ?_, ?_⟩
  · show _ = _; rw [← laid1_one, ← h.out]
  · show _ = _; simp
theorem does_l : Calls Tryd.prog 48 #[Fv k c] w fun e w' => e = .returned (Fv 75 #[P0 b]) ∧ Hid (w' = laid1 w0 (l ++ [(Fv k c, 139)])) ∧ Hid (w'.heap.size = b + 1) := by
  refine (does_any k c w).mono ?_
  rintro e w' ⟨rfl, rfl⟩
  have hz' := hz.out
  subst hz'
  refine ⟨rfl, ?_, ?_⟩
  · show _ = _; rw [← laid1_one, ← h.out]
  · show _ = _; simp
end

theorem results_cell {fn : Func} {p : Tmp} {ty : TypeId} {a : Addr} {v : Value} {P : Program} {w : World} (h : fn.results = #[.cell p ty]) (tmps : Array Value) (hp : tmps.getD p undef = .pointer (some a)) (hl : (loadVar ty a).run P w = .ok v w) :
    (results fn tmps).run P w = .ok v w := by
  have hp' : tmps[p]?.getD undef = .pointer (some a) := by simpa using hp
  simp [results, h, hp', asAddr, hl]

theorem setCells_size (g : Nat) : ∀ (vs : List Value) (o : Nat) (w : World), (w.setCells g o vs).heap.size = w.heap.size
  | [], _, _ => rfl
  | v :: r, o, w => by rw [World.setCells, setCells_size g r]; simp [World.setCell]

set_option maxRecDepth 100000 in
set_option maxHeartbeats 1000000 in
theorem actions_any (w : World) : Calls Tryd.prog 16 #[] w fun e w' => e = .returned (.agg (acts (w.heap.size + 1))) ∧ ∃ w1, Hid (w1 = laid1 (w.alloc (.cells (Array.replicate 23 Value.nilFunc) 79)) (actB (w.heap.size + 1))) ∧ w' = w1.setCells w.heap.size 0 (acts (w.heap.size + 1)).toList := by
  go_enter Tryd.func16, Tryd.ntmps16
  go_wp2_with fail
  have hq0 : Hid (w.alloc (.cells (Array.replicate 23 Value.nilFunc) 79) = laid1 (w.alloc (.cells (Array.replicate 23 Value.nilFunc) 79)) []) := rfl
  have hs0 : Hid ((w.alloc (.cells (Array.replicate 23 Value.nilFunc) 79)).heap.size = w.heap.size + 1) := by show _ = _; simp
  refine (gives_l 27 #[] _ _ _ _ hq0 hs0).mono ?_
  rintro e w1 ⟨rfl, hq1, hs1⟩
  clear hq0 hs0
  go_wp2_with fail
  refine (gives_l 29 #[] _ _ _ _ hq1 hs1).mono ?_
  rintro e w2 ⟨rfl, hq2, hs2⟩
  clear hq1 hs1
  go_wp2_with fail
  refine (ofNumbers_l 31 #[] _ _ _ _ hq2 hs2).mono ?_
  rintro e w3 ⟨rfl, hq3, hs3⟩
  clear hq2 hs2
  go_wp2_with fail
  refine (ofNumbers_l 32 #[] _ _ _ _ hq3 hs3).mono ?_
  rintro e w4 ⟨rfl, hq4, hs4⟩
  clear hq3 hs3
  go_wp2_with fail
  refine (ofNumbers_l 33 #[] _ _ _ _ hq4 hs4).mono ?_
  rintro e w5 ⟨rfl, hq5, hs5⟩
  clear hq4 hs4
  go_wp2_with fail
  refine (ofNumbers_l 34 #[] _ _ _ _ hq5 hs5).mono ?_
  rintro e w6 ⟨rfl, hq6, hs6⟩
  clear hq5 hs5
  go_wp2_with fail
  refine (gives_l 36 #[] _ _ _ _ hq6 hs6).mono ?_
  rintro e w7 ⟨rfl, hq7, hs7⟩
  clear hq6 hs6
  go_wp2_with fail
  refine (goesOn_l 39 #[] _ _ _ _ hq7 hs7).mono ?_
  rintro e w8 ⟨rfl, hq8, hs8⟩
  clear hq7 hs7
  go_wp2_with fail
  refine (goesOn_l 40 #[] _ _ _ _ hq8 hs8).mono ?_
  rintro e w9 ⟨rfl, hq9, hs9⟩
  clear hq8 hs8
  go_wp2_with fail
  refine (makes_l 43 #[] _ _ _ _ hq9 hs9).mono ?_
  rintro e w10 ⟨rfl, hq10, hs10⟩
  clear hq9 hs9
  go_wp2_with fail
  refine (makes_l 46 #[] _ _ _ _ hq10 hs10).mono ?_
  rintro e w11 ⟨rfl, hq11, hs11⟩
  clear hq10 hs10
  go_wp2_with fail
  refine (does_l 49 #[] _ _ _ _ hq11 hs11).mono ?_
  rintro e w12 ⟨rfl, hq12, hs12⟩
  clear hq11 hs11
  go_wp2_with fail
  refine (does_l 52 #[] _ _ _ _ hq12 hs12).mono ?_
  rintro e w13 ⟨rfl, hq13, hs13⟩
  clear hq12 hs12
  go_wp2_with fail
  refine (gives_l 55 #[] _ _ _ _ hq13 hs13).mono ?_
  rintro e w14 ⟨rfl, hq14, hs14⟩
  clear hq13 hs13
  simp only []
  iterate 4 (first | go_values | go_skip | go_guarded | go_step | go_upon | go_back)
  have hth : w14.there w.heap.size 0 (acts (w.heap.size + 1)).size := by
    have hb := laid1_below (actB (w.heap.size + 1)) (w.alloc (.cells (Array.replicate 23 Value.nilFunc) 79))
    have hbl : w14.heap[w.heap.size]? = some (.cells (Array.replicate 23 Value.nilFunc) 79 (0, 0)) := by
      rw [hq14.out]; exact (hb.block _ (by simp)).trans (heap_alloc_new w _)
    exact Blk.there (n := 23) (T := 79) ⟨_, hbl, by simp⟩ 0 _ (by simp [acts])
  refine wpList_store_mid rfl 79 (.tmp 0) (.tmp 15) rfl w.heap.size 0 (acts (w.heap.size + 1)) rfl rfl hth (by kernel_rfl) (by simp [acts, Value.oneCell']) ?_
  have HW5 : ∃ w5, w5 = w14.setCells w.heap.size 0 (acts (w.heap.size + 1)).toList := ⟨_, rfl⟩
  obtain ⟨w5, hw5⟩ := HW5
  have hld : (loadVar 79 ⟨w.heap.size, 0, none⟩).run Tryd.prog w5 = .ok (.agg (acts (w.heap.size + 1))) w5 := by
    have := run_loadVar_mid (P := Tryd.prog) w5 w.heap.size 0 79 (acts (w.heap.size + 1)).toList _ (by rw [hw5]; exact World.rangeAt_setCells_same _ _ _ _ (by simpa using hth)) Tryd.underlying79 rfl (by kernel_rfl)
    simpa using this
  rw [← hw5]
  have HQ : Hid (w14 = laid1 (w.alloc (.cells (Array.replicate 23 Value.nilFunc) 79)) (actB (w.heap.size + 1))) := hq14
  clear hq14 hs14 hth
  go_wp2_with fail
  refine bodyPost_ret (v := .agg (acts (w.heap.size + 1))) (results_cell Tryd.results16 _ rfl hld) rfl ⟨rfl, w14, HQ, hw5⟩

/-- The same, the block's number given, and the world behind by what lies in it. -/
theorem actions_b (b : Nat) (w : World) (hb : Hid (w.heap.size = b)) : Calls Tryd.prog 16 #[] w fun e w' => e = .returned (.agg #[Fv 75 #[P0 (b + 2)], Fv 75 #[P0 (b + 4)], Fv 65 #[P0 (b + 5)], Fv 65 #[P0 (b + 6)], Fv 65 #[P0 (b + 7)], Fv 65 #[P0 (b + 8)], Fv 75 #[P0 (b + 10)], Fv 75 #[P0 (b + 12)], Fv 75 #[P0 (b + 14)], Fv 75 #[P0 (b + 16)], Fv 44 #[], Fv 45 #[], Fv 75 #[P0 (b + 18)], Fv 47 #[], Fv 75 #[P0 (b + 19)], Fv 51 #[], Fv 75 #[P0 (b + 20)], Fv 51 #[], Fv 51 #[], Fv 51 #[], Fv 54 #[], Fv 51 #[], Fv 75 #[P0 (b + 22)]]) ∧ Below w.heap.size w w' ∧ w'.heap.size = b + 23 ∧ ∀ k x, (actB (b + 1))[k]? = some x → w'.heap[b + 1 + k]? = some (.cells #[x.1] x.2 (0, 0)) := by
  refine (actions_any w).mono ?_
  rintro e w' ⟨rfl, w1, h1, rfl⟩
  have hb' := hb.out
  subst hb'
  have hl := laid1_below (actB (w.heap.size + 1)) (w.alloc (.cells (Array.replicate 23 Value.nilFunc) 79))
  have hz := laid1_size (actB (w.heap.size + 1)) (w.alloc (.cells (Array.replicate 23 Value.nilFunc) 79))
  rw [← h1.out] at hl hz
  have hz' : w1.heap.size = w.heap.size + 23 := by rw [hz]; simp [actB]
  refine ⟨rfl, ?_, ?_, ?_⟩
  · have : w.grownBy (w1.setCells w.heap.size 0 (acts (w.heap.size + 1)).toList) none := grown_setCells _ _ _ _ _ (grown_trans (World.grownBy_alloc _ _ _) ⟨hl.os, hl.tape, hl.output, hl.size, fun k hk _ => hl.block k hk⟩) (Nat.le_refl _)
    exact ⟨this.os, this.tape, this.output, this.size, fun k hk => this.block k hk (by intro e; cases e)⟩
  · rw [← hz']; exact setCells_size _ _ _ _
  · intro k x hx
    rw [heap_setCells _ _ (by omega), h1.out]
    have := laid1_at (actB (w.heap.size + 1)) (w.alloc (.cells (Array.replicate 23 Value.nilFunc) 79)) k x hx
    simpa using this

end Go.Proofs.YtohobhbcjikhpaaDoor
