/-
  The library functions on lists of one task: Index, Delete; nothing is appended.
-/
import Derived.Test.YtnjiinbhbjpfkaaGreatDoorRoomA
import Derived.LaidEqlPtr
import Derived.Laws.EntriesVeiled
namespace Go.Proofs.YtnjiinbhbjpfkaaGreatDoor
open Go.RowKit
theorem Tryz.info160 : (Tryz.prog.info? 160).map (fun i => (i.zero, i.size, i.bytes)) = some (some (.agg #[.int .i64 0, .slice none 0 0, .bool false, .pointer none, .nilFunc, .int .i64 0, .slice none 0 0]), 7, 88) := by kernel_rfl
theorem run_append_zero {P : Program} (w : World) (t ty e : TypeId) (i : TypeInfo) (ht : P.underlying t = some (.slice e)) (hi : P.info? e = some i) (base ad : Option Addr) (n cap c : Nat) (hle : n ≤ cap) :
    (Builtin.append_ #[t, t] ty #[.slice base n cap, .slice ad 0 c]).run P w = .ok (.slice base n cap) w := by
  cases base <;> cases ad <;> simp [Builtin.append_, Builtin.lenOf, Builtin.firstCells, run_underlying ht, sizeOf, typeInfo, hi, hle, loadCells, loadCellsFrom, storeCells]

/-- Nothing is appended. -/
theorem step_append_zero {P : Program} {ops : Array Oper} {o : Oper} {a : Act} {w : World} {K : Act → World → Prop} {Q : Exit → Act → World → Prop} {E : Prop}
    (hg : o.guard = none) (s x : Operand) (t : TypeId) (hop : o.op = Op.call { callee := Callee.builtin Builtin.append, args := #[s, x], argTypes := #[t, t] })
    (e : TypeId) (i : TypeInfo) (h1 : P.underlying t = some (.slice e)) (h2 : P.info? e = some i)
    (base ad : Option Addr) (n cap c : Nat) (hs : a.eval s = .slice base n cap) (hx : a.eval x = .slice ad 0 c) (hle : n ≤ cap)
    (hK : K (a.put o.dst (.slice base n cap)) w) :
    if Region.wanted o (yielded ops a.tmps) = true then Oper.wp P o a w K Q else E := by
  have hw : Region.wanted o (yielded ops a.tmps) = true := by simp [Region.wanted, hg]
  rw [if_pos hw]
  have hrun := run_append_zero (P := P) w t o.type e i h1 h2 base ad n cap c hle
  unfold Oper.wp
  simp [execOp, hop, resolve, invoke, builtin, hs, hx, hrun, Result.andThen]
  exact hK

set_option maxRecDepth 100000 in
theorem sindex_any (g c tb : Nat) (w : World) (h : w.cell? ⟨g, 0, none⟩ = some (P0 tb)) :
    Calls Tryz.prog 183 #[.slice (some ⟨g, 0, none⟩) 1 c, P0 tb] w fun e w' => e = .returned (.int .i64 0) ∧ w' = w := by
  obtain ⟨i0, hi, hz0, hz1, hz2⟩ := info_parts Tryz.info160
  have heq := fun (w : World) => run_eql_ptr_same (P := Tryz.prog) (w := w) (tp := 155) (te := 160) ⟨tb, 0, none⟩ Tryz.underlying155 hi
  go_enter Tryz.func183, Tryz.ntmps183
  go_wp2_with fail
  go_loopw [8] (fun i wr => i = .int .i64 0 ∧ wr = w) (fun _ _ => 0)
  case atStart => exact ⟨rfl, rfl⟩
  case round =>
    obtain ⟨rfl, rfl⟩ := hrel
    go_wp2_with fail
    go_ret
    exact ⟨rfl, rfl⟩

set_option maxRecDepth 100000 in
set_option maxHeartbeats 1000000 in
theorem sdelete_any (g c tb base : Nat) (w : World) (hown : w.ownsRow base 155 1 (.slice (some ⟨g, 0, none⟩) 1 c) 1 [P0 tb]) :
    Calls Tryz.prog 184 #[.slice (some ⟨g, 0, none⟩) 1 c, .int .i64 0, .int .i64 1] w fun e w' => e = .returned (.slice (some ⟨g, 0, none⟩) 0 c) ∧ w'.ownsRow base 155 1 (.slice (some ⟨g, 0, none⟩) 0 c) 0 [] ∧ w.grownBy w' (some g) := by
  obtain ⟨cur, hg, hc, hm, hs⟩ : ∃ cur, w.heap[g]? = some (.cells cur 155 (0, 0)) ∧ 1 ≤ c ∧ c ≤ maxLen ∧ cur.size = c := by
    rcases hown.2 with ⟨h, _⟩ | ⟨g', c', cur, h1, _, h2, h3, h4, h5, _⟩
    · cases h
    · cases h1; exact ⟨cur, h2, h3, h4, by simpa using h5⟩
  have hb : base ≤ g := by
    rcases hown.2 with ⟨h, _⟩ | ⟨g', c', cur, h1, h2, _⟩
    · cases h
    · cases h1; exact h2
  clear hown
  have hci : (1 : Int) ≤ (c : Int) := by omega
  obtain ⟨i0, hi, hz0, hz1, hz2⟩ := info_parts Tryz.info155
  have hv : ∀ w, (zeroValue 155).run Tryz.prog w = .ok (.pointer none) w := by intro w; simp [zeroValue, typeInfo, hi, hz0]
  have hrun : ∀ (ty : TypeId) (c' : Nat), (Builtin.clear_ #[136] ty #[.slice (some ⟨g, 0, none⟩) 1 c']).run Tryz.prog w.drew = .ok (.tuple #[]) (w.drew.setCell ⟨g, 0, none⟩ (.pointer none)) := by
    intro ty c'
    refine Go.Lib.run_clear_slice (P := Tryz.prog) w.drew 136 155 ty (.pointer none) Tryz.underlying136 hv rfl rfl g 0 1 c' (by omega) ?_ ?_
    · intro j hj
      have : j = 0 := by omega
      subst this
      have hg' : w.drew.heap[g]? = some (.cells cur 155 (0, 0)) := hg
      simp only [World.cell?, hg']
      simp; omega
    · intro j hj
      have hg' : w.drew.heap[g]? = some (.cells cur 155 (0, 0)) := hg
      simp only [World.frozen?, hg']
      simp
  go_enter Tryz.func184, Tryz.ntmps184
  go_wp2_with fail
  go_region_law (refine step_append_zero rfl (.tmp 22) (.tmp 25) 136 rfl 155 i0 Tryz.underlying136 hi (some ⟨g, 0, none⟩) (if c = 1 then some ⟨g, 0, none⟩ else some ⟨g, 1, none⟩) 0 c (c - 1) (by first | rfl | simp [Act.eval, Act.put]) (by first | rfl | simp [Act.eval, Act.put]) (by omega) ?_)
  all_goals
    go_wp2_with fail
    all_goals
      go_ret
      refine ⟨rfl, ⟨rfl, Or.inr ⟨g, _, cur.setIfInBounds 0 (.pointer none), rfl, hb, ?_, by omega, by omega, by simp; omega, by simp⟩⟩, ?_⟩
      · show (World.setCell w ⟨g, 0, none⟩ (.pointer none)).heap[g]? = _
        simp [World.setCell, Array.getElem?_modify, hg]
      · repeat (first | exact grown_refl _ _ | refine grown_drew ?_ | refine grown_setCell ?_ (Or.inl rfl) _)

end Go.Proofs.YtnjiinbhbjpfkaaGreatDoor

/-
  A task goes to the end of the queue, or out of it.
-/
namespace Go.Proofs.YtnjiinbhbjpfkaaGreatDoor
open Go.RowKit

/-- A row of one's own, where its block stays. -/
theorem own_of {w w' : World} {base size n : Nat} {e : TypeId} {v : Value} {xs : List Value} (h : w.ownsRow base e size v n xs) (hk : ∀ k, v.ownBlock = some k → w'.heap[k]? = w.heap[k]?) : w'.ownsRow base e size v n xs := by
  refine ⟨h.1, ?_⟩
  rcases h.2 with h | ⟨g, cap, cur, h1, h2, h3, h4⟩
  · exact Or.inl h
  · exact Or.inr ⟨g, cap, cur, h1, h2, (hk g (by rw [h1]; rfl)).trans h3, h4⟩
theorem own_ty {w : World} {base size n : Nat} {e : TypeId} {v : Value} {xs : List Value} (h : w.ownsRow base e size v n xs) (k : Nat) (hk : v.ownBlock = some k) : base ≤ k ∧ k < w.heap.size ∧ ∃ cur, w.heap[k]? = some (.cells cur e (0, 0)) := by
  rcases h.2 with ⟨h, _⟩ | ⟨g, cap, cur, h1, h2, h3, h4⟩
  · rw [h] at hk; cases hk
  · rw [h1] at hk
    have e' : g = k := by injection hk
    subst e'
    exact ⟨h2, heap_lt h3, cur, h3⟩
theorem own_ne {w : World} {base size n g n' m' : Nat} {e T : TypeId} {v : Value} {xs : List Value} {P : Nat → Value} (h : w.ownsRow base e size v n xs) (hf : Full w g T n' m' P) (hT : T ≠ e) (k : Nat) (hk : v.ownBlock = some k) : k ≠ g := by
  rintro rfl
  obtain ⟨_, _, cur, h1⟩ := own_ty h k hk
  obtain ⟨cur', h2, _⟩ := hf
  rw [h2] at h1
  injection h1 with h1
  injection h1 with _ h1 _
  exact hT h1

set_option maxRecDepth 100000 in
set_option maxHeartbeats 1000000 in
/-- A task that stands nowhere goes to the end of the queue, which is empty. -/
theorem insert_any (eb tb cap base : Nat) (ad : Option Addr) (E Tk : Nat → Value) (w : World) (hE : Full w eb 144 44 44 E) (hE31 : E 32 = .slice ad 0 cap) (hT : Full w tb 160 7 7 Tk) (hT3 : Tk 3 = .pointer none)
    (hown : w.ownsRow base 155 1 (.slice ad 0 cap) 0 []) (hcap : ad ≠ none → 0 < cap) (hb : base ≤ w.heap.size) :
    Calls Tryz.prog 166 #[Pt eb 32, .int .i64 0, P0 tb] w fun e w' => e = .returned (.tuple #[]) ∧ ∃ g c, w'.ownsRow base 155 1 (.slice (some ⟨g, 0, none⟩) 1 c) 1 [P0 tb] ∧ Full w' eb 144 44 44 (upd E 32 (.slice (some ⟨g, 0, none⟩) 1 c)) ∧ Full w' tb 160 7 7 (upd (upd Tk 2 (.bool false)) 3 (Pt eb 32)) ∧ Only (fun k => k = eb ∨ k = tb ∨ (Value.slice ad 0 cap).ownBlock = some k) w w' := by
  have ne : eb ≠ tb := hE.ne hT (by decide)
  obtain ⟨c31, z31⟩ := hE.cells 32 (by omega)
  obtain ⟨c2, z2⟩ := hT.cells 2 (by omega)
  obtain ⟨c3, z3⟩ := hT.cells 3 (by omega)
  rw [hE31] at c31
  rw [hT3] at c3
  generalize Tk 2 = y2 at c2
  have le := hE.lt
  have lt := hT.lt
  have HE : Hid (Full w eb 144 44 44 E) := hE
  have HT : Hid (Full w tb 160 7 7 Tk) := hT
  have HO : Hid (w.ownsRow base 155 1 (.slice ad 0 cap) 0 []) := hown
  have HC : Hid (ad ≠ none → 0 < cap) := hcap
  clear hE hT hown hcap hE31 hT3
  go_enter Tryz.func166, Tryz.ntmps166
  go_wp2_with fail
  refine (stepOut_none tb w c3).mono ?_
  rintro e w1 ⟨rfl, rfl⟩
  go_wp2_with fail
  have hk : ∀ k, (Value.slice ad 0 cap).ownBlock = some k → k ≠ eb ∧ k ≠ tb ∧ k < w1.heap.size := fun k hk => ⟨own_ne HO.out HE.out (by decide) k hk, own_ne HO.out HT.out (by decide) k hk, (own_ty HO.out k hk).2.1⟩
  refine (sinsert_any ad cap base w1.heap.size (P0 tb) rfl _ (own_of HO.out (fun k h => ?_)) (by simp [go_sem]) (by simp [World.setCell]; omega) HC.out).mono ?_
  · rw [Below.heap_alloc _ _ _ (by simp [World.setCell]; exact (hk k h).2.2), Below.heap_setCell _ _ _ _ (hk k h).2.1, Below.heap_setCell _ _ _ _ (hk k h).2.1]
  rintro e w2 ⟨g, c, rfl, ho2, hg2⟩
  have hz := hg2.size
  simp [World.setCell] at hz
  have HE2 : Hid (Full w2 eb 144 44 44 E) := (((HE.out.off ne).off ne).block (Below.heap_alloc _ _ _ (by simp [World.setCell]; omega))).block (hg2.block eb (by simp [World.setCell]; omega) (fun h => (hk eb h.symm).1 rfl))
  have HT2 : Hid (Full w2 tb 160 7 7 (upd (upd Tk 2 (.bool false)) 3 (Pt eb 32))) := (((HT.out.upd 2 _).upd 3 _).block (Below.heap_alloc _ _ _ (by simp [World.setCell]; omega))).block (hg2.block tb (by simp [World.setCell]; omega) (fun h => (hk tb h.symm).2.1 rfl))
  have KO : Hid (Only (fun k => k = eb ∨ k = tb ∨ (Value.slice ad 0 cap).ownBlock = some k) w1 w2) := by
    refine Only.trans (S1 := fun k => (Value.slice ad 0 cap).ownBlock = some k) (w1 := ((w1.setCell ⟨tb, 2, none⟩ (.bool false)).setCell ⟨tb, 3, none⟩ (Pt eb 32)).alloc (.cells #[P0 tb] 155)) ?_ ⟨hg2.os, hg2.tape, hg2.output, hg2.size, fun k hk hn => hg2.block k hk (fun e => hn e.symm)⟩ (fun k h _ => Or.inr (Or.inr h))
    exact only_alloc (only_setCell (only_setCell (only_refl _ _) (Or.inl (Or.inr (Or.inl rfl))) _) (Or.inl (Or.inr (Or.inl rfl))) _) _
  have KW : Hid (w2.ownsRow base 155 1 (.slice (some ⟨g, 0, none⟩) 1 c) 1 [P0 tb]) := ho2
  obtain ⟨d31, e31⟩ := HE2.out.cells 32 (by omega)
  have le2 : eb < w2.heap.size := by omega
  generalize E 32 = y31 at d31
  clear hg2 ho2 c31 z31 c2 z2 c3 z3
  go_wp2_with fail
  go_end0
  refine ⟨rfl, g, c, own_of KW.out (fun k h => ?_), HE2.out.upd 32 _, HT2.out.off (fun e => ne e.symm), only_setCell KO.out (Or.inl (Or.inl rfl)) _⟩
  exact Below.heap_setCell _ _ _ _ (own_ne KW.out HE2.out (by decide) k h)

set_option maxRecDepth 100000 in
theorem join_any (eb tb cap base : Nat) (ad : Option Addr) (E Tk : Nat → Value) (w : World) (hE : Full w eb 144 44 44 E) (hE31 : E 32 = .slice ad 0 cap) (hT : Full w tb 160 7 7 Tk) (hT3 : Tk 3 = .pointer none)
    (hown : w.ownsRow base 155 1 (.slice ad 0 cap) 0 []) (hcap : ad ≠ none → 0 < cap) (hb : base ≤ w.heap.size) :
    Calls Tryz.prog 110 #[Pt eb 32, P0 tb] w fun e w' => e = .returned (.tuple #[]) ∧ ∃ g c, w'.ownsRow base 155 1 (.slice (some ⟨g, 0, none⟩) 1 c) 1 [P0 tb] ∧ Full w' eb 144 44 44 (upd E 32 (.slice (some ⟨g, 0, none⟩) 1 c)) ∧ Full w' tb 160 7 7 (upd (upd Tk 2 (.bool false)) 3 (Pt eb 32)) ∧ Only (fun k => k = eb ∨ k = tb ∨ (Value.slice ad 0 cap).ownBlock = some k) w w' := by
  have HI := hid (insert_any eb tb cap base ad E Tk w hE hE31 hT hT3 hown hcap hb)
  have c31 := hE.cell 32 (by omega)
  rw [hE31] at c31
  clear hE hT hown hcap hE31 hT3
  go_enter Tryz.func110, Tryz.ntmps110
  go_wp2_with fail
  refine HI.out.mono ?_
  rintro e w1 ⟨rfl, h⟩
  have HH := hid h
  clear h
  go_wp2_with fail
  go_end0
  exact ⟨rfl, HH.out⟩

set_option maxRecDepth 100000 in
set_option maxHeartbeats 4000000 in
/-- The only task of the queue steps out of it. -/
theorem stepOut_any (eb tb g c base : Nat) (E Tk : Nat → Value) (w : World) (hE : Full w eb 144 44 44 E) (hE31 : E 32 = .slice (some ⟨g, 0, none⟩) 1 c) (hT : Full w tb 160 7 7 Tk) (hT3 : Tk 3 = Pt eb 32)
    (hown : w.ownsRow base 155 1 (.slice (some ⟨g, 0, none⟩) 1 c) 1 [P0 tb]) :
    Calls Tryz.prog 133 #[P0 tb] w fun e w' => e = .returned (.tuple #[]) ∧ w'.ownsRow base 155 1 (.slice (some ⟨g, 0, none⟩) 0 c) 0 [] ∧ Full w' eb 144 44 44 (upd E 32 (.slice (some ⟨g, 0, none⟩) 0 c)) ∧ Full w' tb 160 7 7 (upd (upd Tk 3 (.pointer none)) 4 .nilFunc) ∧ Only (fun k => k = eb ∨ k = tb ∨ k = g) w w' := by
  have ne : eb ≠ tb := hE.ne hT (by decide)
  obtain ⟨c31, z31⟩ := hE.cells 32 (by omega)
  obtain ⟨c3, z3⟩ := hT.cells 3 (by omega)
  obtain ⟨c4, z4⟩ := hT.cells 4 (by omega)
  rw [hE31] at c31
  rw [hT3] at c3
  generalize Tk 4 = y4 at c4
  have le := hE.lt
  have lt := hT.lt
  have HE : Hid (Full w eb 144 44 44 E) := hE
  have HT : Hid (Full w tb 160 7 7 Tk) := hT
  have HO : Hid (w.ownsRow base 155 1 (.slice (some ⟨g, 0, none⟩) 1 c) 1 [P0 tb]) := hown
  have ge : g ≠ eb := own_ne hown hE (by decide) g rfl
  have gt : g ≠ tb := own_ne hown hT (by decide) g rfl
  have q0 : w.cell? ⟨g, 0, none⟩ = some (P0 tb) := by
    rcases hown.2 with ⟨h, _⟩ | ⟨g', c', cur, h1, _, h2, _, _, h3, h4⟩
    · cases h
    · cases h1
      have : cur[0]? = some (P0 tb) := by
        have := congrArg (fun l => l[0]?) h4
        simpa using this
      simp [World.cell?, h2, this]
  have HT3 := hid hT3
  clear hE hT hown hE31 hT3
  go_enter Tryz.func133, Tryz.ntmps133
  go_wp2_with fail


  refine (sindex_any g c tb w q0).mono ?_
  rintro e w1 ⟨rfl, rfl⟩
  go_wp2_with fail
  go_region_with (go_at_call 184; refine (sdelete_any g c tb base w1.drew (own_of HO.out (fun _ _ => rfl))).mono ?_; rintro e w2 ⟨rfl, ho2, hg2'⟩; have hg2 : w1.grownBy w2 (some g) := ⟨hg2'.os, hg2'.tape, hg2'.output, hg2'.size, hg2'.block⟩; clear hg2'; have HO2 : Hid (w2.ownsRow base 155 1 (.slice (some ⟨g, 0, none⟩) 0 c) 0 []) := ho2; have HG2 : Hid (w1.grownBy w2 (some g)) := hg2; have HE2 : Hid (Full w2 eb 144 44 44 E) := HE.out.kept hg2 (fun e => ge e.symm); have HT2 : Hid (Full w2 tb 160 7 7 Tk) := HT.out.kept hg2 (fun e => gt e.symm); obtain ⟨d31, e31⟩ := HE2.out.cells 32 (by omega); have c3' : w2.cell? ⟨tb, 3, none⟩ = some (Pt eb 32) := (HT2.out.cell 3 (by omega)).trans (by rw [HT3.out]); have le2 := HE2.out.lt; have lt2 := HT2.out.lt; clear ho2 hg2)
  all_goals
    obtain ⟨d4, e4⟩ := HT2.out.cells 4 (by omega)
    obtain ⟨_, e3⟩ := HT2.out.cells 3 (by omega)
    generalize Tk 4 = y4 at d4
    have ne' : ¬ tb = eb := fun e => ne e.symm
    go_wp2_with fail
    go_end0
    refine ⟨rfl, own_of HO2.out (fun k h => ?_), ?_, ?_, ?_⟩
    · have : k = g := by injection h with h; exact h.symm
      subst this
      show ((World.setCell _ _ _).setCell _ _).heap[k]? = _
      rw [Below.heap_setCell _ _ _ _ gt, Below.heap_setCell _ _ _ _ gt, Below.heap_setCell _ _ _ _ ge]
    · exact ((HE2.out.upd 32 _).off ne).off ne
    · exact ((HT2.out.off (fun e => ne e.symm)).upd 3 _).upd 4 _
    · exact only_setCell (only_setCell (only_setCell (only_grown HG2.out (Or.inr (Or.inr rfl))) (Or.inl (Or.inl rfl)) _) (Or.inl (Or.inr (Or.inl rfl))) _) (Or.inl (Or.inr (Or.inl rfl))) _
end Go.Proofs.YtnjiinbhbjpfkaaGreatDoor

/-
  An event is told; the machine is spent.
-/
namespace Go.Proofs.YtnjiinbhbjpfkaaGreatDoor
open Go.RowKit

/-- Events as they lie in a list. -/
def evL (ev : List B.Ev) : List Value := ev.flatMap (fun x => [.int .i64 (x.1 : Int), .int .i64 1, .int .i64 x.2])
theorem evL_app (a b : List B.Ev) : evL (a ++ b) = evL a ++ evL b := by simp [evL]
theorem Tryz.info48 : (Tryz.prog.info? 48).map (fun i => (i.zero, i.size, i.bytes)) = some (some (.agg #[.int .i64 0, .int .i64 0, .int .i64 0]), 3, 24) := by kernel_rfl

set_option maxRecDepth 100000 in
set_option maxHeartbeats 4000000 in
theorem tell_any (eb tb base kind : Nat) (x : Int) (ad : Option Addr) (n cap : Nat) (ev : List B.Ev) (E Tk : Nat → Value) (w : World) (hE : Full w eb 144 44 44 E) (hE42 : E 43 = .slice ad n cap) (hT : Full w tb 160 7 7 Tk) (hT0 : Tk 0 = .int .i64 1)
    (hown : w.ownsRow base 48 3 (.slice ad n cap) n (evL ev)) (hb : base ≤ w.heap.size) (hn : n ≤ 100000) :
    Calls Tryz.prog 173 #[P0 eb, .int .i64 kind, P0 tb, .int .i64 x] w fun e w' => e = .returned (.tuple #[]) ∧ ∃ g c, w'.ownsRow base 48 3 (.slice (some ⟨g, 0, none⟩) (n + 1) c) (n + 1) (evL (ev ++ [(kind, x)])) ∧ Full w' eb 144 44 44 (upd E 43 (.slice (some ⟨g, 0, none⟩) (n + 1) c)) ∧ Only (fun k => k = eb ∨ (Value.slice ad n cap).ownBlock = some k) w w' := by
  obtain ⟨i0, hi, hz0, hz1, hz2⟩ := info_parts Tryz.info48
  obtain ⟨c42, z42⟩ := hE.cells 43 (by omega)
  have c0 := hT.cell 0 (by omega)
  rw [hE42] at c42
  rw [hT0] at c0
  have le := hE.lt
  have lt := hT.lt
  have HE : Hid (Full w eb 144 44 44 E) := hE
  have HO : Hid (w.ownsRow base 48 3 (.slice ad n cap) n (evL ev)) := hown
  have hk : ∀ k, (Value.slice ad n cap).ownBlock = some k → k ≠ eb ∧ k < w.heap.size := fun k hk => ⟨own_ne hown hE (by decide) k hk, (own_ty hown k hk).2.1⟩
  have HK := hid hk
  clear hE hT hown hE42 hT0 hk
  have hX : evL (ev ++ [(kind, x)]) = evL ev ++ [.int .i64 (kind : Int), .int .i64 1, .int .i64 x] := by rw [evL_app]; rfl
  rw [hX]
  clear hX
  generalize evL ev = L at *
  go_enter Tryz.func173, Tryz.ntmps173
  go_wp2_with fail
  go_region_law (refine step_append_own rfl (.tmp 12) (.tmp 20) 45 rfl base 48 i0 _ 3 24 Tryz.underlying45 hi hz0 hz1 hz2 rfl (by decide) (.slice ad n cap) n L (by first | rfl | simp [Act.eval, Act.put]) (own_of HO.out (fun k h => Below.heap_alloc _ _ _ (HK.out k h).2)) ⟨w.heap.size, 0, none⟩ 1 1 [.int .i64 kind, .int .i64 1, .int .i64 x] (by first | rfl | simp [Act.eval, Act.put]) rfl (by intro j u hj; match j, hj with | 0, hj => (simp at hj; subst hj; simp [Addr.add, go_sem]) | 1, hj => (simp at hj; subst hj; simp [Addr.add, go_sem]) | 2, hj => (simp at hj; subst hj; simp [Addr.add, go_sem])) (by simp [Value.oneCell']) (by unfold maxLen; omega) (by omega) (by simp; omega) ?_; intro v' w6 ho hg; obtain ⟨g, c, rfl⟩ := row_form ho (by omega); have HO6 : Hid (w6.ownsRow base 48 3 (.slice (some ⟨g, 0, none⟩) (n + 1) c) (n + 1) (L ++ [.int .i64 kind, .int .i64 1, .int .i64 x])) := ho; have hz6 := hg.size; have HE6 : Hid (Full w6 eb 144 44 44 E) := (HE.out.block (Below.heap_alloc _ _ _ le)).block (hg.block eb (by simp; omega) (fun h => (HK.out eb h.symm).1 rfl)); have KO6 : Hid (Only (fun k => k = eb ∨ (Value.slice ad n cap).ownBlock = some k) w w6) := Only.trans (S1 := fun k => (Value.slice ad n cap).ownBlock = some k) (only_alloc (only_refl _ w) _) ⟨hg.os, hg.tape, hg.output, hg.size, fun k hk hn => hg.block k hk (fun e => hn e.symm)⟩ (fun k h _ => Or.inr h); obtain ⟨d42, e42⟩ := HE6.out.cells 43 (by omega); have le6 := HE6.out.lt; clear ho hg)
  all_goals
    generalize E 43 = y42 at d42
    go_wp2_with fail
    go_end0
    refine ⟨rfl, g, c, own_of HO6.out (fun k h => ?_), HE6.out.upd 43 _, only_setCell KO6.out (Or.inl (Or.inl rfl)) _⟩
    exact Below.heap_setCell _ _ _ _ (own_ne HO6.out HE6.out (by decide) k h)

set_option maxRecDepth 100000 in
theorem spend_any (eb tb base : Nat) (ad : Option Addr) (n cap : Nat) (ev : List B.Ev) (E Tk : Nat → Value) (w : World) (hE : Full w eb 144 44 44 E) (hE42 : E 43 = .slice ad n cap) (hT : Full w tb 160 7 7 Tk) (hT0 : Tk 0 = .int .i64 1)
    (hown : w.ownsRow base 48 3 (.slice ad n cap) n (evL ev)) (hb : base ≤ w.heap.size) (hn : n ≤ 100000) :
    Calls Tryz.prog 156 #[P0 eb, P0 tb] w fun e w' => e = .returned (.tuple #[]) ∧ ∃ g c, w'.ownsRow base 48 3 (.slice (some ⟨g, 0, none⟩) (n + 1) c) (n + 1) (evL (ev ++ [(5, 0)])) ∧ Full w' eb 144 44 44 (upd (upd E 42 (.bool true)) 43 (.slice (some ⟨g, 0, none⟩) (n + 1) c)) ∧ Full w' tb 160 7 7 (upd Tk 2 (.bool false)) ∧ Only (fun k => k = eb ∨ k = tb ∨ (Value.slice ad n cap).ownBlock = some k) w w' := by
  have ne : eb ≠ tb := hE.ne hT (by decide)
  have ne' : ¬ tb = eb := fun e => ne e.symm
  obtain ⟨c41, z41⟩ := hE.cells 42 (by omega)
  obtain ⟨c2, z2⟩ := hT.cells 2 (by omega)
  have le := hE.lt
  have lt := hT.lt
  have hk : ∀ k, (Value.slice ad n cap).ownBlock = some k → k ≠ eb ∧ k ≠ tb := fun k hk => ⟨own_ne hown hE (by decide) k hk, own_ne hown hT (by decide) k hk⟩
  have HE := hid hE
  have HT := hid hT
  have HO := hid hown
  have HK := hid hk
  have H42 := hid hE42
  have HT0 := hid hT0
  clear hE hT hown hE42 hT0 hk
  generalize hy41 : E 42 = y41 at c41
  generalize hy2 : Tk 2 = y2 at c2
  clear hy41 hy2
  go_enter Tryz.func156, Tryz.ntmps156
  go_wp2_with fail
  refine (tell_any eb tb base 5 0 ad n cap ev (upd E 42 (.bool true)) (upd Tk 2 (.bool false)) _ ((HE.out.off ne).upd 42 _) (by rw [upd_off _ _ _ _ (by omega)]; exact H42.out) ((HT.out.upd 2 _).off ne') (by rw [upd_off _ _ _ _ (by omega)]; exact HT0.out) (own_of HO.out (fun k h => ?_)) (by simp [World.setCell]; omega) hn).mono ?_
  · rw [Below.heap_setCell _ _ _ _ (HK.out k h).1, Below.heap_setCell _ _ _ _ (HK.out k h).2]
  rintro e w2 ⟨rfl, g, c, ho2, hE2, hO2⟩
  have HT2 := hid (((HT.out.upd 2 (.bool false)).off (x := eb) (o := 42) (v := .bool true) ne').only hO2 (fun h => h.elim (fun h => ne' h) (fun h => (HK.out tb h).2 rfl)))
  have HH := hid (And.intro ho2 hE2)
  have KO := hid hO2
  clear ho2 hE2 hO2
  go_wp2_with fail
  go_end0
  refine ⟨rfl, g, c, HH.out.1, HH.out.2, HT2.out, ?_⟩
  refine Only.trans (only_setCell (only_setCell (only_refl _ _) (Or.inl (Or.inr (Or.inl rfl))) _) (Or.inl (Or.inl rfl)) _) KO.out (fun k h _ => ?_)
  rcases h with h | h
  · exact Or.inl h
  · exact Or.inr (Or.inr h)
end Go.Proofs.YtnjiinbhbjpfkaaGreatDoor

/-
  A task's life ends: it is taken out of those that live, its outcome is kept, an event is told.
-/
namespace Go.Proofs.YtnjiinbhbjpfkaaGreatDoor
open Go.RowKit

set_option maxRecDepth 100000 in
theorem leave1_any (tb xb : Nat) (w : World) (h : w.cell? ⟨xb, 0, none⟩ = some (P0 tb)) :
    Calls Tryz.prog 210 #[P0 tb, P0 xb] w fun e w' => e = .returned (.bool true) ∧ w' = w := by
  obtain ⟨i0, hi, hz0, hz1, hz2⟩ := info_parts Tryz.info160
  have heq := fun (w : World) => run_eql_ptr_same (P := Tryz.prog) (w := w) (tp := 155) (te := 160) ⟨tb, 0, none⟩ Tryz.underlying155 hi
  go_enter Tryz.func210, Tryz.ntmps210
  go_wp2_with fail
  go_ret
  exact ⟨rfl, rfl⟩

set_option maxRecDepth 100000 in
theorem sindexF_any (g c tb xb : Nat) (w : World) (h : w.cell? ⟨g, 0, none⟩ = some (P0 tb)) (hx : w.cell? ⟨xb, 0, none⟩ = some (P0 tb)) :
    Calls Tryz.prog 205 #[.slice (some ⟨g, 0, none⟩) 1 c, Fv 210 #[P0 xb]] w fun e w' => e = .returned (.int .i64 0) ∧ w' = w := by
  go_enter Tryz.func205, Tryz.ntmps205
  go_wp2_with fail
  go_loopw [8] (fun i wr => i = .int .i64 0 ∧ wr = w) (fun _ _ => 0)
  case atStart => exact ⟨rfl, rfl⟩
  case round =>
    obtain ⟨rfl, rfl⟩ := hrel
    go_wp2_with fail
    refine (leave1_any tb xb wr hx).mono ?_
    rintro e w1 ⟨rfl, rfl⟩
    go_wp2_with fail
    go_ret
    exact ⟨rfl, rfl⟩

set_option maxRecDepth 100000 in
set_option maxHeartbeats 1000000 in
theorem sdeleteF_any (g c tb xb base : Nat) (w : World) (hown : w.ownsRow base 155 1 (.slice (some ⟨g, 0, none⟩) 1 c) 1 [P0 tb]) (hx : w.cell? ⟨xb, 0, none⟩ = some (P0 tb)) :
    Calls Tryz.prog 209 #[.slice (some ⟨g, 0, none⟩) 1 c, Fv 210 #[P0 xb]] w fun e w' => e = .returned (.slice (some ⟨g, 0, none⟩) 0 c) ∧ w.grownBy w' (some g) := by
  obtain ⟨cur, hg, hc, hm, hs, h0⟩ : ∃ cur, w.heap[g]? = some (.cells cur 155 (0, 0)) ∧ 1 ≤ c ∧ c ≤ maxLen ∧ cur.size = c ∧ cur.toList.take 1 = [P0 tb] := by
    rcases hown.2 with ⟨h, _⟩ | ⟨g', c', cur, h1, _, h2, h3, h4, h5, h6⟩
    · cases h
    · cases h1; exact ⟨cur, h2, h3, h4, by simpa using h5, by simpa using h6⟩
  have q0 : w.cell? ⟨g, 0, none⟩ = some (P0 tb) := by
    have : cur[0]? = some (P0 tb) := by
      have := congrArg (fun l => l[0]?) h0
      simpa using this
    simp [World.cell?, hg, this]
  clear hown h0
  have hci : (1 : Int) ≤ (c : Int) := by omega
  obtain ⟨i0, hi, hz0, hz1, hz2⟩ := info_parts Tryz.info155
  have hv : ∀ w, (zeroValue 155).run Tryz.prog w = .ok (.pointer none) w := by intro w; simp [zeroValue, typeInfo, hi, hz0]
  have hrun : ∀ (ty : TypeId) (c' : Nat), (Builtin.clear_ #[136] ty #[.slice (some ⟨g, 0, none⟩) 1 c']).run Tryz.prog w = .ok (.tuple #[]) (w.setCell ⟨g, 0, none⟩ (.pointer none)) := by
    intro ty c'
    refine Go.Lib.run_clear_slice (P := Tryz.prog) w 136 155 ty (.pointer none) Tryz.underlying136 hv rfl rfl g 0 1 c' (by omega) ?_ ?_
    · intro j hj
      have : j = 0 := by omega
      subst this
      simp only [World.cell?, hg]
      simp; omega
    · intro j hj
      simp only [World.frozen?, hg]
      simp
  go_enter Tryz.func209, Tryz.ntmps209
  go_wp2_with fail
  refine (sindexF_any g c tb xb w q0 hx).mono ?_
  rintro e w1 ⟨rfl, rfl⟩
  go_wp2_with fail
  go_loopw [5, 6] (fun i j wr => i = .int .i64 0 ∧ j = .int .i64 1 ∧ wr = w1) (fun _ _ _ => 0)
  case atStart => exact ⟨rfl, by go_num, rfl⟩
  case round =>
    obtain ⟨rfl, rfl, rfl⟩ := hrel
    have hc0 : ¬ c = 0 := by omega
    go_wp2_with fail
    go_ret
    exact ⟨rfl, grown_setCell (grown_refl _ _) (Or.inl rfl) _⟩

theorem Tryz.info149 : (Tryz.prog.info? 149).map (fun i => (i.zero, i.size, i.bytes)) = some (some (.agg #[.int .i64 0, .int .i64 0]), 2, 16) := by kernel_rfl

set_option maxRecDepth 100000 in
theorem sindexV_any (v : B.V) (w : World) : Calls Tryz.prog 231 #[.slice none 0 0, vA v] w fun e w' => e = .returned (.int .i64 (-1)) ∧ w.grownBy w' none := by
  go_enter Tryz.func231, Tryz.ntmps231
  go_wp2_with fail
  generalize hw1 : w.alloc _ = w1
  have KG : Hid (w.grownBy w1 none) := by rw [← hw1]; exact World.grownBy_alloc _ _ _
  clear hw1
  go_loopw [8] (fun i wr => i = .int .i64 0 ∧ wr = w1) (fun _ _ => 0)
  case atStart => exact ⟨rfl, rfl⟩
  case round =>
    obtain ⟨rfl, rfl⟩ := hrel
    go_wp2_with fail
    go_ret
    exact ⟨rfl, KG.out⟩

set_option maxRecDepth 100000 in
theorem containsV_any (v : B.V) (w : World) : Calls Tryz.prog 224 #[.slice none 0 0, vA v] w fun e w' => e = .returned (.bool false) ∧ w.grownBy w' none := by
  go_enter Tryz.func224, Tryz.ntmps224
  go_wp2_with fail
  refine (sindexV_any v _).mono ?_
  rintro e w1 ⟨rfl, hg⟩
  have KG := hid (grown_trans (World.grownBy_alloc w _ none) hg)
  clear hg
  go_wp2_with fail
  go_ret
  exact ⟨rfl, KG.out⟩
end Go.Proofs.YtnjiinbhbjpfkaaGreatDoor

/-
  A function begins to run in a task.
-/
namespace Go.Proofs.YtnjiinbhbjpfkaaGreatDoor
open Go.RowKit

theorem Tryz.info184' : (Tryz.prog.info? 184).map (fun i => (i.zero, i.size, i.bytes)) = some (some (.pointer none), 1, 8) := by kernel_rfl
theorem regP_zero (j : Nat) : regP (fun _ => ((0, 0) : B.V)) j = .int .i64 0 := by unfold regP; split <;> rfl
/-- New memory of zeros. -/
theorem made_zero {w : World} {g b base : Nat} (h : w.ownsRow base 149 2 (.slice (some ⟨g, 0, none⟩) b b) b (madeCells #[.int .i64 0, .int .i64 0] (b * 2)).toList) : Full w g 149 (b * 2) (b * 2) (regP (fun _ => (0, 0))) := by
  rcases h.2 with ⟨h, _⟩ | ⟨g', cap', cur, h1, h2, h3, h4, h5, h6, h7⟩
  · cases h
  · cases h1
    refine ⟨cur, h3, h6, fun j hj => ?_⟩
    have e1 := congrArg (fun l => l[j]?) h7
    have e2 : (madeCells #[.int .i64 0, .int .i64 0] (b * 2)).toList[j]? = some (.int .i64 0) := by
      simp only [madeCells, Array.getElem?_toList, Array.getElem?_map, Array.getElem?_range]
      rw [if_pos hj]
      have : j % 2 = 0 ∨ j % 2 = 1 := by omega
      rcases this with h | h <;> simp [h]
    simp only [e2, List.getElem?_take] at e1
    rw [if_pos hj] at e1
    rw [regP_zero]
    simpa using e1

set_option maxRecDepth 100000 in
set_option maxHeartbeats 2000000 in
theorem enter_any (eb tb g nf s0 c0 r0 : Nat) (k : Fn) (ka kc : Array Value) (Tk : Nat → Value) (w : World)
    (h0 : w.cell? ⟨eb, 0, none⟩ = some (.slice (some ⟨g, 0, none⟩) nf nf)) (h1 : w.cell? ⟨g, 0, none⟩ = some (.int .i64 r0)) (h2 : w.cell? ⟨g, 1, none⟩ = some (.slice (some ⟨s0, 0, none⟩) c0 c0))
    (hT : Full w tb 160 7 7 Tk) (hT1 : Tk 1 = .slice none 0 0) (he : eb < w.heap.size) (hg : g < w.heap.size) (hn : 1 ≤ nf) (hr : 2 ≤ r0) (hr2 : r0 ≤ 8) :
    Calls Tryz.prog 119 #[P0 eb, P0 tb, .int .i64 0, vA (0, 0), vA (0, 0), .func k ka kc] w fun e w' => e = .returned (.tuple #[]) ∧ w.grownBy w' (some tb) ∧ ∃ kb ck fb rb, Full w' tb 160 7 7 (upd Tk 1 (.slice (some ⟨kb, 0, none⟩) 1 ck)) ∧ w'.ownsRow w.heap.size 184 1 (.slice (some ⟨kb, 0, none⟩) 1 ck) 1 [P0 fb] ∧ Fr w' fb s0 c0 0 rb r0 (.func k ka kc) (fun _ => (0, 0)) ∧ w.heap.size ≤ fb ∧ w.heap.size ≤ rb := by
  obtain ⟨i0, hi, hz0, hz1, hz2⟩ := info_parts Tryz.info149
  have hn2 : (0 : Int) < (nf : Int) := by omega
  have hn3 : 0 < nf := by omega
  have htb := hT.lt
  have HT := hid hT
  have HT1 := hid hT1
  clear hT hT1
  have he1 : eb < w.heap.size + 1 := by omega
  have he2 : eb < w.heap.size + 1 + 1 := by omega
  have hp1 : g < w.heap.size + 1 := by omega
  have hp2 : g < w.heap.size + 1 + 1 := by omega
  go_enter Tryz.func119, Tryz.ntmps119
  go_wp2_with (at_make; go_loud (refine wpList_make_full _ rfl _ _ 137 rfl 0 149 i0 _ 2 Tryz.underlying137 hi hz0 hz1 _ _ _ _ r0 rfl rfl rfl rfl (by rw [hz2]; omega) (by unfold maxLen; omega) (Nat.zero_le _) ?_))
  intro w3 hown hg3
  have hz := hg3.size
  simp at hz
  have hrb := made_zero hown
  have hs0 : (w.alloc (.cells #[.int .i64 0, .int .i64 0] 149)).heap.size = w.heap.size + 1 := by simp
  have x0 := grown_heap hg3 (show (((w.alloc (.cells #[.int .i64 0, .int .i64 0] 149)).alloc (.cells #[.int .i64 0, .int .i64 0] 149)).alloc (.cells #[.int .i64 (r0 : Int), .slice (some ⟨s0, 0, none⟩) c0 c0] 178)).heap[w.heap.size]? = some (.cells #[.int .i64 0, .int .i64 0] 149 (0, 0)) by rw [Below.heap_alloc _ _ _ (by simp; omega), Below.heap_alloc _ _ _ (by simp)]; exact heap_alloc_new _ _) (by intro e; cases e)
  have x1 := grown_heap hg3 (show (((w.alloc (.cells #[.int .i64 0, .int .i64 0] 149)).alloc (.cells #[.int .i64 0, .int .i64 0] 149)).alloc (.cells #[.int .i64 (r0 : Int), .slice (some ⟨s0, 0, none⟩) c0 c0] 178)).heap[w.heap.size + 1]? = some (.cells #[.int .i64 0, .int .i64 0] 149 (0, 0)) by rw [Below.heap_alloc _ _ _ (by simp), ← hs0]; exact heap_alloc_new _ _) (by intro e; cases e)
  have x2 := grown_heap hg3 (show (((w.alloc (.cells #[.int .i64 0, .int .i64 0] 149)).alloc (.cells #[.int .i64 0, .int .i64 0] 149)).alloc (.cells #[.int .i64 (r0 : Int), .slice (some ⟨s0, 0, none⟩) c0 c0] 178)).heap[w.heap.size + 1 + 1]? = some (.cells #[.int .i64 (r0 : Int), .slice (some ⟨s0, 0, none⟩) c0 c0] 178 (0, 0)) by (have := heap_alloc_new ((w.alloc (.cells #[.int .i64 0, .int .i64 0] 149)).alloc (.cells #[.int .i64 0, .int .i64 0] 149)) (.cells #[.int .i64 (r0 : Int), .slice (some ⟨s0, 0, none⟩) c0 c0] 178); simpa using this)) (by intro e; cases e)
  have KG3 : Hid (w.grownBy w3 none) := grown_trans (by repeat (first | exact grown_refl _ _ | refine grown_alloc ?_ _)) hg3
  have hrb' : Full w3 (w.heap.size + 1 + 1 + 1) 149 (r0 * 2) (r0 * 2) (regP (fun _ => (0, 0))) := by simpa using hrb
  have HRB := hid hrb'
  have a0 : w3.cell? ⟨w.heap.size, 0, none⟩ = some (.int .i64 0) := by simp [World.cell?, x0]
  have a1 : w3.cell? ⟨w.heap.size, 1, none⟩ = some (.int .i64 0) := by simp [World.cell?, x0]
  have b0 : w3.cell? ⟨w.heap.size + 1, 0, none⟩ = some (.int .i64 0) := by simp [World.cell?, x1]
  have b1 : w3.cell? ⟨w.heap.size + 1, 1, none⟩ = some (.int .i64 0) := by simp [World.cell?, x1]
  obtain ⟨k0, e0⟩ := hrb'.cells 0 (by omega)
  obtain ⟨k1, e1⟩ := hrb'.cells 1 (by omega)
  obtain ⟨k2, e2⟩ := hrb'.cells 2 (by omega)
  obtain ⟨k3, e3⟩ := hrb'.cells 3 (by omega)
  rw [regP_zero] at k0 k1 k2 k3
  have hq0 : (0 : Int) < (r0 : Int) := by omega
  have hq1 : (1 : Int) < (r0 : Int) := by omega
  have HX2 := hid x2
  clear hown hg3 hrb hrb' x0 x1 x2 h0 h1 h2 hs0
  go_wp2_with fail
  go_region
  all_goals
    generalize hw4 : World.drew ((((w3.setCell ⟨w.heap.size + 1 + 1 + 1, 0, none⟩ (.int .i64 0)).setCell ⟨w.heap.size + 1 + 1 + 1, 1, none⟩ (.int .i64 0)).setCell ⟨w.heap.size + 1 + 1 + 1, 2, none⟩ (.int .i64 0)).setCell ⟨w.heap.size + 1 + 1 + 1, 3, none⟩ (.int .i64 0)) = w4
    have hb : ∀ b, b ≠ w.heap.size + 1 + 1 + 1 → w4.heap[b]? = w3.heap[b]? := by
      intro b hb
      rw [← hw4]
      show (World.setCell _ _ _).heap[b]? = _
      repeat (rw [Below.heap_setCell _ _ _ _ (by simpa using hb)])
    have HR4 : Hid (Full w4 (w.heap.size + 1 + 1 + 1) 149 (r0 * 2) (r0 * 2) (regP (fun _ => (0, 0)))) := by
      show Full _ _ _ _ _ _
      rw [← hw4]
      refine Full.congr (show Full (World.drew _) _ _ _ _ _ from (((HRB.out.upd 0 (.int .i64 0)).upd 1 (.int .i64 0)).upd 2 (.int .i64 0)).upd 3 (.int .i64 0)) (fun j _ => ?_)
      rw [regP_zero]
      unfold upd
      repeat (split; · rfl)
      exact regP_zero j
    have hz4 : w4.heap.size = w3.heap.size := by rw [← hw4]; simp [World.setCell, World.drew]
    have KG4 : Hid (w.grownBy w4 none) := by
      rw [← hw4]
      repeat (first | exact KG3.out | refine grown_drew ?_ | refine grown_setCell ?_ (Or.inr (by simp; omega)) _)
    have HT4 := hid (HT.out.block (KG4.out.block tb htb (by intro e; cases e)))
    have x2 := (hb (w.heap.size + 1 + 1) (by omega)).trans HX2.out
    have f1 : w4.cell? ⟨w.heap.size + 1 + 1, 1, none⟩ = some (.slice (some ⟨s0, 0, none⟩) c0 c0) := by simp [World.cell?, x2]
    have lf := heap_lt x2
    obtain ⟨t1, z1⟩ := HT4.out.cells 1 (by omega)
    rw [HT1.out] at t1
    have lt4 := HT4.out.lt
    have hle4 : w.heap.size + 1 + 1 + 1 ≤ w4.heap.size := by omega
    clear hz4
    clear hw4 hb x2 HX2 HRB KG3 a0 a1 b0 b1 k0 k1 k2 k3 e0 e1 e2 e3 hi hz0 hz1 hz2 i0
    obtain ⟨j0, hj, hy0, hy1, hy2⟩ := info_parts Tryz.info184'
    go_wp2_with fail
    go_region_law (refine step_append_own rfl (.tmp 34) (.tmp 41) 156 rfl w.heap.size 184 j0 _ 1 8 Tryz.underlying156 hj hy0 hy1 hy2 rfl (by decide) (.slice none 0 0) 0 [] (by first | rfl | simp [Act.eval, Act.put]) (World.ownsRow_nil _ _ _ _) ⟨w4.heap.size + 1, 0, none⟩ 1 1 [P0 w4.heap.size] (by first | rfl | simp [Act.eval, Act.put]) rfl (by intro j u hj; match j, hj with | 0, hj => (simp at hj; subst hj; simp [Addr.add, go_sem])) (by simp [Value.oneCell']) (by unfold maxLen; omega) (by omega) (by simp; omega) ?_; intro v' w6 ho hg; obtain ⟨kb, ck, rfl⟩ := row_form ho (by omega); have hz6 := hg.size; simp at hz6; have hfr := grown_heap (k := w4.heap.size) hg (o := frmB s0 c0 0 (w.heap.size + 1 + 1 + 1) r0 (.func k ka kc)) (by show (World.alloc _ _).heap[_]? = _; rw [Below.heap_alloc _ _ _ (by simp)]; exact heap_alloc_new _ _) (by intro e; cases e); have HG6 : Hid (w4.grownBy w6 none) := ⟨hg.os, hg.tape, hg.output, by omega, fun x hx hn => (hg.block x (by simp; omega) hn).trans ((Below.heap_alloc _ _ _ (by simp; omega)).trans (Below.heap_alloc _ _ _ hx))⟩; have HO6 := hid ho; have HFR := hid hfr; have HT6 := hid (HT4.out.block (HG6.out.block tb lt4 (by intro e; cases e))); obtain ⟨d1, z1'⟩ := HT6.out.cells 1 (by omega); have lt6 := HT6.out.lt; clear ho hg hfr)
    all_goals
      rw [HT1.out] at d1
      go_wp2_with fail
      go_end0
      have hrt : w.heap.size + 1 + 1 + 1 ≠ tb := by omega
      have lr4 := HR4.out.lt
      refine ⟨rfl, grown_setCell (grown_of_none (grown_trans KG4.out HG6.out)) (Or.inl rfl) _, kb, ck, w4.heap.size, w.heap.size + 1 + 1 + 1, HT6.out.upd 1 _, own_of HO6.out (fun x h => Below.heap_setCell _ _ _ _ (own_ne HO6.out HT6.out (by decide) x h)), ⟨(Below.heap_setCell _ _ _ _ (show w4.heap.size ≠ tb by omega)).trans HFR.out, (HR4.out.block (HG6.out.block _ HR4.out.lt (by intro e; cases e))).off hrt, by omega⟩, by omega, by omega⟩
end Go.Proofs.YtnjiinbhbjpfkaaGreatDoor

/-
  A task's life ends: its outcome is kept.
-/
namespace Go.Proofs.YtnjiinbhbjpfkaaGreatDoor
open Go.RowKit

/-- What is kept of an outcome: a cell, and nothing of a number. -/
def Kept (base : Nat) (w : World) (kv : Value) (v : B.V) : Prop := (v.1 = 0 ∧ kv = .slice none 0 0) ∨ (v.1 ≠ 0 ∧ ∃ g c, kv = .slice (some ⟨g, 0, none⟩) 1 c ∧ w.ownsRow base 149 2 kv 1 [.int .i64 (v.1 : Int), .int .i64 v.2])
theorem Kept.block {base : Nat} {w w' : World} {kv : Value} {v : B.V} (h : Kept base w kv v) (hk : ∀ k, kv.ownBlock = some k → base ≤ k → w'.heap[k]? = w.heap[k]?) : Kept base w' kv v := by
  rcases h with h | ⟨h1, g, c, h2, h3⟩
  · exact Or.inl h
  · exact Or.inr ⟨h1, g, c, h2, own_of h3 (fun k hb => hk k hb (own_ty h3 k hb).1)⟩

set_option maxRecDepth 100000 in
set_option maxHeartbeats 2000000 in
theorem keep_any (eb ob co base : Nat) (v : B.V) (xs : List Value) (E : Nat → Value) (w : World) (hE : Full w eb 144 44 44 E) (hE29 : E 30 = .slice (some ⟨ob, 0, none⟩) 1 co) (hE30 : E 31 = .slice none 0 0)
    (hown : w.ownsRow base 149 2 (.slice (some ⟨ob, 0, none⟩) 1 co) 1 xs) :
    Calls Tryz.prog 211 #[P0 eb, .int .i64 1, vA v] w fun e w' => e = .returned (.tuple #[]) ∧ ∃ kv, Full w' eb 144 44 44 (upd E 31 kv) ∧ Only (fun k => k = eb ∨ k = ob) w w' ∧ Kept w.heap.size w' kv v := by
  obtain ⟨i0, hi, hz0, hz1, hz2⟩ := info_parts Tryz.info149
  obtain ⟨c29, z29⟩ := hE.cells 30 (by omega)
  obtain ⟨c30, z30⟩ := hE.cells 31 (by omega)
  rw [hE29] at c29
  rw [hE30] at c30
  have le := hE.lt
  have oe : ob ≠ eb := own_ne hown hE (by decide) ob rfl
  obtain ⟨cur, hg, hc, hs⟩ : ∃ cur, w.heap[ob]? = some (.cells cur 149 (0, 0)) ∧ 1 ≤ co ∧ cur.size = co * 2 := by
    rcases hown.2 with ⟨h, _⟩ | ⟨g', c', cur, h1, _, h2, h3, _, h5, _⟩
    · cases h
    · cases h1; exact ⟨cur, h2, h3, h5⟩
  have lo := heap_lt hg
  have o0 : (w.cell? ⟨ob, 0, none⟩) = some cur[0] := by simp [World.cell?, hg]
  have o1 : (w.cell? ⟨ob, 1, none⟩) = some cur[1] := by simp [World.cell?, hg]
  have p0 : w.frozen? ⟨ob, 0, none⟩ = false := by simp [World.frozen?, hg]
  have p1 : w.frozen? ⟨ob, 1, none⟩ = false := by simp [World.frozen?, hg]
  generalize cur[0] = y0 at o0
  generalize cur[1] = y1 at o1
  have HE := hid hE
  have H30 := hid hE30
  clear hE hE29 hE30 hown hg hs
  have oe' : ¬ eb = ob := fun e => oe e.symm
  have le1 : eb < w.heap.size + 1 := by omega
  have lo1 : ob < w.heap.size + 1 := by omega
  obtain ⟨v1, v2⟩ := v
  go_enter Tryz.func211, Tryz.ntmps211
  go_wp2_with fail
  go_region
  all_goals
    generalize hw2 : World.drew (((w.setCell ⟨ob, 0, none⟩ (.int .i64 (v1 : Int))).setCell ⟨ob, 1, none⟩ (.int .i64 v2)).alloc (.cells #[.int .i64 (v1 : Int), .int .i64 v2] 149)) = w2
    have b0 : w2.cell? ⟨w.heap.size, 0, none⟩ = some (.int .i64 (v1 : Int)) ∧ w2.cell? ⟨w.heap.size, 1, none⟩ = some (.int .i64 v2) := by
      have hz : ((w.setCell ⟨ob, 0, none⟩ (.int .i64 (v1 : Int))).setCell ⟨ob, 1, none⟩ (.int .i64 v2)).heap.size = w.heap.size := by simp [World.setCell]
      have h1 : w2.heap[w.heap.size]? = some (.cells #[.int .i64 (v1 : Int), .int .i64 v2] 149 (0, 0)) := by
        rw [← hw2, ← hz]; exact heap_alloc_new _ _
      exact ⟨by simp [World.cell?, h1], by simp [World.cell?, h1]⟩
    obtain ⟨b0, b1⟩ := b0
    have hz2' : w2.heap.size = w.heap.size + 1 := by rw [← hw2]; simp [World.setCell]
    have HE2 : Hid (Full w2 eb 144 44 44 E) := by
      show Full _ _ _ _ _ _
      rw [← hw2]
      exact (((HE.out.off oe').off oe').block (Below.heap_alloc _ _ _ (by simp [World.setCell]; omega)))
    have KO2 : Hid (Only (fun k => k = eb ∨ k = ob) w w2) := by
      show Only _ _ _
      rw [← hw2]
      exact only_drew (only_alloc (only_setCell (only_setCell (only_refl _ _) (Or.inl (Or.inr rfl)) _) (Or.inl (Or.inr rfl)) _) _)
    clear hw2 c29 z29 c30 z30 o0 o1 p0 p1 y0 y1
    obtain ⟨c30, z30⟩ := HE2.out.cells 31 (by omega)
    rw [H30.out] at c30
    have le2 : eb < w2.heap.size := by omega
    have lb2 : w.heap.size < w2.heap.size := by omega
    go_wp2_with fail
    refine (vnumber_any (v1, v2) _).mono ?_
    rintro e w3 ⟨rfl, hg3⟩
    have hz3 := hg3.size
    have KO3 := hid (KO2.out.then0 hg3)
    have HE3 := hid (HE2.out.block (hg3.block eb le2 (by intro e; cases e)))
    obtain ⟨k0, _⟩ := grown_cell hg3 (a := ⟨w.heap.size, 0, none⟩) lb2
    obtain ⟨k1, _⟩ := grown_cell hg3 (a := ⟨w.heap.size, 1, none⟩) lb2
    rw [b0] at k0
    rw [b1] at k1
    have le3 : eb < w3.heap.size := by omega
    have lb3 : w.heap.size < w3.heap.size := by omega
    obtain ⟨d30, e30⟩ := HE3.out.cells 31 (by omega)
    rw [H30.out] at d30
    clear hg3 c30 z30 b0 b1
    by_cases hv : v1 = 0
    · subst hv
      simp only [decide_true]
      go_wp2_with fail
      go_quiet (fail)
      go_wp2_with fail
      go_end0
      refine ⟨rfl, .slice none 0 0, HE3.out.congr (fun j _ => ?_), KO3.out, Or.inl ⟨rfl, rfl⟩⟩
      by_cases hj : j = 31
      · subst hj; rw [upd_at, H30.out]
      · rw [upd_off _ _ _ _ hj]
    · have hd : decide (v1 = 0) = false := by simpa using hv
      simp only [hd]
      go_wp2_with fail
      go_cut [31] from 21 to 31 (fun x wx => x = .bool true ∧ Hid (w3.grownBy wx none))
      case first =>
        go_region_with (go_at_call 224; refine (containsV_any (v1, v2) w3.drew).mono ?_; rintro e w4 ⟨rfl, hg4⟩; have HG4 : Hid (w3.grownBy w4 none) := ⟨hg4.os, hg4.tape, hg4.output, hg4.size, hg4.block⟩; clear hg4)
        all_goals
          go_wp2_with fail
          go_meet
          case rel => exact ⟨rfl, HG4⟩
      case rest =>
        obtain ⟨rfl, HG4⟩ := hcut
        have hz4 := HG4.out.size
        obtain ⟨k0', _⟩ := grown_cell HG4.out (a := ⟨w.heap.size, 0, none⟩) lb3
        obtain ⟨k1', _⟩ := grown_cell HG4.out (a := ⟨w.heap.size, 1, none⟩) lb3
        rw [k0] at k0'
        rw [k1] at k1'
        have HE4 := hid (HE3.out.block (HG4.out.block eb le3 (by intro e; cases e)))
        have KO4 := hid (KO3.out.then0 HG4.out)
        clear k0 k1 d30 e30
        obtain ⟨d30, e30⟩ := HE4.out.cells 31 (by omega)
        rw [H30.out] at d30
        have le4 : eb < wc.heap.size := by omega
        have lb4 : w.heap.size < wc.heap.size := by omega
        go_wp2_with fail
        go_region_law (refine step_append_own rfl (.tmp 36) (.tmp 38) 137 rfl w.heap.size 149 i0 _ 2 16 Tryz.underlying137 hi hz0 hz1 hz2 rfl (by decide) (.slice none 0 0) 0 [] (by first | rfl | simp [Act.eval, Act.put]) (World.ownsRow_nil _ _ _ _) ⟨wc.heap.size, 0, none⟩ 1 1 [.int .i64 v1, .int .i64 v2] (by first | rfl | simp [Act.eval, Act.put]) rfl (by intro j u hj; match j, hj with | 0, hj => (simp at hj; subst hj; simp [Addr.add, go_sem]) | 1, hj => (simp at hj; subst hj; simp [Addr.add, go_sem])) (by simp [Value.oneCell']) (by unfold maxLen; omega) (by omega) (by simp; omega) ?_; intro v' w6 ho hg; obtain ⟨g, c, rfl⟩ := row_form ho (by omega); have hg' : wc.grownBy w6 none := ⟨hg.os, hg.tape, hg.output, by (have := hg.size; simp at this; omega), fun k hk hn => (hg.block k (by simp; omega) hn).trans (Below.heap_alloc _ _ _ hk)⟩; have HE6 := hid (HE4.out.block (hg'.block eb le4 (by intro e; cases e))); have KO6 := hid (KO4.out.then0 hg'); obtain ⟨f30, g30⟩ := HE6.out.cells 31 (by omega); have le6 := HE6.out.lt; have HOO := hid ho; clear ho hg hg')
        all_goals
          rw [H30.out] at f30
          go_wp2_with fail
          go_end0
          exact ⟨rfl, .slice (some ⟨g, 0, none⟩) 1 c, HE6.out.upd 31 _, only_setCell KO6.out (Or.inl (Or.inl rfl)) _, Or.inr ⟨hv, g, c, rfl, own_of HOO.out (fun k h => Below.heap_setCell _ _ _ _ (by have := (own_ty HOO.out k h).1; show k ≠ eb; omega))⟩⟩
end Go.Proofs.YtnjiinbhbjpfkaaGreatDoor

/-
  A task's life ends, by its end or by a failure.
-/
namespace Go.Proofs.YtnjiinbhbjpfkaaGreatDoor
open Go.RowKit

/-- What leave needs of the engine and of the task. -/
def Leav (w : World) (eb tb lb cl ob co base : Nat) (ad : Option Addr) (n cap : Nat) (ev : List B.Ev) (E Tk : Nat → Value) : Prop :=
  Full w eb 144 44 44 E ∧ Full w tb 160 7 7 Tk ∧ E 29 = .slice (some ⟨lb, 0, none⟩) 1 cl ∧ w.ownsRow 0 155 1 (.slice (some ⟨lb, 0, none⟩) 1 cl) 1 [P0 tb] ∧
  E 30 = .slice (some ⟨ob, 0, none⟩) 1 co ∧ w.ownsRow 0 149 2 (.slice (some ⟨ob, 0, none⟩) 1 co) 1 [.int .i64 0, .int .i64 0] ∧ E 31 = .slice none 0 0 ∧ E 43 = .slice ad n cap ∧ w.ownsRow base 48 3 (.slice ad n cap) n (evL ev) ∧
  Tk 0 = .int .i64 1 ∧ Tk 3 = .pointer none ∧ Tk 6 = .slice none 0 0 ∧ base ≤ w.heap.size ∧ n ≤ 100000
/-- What it leaves of the engine. -/
def Left (w w' : World) (eb tb lb ob base n : Nat) (ad : Option Addr) (cap : Nat) (ev : List B.Ev) (E : Nat → Value) (v : B.V) : Prop :=
  ∃ E' g c a' c', Full w' eb 144 44 44 E' ∧ E' 1 = E 1 ∧ E' 28 = E 28 ∧ E' 29 = .slice a' 0 c' ∧ E' 42 = E 42 ∧ E' 2 = E 2 ∧ E' 27 = E 27 ∧ Kept w.heap.size w' (E' 31) v ∧ E' 43 = .slice (some ⟨g, 0, none⟩) (n + 1) c ∧ w'.ownsRow base 48 3 (.slice (some ⟨g, 0, none⟩) (n + 1) c) (n + 1) (evL ev) ∧
    w'.cell? ⟨tb, 2, none⟩ = some (.bool false) ∧ Only (fun k => k = eb ∨ k = tb ∨ k = lb ∨ k = ob ∨ (Value.slice ad n cap).ownBlock = some k) w w'

set_option maxRecDepth 100000 in
set_option maxHeartbeats 4000000 in
theorem leave_any (eb tb lb cl ob co base kind : Nat) (x : Int) (v : B.V) (ad : Option Addr) (n cap : Nat) (ev : List B.Ev) (E Tk : Nat → Value) (w : World) (hL : Leav w eb tb lb cl ob co base ad n cap ev E Tk) :
    Calls Tryz.prog 175 #[P0 eb, P0 tb, vA v, .int .i64 kind, .int .i64 x] w fun e w' => e = .returned (.tuple #[]) ∧ Left w w' eb tb lb ob base n ad cap (ev ++ [(kind, x)]) E v := by
  obtain ⟨hE, hT, h28, o28, h29, o29, h30, h42, o42, t0, t3, t6, hb, hn⟩ := hL
  have ne : eb ≠ tb := hE.ne hT (by decide)
  have ne' : ¬ tb = eb := fun e => ne e.symm
  have hlb : lb ≠ eb ∧ lb ≠ tb ∧ lb < w.heap.size := ⟨own_ne o28 hE (by decide) lb rfl, own_ne o28 hT (by decide) lb rfl, (own_ty o28 lb rfl).2.1⟩
  have hob : ob ≠ eb ∧ ob ≠ tb ∧ ob < w.heap.size ∧ ob ≠ lb := by
    refine ⟨own_ne o29 hE (by decide) ob rfl, own_ne o29 hT (by decide) ob rfl, (own_ty o29 ob rfl).2.1, ?_⟩
    rintro rfl
    obtain ⟨_, _, c1, h1⟩ := own_ty o29 ob rfl
    obtain ⟨_, _, c2, h2⟩ := own_ty o28 ob rfl
    rw [h1] at h2; injection h2 with h2; injection h2 with _ h2 _; cases h2
  have hvb : ∀ k, (Value.slice ad n cap).ownBlock = some k → k ≠ eb ∧ k ≠ tb ∧ k < w.heap.size ∧ k ≠ lb ∧ k ≠ ob := by
    intro k hk
    refine ⟨own_ne o42 hE (by decide) k hk, own_ne o42 hT (by decide) k hk, (own_ty o42 k hk).2.1, ?_, ?_⟩
    · rintro rfl
      obtain ⟨_, _, c1, h1⟩ := own_ty o42 k hk
      obtain ⟨_, _, c2, h2⟩ := own_ty o28 k rfl
      rw [h1] at h2; injection h2 with h2; injection h2 with _ h2 _; cases h2
    · rintro rfl
      obtain ⟨_, _, c1, h1⟩ := own_ty o42 k hk
      obtain ⟨_, _, c2, h2⟩ := own_ty o29 k rfl
      rw [h1] at h2; injection h2 with h2; injection h2 with _ h2 _; cases h2
  obtain ⟨c28, z28⟩ := hE.cells 29 (by omega)
  obtain ⟨c3, _⟩ := hT.cells 3 (by omega)
  obtain ⟨c2, z2⟩ := hT.cells 2 (by omega)
  rw [h28] at c28
  rw [t3] at c3
  have le := hE.lt
  have lt := hT.lt
  have le1 : eb < w.heap.size + 1 := by omega
  have lt1 : tb < w.heap.size + 1 := by omega
  have HE := hid hE
  have HT := hid hT
  have HF := hid (And.intro h28 (And.intro h29 (And.intro h30 (And.intro h42 (And.intro t0 t6)))))
  have HO28 := hid o28
  have HO29 := hid o29
  have HO42 := hid o42
  have HLB := hid hlb
  have HOB := hid hob
  have HVB := hid hvb
  clear hE hT h28 o28 h29 o29 h30 h42 o42 t0 t3 t6 hlb hob hvb
  generalize Tk 2 = y2 at c2
  go_enter Tryz.func175, Tryz.ntmps175
  go_wp2_with fail
  refine (stepOut_none tb _ (by simp [go_sem, lt, lt1, c3])).mono ?_
  rintro e w1 ⟨rfl, rfl⟩
  go_wp2_with fail
  generalize hW : ((w.setCell ⟨tb, 2, none⟩ (.bool false)).alloc (.cells #[P0 tb] 155)).alloc (.cells #[.int .i64 (v.1 : Int), .int .i64 v.2] 149) = w1
  have hz0 : (w.setCell ⟨tb, 2, none⟩ (.bool false)).heap.size = w.heap.size := by simp [World.setCell]
  have hz1 : w1.heap.size = w.heap.size + 2 := by rw [← hW]; simp [World.setCell]
  have hbl : ∀ k, k < w.heap.size → k ≠ tb → w1.heap[k]? = w.heap[k]? := by
    intro k hk hn
    rw [← hW, Below.heap_alloc _ _ _ (by simp [World.setCell]; omega), Below.heap_alloc _ _ _ (by simp [World.setCell]; omega), Below.heap_setCell _ _ _ _ hn]
  have x0 : w1.heap[w.heap.size]? = some (.cells #[P0 tb] 155 (0, 0)) := by
    rw [← hW, Below.heap_alloc _ _ _ (by simp [World.setCell]), ← hz0]; exact heap_alloc_new _ _
  have x1 : w1.heap[w.heap.size + 1]? = some (.cells #[.int .i64 (v.1 : Int), .int .i64 v.2] 149 (0, 0)) := by
    rw [← hW]
    have := heap_alloc_new ((w.setCell ⟨tb, 2, none⟩ (.bool false)).alloc (.cells #[P0 tb] 155)) (.cells #[.int .i64 (v.1 : Int), .int .i64 v.2] 149)
    simpa [World.setCell] using this
  have HT1 : Hid (Full w1 tb 160 7 7 (upd Tk 2 (.bool false))) := by
    show Full _ _ _ _ _ _
    rw [← hW]
    exact ((HT.out.upd 2 _).block (Below.heap_alloc _ _ _ (by simp [World.setCell]; omega))).block (Below.heap_alloc _ _ _ (by simp [World.setCell]; omega))
  have KO1 : Hid (Only (fun k => k = eb ∨ k = tb ∨ k = lb ∨ k = ob ∨ (Value.slice ad n cap).ownBlock = some k) w w1) := by
    show Only _ _ _
    rw [← hW]
    exact only_alloc (only_alloc (only_setCell (only_refl _ _) (Or.inl (Or.inr (Or.inl rfl))) _) _) _
  have HE1 := hid (HE.out.block (hbl eb le ne))
  have HO1 := hid (own_of HO28.out (fun k h => hbl k (by cases h; exact HLB.out.2.2) (by cases h; exact HLB.out.2.1)))
  have HP1 := hid (own_of HO29.out (fun k h => hbl k (by cases h; exact HOB.out.2.2.1) (by cases h; exact HOB.out.2.1)))
  have HV1 := hid (own_of HO42.out (fun k h => hbl k (HVB.out k h).2.2.1 (HVB.out k h).2.1))
  clear hW hbl c28 z28 c3 c2 z2
  refine (sdeleteF_any lb cl tb w.heap.size 0 w1 HO1.out (by simp [World.cell?, x0])).mono ?_
  rintro e w2 ⟨rfl, hg2⟩
  have hz2 := hg2.size
  have HE2 := hid (HE1.out.kept hg2 (fun e => HLB.out.1 e.symm))
  have HT2 := hid (HT1.out.kept hg2 (fun e => HLB.out.2.1 e.symm))
  have KO2 := hid (KO1.out.then hg2 (Or.inl (Or.inr (Or.inr (Or.inl rfl)))))
  have HP2 := hid (own_of HP1.out (fun k h => hg2.block k (by cases h; show ob < _; have := HOB.out.2.2.1; omega) (by cases h; intro e; injection e with e; exact HOB.out.2.2.2 e)))
  have HV2 := hid (own_of HV1.out (fun k h => hg2.block k (by have := (HVB.out k h).2.2.1; omega) (by intro e; injection e with e; exact (HVB.out k h).2.2.2.1 e)))
  have y0 := (hg2.block w.heap.size (by omega) (by intro e; injection e with e; have := HLB.out.2.2; omega)).trans x0
  have y1 := (hg2.block (w.heap.size + 1) (by omega) (by intro e; injection e with e; have := HLB.out.2.2; omega)).trans x1
  obtain ⟨d28, e28⟩ := HE2.out.cells 29 (by omega)
  generalize E 29 = y28 at d28
  clear hg2 x0 x1 HE1 HT1 HO1 HP1 HV1 KO1
  go_wp2_with fail
  generalize hw3 : w2.setCell ⟨eb, 29, none⟩ (.slice (some ⟨lb, 0, none⟩) 0 cl) = w3
  have hz3 : w3.heap.size = w2.heap.size := by rw [← hw3]; simp [World.setCell]
  have hb3 : ∀ k, k ≠ eb → w3.heap[k]? = w2.heap[k]? := fun k hk => by rw [← hw3]; exact Below.heap_setCell _ _ _ _ hk
  have HE3 : Hid (Full w3 eb 144 44 44 (upd E 29 (.slice (some ⟨lb, 0, none⟩) 0 cl))) := by show Full _ _ _ _ _ _; rw [← hw3]; exact HE2.out.upd 29 _
  have HT3 := hid (HT2.out.block (hb3 tb ne'))
  have KO3 : Hid (Only (fun k => k = eb ∨ k = tb ∨ k = lb ∨ k = ob ∨ (Value.slice ad n cap).ownBlock = some k) w w3) := by show Only _ _ _; rw [← hw3]; exact only_setCell KO2.out (Or.inl (Or.inl rfl)) _
  have HP3 := hid (own_of HP2.out (fun k h => hb3 k (by cases h; exact HOB.out.1)))
  have HV3 := hid (own_of HV2.out (fun k h => hb3 k (HVB.out k h).1))
  have u0 := (hb3 w.heap.size (by omega)).trans y0
  have u1 := (hb3 (w.heap.size + 1) (by omega)).trans y1
  have p0 : w3.cell? ⟨w.heap.size, 0, none⟩ = some (P0 tb) := by simp [World.cell?, u0]
  have p1 : w3.cell? ⟨w.heap.size + 1, 0, none⟩ = some (.int .i64 (v.1 : Int)) := by simp [World.cell?, u1]
  have p2 : w3.cell? ⟨w.heap.size + 1, 1, none⟩ = some (.int .i64 v.2) := by simp [World.cell?, u1]
  have q0 := HT3.out.cell 0 (by omega)
  rw [upd_off _ _ _ _ (by omega), HF.out.2.2.2.2.1] at q0
  have lt3 := HT3.out.lt
  have l3 : w.heap.size + 1 < w3.heap.size := by omega
  have l3' : w.heap.size < w3.heap.size := by omega
  clear hw3 hb3 HE2 HT2 KO2 HP2 HV2 y0 y1 d28 e28
  go_cut [] from 24 to 30 (fun wx => ∃ kv, Hid (Full wx eb 144 44 44 (upd (upd E 29 (.slice (some ⟨lb, 0, none⟩) 0 cl)) 31 kv)) ∧ Hid (Only (fun k => k = eb ∨ k = ob) w3 wx) ∧ Hid (Kept w3.heap.size wx kv v))
  case first =>
    go_region_with (go_at_call 211; refine (keep_any eb ob co 0 v _ _ w3.drew HE3.out (by rw [upd_off _ _ _ _ (by omega)]; exact HF.out.2.1) (by rw [upd_off _ _ _ _ (by omega)]; exact HF.out.2.2.1) HP3.out).mono ?_; rintro e w4 ⟨rfl, kv, hE4, hO4, hk4⟩; have HE4 := hid hE4; have HO4 : Hid (Only (fun k => k = eb ∨ k = ob) w3 w4) := hO4; have HK4 : Hid (Kept w3.heap.size w4 kv v) := hk4; clear hE4 hO4 hk4)
    all_goals
      go_wp2_with fail
      go_meet
      case rel => exact ⟨kv, HE4, HO4, HK4⟩
  case rest =>
    obtain ⟨kv, HE4, HO4, HK4⟩ := hcut
    have hz4 := HO4.out.size
    have HT4 := hid (HT3.out.only HO4.out (fun h => h.elim (fun h => ne' h) (fun h => HOB.out.2.1 h.symm)))
    have HV4 := hid (own_of HV3.out (fun k h => HO4.out.same (by have := (HVB.out k h).2.2.1; omega) (fun e => e.elim (fun e => (HVB.out k h).1 e) (fun e => (HVB.out k h).2.2.2.2 e))))
    have KO4 := hid (KO3.out.trans HO4.out (fun b hb _ => hb.elim Or.inl (fun h => Or.inr (Or.inr (Or.inr (Or.inl h))))))
    have p0' : wc.cell? ⟨w.heap.size, 0, none⟩ = some (P0 tb) := (HO4.out.cell (o := 0) l3' (fun h => h.elim (fun h => by omega) (fun h => by have := HOB.out.2.2.1; omega))).trans p0
    have l4 : w.heap.size < wc.heap.size := by omega
    clear p0 p1 p2 q0 HE3 HT3 HP3 HV3 KO3
    go_wp2_with fail
    refine (tell_any eb tb base kind x ad n cap ev _ _ wc HE4.out (by rw [upd_off _ _ _ _ (by omega), upd_off _ _ _ _ (by omega)]; exact HF.out.2.2.2.1) HT4.out (by rw [upd_off _ _ _ _ (by omega)]; exact HF.out.2.2.2.2.1) HV4.out (by omega) hn).mono ?_
    rintro e w5 ⟨rfl, g, c, ho5, hE5, hO5⟩
    have hz5 := hO5.size
    have HT5 := hid (HT4.out.only hO5 (fun h => h.elim (fun h => ne' h) (fun h => (HVB.out tb h).2.1 rfl)))
    have KO5 := hid (KO4.out.trans hO5 (fun b hb _ => hb.elim Or.inl (fun h => Or.inr (Or.inr (Or.inr (Or.inr h))))))
    have HE5 := hid hE5
    have HO5 := hid ho5
    have HK5 : Hid (Kept w.heap.size w5 kv v) := by
      have h5 := HK4.out.block (w' := w5) (fun k hk hl => by
        rcases HK4.out with ⟨_, h⟩ | ⟨_, g', c', h, ho'⟩
        · rw [h] at hk; cases hk
        · refine hO5.same (own_ty ho' k hk).2.1 (fun hs => ?_)
          rcases hs with hs | hs
          · omega
          · have := (HVB.out k hs).2.2.1; omega)
      rcases h5 with h | ⟨h1, g', c', h2, h3⟩
      · exact Or.inl h
      · refine Or.inr ⟨h1, g', c', h2, h3.1, ?_⟩
        rcases h3.2 with h | ⟨a1, a2, a3, a4, a5, a6⟩
        · exact Or.inl h
        · exact Or.inr ⟨a1, a2, a3, a4, by omega, a6⟩
    have p0 : w5.cell? ⟨w.heap.size, 0, none⟩ = some (P0 tb) := (hO5.cell (o := 0) l4 (fun h => h.elim (fun h => by omega) (fun h => by have := (HVB.out _ h).2.2.1; omega))).trans p0'
    have l5 : w.heap.size < w5.heap.size := by omega
    have q6 := HT5.out.cell 6 (by omega)
    rw [upd_off _ _ _ _ (by omega), HF.out.2.2.2.2.2] at q6
    clear hE5 ho5 hO5 p0'
    have hEm := empty_any tb 6 0 0 none w5 q6
    simp only [decide_true] at hEm
    have HEm := hid hEm
    clear hEm
    go_wp2_with fail
    go_loopw [] (fun wr => wr = w5) (fun _ => 0)
    case atStart => rfl
    case round =>
      subst hrel
      go_wp2_with fail
      refine HEm.out.mono ?_
      rintro e w6 ⟨rfl, rfl⟩
      go_wp2_with fail
      go_end0
      refine ⟨rfl, _, g, c, some ⟨lb, 0, none⟩, cl, HE5.out, ?_, ?_, ?_, ?_, ?_, ?_, ?_, upd_at _ _ _, HO5.out, ?_, KO5.out⟩
      · rw [upd_off _ _ _ _ (by omega), upd_off _ _ _ _ (by omega), upd_off _ _ _ _ (by omega)]
      · rw [upd_off _ _ _ _ (by omega), upd_off _ _ _ _ (by omega), upd_off _ _ _ _ (by omega)]
      · rw [upd_off _ _ _ _ (by omega), upd_off _ _ _ _ (by omega), upd_at]
      · rw [upd_off _ _ _ _ (by omega), upd_off _ _ _ _ (by omega), upd_off _ _ _ _ (by omega)]
      · rw [upd_off _ _ _ _ (by omega), upd_off _ _ _ _ (by omega), upd_off _ _ _ _ (by omega)]
      · rw [upd_off _ _ _ _ (by omega), upd_off _ _ _ _ (by omega), upd_off _ _ _ _ (by omega)]
      · rw [upd_off _ _ _ _ (by omega), upd_at]; exact HK5.out
      · rw [HT5.out.cell 2 (by omega), upd_at]
end Go.Proofs.YtnjiinbhbjpfkaaGreatDoor
