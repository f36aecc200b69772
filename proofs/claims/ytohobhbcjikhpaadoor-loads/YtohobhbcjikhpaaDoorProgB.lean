/-
  The document's 'Program' answers as the plain function 'prg' says: for every text that is no longer than a text can be.
-/
import Derived.Test.YtohobhbcjikhpaaDoorCode
namespace Go.Proofs.YtohobhbcjikhpaaDoor
open Go.RowKit

/-- What 'next' has come to. -/
def Nxt (s : ByteArray) (p L H : Nat) (bad : Bool) (x q : Nat) (bad' : Bool) : Prop :=
  (bad' = true ∧ q = p ∧ (bad = true ∨ M.tk s p L H = false)) ∨ (bad' = false ∧ bad = false ∧ q = p + 1 ∧ x = M.bt s p ∧ M.tk s p L H = true)

/-- 'next', whatever stands there: a number within the bounds; the byte, if nothing is wrong. -/
theorem next_val (b : Nat) (s : ByteArray) (p L H : Nat) (bad : Bool) (lo hi : Int) (w : World) (h : w.heap[b]? = some (rdB s p bad)) (hs : s.size ≤ maxLen) (hp : p ≤ s.size) (hL : lo = L) (hH : hi = H) (hLH : L ≤ H) :
    Calls Tryd.prog 21 #[.pointer (some ⟨b, 0, none⟩), .int .i64 lo, .int .i64 hi] w fun e w' => ∃ (x q : Nat) (bad' : Bool), e = .returned (.int .i64 x) ∧ L ≤ x ∧ x ≤ H ∧ w'.heap[b]? = some (rdB s q bad') ∧ w.grownBy w' (some b) ∧ q ≤ s.size ∧
      Nxt s p L H bad x q bad' := by
  by_cases hb : bad = false ∧ M.tk s p L H = true
  · obtain ⟨rfl, ht⟩ := hb
    have h3 := M.tk_lt ht
    refine (next_good b s p L H lo hi w h hs hL hH ht).mono ?_
    rintro e w' ⟨rfl, h1, h2⟩
    exact ⟨M.bt s p, p + 1, false, rfl, h3.2.1, h3.2.2, h1, h2, by omega, Or.inr ⟨rfl, rfl, rfl, rfl, ht⟩⟩
  · have hb' : bad = true ∨ M.tk s p L H = false := by
      cases bad with
      | true => exact Or.inl rfl
      | false => exact Or.inr (by simpa using hb)
    refine (next_bad b s p L H bad lo hi w h hp hL hH hb').mono ?_
    rintro e w' ⟨rfl, h1, h2⟩
    exact ⟨L, p, true, by rw [hL], Nat.le_refl _, hLH, h1, h2, hp, Or.inl ⟨rfl, rfl, hb'⟩⟩

theorem below_of_grownB {w w' : World} {o : Obj} (h : (w.alloc o).grownBy w' (some w.heap.size)) : Below w.heap.size w w' :=
  ⟨h.os, h.tape, h.output, by have := h.size; simp at this; omega, fun k hk => (h.block k (by simp; omega) (by intro e; injection e; omega)).trans (Below.heap_alloc _ _ _ hk)⟩

theorem below_same {w0 w w' : World} (h : w.grownBy w' (some w0.heap.size)) (hs : w0.heap.size ≤ w.heap.size) : Below w0.heap.size w w' :=
  ⟨h.os, h.tape, h.output, h.size, fun k hk => h.block k (by omega) (by intro e; injection e; omega)⟩
theorem twoB_cells {w : World} {k : Nat} {a0 a1 : Value} {T : TypeId} (h1 : w.heap[k]? = some (.cells #[a0, a1] T (0, 0))) :
    k < w.heap.size ∧ w.cell? ⟨k, 0, none⟩ = some a0 ∧ w.cell? ⟨k, 1, none⟩ = some a1 ∧ w.frozen? ⟨k, 0, none⟩ = false ∧ w.frozen? ⟨k, 1, none⟩ = false :=
  ⟨heap_lt h1, by simp [World.cell?, World.frozen?, h1]⟩

theorem two_new (w : World) (a0 a1 : Value) (T : TypeId) : ∀ j u, [a0, a1][j]? = some u → (w.alloc (.cells #[a0, a1] T)).cell? ((⟨w.heap.size, 0, none⟩ : Addr).add j) = some u := by
  intro j u hj
  match j, hj with
  | 0, hj => simp at hj; subst hj; simp [Addr.add]
  | 1, hj => simp at hj; subst hj; simp [Addr.add]
theorem four_new (w : World) (o : Obj) (a0 a1 a2 a3 : Value) (T : TypeId) : ∀ j u, [a0, a1, a2, a3][j]? = some u → ((w.alloc o).alloc (.cells #[a0, a1, a2, a3] T)).cell? ((⟨w.heap.size + 1, 0, none⟩ : Addr).add j) = some u := by
  intro j u hj
  match j, hj with
  | 0, hj => simp at hj; subst hj; simp [Addr.add]
  | 1, hj => simp at hj; subst hj; simp [Addr.add]
  | 2, hj => simp at hj; subst hj; simp [Addr.add]
  | 3, hj => simp at hj; subst hj; simp [Addr.add]

theorem two_set1 {w : World} {g : Nat} {a0 a1 : Value} {T : TypeId} (h : w.heap[g]? = some (.cells #[a0, a1] T (0, 0))) (v : Value) : (w.setCell ⟨g, 1, none⟩ v).heap[g]? = some (.cells #[a0, v] T (0, 0)) := by
  simp [World.setCell, Array.getElem?_modify, h]

/-- What is left to read, if something is wrong, or not. -/
def left (bad : Bool) (q : Nat) (r : Nat × Bool) : Nat × Bool := if bad = true then (q, false) else r

theorem Tryd.info101 : (Tryd.prog.info? 101).map (fun i => (i.zero, i.size, i.bytes)) = some (some (.agg #[.int .i64 0, .int .i64 0, .int .i64 0, .int .i64 0]), 4, 32) := by kernel_rfl
theorem Tryd.info100 : (Tryd.prog.info? 100).map (fun i => (i.zero, i.size, i.bytes)) = some (some (.agg #[.int .i64 0, .slice none 0 0]), 2, 32) := by kernel_rfl

def ProgB (w w' : World) (e : Ending) (r : Nat × Bool) : Prop :=
  (r.2 = false ∧ e = .returned (.tuple #[.slice none 0 0, .int .i64 (r.1 : Int), .bool false])) ∨
  (r.2 = true ∧ ∃ (ad : Addr) (n c : Nat) (r0 : Nat), e = .returned (.tuple #[.slice (some ad) n c, .int .i64 0, .bool true]) ∧ 1 ≤ n ∧ 2 ≤ r0 ∧ r0 ≤ 8 ∧ w'.cell? ad = some (.int .i64 r0) ∧ ad.spot = none ∧ ad.off = 0 ∧ w.heap.size ≤ ad.block ∧ ad.block < w'.heap.size)

theorem left_fn {s : ByteArray} {q F R L q1 q2 : Nat} {bad1 bad2 : Bool}
    (h1 : Nxt s q 2 8 false R q1 bad1)
    (h2 : Nxt s q1 1 200 bad1 L q2 bad2) :
    left bad2 q2 (M.code s R F L q2 L) = M.fn s q F := by
  unfold left M.fn
  rcases h1 with ⟨rfl, rfl, h1⟩ | ⟨rfl, _, rfl, rfl, h1⟩
  · have h1' : ¬ M.tk s q1 2 8 = true := by simpa using h1
    rcases h2 with ⟨rfl, rfl, h2⟩ | ⟨_, h, _⟩
    · rw [if_pos rfl, if_neg h1']
    · cases h
  · rw [if_pos h1]
    rcases h2 with ⟨rfl, rfl, h2⟩ | ⟨rfl, _, rfl, rfl, h2⟩
    · have h2' : ¬ M.tk s (q + 1) 1 200 = true := by simpa using h2
      rw [if_pos rfl, if_neg h2']
    · rw [if_pos h2]; simp

theorem left_fns {s : ByteArray} {F q q' n : Nat} {bad' : Bool} {X : Nat × Bool} (h : M.fns s F q (n + 1) = X) (hy : M.fn s q F = (q', !bad')) : left bad' q' (M.fns s F q' n) = X := by
  rw [← h]; unfold left
  conv => rhs; unfold M.fns
  rw [hy]
  cases bad' <;> simp

theorem left_code {s : ByteArray} {R F L q n : Nat} {Y : Nat × Bool} (h : M.code s R F L q (n + 1) = Y) : left (!(M.ins s q R F L).2) (M.ins s q R F L).1 (M.code s R F L (M.ins s q R F L).1 n) = Y := by
  rw [← h]; unfold left
  conv => rhs; unfold M.code
  cases (M.ins s q R F L).2 <;> simp

theorem left_prg {s : ByteArray} {F q : Nat} {bad : Bool} (h : Nxt s 0 1 8 false F q bad) :
    ∃ X : Nat × Bool, M.prg s = (X.1, X.2 && decide (X.1 = s.size)) ∧ left bad q (M.fns s F q F) = X := by
  rcases h with ⟨rfl, rfl, h⟩ | ⟨rfl, _, rfl, rfl, h⟩
  · have h' : ¬ M.tk s 0 1 8 = true := by simpa using h
    exact ⟨(0, false), by unfold M.prg; rw [if_neg h']; rfl, rfl⟩
  · exact ⟨M.fns s (M.bt s 0) 1 (M.bt s 0), by unfold M.prg; rw [if_pos h], rfl⟩

def First (xs : List Value) (k : Nat) : Prop := k = 0 ∨ ∃ r0 : Nat, 2 ≤ r0 ∧ r0 ≤ 8 ∧ xs[0]? = some (.int .i64 r0)
theorem First.more {xs : List Value} {k R : Nat} {v : Value} (h : First xs k) (h1 : 2 ≤ R) (h2 : R ≤ 8) (h3 : k = 0 → xs = []) : First (xs ++ [.int .i64 R, v]) (k + 1) := by
  right
  rcases h with rfl | ⟨r0, a, b, c⟩
  · rw [h3 rfl]; exact ⟨R, h1, h2, rfl⟩
  · refine ⟨r0, a, b, ?_⟩
    rw [List.getElem?_append_left]
    · exact c
    · exact (List.getElem?_eq_some_iff.1 c).1

set_option maxRecDepth 100000 in
set_option maxHeartbeats 4000000 in
theorem programB_any (s : ByteArray) (w : World) (hs : s.size ≤ maxLen) (hs2 : s.size ≤ 140737488355328) :
    Calls Tryd.prog 12 #[.string s] w fun e w' => ProgB w w' e (M.prg s) ∧ Below w.heap.size w w' := by
  have HS : Hid (s.size ≤ maxLen) := hs
  clear hs
  obtain ⟨i1, hi1, hz10, hz11, hz12⟩ := info_parts Tryd.info101
  obtain ⟨i2, hi2, hz20, hz21, hz22⟩ := info_parts Tryd.info100
  go_enter Tryd.func12, Tryd.ntmps12
  go_wp2_with fail
  refine (next_val w.heap.size s 0 1 8 false 1 8 (w.alloc (rdB s 0 false)) (heap_alloc_new w _) HS.out (by omega) rfl rfl (by omega)).mono ?_
  rintro e w1 ⟨F, q, bad, rfl, f1, f2, hh, hg, hq, hcase⟩
  have KB : Hid (w1.heap[w.heap.size]? = some (rdB s q bad)) := hh
  have KL : Hid (Below w.heap.size w w1) := below_of_grownB hg
  obtain ⟨X, hX1, hX2⟩ := left_prg hcase
  have HX1 : Hid (M.prg s = (X.1, X.2 && decide (X.1 = s.size))) := hX1
  have HX2 : Hid (left bad q (M.fns s F q F) = X) := hX2
  clear hh hg hcase hX1 hX2
  go_wp2_with fail
  go_loopw [7, 8] (fun v i wr => ∃ (k q : Nat) (bad : Bool) (ad : Option Addr) (cp : Nat) (xs : List Value), k ≤ F ∧ q ≤ s.size ∧ i = .int .i64 k ∧ v = .slice ad k cp ∧ Hid (wr.heap[w.heap.size]? = some (rdB s q bad)) ∧ Hid (Below w.heap.size w wr) ∧ Hid (wr.ownsRow (w.heap.size + 1) 100 2 (.slice ad k cp) k xs) ∧ Hid (First xs k) ∧ Hid (left bad q (M.fns s F q (F - k)) = X)) (fun _ i _ => F - (intOf i).toNat)
  case atStart => exact ⟨0, q, bad, none, 0, [], by omega, hq, rfl, rfl, KB, KL, World.ownsRow_nil _ _ _ _, Or.inl rfl, HX2⟩
  case round =>
    clear hq KB KL HX2
    obtain ⟨k, q, bad, ad, cp, xs, hk, hq, rfl, rfl, rB, rL, rO, rF, rX⟩ := hrel
    obtain ⟨y0, y1, y2⟩ := rdB_cells rB.out
    by_cases hlt : k < F
    · cases bad with
      | true =>
        have HC : Hid ((q, false) = X) := rX
        go_wp2_with fail
        go_quiet (fail)
        go_wp2_with fail
        go_ret3
        refine ⟨?_, below_drewN rL.out _⟩
        rw [HX1.out, ← HC.out]
        exact Or.inl ⟨rfl, rfl⟩
      | false =>
        clear y0 y1 y2
        have HX3 : Hid (M.fns s F q ((F - (k + 1)) + 1) = X) := by
          show _ = _
          rw [← rX.out, show F - k = (F - (k + 1)) + 1 by omega]; rfl
        clear rX
        have y2 := (rdB_cells rB.out).2.2
        go_wp2_with fail
        refine (next_val w.heap.size s q 2 8 false 2 8 wr rB.out HS.out hq rfl rfl (by omega)).mono ?_
        rintro e w3 ⟨R, q1, bad1, rfl, a1, a2, hh, hg, hq1, hc1⟩
        have KB3 : Hid (w3.heap[w.heap.size]? = some (rdB s q1 bad1)) := hh
        have KL3 : Hid (Below w.heap.size w w3) := rL.out.trans (below_same hg rL.out.size)
        have hne : (Value.slice ad k cp).ownBlock = none ∨ (Value.slice ad k cp).ownBlock ≠ some w.heap.size := by
          right; intro e; have := (rO.out.lt _ e).1; omega
        have KO3 : Hid (w3.ownsRow (w.heap.size + 1) 100 2 (.slice ad k cp) k xs) := rO.out.kept hg hne
        have HC1 : Hid (Nxt s q 2 8 false R q1 bad1) := hc1
        clear hh hg rB rL rO y2 hc1
        have hgN : w.heap.size < w3.heap.size := heap_lt KB3.out
        have KV : Hid (∀ x, (Value.slice ad k cp).ownBlock = some x → x < w3.heap.size) := fun x hx => (KO3.out.lt x hx).2
        go_wp2_with fail
        refine (next_val w.heap.size s q1 1 200 bad1 1 200 (w3.alloc (.cells #[.int .i64 R, .slice none 0 0] 100)) (rdB_alloc KB3.out _) HS.out hq1 rfl rfl (by omega)).mono ?_
        rintro e w4 ⟨L, q2, bad2, rfl, l1, l2, hh, hg, hq2, hc2⟩
        have KB4 : Hid (w4.heap[w.heap.size]? = some (rdB s q2 bad2)) := hh
        have KL4 : Hid (Below w.heap.size w w4) := (KL3.out.alloc (by omega) _).trans (below_same hg (by simp; omega))
        have KO4 : Hid (w4.ownsRow (w.heap.size + 1) 100 2 (.slice ad k cp) k xs) := (KO3.out.alloc _).kept hg hne
        have KF4 : Hid (w4.heap[w3.heap.size]? = some (.cells #[.int .i64 R, .slice none 0 0] 100 (0, 0))) := grown_heap hg (heap_alloc_new w3 _) (by intro e; injection e; omega)
        have HY : Hid (left bad2 q2 (M.code s R F L q2 L) = M.fn s q F) := left_fn HC1.out hc2
        clear hh hg KB3 KL3 KO3 HC1 hc2 hq1
        generalize w3.heap.size = g at *
        go_wp2_with fail
        go_loopw [11] (fun i wx => ∃ (j q' : Nat) (bad' : Bool) (ad' : Option Addr) (cp' : Nat) (ys : List Value), j ≤ L ∧ q' ≤ s.size ∧ i = .int .i64 j ∧ Hid (wx.heap[w.heap.size]? = some (rdB s q' bad')) ∧ Hid (wx.heap[g]? = some (.cells #[.int .i64 R, .slice ad' j cp'] 100 (0, 0))) ∧ Hid (wx.ownsRow (g + 1) 101 4 (.slice ad' j cp') j ys) ∧ Hid (wx.ownsRow (w.heap.size + 1) 100 2 (.slice ad k cp) k xs) ∧ Hid (Below w.heap.size w wx) ∧ Hid (left bad' q' (M.code s R F L q' (L - j)) = M.fn s q F)) (fun i _ => L - (intOf i).toNat)
        case atStart => exact ⟨0, q2, bad2, none, 0, [], by omega, hq2, rfl, KB4, KF4, World.ownsRow_nil _ _ _ _, KO4, KL4, HY⟩
        case round =>
          clear KB4 KL4 KO4 KF4 HY hq2
          obtain ⟨j, q', bad', ad', cp', ys, hj, hq', rfl, sB, sF, sY, sO, sL, sC⟩ := hrel
          obtain ⟨_, _, y2⟩ := rdB_cells sB.out
          obtain ⟨_, d0, d1, e0, e1⟩ := twoB_cells sF.out
          by_cases hjl : j < L
          · cases bad' with
            | true =>
              have HYY : Hid (M.fn s q F = (q', !true)) := sC.out.symm
              clear sC
              go_wp2_with (at_builtin; refine wpList_append_own _ rfl (.tmp 59) (.tmp 61) 56 rfl (w.heap.size + 1) 100 i2 _ 2 32 Tryd.underlying56 hi2 hz20 hz21 hz22 rfl (by decide) _ _ _ rfl (sO.out.alloc _) ⟨wr.heap.size, 0, none⟩ 1 1 [.int .i64 R, .slice ad' j cp'] rfl rfl ?c1 ?c2 ?c3 ?c4 ?c5 ?_)
              case c1 => exact two_new wr _ _ _
              case c2 => intro u hu; simp at hu; rcases hu with rfl | rfl <;> rfl
              case c3 => unfold maxLen; omega
              case c4 => omega
              case c5 => have := sL.out.size; have := heap_lt sB.out; simp; omega
              intro v' w6 hown hgrow _
              obtain ⟨g', cap', rfl⟩ : ∃ g' cap', v' = .slice (some ⟨g', 0, none⟩) (k + 1) cap' := by
                rcases hown.2 with ⟨_, h⟩ | ⟨g', cap', _, h, _⟩
                · omega
                · exact ⟨g', cap', h⟩
              have hnN : some w.heap.size ≠ (Value.slice ad k cp).ownBlock := by
                intro e; have := (sO.out.lt _ e.symm).1; omega
              have KB6 : Hid (w6.heap[w.heap.size]? = some (rdB s q' true)) := grown_heap hgrow (rdB_alloc sB.out _) hnN
              have KL6 : Hid (Below w.heap.size w w6) := (sL.out.alloc (by have := heap_lt sB.out; omega) _).grown hgrow (by have := heap_lt sB.out; simp; omega) (fun x hx => by have := (sO.out.lt _ hx).1; omega)
              have KO6 : Hid (w6.ownsRow (w.heap.size + 1) 100 2 (.slice (some ⟨g', 0, none⟩) (k + 1) cap') (k + 1) (xs ++ [.int .i64 R, .slice ad' j cp'])) := hown
              have KF6 : Hid (First (xs ++ [.int .i64 R, .slice ad' j cp']) (k + 1)) := rF.out.more a1 a2 (fun e => by have := sO.out.1; rw [e] at this; simpa using this)
              have KX6 : Hid (left true q' (M.fns s F q' (F - (k + 1))) = X) := left_fns HX3.out HYY.out
              clear hown hgrow sB sF sY sO sL y2 d0 d1 e0 e1 hnN
              go_wp2_with fail
              go_roundw
              case rel => exact ⟨k + 1, q', true, some ⟨g', 0, none⟩, cap', _, by omega, hq', by go_num, rfl, KB6, KL6, KO6, KF6, KX6⟩
              case measure => simp [intOf]; omega
            | false =>
              have HC5 : Hid (M.code s R F L q' ((L - (j + 1)) + 1) = M.fn s q F) := by
                show _ = _
                rw [← sC.out, show L - j = (L - (j + 1)) + 1 by omega]; rfl
              clear sC
              go_wp2_with fail
              refine (code_head w.heap.size s q' R F L R F L wr sB.out HS.out hs2 hq' rfl rfl rfl (by omega) f1 a2 f2).mono ?_
              rintro e w5 ⟨⟨b0, b1, b2, b3, rfl⟩, hh, hg⟩
              have hne' : (Value.slice ad' j cp').ownBlock = none ∨ (Value.slice ad' j cp').ownBlock ≠ some w.heap.size := by
                right; intro e; have := (sY.out.lt _ e).1; omega
              have KB5 : Hid (w5.heap[w.heap.size]? = some (rdB s ((M.ins s q' R F L).1 : Nat) (!(M.ins s q' R F L).2))) := hh
              have KF5 : Hid (w5.heap[g]? = some (.cells #[.int .i64 R, .slice ad' j cp'] 100 (0, 0))) := grown_heap hg sF.out (by intro e; injection e; omega)
              have KY5 : Hid (w5.ownsRow (g + 1) 101 4 (.slice ad' j cp') j ys) := sY.out.kept hg hne'
              have KO5 : Hid (w5.ownsRow (w.heap.size + 1) 100 2 (.slice ad k cp) k xs) := sO.out.kept hg hne
              have KL5 : Hid (Below w.heap.size w w5) := sL.out.trans (below_same hg sL.out.size)
              have HC6 := left_code HC5.out
              have HC7 : Hid (left (!(M.ins s q' R F L).2) (M.ins s q' R F L).1 (M.code s R F L (M.ins s q' R F L).1 (L - (j + 1))) = M.fn s q F) := HC6
              have hq5 := (M.ins_le (s := s) (p := q') (r := R) (f := F) (l := L) hq').2
              clear hh hg sB sF sY sO sL y2 d0 d1 e0 e1 hne' HC5 HC6
              generalize (M.ins s q' R F L).1 = q5 at *
              generalize (!(M.ins s q' R F L).2) = bad5 at *
              obtain ⟨hz5, d0, d1, e0, e1⟩ := twoB_cells KF5.out
              have hz6 : g < w5.heap.size + 1 := by omega
              go_wp2_with (at_builtin; refine wpList_append_own _ rfl (.tmp 54) (.tmp 56) 98 rfl (g + 1) 101 i1 _ 4 32 Tryd.underlying98 hi1 hz10 hz11 hz12 rfl (by decide) _ _ _ rfl ((KY5.out.alloc _).alloc _) ⟨w5.heap.size + 1, 0, none⟩ 1 1 [.int .i64 b0, .int .i64 b1, .int .i64 b2, .int .i64 b3] rfl rfl ?c1 ?c2 ?c3 ?c4 ?c5 ?_)
              case c1 => exact four_new w5 _ _ _ _ _ _
              case c2 => intro u hu; simp at hu; rcases hu with rfl | rfl | rfl | rfl <;> rfl
              case c3 => unfold maxLen; omega
              case c4 => omega
              case c5 => simp; omega
              intro v' w6 hown hgrow _
              obtain ⟨g', cap', rfl⟩ : ∃ g' cap', v' = .slice (some ⟨g', 0, none⟩) (j + 1) cap' := by
                rcases hown.2 with ⟨_, h⟩ | ⟨g', cap', _, h, _⟩
                · omega
                · exact ⟨g', cap', h⟩
              have hnN : ∀ x, x < g + 1 → some x ≠ (Value.slice ad' j cp').ownBlock := by
                intro x hx e; have := (KY5.out.lt _ e.symm).1; omega
              have KB6 : Hid (w6.heap[w.heap.size]? = some (rdB s q5 bad5)) := grown_heap hgrow (rdB_alloc (rdB_alloc KB5.out _) _) (hnN _ (by omega))
              have KF6 : Hid (w6.heap[g]? = some (.cells #[.int .i64 R, .slice ad' j cp'] 100 (0, 0))) := grown_heap hgrow ((Below.heap_alloc _ _ _ (by simp; omega)).trans ((Below.heap_alloc _ _ _ hz5).trans KF5.out)) (hnN _ (by omega))
              have KL6 : Hid (Below w.heap.size w w6) := ((KL5.out.alloc (by omega) _).alloc (by simp; omega) _).grown hgrow (by simp; omega) (fun x hx => by have := (KY5.out.lt _ hx).1; omega)
              have KY6 : Hid (w6.ownsRow (g + 1) 101 4 (.slice (some ⟨g', 0, none⟩) (j + 1) cap') (j + 1) (ys ++ [.int .i64 b0, .int .i64 b1, .int .i64 b2, .int .i64 b3])) := hown
              have KO6 : Hid (w6.ownsRow (w.heap.size + 1) 100 2 (.slice ad k cp) k xs) := ((KO5.out.alloc _).alloc _).kept hgrow (by cases hv : (Value.slice ad k cp).ownBlock with | none => exact Or.inl rfl | some x => exact Or.inr (hnN x (by have := KV.out x hv; omega)))
              clear hown hgrow KB5 KF5 KY5 KO5 KL5 d0 d1 e0 e1
              obtain ⟨hz7, d0, d1, e0, e1⟩ := twoB_cells KF6.out
              go_wp2_with fail
              go_roundw
              case rel => exact ⟨j + 1, q5, bad5, some ⟨g', 0, none⟩, cap', _, by omega, hq5, by go_num, rdB_other KB6.out (by omega), two_set1 KF6.out _, ownsRow_setCell_below KY6.out (by show g < g + 1; omega) _, KO6.out.kept (grown_setCell (grown_refl w6 (some g)) (Or.inl rfl) _) (by right; intro e; have := KV.out _ e; omega), KL6.out.setCell (by show w.heap.size ≤ g; omega) _, HC7⟩
              case measure => simp [intOf]; omega
          · obtain rfl : j = L := by omega
            have HYY : Hid (M.fn s q F = (q', !bad')) := by show _ = _; rw [← sC.out, Nat.sub_self]; unfold left; cases bad' <;> rfl
            clear sC
            go_wp2_with (at_builtin; refine wpList_append_own _ rfl (.tmp 59) (.tmp 61) 56 rfl (w.heap.size + 1) 100 i2 _ 2 32 Tryd.underlying56 hi2 hz20 hz21 hz22 rfl (by decide) _ _ _ rfl (sO.out.alloc _) ⟨wr.heap.size, 0, none⟩ 1 1 [.int .i64 R, .slice ad' j cp'] rfl rfl ?c1 ?c2 ?c3 ?c4 ?c5 ?_)
            case c1 => exact two_new wr _ _ _
            case c2 => intro u hu; simp at hu; rcases hu with rfl | rfl <;> rfl
            case c3 => unfold maxLen; omega
            case c4 => omega
            case c5 => have := sL.out.size; have := heap_lt sB.out; simp; omega
            intro v' w6 hown hgrow _
            obtain ⟨g', cap', rfl⟩ : ∃ g' cap', v' = .slice (some ⟨g', 0, none⟩) (k + 1) cap' := by
              rcases hown.2 with ⟨_, h⟩ | ⟨g', cap', _, h, _⟩
              · omega
              · exact ⟨g', cap', h⟩
            have hnN : some w.heap.size ≠ (Value.slice ad k cp).ownBlock := by
              intro e; have := (sO.out.lt _ e.symm).1; omega
            have KB6 : Hid (w6.heap[w.heap.size]? = some (rdB s q' bad')) := grown_heap hgrow (rdB_alloc sB.out _) hnN
            have KL6 : Hid (Below w.heap.size w w6) := (sL.out.alloc (by have := heap_lt sB.out; omega) _).grown hgrow (by have := heap_lt sB.out; simp; omega) (fun x hx => by have := (sO.out.lt _ hx).1; omega)
            have KO6 : Hid (w6.ownsRow (w.heap.size + 1) 100 2 (.slice (some ⟨g', 0, none⟩) (k + 1) cap') (k + 1) (xs ++ [.int .i64 R, .slice ad' j cp'])) := hown
            have KF6 : Hid (First (xs ++ [.int .i64 R, .slice ad' j cp']) (k + 1)) := rF.out.more a1 a2 (fun e => by have := sO.out.1; rw [e] at this; simpa using this)
            have KX6 : Hid (left bad' q' (M.fns s F q' (F - (k + 1))) = X) := left_fns HX3.out HYY.out
            clear hown hgrow sB sF sY sO sL y2 d0 d1 e0 e1 hnN
            go_wp2_with fail
            go_roundw
            case rel => exact ⟨k + 1, q', bad', some ⟨g', 0, none⟩, cap', _, by omega, hq', by go_num, rfl, KB6, KL6, KO6, KF6, KX6⟩
            case measure => simp [intOf]; omega
    · obtain rfl : k = F := by omega
      have HC : Hid ((q, !bad) = X) := by show _ = _; rw [← rX.out, Nat.sub_self]; unfold left; cases bad <;> rfl
      clear rX
      cases bad with
      | true =>
        go_wp2_with fail
        go_quiet (fail)
        go_wp2_with fail
        go_ret3
        refine ⟨?_, below_drewN rL.out _⟩
        rw [HX1.out, ← HC.out]
        exact Or.inl ⟨rfl, rfl⟩
      | false =>
        by_cases hz : q < s.size
        · go_wp2_with fail
          go_quiet (fail)
          go_wp2_with fail
          go_ret3
          refine ⟨?_, below_drewN rL.out _⟩
          rw [HX1.out, ← HC.out]
          have hne : decide (q = s.size) = false := by simp; omega
          refine Or.inl ⟨by simpa using hne, rfl⟩
        · have g1 : decide ((q : Int) < (s.size : Int)) = false := by simp; omega
          have heq : Hid (q = s.size) := by show _ = _; omega
          go_wp2_with fail
          go_ret3
          refine ⟨?_, rL.out⟩
          rw [HX1.out, ← HC.out]
          have hne : decide (q = s.size) = true := by simpa using heq.out
          refine Or.inr ⟨by simpa using hne, ?_⟩
          rcases rO.out.2 with ⟨_, h0⟩ | ⟨g, cap, cur, h0, hb0, hg0, _⟩
          · omega
          · simp only [Value.slice.injEq] at h0
            obtain ⟨rfl, _, rfl⟩ := h0
            rcases rF.out with h0 | ⟨r0, ra, rb, rc⟩
            · omega
            · refine ⟨⟨g, 0, none⟩, k, cp, r0, rfl, f1, ra, rb, ?_, rfl, rfl, ?_, heap_lt hg0⟩
              · rw [rO.out.cellAt 0 (by omega)]; exact rc
              · show w.heap.size ≤ g; omega

end Go.Proofs.YtohobhbcjikhpaaDoor
