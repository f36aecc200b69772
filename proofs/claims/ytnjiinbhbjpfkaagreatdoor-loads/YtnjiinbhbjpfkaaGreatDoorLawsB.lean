/-
  The document's 'Program' answers as the plain function 'prg' says: for every text that is no longer than a text can be.
-/
import Derived.Test.YtnjiinbhbjpfkaaGreatDoorLawsA
import Derived.Test.YtnjiinbhbjpfkaaGreatDoorPartF
import Derived.Deep.RegionLawGrows
namespace Go.Proofs.YtnjiinbhbjpfkaaGreatDoor
open Go.RowKit

/-- What 'next' has come to. -/
def Nxt (s : ByteArray) (p L H : Nat) (bad : Bool) (x q : Nat) (bad' : Bool) : Prop :=
  (bad' = true ∧ q = p ∧ (bad = true ∨ M.tk s p L H = false)) ∨ (bad' = false ∧ bad = false ∧ q = p + 1 ∧ x = M.bt s p ∧ M.tk s p L H = true)

/-- 'next', whatever stands there: a number within the bounds; the byte, if nothing is wrong. -/
theorem next_val (b : Nat) (s : ByteArray) (p L H : Nat) (bad : Bool) (lo hi : Int) (w : World) (h : w.heap[b]? = some (rdB s p bad)) (hs : s.size ≤ maxLen) (hp : p ≤ s.size) (hL : lo = L) (hH : hi = H) (hLH : L ≤ H) :
    Calls Tryz.prog 53 #[.pointer (some ⟨b, 0, none⟩), .int .i64 lo, .int .i64 hi] w fun e w' => ∃ (x q : Nat) (bad' : Bool), e = .returned (.int .i64 x) ∧ L ≤ x ∧ x ≤ H ∧ w'.heap[b]? = some (rdB s q bad') ∧ w.grownBy w' (some b) ∧ q ≤ s.size ∧
      Nxt s p L H bad x q bad' := by
  by_cases hb : bad = false ∧ M.tk s p L H = true
  · obtain ⟨rfl, ht⟩ := hb
    have h3 := M.tk_lt ht
    refine (next_good b s p L H lo hi w h hs hL hH ht).mono ?_
    rintro e w' ⟨rfl, h1, h2⟩
    exact ⟨M.bt s p, p + 1, false, rfl, h3.2.1, h3.2.2, h1, h2, by omega, Or.inr ⟨rfl, rfl, rfl, rfl, ht⟩⟩
  · have hb' : bad = true ∨ M.tk s p L H = false := by
      cases bad with
      | true => exact Or.inl rfl
      | false => exact Or.inr (by simpa using hb)
    refine (next_bad b s p L H bad lo hi w h hp hL hH hb').mono ?_
    rintro e w' ⟨rfl, h1, h2⟩
    exact ⟨L, p, true, by rw [hL], Nat.le_refl _, hLH, h1, h2, hp, Or.inl ⟨rfl, rfl, hb'⟩⟩

theorem below_of_grownB {w w' : World} {o : Obj} (h : (w.alloc o).grownBy w' (some w.heap.size)) : Below w.heap.size w w' :=
  ⟨h.os, h.tape, h.output, by have := h.size; simp at this; omega, fun k hk => (h.block k (by simp; omega) (by intro e; injection e; omega)).trans (Below.heap_alloc _ _ _ hk)⟩

theorem below_same {w0 w w' : World} (h : w.grownBy w' (some w0.heap.size)) (hs : w0.heap.size ≤ w.heap.size) : Below w0.heap.size w w' :=
  ⟨h.os, h.tape, h.output, h.size, fun k hk => h.block k (by omega) (by intro e; injection e; omega)⟩
theorem twoB_cells {w : World} {k : Nat} {a0 a1 : Value} {T : TypeId} (h1 : w.heap[k]? = some (.cells #[a0, a1] T (0, 0))) :
    k < w.heap.size ∧ w.cell? ⟨k, 0, none⟩ = some a0 ∧ w.cell? ⟨k, 1, none⟩ = some a1 ∧ w.frozen? ⟨k, 0, none⟩ = false ∧ w.frozen? ⟨k, 1, none⟩ = false :=
  ⟨heap_lt h1, by simp [World.cell?, World.frozen?, h1]⟩

theorem two_new (w : World) (a0 a1 : Value) (T : TypeId) : ∀ j u, [a0, a1][j]? = some u → (w.alloc (.cells #[a0, a1] T)).cell? ((⟨w.heap.size, 0, none⟩ : Addr).add j) = some u := by
  intro j u hj
  match j, hj with
  | 0, hj => simp at hj; subst hj; simp [Addr.add]
  | 1, hj => simp at hj; subst hj; simp [Addr.add]
theorem four_new (w : World) (o : Obj) (a0 a1 a2 a3 : Value) (T : TypeId) : ∀ j u, [a0, a1, a2, a3][j]? = some u → ((w.alloc o).alloc (.cells #[a0, a1, a2, a3] T)).cell? ((⟨w.heap.size + 1, 0, none⟩ : Addr).add j) = some u := by
  intro j u hj
  match j, hj with
  | 0, hj => simp at hj; subst hj; simp [Addr.add]
  | 1, hj => simp at hj; subst hj; simp [Addr.add]
  | 2, hj => simp at hj; subst hj; simp [Addr.add]
  | 3, hj => simp at hj; subst hj; simp [Addr.add]

theorem two_set1 {w : World} {g : Nat} {a0 a1 : Value} {T : TypeId} (h : w.heap[g]? = some (.cells #[a0, a1] T (0, 0))) (v : Value) : (w.setCell ⟨g, 1, none⟩ v).heap[g]? = some (.cells #[a0, v] T (0, 0)) := by
  simp [World.setCell, Array.getElem?_modify, h]

/-- What is left to read, if something is wrong, or not. -/
def left (bad : Bool) (q : Nat) (r : Nat × Bool) : Nat × Bool := if bad = true then (q, false) else r

theorem Tryz.info90 : (Tryz.prog.info? 90).map (fun i => (i.zero, i.size, i.bytes)) = some (some (.agg #[.int .i64 0, .int .i64 0, .int .i64 0, .int .i64 0]), 4, 32) := by kernel_rfl
theorem Tryz.info89 : (Tryz.prog.info? 89).map (fun i => (i.zero, i.size, i.bytes)) = some (some (.agg #[.int .i64 0, .slice none 0 0]), 2, 32) := by kernel_rfl

def ProgB (w w' : World) (e : Ending) (r : Nat × Bool) : Prop :=
  (r.2 = false ∧ e = .returned (.tuple #[.slice none 0 0, .int .i64 (r.1 : Int), .bool false])) ∨
  (r.2 = true ∧ ∃ (ad : Addr) (n c : Nat) (r0 : Nat), e = .returned (.tuple #[.slice (some ad) n c, .int .i64 0, .bool true]) ∧ 1 ≤ n ∧ 2 ≤ r0 ∧ r0 ≤ 8 ∧ w'.cell? ad = some (.int .i64 r0) ∧ ad.spot = none ∧ ad.off = 0 ∧ w.heap.size ≤ ad.block ∧ ad.block < w'.heap.size)

theorem left_fn {s : ByteArray} {q F R L q1 q2 : Nat} {bad1 bad2 : Bool}
    (h1 : Nxt s q 2 8 false R q1 bad1)
    (h2 : Nxt s q1 1 200 bad1 L q2 bad2) :
    left bad2 q2 (M.code s R F L q2 L) = M.fn s q F := by
  unfold left M.fn
  rcases h1 with ⟨rfl, rfl, h1⟩ | ⟨rfl, _, rfl, rfl, h1⟩
  · have h1' : ¬ M.tk s q1 2 8 = true := by simpa using h1
    rcases h2 with ⟨rfl, rfl, h2⟩ | ⟨_, h, _⟩
    · rw [if_pos rfl, if_neg h1']
    · cases h
  · rw [if_pos h1]
    rcases h2 with ⟨rfl, rfl, h2⟩ | ⟨rfl, _, rfl, rfl, h2⟩
    · have h2' : ¬ M.tk s (q + 1) 1 200 = true := by simpa using h2
      rw [if_pos rfl, if_neg h2']
    · rw [if_pos h2]; simp

theorem left_fns {s : ByteArray} {F q q' n : Nat} {bad' : Bool} {X : Nat × Bool} (h : M.fns s F q (n + 1) = X) (hy : M.fn s q F = (q', !bad')) : left bad' q' (M.fns s F q' n) = X := by
  rw [← h]; unfold left
  conv => rhs; unfold M.fns
  rw [hy]
  cases bad' <;> simp

theorem left_code {s : ByteArray} {R F L q n : Nat} {Y : Nat × Bool} (h : M.code s R F L q (n + 1) = Y) : left (!(M.ins s q R F L).2) (M.ins s q R F L).1 (M.code s R F L (M.ins s q R F L).1 n) = Y := by
  rw [← h]; unfold left
  conv => rhs; unfold M.code
  cases (M.ins s q R F L).2 <;> simp

theorem left_prg {s : ByteArray} {F q : Nat} {bad : Bool} (h : Nxt s 0 1 8 false F q bad) :
    ∃ X : Nat × Bool, M.prg s = (X.1, X.2 && decide (X.1 = s.size)) ∧ left bad q (M.fns s F q F) = X := by
  rcases h with ⟨rfl, rfl, h⟩ | ⟨rfl, _, rfl, rfl, h⟩
  · have h' : ¬ M.tk s 0 1 8 = true := by simpa using h
    exact ⟨(0, false), by unfold M.prg; rw [if_neg h']; rfl, rfl⟩
  · exact ⟨M.fns s (M.bt s 0) 1 (M.bt s 0), by unfold M.prg; rw [if_pos h], rfl⟩

def First (xs : List Value) (k : Nat) : Prop := k = 0 ∨ ∃ r0 : Nat, 2 ≤ r0 ∧ r0 ≤ 8 ∧ xs[0]? = some (.int .i64 r0)
theorem First.more {xs : List Value} {k R : Nat} {v : Value} (h : First xs k) (h1 : 2 ≤ R) (h2 : R ≤ 8) (h3 : k = 0 → xs = []) : First (xs ++ [.int .i64 R, v]) (k + 1) := by
  right
  rcases h with rfl | ⟨r0, a, b, c⟩
  · rw [h3 rfl]; exact ⟨R, h1, h2, rfl⟩
  · refine ⟨r0, a, b, ?_⟩
    rw [List.getElem?_append_left]
    · exact c
    · exact (List.getElem?_eq_some_iff.1 c).1

set_option maxRecDepth 100000 in
set_option maxHeartbeats 4000000 in
theorem programB_any (s : ByteArray) (w : World) (hs : s.size ≤ maxLen) (hs2 : s.size ≤ 140737488355328) :
    Calls Tryz.prog 35 #[.string s] w fun e w' => ProgB w w' e (M.prg s) ∧ Below w.heap.size w w' := by
  have HS : Hid (s.size ≤ maxLen) := hs
  clear hs
  obtain ⟨i1, hi1, hz10, hz11, hz12⟩ := info_parts Tryz.info90
  obtain ⟨i2, hi2, hz20, hz21, hz22⟩ := info_parts Tryz.info89
  go_enter Tryz.func35, Tryz.ntmps35
  go_wp2_with fail
  refine (next_val w.heap.size s 0 1 8 false 1 8 (w.alloc (rdB s 0 false)) (heap_alloc_new w _) HS.out (by omega) rfl rfl (by omega)).mono ?_
  rintro e w1 ⟨F, q, bad, rfl, f1, f2, hh, hg, hq, hcase⟩
  have KB : Hid (w1.heap[w.heap.size]? = some (rdB s q bad)) := hh
  have KL : Hid (Below w.heap.size w w1) := below_of_grownB hg
  obtain ⟨X, hX1, hX2⟩ := left_prg hcase
  have HX1 : Hid (M.prg s = (X.1, X.2 && decide (X.1 = s.size))) := hX1
  have HX2 : Hid (left bad q (M.fns s F q F) = X) := hX2
  clear hh hg hcase hX1 hX2
  go_wp2_with fail
  go_loopw [7, 8] (fun v i wr => ∃ (k q : Nat) (bad : Bool) (ad : Option Addr) (cp : Nat) (xs : List Value), k ≤ F ∧ q ≤ s.size ∧ i = .int .i64 k ∧ v = .slice ad k cp ∧ Hid (wr.heap[w.heap.size]? = some (rdB s q bad)) ∧ Hid (Below w.heap.size w wr) ∧ Hid (wr.ownsRow (w.heap.size + 1) 89 2 (.slice ad k cp) k xs) ∧ Hid (First xs k) ∧ Hid (left bad q (M.fns s F q (F - k)) = X)) (fun _ i _ => F - (intOf i).toNat)
  case atStart => exact ⟨0, q, bad, none, 0, [], by omega, hq, rfl, rfl, KB, KL, World.ownsRow_nil _ _ _ _, Or.inl rfl, HX2⟩
  case round =>
    clear hq KB KL HX2
    obtain ⟨k, q, bad, ad, cp, xs, hk, hq, rfl, rfl, rB, rL, rO, rF, rX⟩ := hrel
    obtain ⟨y0, y1, y2⟩ := rdB_cells rB.out
    by_cases hlt : k < F
    · cases bad with
      | true =>
        have HC : Hid ((q, false) = X) := rX
        go_wp2_with fail
        go_quiet (fail)
        go_wp2_with fail
        go_ret3
        refine ⟨?_, below_drewN rL.out _⟩
        rw [HX1.out, ← HC.out]
        exact Or.inl ⟨rfl, rfl⟩
      | false =>
        clear y0 y1 y2
        have HX3 : Hid (M.fns s F q ((F - (k + 1)) + 1) = X) := by
          show _ = _
          rw [← rX.out, show F - k = (F - (k + 1)) + 1 by omega]; rfl
        clear rX
        have y2 := (rdB_cells rB.out).2.2
        go_wp2_with fail
        refine (next_val w.heap.size s q 2 8 false 2 8 wr rB.out HS.out hq rfl rfl (by omega)).mono ?_
        rintro e w3 ⟨R, q1, bad1, rfl, a1, a2, hh, hg, hq1, hc1⟩
        have KB3 : Hid (w3.heap[w.heap.size]? = some (rdB s q1 bad1)) := hh
        have KL3 : Hid (Below w.heap.size w w3) := rL.out.trans (below_same hg rL.out.size)
        have hne : (Value.slice ad k cp).ownBlock = none ∨ (Value.slice ad k cp).ownBlock ≠ some w.heap.size := by
          right; intro e; have := (rO.out.lt _ e).1; omega
        have KO3 : Hid (w3.ownsRow (w.heap.size + 1) 89 2 (.slice ad k cp) k xs) := rO.out.kept hg hne
        have HC1 : Hid (Nxt s q 2 8 false R q1 bad1) := hc1
        clear hh hg rB rL rO y2 hc1
        have hgN : w.heap.size < w3.heap.size := heap_lt KB3.out
        have KV : Hid (∀ x, (Value.slice ad k cp).ownBlock = some x → x < w3.heap.size) := fun x hx => (KO3.out.lt x hx).2
        go_wp2_with fail
        refine (next_val w.heap.size s q1 1 200 bad1 1 200 (w3.alloc (.cells #[.int .i64 R, .slice none 0 0] 89)) (rdB_alloc KB3.out _) HS.out hq1 rfl rfl (by omega)).mono ?_
        rintro e w4 ⟨L, q2, bad2, rfl, l1, l2, hh, hg, hq2, hc2⟩
        have KB4 : Hid (w4.heap[w.heap.size]? = some (rdB s q2 bad2)) := hh
        have KL4 : Hid (Below w.heap.size w w4) := (KL3.out.alloc (by omega) _).trans (below_same hg (by simp; omega))
        have KO4 : Hid (w4.ownsRow (w.heap.size + 1) 89 2 (.slice ad k cp) k xs) := (KO3.out.alloc _).kept hg hne
        have KF4 : Hid (w4.heap[w3.heap.size]? = some (.cells #[.int .i64 R, .slice none 0 0] 89 (0, 0))) := grown_heap hg (heap_alloc_new w3 _) (by intro e; injection e; omega)
        have HY : Hid (left bad2 q2 (M.code s R F L q2 L) = M.fn s q F) := left_fn HC1.out hc2
        clear hh hg KB3 KL3 KO3 HC1 hc2 hq1
        generalize w3.heap.size = g at *
        go_wp2_with fail
        go_loopw [11] (fun i wx => ∃ (j q' : Nat) (bad' : Bool) (ad' : Option Addr) (cp' : Nat) (ys : List Value), j ≤ L ∧ q' ≤ s.size ∧ i = .int .i64 j ∧ Hid (wx.heap[w.heap.size]? = some (rdB s q' bad')) ∧ Hid (wx.heap[g]? = some (.cells #[.int .i64 R, .slice ad' j cp'] 89 (0, 0))) ∧ Hid (wx.ownsRow (g + 1) 90 4 (.slice ad' j cp') j ys) ∧ Hid (wx.ownsRow (w.heap.size + 1) 89 2 (.slice ad k cp) k xs) ∧ Hid (Below w.heap.size w wx) ∧ Hid (left bad' q' (M.code s R F L q' (L - j)) = M.fn s q F)) (fun i _ => L - (intOf i).toNat)
        case atStart => exact ⟨0, q2, bad2, none, 0, [], by omega, hq2, rfl, KB4, KF4, World.ownsRow_nil _ _ _ _, KO4, KL4, HY⟩
        case round =>
          clear KB4 KL4 KO4 KF4 HY hq2
          obtain ⟨j, q', bad', ad', cp', ys, hj, hq', rfl, sB, sF, sY, sO, sL, sC⟩ := hrel
          obtain ⟨_, _, y2⟩ := rdB_cells sB.out
          obtain ⟨_, d0, d1, e0, e1⟩ := twoB_cells sF.out
          by_cases hjl : j < L
          · cases bad' with
            | true =>
              have HYY : Hid (M.fn s q F = (q', !true)) := sC.out.symm
              clear sC
              go_wp2_with (at_builtin; refine wpList_append_own _ rfl (.tmp 59) (.tmp 61) 83 rfl (w.heap.size + 1) 89 i2 _ 2 32 Tryz.underlying83 hi2 hz20 hz21 hz22 rfl (by decide) _ _ _ rfl (sO.out.alloc _) ⟨wr.heap.size, 0, none⟩ 1 1 [.int .i64 R, .slice ad' j cp'] rfl rfl ?c1 ?c2 ?c3 ?c4 ?c5 ?_)
              case c1 => exact two_new wr _ _ _
              case c2 => intro u hu; simp at hu; rcases hu with rfl | rfl <;> rfl
              case c3 => unfold maxLen; omega
              case c4 => omega
              case c5 => have := sL.out.size; have := heap_lt sB.out; simp; omega
              intro v' w6 hown hgrow _
              obtain ⟨g', cap', rfl⟩ : ∃ g' cap', v' = .slice (some ⟨g', 0, none⟩) (k + 1) cap' := by
                rcases hown.2 with ⟨_, h⟩ | ⟨g', cap', _, h, _⟩
                · omega
                · exact ⟨g', cap', h⟩
              have hnN : some w.heap.size ≠ (Value.slice ad k cp).ownBlock := by
                intro e; have := (sO.out.lt _ e.symm).1; omega
              have KB6 : Hid (w6.heap[w.heap.size]? = some (rdB s q' true)) := grown_heap hgrow (rdB_alloc sB.out _) hnN
              have KL6 : Hid (Below w.heap.size w w6) := (sL.out.alloc (by have := heap_lt sB.out; omega) _).grown hgrow (by have := heap_lt sB.out; simp; omega) (fun x hx => by have := (sO.out.lt _ hx).1; omega)
              have KO6 : Hid (w6.ownsRow (w.heap.size + 1) 89 2 (.slice (some ⟨g', 0, none⟩) (k + 1) cap') (k + 1) (xs ++ [.int .i64 R, .slice ad' j cp'])) := hown
              have KF6 : Hid (First (xs ++ [.int .i64 R, .slice ad' j cp']) (k + 1)) := rF.out.more a1 a2 (fun e => by have := sO.out.1; rw [e] at this; simpa using this)
              have KX6 : Hid (left true q' (M.fns s F q' (F - (k + 1))) = X) := left_fns HX3.out HYY.out
              clear hown hgrow sB sF sY sO sL y2 d0 d1 e0 e1 hnN
              go_wp2_with fail
              go_roundw
              case rel => exact ⟨k + 1, q', true, some ⟨g', 0, none⟩, cap', _, by omega, hq', by go_num, rfl, KB6, KL6, KO6, KF6, KX6⟩
              case measure => simp [intOf]; omega
            | false =>
              have HC5 : Hid (M.code s R F L q' ((L - (j + 1)) + 1) = M.fn s q F) := by
                show _ = _
                rw [← sC.out, show L - j = (L - (j + 1)) + 1 by omega]; rfl
              clear sC
              go_wp2_with fail
              refine (code_head w.heap.size s q' R F L R F L wr sB.out HS.out hs2 hq' rfl rfl rfl (by omega) f1 a2 f2).mono ?_
              rintro e w5 ⟨⟨b0, b1, b2, b3, rfl⟩, hh, hg⟩
              have hne' : (Value.slice ad' j cp').ownBlock = none ∨ (Value.slice ad' j cp').ownBlock ≠ some w.heap.size := by
                right; intro e; have := (sY.out.lt _ e).1; omega
              have KB5 : Hid (w5.heap[w.heap.size]? = some (rdB s ((M.ins s q' R F L).1 : Nat) (!(M.ins s q' R F L).2))) := hh
              have KF5 : Hid (w5.heap[g]? = some (.cells #[.int .i64 R, .slice ad' j cp'] 89 (0, 0))) := grown_heap hg sF.out (by intro e; injection e; omega)
              have KY5 : Hid (w5.ownsRow (g + 1) 90 4 (.slice ad' j cp') j ys) := sY.out.kept hg hne'
              have KO5 : Hid (w5.ownsRow (w.heap.size + 1) 89 2 (.slice ad k cp) k xs) := sO.out.kept hg hne
              have KL5 : Hid (Below w.heap.size w w5) := sL.out.trans (below_same hg sL.out.size)
              have HC6 := left_code HC5.out
              have HC7 : Hid (left (!(M.ins s q' R F L).2) (M.ins s q' R F L).1 (M.code s R F L (M.ins s q' R F L).1 (L - (j + 1))) = M.fn s q F) := HC6
              have hq5 := (M.ins_le (s := s) (p := q') (r := R) (f := F) (l := L) hq').2
              clear hh hg sB sF sY sO sL y2 d0 d1 e0 e1 hne' HC5 HC6
              generalize (M.ins s q' R F L).1 = q5 at *
              generalize (!(M.ins s q' R F L).2) = bad5 at *
              obtain ⟨hz5, d0, d1, e0, e1⟩ := twoB_cells KF5.out
              have hz6 : g < w5.heap.size + 1 := by omega
              go_wp2_with (at_builtin; refine wpList_append_own _ rfl (.tmp 54) (.tmp 56) 87 rfl (g + 1) 90 i1 _ 4 32 Tryz.underlying87 hi1 hz10 hz11 hz12 rfl (by decide) _ _ _ rfl ((KY5.out.alloc _).alloc _) ⟨w5.heap.size + 1, 0, none⟩ 1 1 [.int .i64 b0, .int .i64 b1, .int .i64 b2, .int .i64 b3] rfl rfl ?c1 ?c2 ?c3 ?c4 ?c5 ?_)
              case c1 => exact four_new w5 _ _ _ _ _ _
              case c2 => intro u hu; simp at hu; rcases hu with rfl | rfl | rfl | rfl <;> rfl
              case c3 => unfold maxLen; omega
              case c4 => omega
              case c5 => simp; omega
              intro v' w6 hown hgrow _
              obtain ⟨g', cap', rfl⟩ : ∃ g' cap', v' = .slice (some ⟨g', 0, none⟩) (j + 1) cap' := by
                rcases hown.2 with ⟨_, h⟩ | ⟨g', cap', _, h, _⟩
                · omega
                · exact ⟨g', cap', h⟩
              have hnN : ∀ x, x < g + 1 → some x ≠ (Value.slice ad' j cp').ownBlock := by
                intro x hx e; have := (KY5.out.lt _ e.symm).1; omega
              have KB6 : Hid (w6.heap[w.heap.size]? = some (rdB s q5 bad5)) := grown_heap hgrow (rdB_alloc (rdB_alloc KB5.out _) _) (hnN _ (by omega))
              have KF6 : Hid (w6.heap[g]? = some (.cells #[.int .i64 R, .slice ad' j cp'] 89 (0, 0))) := grown_heap hgrow ((Below.heap_alloc _ _ _ (by simp; omega)).trans ((Below.heap_alloc _ _ _ hz5).trans KF5.out)) (hnN _ (by omega))
              have KL6 : Hid (Below w.heap.size w w6) := ((KL5.out.alloc (by omega) _).alloc (by simp; omega) _).grown hgrow (by simp; omega) (fun x hx => by have := (KY5.out.lt _ hx).1; omega)
              have KY6 : Hid (w6.ownsRow (g + 1) 90 4 (.slice (some ⟨g', 0, none⟩) (j + 1) cap') (j + 1) (ys ++ [.int .i64 b0, .int .i64 b1, .int .i64 b2, .int .i64 b3])) := hown
              have KO6 : Hid (w6.ownsRow (w.heap.size + 1) 89 2 (.slice ad k cp) k xs) := ((KO5.out.alloc _).alloc _).kept hgrow (by cases hv : (Value.slice ad k cp).ownBlock with | none => exact Or.inl rfl | some x => exact Or.inr (hnN x (by have := KV.out x hv; omega)))
              clear hown hgrow KB5 KF5 KY5 KO5 KL5 d0 d1 e0 e1
              obtain ⟨hz7, d0, d1, e0, e1⟩ := twoB_cells KF6.out
              go_wp2_with fail
              go_roundw
              case rel => exact ⟨j + 1, q5, bad5, some ⟨g', 0, none⟩, cap', _, by omega, hq5, by go_num, rdB_other KB6.out (by omega), two_set1 KF6.out _, ownsRow_setCell_below KY6.out (by show g < g + 1; omega) _, KO6.out.kept (grown_setCell (grown_refl w6 (some g)) (Or.inl rfl) _) (by right; intro e; have := KV.out _ e; omega), KL6.out.setCell (by show w.heap.size ≤ g; omega) _, HC7⟩
              case measure => simp [intOf]; omega
          · obtain rfl : j = L := by omega
            have HYY : Hid (M.fn s q F = (q', !bad')) := by show _ = _; rw [← sC.out, Nat.sub_self]; unfold left; cases bad' <;> rfl
            clear sC
            go_wp2_with (at_builtin; refine wpList_append_own _ rfl (.tmp 59) (.tmp 61) 83 rfl (w.heap.size + 1) 89 i2 _ 2 32 Tryz.underlying83 hi2 hz20 hz21 hz22 rfl (by decide) _ _ _ rfl (sO.out.alloc _) ⟨wr.heap.size, 0, none⟩ 1 1 [.int .i64 R, .slice ad' j cp'] rfl rfl ?c1 ?c2 ?c3 ?c4 ?c5 ?_)
            case c1 => exact two_new wr _ _ _
            case c2 => intro u hu; simp at hu; rcases hu with rfl | rfl <;> rfl
            case c3 => unfold maxLen; omega
            case c4 => omega
            case c5 => have := sL.out.size; have := heap_lt sB.out; simp; omega
            intro v' w6 hown hgrow _
            obtain ⟨g', cap', rfl⟩ : ∃ g' cap', v' = .slice (some ⟨g', 0, none⟩) (k + 1) cap' := by
              rcases hown.2 with ⟨_, h⟩ | ⟨g', cap', _, h, _⟩
              · omega
              · exact ⟨g', cap', h⟩
            have hnN : some w.heap.size ≠ (Value.slice ad k cp).ownBlock := by
              intro e; have := (sO.out.lt _ e.symm).1; omega
            have KB6 : Hid (w6.heap[w.heap.size]? = some (rdB s q' bad')) := grown_heap hgrow (rdB_alloc sB.out _) hnN
            have KL6 : Hid (Below w.heap.size w w6) := (sL.out.alloc (by have := heap_lt sB.out; omega) _).grown hgrow (by have := heap_lt sB.out; simp; omega) (fun x hx => by have := (sO.out.lt _ hx).1; omega)
            have KO6 : Hid (w6.ownsRow (w.heap.size + 1) 89 2 (.slice (some ⟨g', 0, none⟩) (k + 1) cap') (k + 1) (xs ++ [.int .i64 R, .slice ad' j cp'])) := hown
            have KF6 : Hid (First (xs ++ [.int .i64 R, .slice ad' j cp']) (k + 1)) := rF.out.more a1 a2 (fun e => by have := sO.out.1; rw [e] at this; simpa using this)
            have KX6 : Hid (left bad' q' (M.fns s F q' (F - (k + 1))) = X) := left_fns HX3.out HYY.out
            clear hown hgrow sB sF sY sO sL y2 d0 d1 e0 e1 hnN
            go_wp2_with fail
            go_roundw
            case rel => exact ⟨k + 1, q', bad', some ⟨g', 0, none⟩, cap', _, by omega, hq', by go_num, rfl, KB6, KL6, KO6, KF6, KX6⟩
            case measure => simp [intOf]; omega
    · obtain rfl : k = F := by omega
      have HC : Hid ((q, !bad) = X) := by show _ = _; rw [← rX.out, Nat.sub_self]; unfold left; cases bad <;> rfl
      clear rX
      cases bad with
      | true =>
        go_wp2_with fail
        go_quiet (fail)
        go_wp2_with fail
        go_ret3
        refine ⟨?_, below_drewN rL.out _⟩
        rw [HX1.out, ← HC.out]
        exact Or.inl ⟨rfl, rfl⟩
      | false =>
        by_cases hz : q < s.size
        · go_wp2_with fail
          go_quiet (fail)
          go_wp2_with fail
          go_ret3
          refine ⟨?_, below_drewN rL.out _⟩
          rw [HX1.out, ← HC.out]
          have hne : decide (q = s.size) = false := by simp; omega
          refine Or.inl ⟨by simpa using hne, rfl⟩
        · have g1 : decide ((q : Int) < (s.size : Int)) = false := by simp; omega
          have heq : Hid (q = s.size) := by show _ = _; omega
          go_wp2_with fail
          go_ret3
          refine ⟨?_, rL.out⟩
          rw [HX1.out, ← HC.out]
          have hne : decide (q = s.size) = true := by simpa using heq.out
          refine Or.inr ⟨by simpa using hne, ?_⟩
          rcases rO.out.2 with ⟨_, h0⟩ | ⟨g, cap, cur, h0, hb0, hg0, _⟩
          · omega
          · simp only [Value.slice.injEq] at h0
            obtain ⟨rfl, _, rfl⟩ := h0
            rcases rF.out with h0 | ⟨r0, ra, rb, rc⟩
            · omega
            · refine ⟨⟨g, 0, none⟩, k, cp, r0, rfl, f1, ra, rb, ?_, rfl, rfl, ?_, heap_lt hg0⟩
              · rw [rO.out.cellAt 0 (by omega)]; exact rc
              · show w.heap.size ≤ g; omega

end Go.Proofs.YtnjiinbhbjpfkaaGreatDoor

/-
  The program's Load tells what 'told' says, for every text and configuration, where the variable of the operands' letters holds its table.
-/
namespace Go.Proofs.YtnjiinbhbjpfkaaGreatDoor
open Go.RowKit

def Read3 (s : ByteArray) (w w' : World) (e : Ending) (r : Nat × Bool) : Prop := ∃ (ad : Option Addr) (n c : Nat), e = .returned (.tuple #[.slice ad n c, .int .i64 (if r.2 = true then 0 else (r.1 : Int)), .bool r.2]) ∧
  (r.2 = true → n = M.bt s 0 ∧ c = n ∧ 1 ≤ n ∧ n ≤ 8 ∧ ∃ g, ad = some ⟨g, 0, none⟩ ∧ Fns w' s w.heap.size g n n)

set_option maxHeartbeats 400000 in
theorem read_any (s : ByteArray) (w : World) (hs : s.size ≤ maxLen) (hT : Tab w) :
    Calls Tryz.prog 37 #[.string s] w fun e w' => Read3 s w w' e (M.prg s) ∧ Below w.heap.size w w' := by
  have hn : w.heap.size ≠ 0 := by have := hT.1; omega
  have HS : Hid (s.size ≤ maxLen) := hs
  have KT0 : Hid (Tab w) := hT
  clear hs hT
  go_enter Tryz.func37, Tryz.ntmps37
  go_wp2_with fail
  refine (program_any w.heap.size s 0 0 0 (w.alloc (.cells #[.string s, .int .i64 0, .int .i64 0, .int .i64 0, .int .i64 0] 128)) (heap_alloc_new w _) HS.out hn (KT0.out.alloc _)).mono ?_
  rintro e w1 ⟨⟨ad, n, c, rfl, hA⟩, f', r', l', hh, hg⟩
  have HA : Hid ((M.prg s).2 = true → n = M.bt s 0 ∧ c = n ∧ 1 ≤ n ∧ n ≤ 8 ∧ ∃ g, ad = some ⟨g, 0, none⟩ ∧ Fns w1 s w.heap.size g n n) := fun h => by
    obtain ⟨a1, a2, a3, a4, g, a5, a6, a7⟩ := hA h
    exact ⟨a1, a2, a3, a4, g, a5, by have := a6; simp at this; omega, a7⟩
  clear hA
  have hB := below_of_grown hg
  obtain ⟨x0, x1, _, _, _⟩ := rdA_cells hh
  clear hh hg
  generalize hR : M.prg s = R at *
  have HR : Hid (M.prg s = R) := hR
  clear hR
  obtain ⟨P, ok⟩ := R
  cases ok
  · go_wp2_with fail
    go_quiet (fail)
    go_wp2_with fail
    go_ret3
    exact ⟨by rw [HR.out]; exact ⟨_, _, _, rfl, fun h => by cases h⟩, below_drewN hB _⟩
  · go_wp2_with fail
    go_ret3
    exact ⟨by rw [HR.out]; exact ⟨_, _, _, rfl, fun _ => HA.out trivial⟩, hB⟩

def inB (n m : Int) : Bool := decide (1 ≤ n ∧ n ≤ m)

theorem within_any (n m : Int) (w : World) : Calls Tryz.prog 55 #[.int .i64 n, .int .i64 m] w fun e w' => e = .returned (.bool (inB n m)) ∧ w' = w := by
  by_cases h1 : 1 ≤ n
  · by_cases h2 : n ≤ m
    · have e : inB n m = true := by simp [inB]; omega
      rw [e]; clear e
      go_enter Tryz.func55, Tryz.ntmps55
      go_wp2
      go_ret
      exact ⟨rfl, rfl⟩
    · have e : inB n m = false := by simp [inB]; omega
      rw [e]; clear e
      have h3 : decide (n ≤ m) = false := by simpa using h2
      go_enter Tryz.func55, Tryz.ntmps55
      go_wp2
      go_ret
      exact ⟨rfl, rfl⟩
  · have e : inB n m = false := by simp [inB]; omega
    rw [e]; clear e
    have h3 : decide (1 ≤ n) = false := by simpa using h1
    go_enter Tryz.func55, Tryz.ntmps55
    go_wp2
    go_ret
    exact ⟨rfl, rfl⟩

def okC (c0 c1 c2 c3 : Int) : Bool := inB c0 200 && (inB c1 50 && (inB c2 50 && inB c3 16))

theorem maybe_any (c0 c1 c2 c3 : Int) (w : World) : Calls Tryz.prog 36 #[.agg #[.int .i64 c0, .int .i64 c1, .int .i64 c2, .int .i64 c3]] w fun e w' => e = .returned (.bool (okC c0 c1 c2 c3)) ∧ Below w.heap.size w w' := by
  unfold okC
  cases h0 : inB c0 200
  · have H0 : Hid (inB c0 200 = false) := h0
    clear h0
    go_enter Tryz.func36, Tryz.ntmps36
    go_wp2_with fail
    refine (within_any _ _ _).mono ?_
    rintro e w1 ⟨rfl, rfl⟩
    rw [H0.out]
    go_wp2_with fail
    go_ret
    exact ⟨rfl, (Below.refl _ _).alloc (Nat.le_refl _) _⟩
  · cases h1 : inB c1 50
    · have H0 : Hid (inB c0 200 = true) := h0
      have H1 : Hid (inB c1 50 = false) := h1
      clear h0 h1
      go_enter Tryz.func36, Tryz.ntmps36
      go_wp2_with fail
      refine (within_any _ _ _).mono ?_
      rintro e w1 ⟨rfl, rfl⟩
      rw [H0.out]
      go_wp2_with fail
      refine (within_any _ _ _).mono ?_
      rintro e w1 ⟨rfl, rfl⟩
      rw [H1.out]
      go_wp2_with fail
      go_ret
      exact ⟨rfl, (Below.refl _ _).alloc (Nat.le_refl _) _⟩
    · cases h2 : inB c2 50
      · have H0 : Hid (inB c0 200 = true) := h0
        have H1 : Hid (inB c1 50 = true) := h1
        have H2 : Hid (inB c2 50 = false) := h2
        clear h0 h1 h2
        go_enter Tryz.func36, Tryz.ntmps36
        go_wp2_with fail
        refine (within_any _ _ _).mono ?_
        rintro e w1 ⟨rfl, rfl⟩
        rw [H0.out]
        go_wp2_with fail
        refine (within_any _ _ _).mono ?_
        rintro e w1 ⟨rfl, rfl⟩
        rw [H1.out]
        go_wp2_with fail
        refine (within_any _ _ _).mono ?_
        rintro e w1 ⟨rfl, rfl⟩
        rw [H2.out]
        go_wp2_with fail
        go_ret
        exact ⟨rfl, (Below.refl _ _).alloc (Nat.le_refl _) _⟩
      · have H0 : Hid (inB c0 200 = true) := h0
        have H1 : Hid (inB c1 50 = true) := h1
        have H2 : Hid (inB c2 50 = true) := h2
        clear h0 h1 h2
        generalize hx : inB c3 16 = x
        have H3 : Hid (inB c3 16 = x) := hx
        clear hx
        go_enter Tryz.func36, Tryz.ntmps36
        go_wp2_with fail
        refine (within_any _ _ _).mono ?_
        rintro e w1 ⟨rfl, rfl⟩
        rw [H0.out]
        go_wp2_with fail
        refine (within_any _ _ _).mono ?_
        rintro e w1 ⟨rfl, rfl⟩
        rw [H1.out]
        go_wp2_with fail
        refine (within_any _ _ _).mono ?_
        rintro e w1 ⟨rfl, rfl⟩
        rw [H2.out]
        go_wp2_with fail
        refine (within_any _ _ _).mono ?_
        rintro e w1 ⟨rfl, rfl⟩
        rw [H3.out]
        go_wp2_with fail
        go_ret
        exact ⟨by simp, (Below.refl _ _).alloc (Nat.le_refl _) _⟩

/-- What a Load tells: the fault's number, its place; is there a machine? -/
def told (s : ByteArray) (c0 c1 c2 c3 : Int) : Int × Int × Bool :=
  if okC c0 c1 c2 c3 = true then (if (M.prg s).2 = true then (0, 0, true) else (2, ((M.prg s).1 : Int), false)) else (1, 0, false)

def ptrIs (v : Value) (there : Bool) : Prop := (there = true ∧ ∃ a, v = .pointer (some a)) ∨ (there = false ∧ v = .pointer none)

def Load2 (e : Ending) (t : Int × Int × Bool) : Prop := ∃ v, ptrIs v t.2.2 ∧ e = .returned (.tuple #[v, .agg #[.int .i64 t.1, .int .i64 t.2.1]])

set_option maxHeartbeats 400000 in
theorem loadA_any (s : ByteArray) (c0 c1 c2 c3 : Int) (w : World) (hs : s.size ≤ maxLen) (hT : Tab w) :
    Calls Tryz.prog 23 #[.string s, .agg #[.int .i64 c0, .int .i64 c1, .int .i64 c2, .int .i64 c3]] w fun e w' => Load2 e (told s c0 c1 c2 c3) ∧ Below w.heap.size w w' := by
  have HS : Hid (s.size ≤ maxLen) := hs
  have KT0 : Hid (Tab w) := hT
  clear hs hT
  go_enter Tryz.func23, Tryz.ntmps23
  go_wp2_with fail
  refine (maybe_any _ _ _ _ _).mono ?_
  rintro e w1 ⟨rfl, hB⟩
  obtain ⟨hc, hf⟩ := bcell hB
  have hz := hB.size
  simp at hz
  have hB1 : Below w.heap.size w w1 := (((Below.refl _ _).alloc (Nat.le_refl _) _).alloc (by simp) _).trans (hB.mono (by simp; omega))
  have KB1 : Hid (Below w.heap.size w w1) := hB1
  clear hB hB1
  cases hok : okC c0 c1 c2 c3
  · have HOK : Hid (okC c0 c1 c2 c3 = false) := hok
    clear hok
    go_wp2_with fail
    refine bodyPost_ret (v := .tuple #[.pointer none, .agg #[.int .i64 1, .int .i64 0]]) (by simp [results, Tryz.results23, go_sem, *]) rfl ⟨?_, ?_⟩
    · have e : told s c0 c1 c2 c3 = (1, 0, false) := by unfold told; rw [if_neg (by rw [HOK.out]; simp)]
      rw [e]; exact ⟨_, Or.inr ⟨rfl, rfl⟩, rfl⟩
    · repeat (refine Below.setCell ?_ (by simp) _)
      exact KB1.out
  · have HOK : Hid (okC c0 c1 c2 c3 = true) := hok
    clear hok
    go_wp2_with fail
    refine (read_any s _ HS.out (KT0.out.below KB1.out)).mono ?_
    rintro e w2 ⟨⟨ad, n, c, rfl, hA⟩, hB2⟩
    have HA : Hid ((M.prg s).2 = true → n = M.bt s 0 ∧ c = n ∧ 1 ≤ n ∧ n ≤ 8 ∧ ∃ g, ad = some ⟨g, 0, none⟩ ∧ Fns w2 s w1.heap.size g n n) := hA
    clear hA
    have hz2 := hB2.size
    have l0 : w.heap.size < w1.heap.size := by omega
    have l1 : w.heap.size + 1 < w1.heap.size := by omega
    obtain ⟨hc2, hf2⟩ := bcell hB2
    have d0 : w2.cell? ⟨w.heap.size + 1, 0, none⟩ = some (.int .i64 0) := by rw [hc2 _ _ l1, hc _ _ (by simp)]; simp
    have d1 : w2.cell? ⟨w.heap.size + 1, 1, none⟩ = some (.int .i64 0) := by rw [hc2 _ _ l1, hc _ _ (by simp)]; simp
    have e0 : w2.frozen? ⟨w.heap.size + 1, 0, none⟩ = false := by rw [hf2 _ _ l1, hf _ _ (by simp)]; simp
    have e1 : w2.frozen? ⟨w.heap.size + 1, 1, none⟩ = false := by rw [hf2 _ _ l1, hf _ _ (by simp)]; simp
    have g0 : w2.cell? ⟨w.heap.size, 0, none⟩ = some (.int .i64 c0) := by rw [hc2 _ _ l0, hc _ _ (by simp; omega)]; simp
    have g1 : w2.cell? ⟨w.heap.size, 1, none⟩ = some (.int .i64 c1) := by rw [hc2 _ _ l0, hc _ _ (by simp; omega)]; simp
    have g2 : w2.cell? ⟨w.heap.size, 2, none⟩ = some (.int .i64 c2) := by rw [hc2 _ _ l0, hc _ _ (by simp; omega)]; simp
    have g3 : w2.cell? ⟨w.heap.size, 3, none⟩ = some (.int .i64 c3) := by rw [hc2 _ _ l0, hc _ _ (by simp; omega)]; simp
    have l2 : w.heap.size + 1 < w2.heap.size := by omega
    have l3 : w.heap.size < w2.heap.size := by omega
    have KB2 : Hid (Below w.heap.size w w2) := KB1.out.trans (hB2.mono KB1.out.size)
    clear hB2 KB1 hc hf hc2 hf2 hz hz2 l0 l1
    generalize hR : M.prg s = R at *
    have HR : Hid (M.prg s = R) := hR
    clear hR
    obtain ⟨P, ok⟩ := R
    cases ok
    · go_wp2_with fail
      refine bodyPost_ret (v := .tuple #[.pointer none, .agg #[.int .i64 2, .int .i64 P]]) (by simp [results, Tryz.results23, go_sem, d0, d1]) rfl ⟨?_, ?_⟩
      · have e : told s c0 c1 c2 c3 = (2, (P : Int), false) := by unfold told; rw [if_pos HOK.out, HR.out]; rfl
        rw [e]; exact ⟨_, Or.inr ⟨rfl, rfl⟩, rfl⟩
      · repeat (refine Below.setCell ?_ (by simp) _)
        exact KB2.out
    · obtain ⟨hA1, hA2, hA3, hA4, g, hA5, hA6⟩ := HA.out rfl
      subst hA2 hA5
      obtain ⟨hg1, gs, hg2, hg3⟩ := hA6
      obtain ⟨k1, k2, k3, k4, k5, k6⟩ := hg3 0 (by omega)
      have q0 := hg2.cell 0 (by omega)
      have q1 := hg2.cell 1 (by omega)
      have q2 := hg2.lt
      clear HA hg2 hg3 k6 hA1
      simp only [fnsP, Nat.zero_mod, if_pos, show ¬ (1 % 2 = 0) by omega, if_neg, not_false_eq_true, show 1 / 2 = 0 by omega] at q0 q1
      generalize M.bt s (M.pos s 0) = r0 at *
      generalize M.bt s (M.pos s 0 + 1) = m0 at *
      generalize gs 0 = s0 at *
      have hcl : 1 ≤ c0 ∧ c0 ≤ 200 := by have := HOK.out; simp [okC, inB] at this; omega
      obtain ⟨cl, rfl⟩ : ∃ cl : Nat, c0 = (cl : Int) := ⟨c0.toNat, by omega⟩
      go_wp2_with fail
      refine (engNew_any g c s0 m0 r0 c1 c2 c3 cl w2 q0 q1 q2 hA3 k2 k3 (by omega) (by omega)).mono ?_
      rintro e w3 ⟨eb, rfl, hB3, _⟩
      have hz3 := hB3.size
      have KB3 : Hid (Below w.heap.size w w3) := KB2.out.trans (hB3.mono (by omega))
      rw [← hB3.cell (p := ⟨w.heap.size + 1, 0, none⟩) l2] at d0
      rw [← hB3.cell (p := ⟨w.heap.size + 1, 1, none⟩) l2] at d1
      rw [← hB3.frozen (p := ⟨w.heap.size + 1, 0, none⟩) l2] at e0
      rw [← hB3.frozen (p := ⟨w.heap.size + 1, 1, none⟩) l2] at e1
      have l4 : w.heap.size + 1 < w3.heap.size := by omega
      clear hB3 q0 q1 g0 g1 g2 g3 KB2
      go_wp2_with fail
      refine bodyPost_ret (v := .tuple #[.pointer (some ⟨w3.heap.size, 0, none⟩), .agg #[.int .i64 0, .int .i64 0]]) (by simp [results, Tryz.results23, go_sem, d0, d1, l4]) rfl ⟨?_, ?_⟩
      · have e : told s cl c1 c2 c3 = (0, 0, true) := by unfold told; rw [if_pos HOK.out, HR.out]; rfl
        rw [e]; exact ⟨_, Or.inl ⟨rfl, _, rfl⟩, rfl⟩
      · repeat (first | exact KB3.out | refine Below.setCell ?_ (by simp) _ | refine Below.alloc ?_ (by simp [World.setCell]; omega) _)

end Go.Proofs.YtnjiinbhbjpfkaaGreatDoor

/-
  The document's 'frame' and 'spawn' return and write into the machine alone, where its program has a function of two to eight registers.
-/
namespace Go.Proofs.YtnjiinbhbjpfkaaGreatDoor
open Go.RowKit

theorem Tryz.info115 : (Tryz.prog.info? 115).map (fun i => (i.zero, i.size, i.bytes)) = some (some (.agg #[.int .i64 0, .int .i64 0]), 2, 16) := by kernel_rfl

set_option maxRecDepth 100000 in
set_option maxHeartbeats 1000000 in
theorem frame_any (mb pb n c r0 : Nat) (w : World) (h0 : w.cell? ⟨mb, 0, none⟩ = some (.slice (some ⟨pb, 0, none⟩) n c)) (h1 : w.cell? ⟨pb, 0, none⟩ = some (.int .i64 r0)) (hm : mb < w.heap.size) (hp : pb < w.heap.size) (hn : 1 ≤ n) (hr : 2 ≤ r0) (hr2 : r0 ≤ 8) :
    Calls Tryz.prog 74 #[.pointer (some ⟨mb, 0, none⟩), .int .i64 0, .agg #[.int .i64 0, .int .i64 0], .agg #[.int .i64 0, .int .i64 0], .int .i64 0] w fun e w' => (∃ a : Option Addr, e = .returned (.agg #[.int .i64 0, .slice a r0 r0, .int .i64 0, .int .i64 0])) ∧ Below w.heap.size w w' := by
  obtain ⟨i0, hi, hz0, hz1, hz2⟩ := info_parts Tryz.info115
  have hn2 : (0 : Int) < (n : Int) := by omega
  have hn3 : 0 < n := by omega
  have hm1 : mb < w.heap.size + 1 := by omega
  have hm2 : mb < w.heap.size + 1 + 1 := by omega
  have hp1 : pb < w.heap.size + 1 := by omega
  have hp2 : pb < w.heap.size + 1 + 1 := by omega
  go_enter Tryz.func74, Tryz.ntmps74
  go_wp2_with (at_make; go_loud (refine wpList_make_full _ rfl _ _ 161 rfl 0 115 i0 _ 2 Tryz.underlying161 hi hz0 hz1 _ _ _ _ r0 rfl rfl rfl rfl (by rw [hz2]; omega) (by unfold maxLen; omega) (Nat.zero_le _) ?_))
  intro w3 hown hg3
  have hB3 := below_none hg3
  obtain ⟨hc, hf⟩ := bcell hB3
  have hz := hB3.size
  simp at hz
  have KB3 : Hid (Below w.heap.size w w3) := ((((Below.refl _ _).alloc (Nat.le_refl _) _).alloc (by simp) _).alloc (by simp; omega) _).trans (hB3.mono (by simp; omega))
  have KW0 : Blk w3 (w.heap.size + 1 + 1 + 1) 115 (r0 * 2) := by have := Blk.owned hown; simpa using this
  have KW : Hid (Blk w3 (w.heap.size + 1 + 1 + 1) 115 (r0 * 2)) := KW0
  clear KW0
  have a0 : w3.cell? ⟨w.heap.size, 0, none⟩ = some (.int .i64 0) := by rw [hc _ _ (by simp; omega)]; simp [go_sem]
  have a1 : w3.cell? ⟨w.heap.size, 1, none⟩ = some (.int .i64 0) := by rw [hc _ _ (by simp; omega)]; simp [go_sem]
  have b0 : w3.cell? ⟨w.heap.size + 1, 0, none⟩ = some (.int .i64 0) := by rw [hc _ _ (by simp)]; simp [go_sem]
  have b1 : w3.cell? ⟨w.heap.size + 1, 1, none⟩ = some (.int .i64 0) := by rw [hc _ _ (by simp)]; simp [go_sem]
  have r0' : w3.cell? ⟨w.heap.size + 1 + 1, 0, none⟩ = some (.int .i64 0) := by rw [hc _ _ (by simp)]; simp [go_sem]
  have r1 : w3.cell? ⟨w.heap.size + 1 + 1, 1, none⟩ = some (.slice none 0 0) := by rw [hc _ _ (by simp)]; simp [go_sem]
  have r2 : w3.cell? ⟨w.heap.size + 1 + 1, 2, none⟩ = some (.int .i64 0) := by rw [hc _ _ (by simp)]; simp [go_sem]
  have r3 : w3.cell? ⟨w.heap.size + 1 + 1, 3, none⟩ = some (.int .i64 0) := by rw [hc _ _ (by simp)]; simp [go_sem]
  have z0 : w3.frozen? ⟨w.heap.size + 1 + 1, 0, none⟩ = false := by rw [hf _ _ (by simp)]; simp [go_sem]
  have z1 : w3.frozen? ⟨w.heap.size + 1 + 1, 1, none⟩ = false := by rw [hf _ _ (by simp)]; simp [go_sem]
  have z2 : w3.frozen? ⟨w.heap.size + 1 + 1, 2, none⟩ = false := by rw [hf _ _ (by simp)]; simp [go_sem]
  have z3 : w3.frozen? ⟨w.heap.size + 1 + 1, 3, none⟩ = false := by rw [hf _ _ (by simp)]; simp [go_sem]
  obtain ⟨⟨x0, c0⟩, e0⟩ := KW.out.cell 0 (by omega)
  obtain ⟨⟨x1, c1⟩, e1⟩ := KW.out.cell 1 (by omega)
  obtain ⟨⟨x2, c2⟩, e2⟩ := KW.out.cell 2 (by omega)
  obtain ⟨⟨x3, c3⟩, e3⟩ := KW.out.cell 3 (by omega)
  have hq0 : (0 : Int) < (r0 : Int) := by omega
  have hq1 : (1 : Int) < (r0 : Int) := by omega
  clear hown hg3 hB3 hc hf hz h0 h1
  go_wp2_with fail
  refine bodyPost_ret (v := .agg #[.int .i64 0, .slice (some ⟨w.heap.size + 1 + 1 + 1, 0, none⟩) r0 r0, .int .i64 0, .int .i64 0]) (by simp [results, Tryz.results74, go_sem, r0', r1, r2, r3]) rfl ⟨⟨_, rfl⟩, ?_⟩
  repeat (refine Below.setCell ?_ (by simp; omega) _)
  exact KB3.out
theorem eight_new (w : World) (a0 a1 a2 a3 a4 a5 a6 a7 : Value) (T : TypeId) : ∀ j u, [a0, a1, a2, a3, a4, a5, a6, a7][j]? = some u → (w.alloc (.cells #[a0, a1, a2, a3, a4, a5, a6, a7] T)).cell? ((⟨w.heap.size, 0, none⟩ : Addr).add j) = some u := by
  intro j u hj
  match j, hj with
  | 0, hj => simp at hj; subst hj; simp [Addr.add]
  | 1, hj => simp at hj; subst hj; simp [Addr.add]
  | 2, hj => simp at hj; subst hj; simp [Addr.add]
  | 3, hj => simp at hj; subst hj; simp [Addr.add]
  | 4, hj => simp at hj; subst hj; simp [Addr.add]
  | 5, hj => simp at hj; subst hj; simp [Addr.add]
  | 6, hj => simp at hj; subst hj; simp [Addr.add]
  | 7, hj => simp at hj; subst hj; simp [Addr.add]
theorem eight_new2 (w : World) (A B : Obj) (a0 a1 a2 a3 a4 a5 a6 a7 : Value) (T : TypeId) : ∀ j u, [a0, a1, a2, a3, a4, a5, a6, a7][j]? = some u → (((w.alloc A).alloc B).alloc (.cells #[a0, a1, a2, a3, a4, a5, a6, a7] T)).drew.cell? ((⟨w.heap.size + 1 + 1, 0, none⟩ : Addr).add j) = some u := by
  have h := eight_new ((w.alloc A).alloc B) a0 a1 a2 a3 a4 a5 a6 a7 T
  have e : ((w.alloc A).alloc B).heap.size = w.heap.size + 1 + 1 := by simp
  rw [e] at h
  exact h
theorem Tryz.info167 : (Tryz.prog.info? 167).map (fun i => (i.zero, i.size, i.bytes)) = some (some (.agg #[.slice none 0 0, .int .i64 0, .int .i64 0, .int .i64 0, .int .i64 0, .int .i64 0, .int .i64 0, .int .i64 0]), 8, 80) := by kernel_rfl
theorem Tryz.info3 : (Tryz.prog.info? 3).map (fun i => (i.zero, i.size, i.bytes)) = some (some (.int .i64 0), 1, 8) := by kernel_rfl

set_option maxRecDepth 100000 in
set_option maxHeartbeats 1000000 in
theorem spawn_any (mb pb n c r0 : Nat) (w : World) (h0 : w.cell? ⟨mb, 0, none⟩ = some (.slice (some ⟨pb, 0, none⟩) n c)) (h1 : w.cell? ⟨pb, 0, none⟩ = some (.int .i64 r0)) (h6 : w.cell? ⟨mb, 6, none⟩ = some (.slice none 0 0)) (h7 : w.cell? ⟨mb, 7, none⟩ = some (.slice none 0 0))
    (z6 : w.frozen? ⟨mb, 6, none⟩ = false) (z7 : w.frozen? ⟨mb, 7, none⟩ = false) (hm : mb < w.heap.size) (hp : pb < w.heap.size) (hn : 1 ≤ n) (hr : 2 ≤ r0) (hr2 : r0 ≤ 8) :
    Calls Tryz.prog 47 #[.pointer (some ⟨mb, 0, none⟩), .int .i64 0, .agg #[.int .i64 0, .int .i64 0], .agg #[.int .i64 0, .int .i64 0]] w fun e w' => (∃ x : Int, e = .returned (.int .i64 x)) ∧ w.grownBy w' (some mb) := by
  have hm1 : mb < w.heap.size + 1 := by omega
  have hm2 : mb < w.heap.size + 1 + 1 := by omega
  go_enter Tryz.func47, Tryz.ntmps47
  go_wp2_with fail
  refine (frame_any mb pb n c r0 ((w.alloc (.cells #[.int .i64 0, .int .i64 0] 115)).alloc (.cells #[.int .i64 0, .int .i64 0] 115)) (by simp [go_sem, hm, hm1, h0]) (by simp [go_sem, hp, show pb < w.heap.size + 1 by omega, h1]) (by simp; omega) (by simp; omega) hn hr hr2).mono ?_
  rintro e w1 ⟨⟨a, rfl⟩, hB⟩
  have hm3 : mb < w1.heap.size := by have := hB.size; simp at this; omega
  obtain ⟨hc, hf⟩ := bcell hB
  have k6 : w1.cell? ⟨mb, 6, none⟩ = some (.slice none 0 0) := by rw [hc _ _ (by simp; omega)]; simp [go_sem, hm, hm1, h6]
  have k7 : w1.cell? ⟨mb, 7, none⟩ = some (.slice none 0 0) := by rw [hc _ _ (by simp; omega)]; simp [go_sem, hm, hm1, h7]
  have y6 : w1.frozen? ⟨mb, 6, none⟩ = false := by rw [hf _ _ (by simp; omega)]; simp [go_sem, hm, hm1, z6]
  have y7 : w1.frozen? ⟨mb, 7, none⟩ = false := by rw [hf _ _ (by simp; omega)]; simp [go_sem, hm, hm1, z7]
  have KG : Hid (w.grownBy w1 (some mb)) := grown_trans (grown_trans (World.grownBy_alloc _ _ _) (World.grownBy_alloc _ _ _)) (grown_of_below hB)
  clear hc hf hB h0 h1 h6 h7 z6 z7
  obtain ⟨i0, hi, hz0, hz1, hz2⟩ := info_parts Tryz.info167
  have hm4 : mb < w1.heap.size + 1 := by omega
  have hm5 : mb < w1.heap.size + 1 + 1 := by omega
  have hm6 : mb < w1.heap.size + 1 + 1 + 1 := by omega
  go_wp2_with fail
  go_region_law (refine step_append_grows rfl (.tmp 19) (.tmp 23) 106 rfl 167 i0 _ 8 80 Tryz.underlying106 hi hz0 hz1 hz2 rfl (by decide) none 0 0 [] (by simp [Act.eval]) (fun _ => ⟨rfl, rfl⟩) rfl (by intro _ h; cases h) ⟨w1.heap.size + 1 + 1, 0, none⟩ 1 1 [.slice (some ⟨w1.heap.size + 1, 0, none⟩) 1 1, .int .i64 1, .int .i64 0, .int .i64 0, .int .i64 0, .int .i64 0, .int .i64 0, .int .i64 0] (by simp [Act.eval]) rfl (eight_new2 _ _ _ _ _ _ _ _ _ _ _ _) (by simp [Value.oneCell']) (by omega) (by unfold maxLen; omega) (by omega) ?_; intro v' w6 hown hgrow; obtain ⟨g6, cap6, rfl⟩ := row_form hown (by omega); have hgn : w1.grownBy w6 none := grown_trans (grown_drew (grown_trans (grown_trans (World.grownBy_alloc _ _ _) (World.grownBy_alloc _ _ _)) (World.grownBy_alloc _ _ _))) hgrow; obtain ⟨t6, u6⟩ := grown_cell hgn (a := ⟨mb, 6, none⟩) hm3; obtain ⟨t7, u7⟩ := grown_cell hgn (a := ⟨mb, 7, none⟩) hm3; rw [k6] at t6; rw [k7] at t7; rw [y6] at u6; rw [y7] at u7; have KG6 : Hid (w.grownBy w6 (some mb)) := grown_trans KG.out (grown_of_none hgn); have hm7 : mb < w6.heap.size := Nat.lt_of_lt_of_le hm3 hgn.size; clear hown hgrow hgn k6 k7 y6 y7 KG)
  all_goals
    clear i0 hi hz0 hz1 hz2 hm4 hm5 hm6
    obtain ⟨j0, hj, hq0, hq1, hq2⟩ := info_parts Tryz.info3
    go_wp2_with fail
    go_region_law (refine step_append_grows rfl (.tmp 31) (.tmp 37) 54 rfl 3 j0 _ 1 8 Tryz.underlying54 hj hq0 hq1 hq2 rfl (by decide) none 0 0 [] (by simp [Act.eval]) (fun _ => ⟨rfl, rfl⟩) rfl (by intro _ h; cases h) ⟨w6.heap.size, 0, none⟩ 1 1 [.int .i64 1] (by simp [Act.eval]) rfl (by intro j u hj; match j, hj with | 0, hj => (simp at hj; subst hj; simp [Addr.add, go_sem])) (by simp [Value.oneCell']) (by omega) (by unfold maxLen; omega) (by omega) ?_; intro v' w8 hown hgrow; obtain ⟨g8, cap8, rfl⟩ := row_form hown (by omega); obtain ⟨t8, u8⟩ := grown_cell hgrow (a := ⟨mb, 6, none⟩) (by simp [go_sem]; omega); obtain ⟨t9, u9⟩ := grown_cell hgrow (a := ⟨mb, 7, none⟩) (by simp [go_sem]; omega); simp [go_sem, t6, t7, u6, u7, hm7] at t8 t9 u8 u9; have KG8 : Hid (w.grownBy w8 (some mb)) := grown_trans (by repeat (first | exact KG6.out | refine grown_drew ?_ | refine grown_alloc ?_ _ | refine grown_setCell ?_ (Or.inl rfl) _)) (grown_of_none hgrow); clear hown hgrow t6 t7 u6 u7 KG6)
  all_goals
    go_wp2_with fail
    go_ret
    exact ⟨⟨_, rfl⟩, by repeat (first | exact KG8.out | refine grown_setCell ?_ (Or.inl rfl) _)⟩

end Go.Proofs.YtnjiinbhbjpfkaaGreatDoor

/-
  The document's Load tells what 'told' says, for every text and configuration.
-/
namespace Go.Proofs.YtnjiinbhbjpfkaaGreatDoor
open Go.RowKit

set_option maxRecDepth 100000 in
set_option maxHeartbeats 1000000 in
theorem loadB_good (s : ByteArray) (c0 c1 c2 c3 : Int) (w : World) (hs : s.size ≤ maxLen) (hs2 : s.size ≤ 140737488355328)
    (g0 : 1 ≤ c0) (g1 : c0 ≤ 200) (g2 : 1 ≤ c1) (g3 : c1 ≤ 50) (g4 : 1 ≤ c2) (g5 : c2 ≤ 50) (g6 : 1 ≤ c3) (g7 : c3 ≤ 16) :
    Calls Tryz.prog 31 #[.string s, .agg #[.int .i64 c0, .int .i64 c1, .int .i64 c2, .int .i64 c3]] w fun e w' => Load2 e (told s c0 c1 c2 c3) ∧ Below w.heap.size w w' := by
  have HS : Hid (s.size ≤ maxLen) := hs
  have HOK : Hid (okC c0 c1 c2 c3 = true) := by
    show _ = _
    simp [okC, inB]; omega
  have b0 : decide (c0 < 1) = false := by simp; omega
  have b1 : decide (200 < c0) = false := by simp; omega
  have b2 : decide (c1 < 1) = false := by simp; omega
  have b3 : decide (50 < c1) = false := by simp; omega
  have b4 : decide (c2 < 1) = false := by simp; omega
  have b5 : decide (50 < c2) = false := by simp; omega
  have b6 : decide (c3 < 1) = false := by simp; omega
  have b7 : decide (16 < c3) = false := by simp; omega
  clear hs
  go_enter Tryz.func31, Tryz.ntmps31
  go_wp2_with fail
  refine (programB_any s _ HS.out hs2).mono ?_
  rintro e w1 ⟨hP, hB⟩
  obtain ⟨hc, hf⟩ := bcell hB
  have hz := hB.size
  simp at hz
  have KB1 : Hid (Below w.heap.size w w1) := (((Below.refl _ _).alloc (Nat.le_refl _) _).alloc (by simp) _).trans (hB.mono (by simp; omega))
  have d0 : w1.cell? ⟨w.heap.size + 1, 0, none⟩ = some (.int .i64 0) := by rw [hc _ _ (by simp)]; simp [go_sem]
  have d1 : w1.cell? ⟨w.heap.size + 1, 1, none⟩ = some (.int .i64 0) := by rw [hc _ _ (by simp)]; simp [go_sem]
  have e0 : w1.frozen? ⟨w.heap.size + 1, 0, none⟩ = false := by rw [hf _ _ (by simp)]; simp [go_sem]
  have e1 : w1.frozen? ⟨w.heap.size + 1, 1, none⟩ = false := by rw [hf _ _ (by simp)]; simp [go_sem]
  have a0 : w1.cell? ⟨w.heap.size, 0, none⟩ = some (.int .i64 c0) := by rw [hc _ _ (by simp; omega)]; simp [go_sem]
  have a1 : w1.cell? ⟨w.heap.size, 1, none⟩ = some (.int .i64 c1) := by rw [hc _ _ (by simp; omega)]; simp [go_sem]
  have a2 : w1.cell? ⟨w.heap.size, 2, none⟩ = some (.int .i64 c2) := by rw [hc _ _ (by simp; omega)]; simp [go_sem]
  have a3 : w1.cell? ⟨w.heap.size, 3, none⟩ = some (.int .i64 c3) := by rw [hc _ _ (by simp; omega)]; simp [go_sem]
  clear hc hf hB b0 b1 b2 b3 b4 b5 b6 b7 g0 g1 g2 g3 g4 g5 g6 g7
  rcases hP with ⟨hno, rfl⟩ | ⟨hyes, ad, n, c, r0, rfl, n1, ra, rb, rc, rd, re, rf', rg⟩
  · have HN : Hid ((M.prg s).2 = false) := hno
    clear hno
    generalize hP : (M.prg s).1 = P at *
    have HP : Hid ((M.prg s).1 = P) := hP
    clear hP
    go_wp2_with fail
    refine bodyPost_ret (v := .tuple #[.pointer none, .agg #[.int .i64 2, .int .i64 P]]) (by simp [results, Tryz.results31, go_sem, d0, d1]) rfl ⟨?_, ?_⟩
    · have e : told s c0 c1 c2 c3 = (2, (P : Int), false) := by unfold told; rw [if_pos HOK.out, HN.out, HP.out]; rfl
      rw [e]; exact ⟨_, Or.inr ⟨rfl, rfl⟩, rfl⟩
    · repeat (refine Below.setCell ?_ (by simp) _)
      exact KB1.out
  · have HN : Hid ((M.prg s).2 = true) := hyes
    clear hyes
    obtain ⟨pb, po, ps⟩ := ad
    simp only at rd re
    subst rd re
    have hpb : pb < w1.heap.size := rg
    have l1 : w.heap.size + 1 < w1.heap.size := by omega
    go_wp2_with fail
    refine (spawn_any w1.heap.size pb n c r0 _ (by simp [go_sem]) (by simp [go_sem, hpb, rc]) (by simp [go_sem]) (by simp [go_sem]) (by simp [go_sem]) (by simp [go_sem]) (by simp) (by simp; omega) n1 ra rb).mono ?_
    rintro e w2 ⟨⟨x, rfl⟩, hg⟩
    have hgs := hg.size
    simp at hgs
    have q0 : w2.cell? ⟨w.heap.size + 1, 0, none⟩ = some (.int .i64 0) := hg.cell (by simp [go_sem, l1, d0]) (by intro e; injection e with e; simp only at e; omega)
    have q1 : w2.cell? ⟨w.heap.size + 1, 1, none⟩ = some (.int .i64 0) := hg.cell (by simp [go_sem, l1, d1]) (by intro e; injection e with e; simp only at e; omega)
    have k0 : w2.frozen? ⟨w.heap.size + 1, 0, none⟩ = false := by
      rw [World.frozen?_of_block (hg.block (w.heap.size + 1) (by simp; omega) (by intro e; injection e; omega))]; simp [go_sem, l1, e0]
    have k1 : w2.frozen? ⟨w.heap.size + 1, 1, none⟩ = false := by
      rw [World.frozen?_of_block (hg.block (w.heap.size + 1) (by simp; omega) (by intro e; injection e; omega))]; simp [go_sem, l1, e1]
    have KB2 : Hid (Below w.heap.size w w2) := KB1.out.trans ((below_of_grown hg).mono (by omega))
    clear hg d0 d1 e0 e1 a0 a1 a2 a3 KB1 rc rf' rg hpb
    go_wp2_with fail
    refine bodyPost_ret (v := .tuple #[.pointer (some ⟨w1.heap.size, 0, none⟩), .agg #[.int .i64 0, .int .i64 0]]) (by simp [results, Tryz.results31, go_sem, q0, q1]) rfl ⟨?_, ?_⟩
    · have e : told s c0 c1 c2 c3 = (0, 0, true) := by unfold told; rw [if_pos HOK.out, HN.out]; rfl
      rw [e]; exact ⟨_, Or.inl ⟨rfl, _, rfl⟩, rfl⟩
    · repeat (refine Below.setCell ?_ (by simp) _)
      exact KB2.out

theorem told_bad {s : ByteArray} {c0 c1 c2 c3 : Int} (h : okC c0 c1 c2 c3 = false) : told s c0 c1 c2 c3 = (1, 0, false) := by unfold told; rw [if_neg (by rw [h]; simp)]

set_option maxHeartbeats 400000 in
theorem loadB_bad0 (s : ByteArray) (c0 c1 c2 c3 : Int) (w : World)  (g0 : c0 < 1) :
    Calls Tryz.prog 31 #[.string s, .agg #[.int .i64 c0, .int .i64 c1, .int .i64 c2, .int .i64 c3]] w fun e w' => Load2 e (1, 0, false) ∧ Below w.heap.size w w' := by
  have b0 : decide (c0 < 1) = true := decide_eq_true g0
  clear g0
  go_enter Tryz.func31, Tryz.ntmps31
  go_wp2_with fail
  refine bodyPost_ret (v := .tuple #[.pointer none, .agg #[.int .i64 1, .int .i64 0]]) (by simp [results, Tryz.results31, go_sem]) rfl ⟨⟨_, Or.inr ⟨rfl, rfl⟩, rfl⟩, ?_⟩
  exact ((Below.refl _ _).alloc (Nat.le_refl _) _).alloc (by simp) _

set_option maxHeartbeats 400000 in
theorem loadB_bad1 (s : ByteArray) (c0 c1 c2 c3 : Int) (w : World) (g0 : ¬ c0 < 1) (g1 : 200 < c0) :
    Calls Tryz.prog 31 #[.string s, .agg #[.int .i64 c0, .int .i64 c1, .int .i64 c2, .int .i64 c3]] w fun e w' => Load2 e (1, 0, false) ∧ Below w.heap.size w w' := by
  have b0 : decide (c0 < 1) = false := decide_eq_false g0
  have b1 : decide (200 < c0) = true := decide_eq_true g1
  clear g0 g1
  go_enter Tryz.func31, Tryz.ntmps31
  go_wp2_with fail
  refine bodyPost_ret (v := .tuple #[.pointer none, .agg #[.int .i64 1, .int .i64 0]]) (by simp [results, Tryz.results31, go_sem]) rfl ⟨⟨_, Or.inr ⟨rfl, rfl⟩, rfl⟩, ?_⟩
  exact ((Below.refl _ _).alloc (Nat.le_refl _) _).alloc (by simp) _

set_option maxHeartbeats 400000 in
theorem loadB_bad2 (s : ByteArray) (c0 c1 c2 c3 : Int) (w : World) (g0 : ¬ c0 < 1) (g1 : ¬ 200 < c0) (g2 : c1 < 1) :
    Calls Tryz.prog 31 #[.string s, .agg #[.int .i64 c0, .int .i64 c1, .int .i64 c2, .int .i64 c3]] w fun e w' => Load2 e (1, 0, false) ∧ Below w.heap.size w w' := by
  have b0 : decide (c0 < 1) = false := decide_eq_false g0
  have b1 : decide (200 < c0) = false := decide_eq_false g1
  have b2 : decide (c1 < 1) = true := decide_eq_true g2
  clear g0 g1 g2
  go_enter Tryz.func31, Tryz.ntmps31
  go_wp2_with fail
  refine bodyPost_ret (v := .tuple #[.pointer none, .agg #[.int .i64 1, .int .i64 0]]) (by simp [results, Tryz.results31, go_sem]) rfl ⟨⟨_, Or.inr ⟨rfl, rfl⟩, rfl⟩, ?_⟩
  exact ((Below.refl _ _).alloc (Nat.le_refl _) _).alloc (by simp) _

set_option maxHeartbeats 400000 in
theorem loadB_bad3 (s : ByteArray) (c0 c1 c2 c3 : Int) (w : World) (g0 : ¬ c0 < 1) (g1 : ¬ 200 < c0) (g2 : ¬ c1 < 1) (g3 : 50 < c1) :
    Calls Tryz.prog 31 #[.string s, .agg #[.int .i64 c0, .int .i64 c1, .int .i64 c2, .int .i64 c3]] w fun e w' => Load2 e (1, 0, false) ∧ Below w.heap.size w w' := by
  have b0 : decide (c0 < 1) = false := decide_eq_false g0
  have b1 : decide (200 < c0) = false := decide_eq_false g1
  have b2 : decide (c1 < 1) = false := decide_eq_false g2
  have b3 : decide (50 < c1) = true := decide_eq_true g3
  clear g0 g1 g2 g3
  go_enter Tryz.func31, Tryz.ntmps31
  go_wp2_with fail
  refine bodyPost_ret (v := .tuple #[.pointer none, .agg #[.int .i64 1, .int .i64 0]]) (by simp [results, Tryz.results31, go_sem]) rfl ⟨⟨_, Or.inr ⟨rfl, rfl⟩, rfl⟩, ?_⟩
  exact ((Below.refl _ _).alloc (Nat.le_refl _) _).alloc (by simp) _

set_option maxHeartbeats 400000 in
theorem loadB_bad4 (s : ByteArray) (c0 c1 c2 c3 : Int) (w : World) (g0 : ¬ c0 < 1) (g1 : ¬ 200 < c0) (g2 : ¬ c1 < 1) (g3 : ¬ 50 < c1) (g4 : c2 < 1) :
    Calls Tryz.prog 31 #[.string s, .agg #[.int .i64 c0, .int .i64 c1, .int .i64 c2, .int .i64 c3]] w fun e w' => Load2 e (1, 0, false) ∧ Below w.heap.size w w' := by
  have b0 : decide (c0 < 1) = false := decide_eq_false g0
  have b1 : decide (200 < c0) = false := decide_eq_false g1
  have b2 : decide (c1 < 1) = false := decide_eq_false g2
  have b3 : decide (50 < c1) = false := decide_eq_false g3
  have b4 : decide (c2 < 1) = true := decide_eq_true g4
  clear g0 g1 g2 g3 g4
  go_enter Tryz.func31, Tryz.ntmps31
  go_wp2_with fail
  refine bodyPost_ret (v := .tuple #[.pointer none, .agg #[.int .i64 1, .int .i64 0]]) (by simp [results, Tryz.results31, go_sem]) rfl ⟨⟨_, Or.inr ⟨rfl, rfl⟩, rfl⟩, ?_⟩
  exact ((Below.refl _ _).alloc (Nat.le_refl _) _).alloc (by simp) _

set_option maxHeartbeats 400000 in
theorem loadB_bad5 (s : ByteArray) (c0 c1 c2 c3 : Int) (w : World) (g0 : ¬ c0 < 1) (g1 : ¬ 200 < c0) (g2 : ¬ c1 < 1) (g3 : ¬ 50 < c1) (g4 : ¬ c2 < 1) (g5 : 50 < c2) :
    Calls Tryz.prog 31 #[.string s, .agg #[.int .i64 c0, .int .i64 c1, .int .i64 c2, .int .i64 c3]] w fun e w' => Load2 e (1, 0, false) ∧ Below w.heap.size w w' := by
  have b0 : decide (c0 < 1) = false := decide_eq_false g0
  have b1 : decide (200 < c0) = false := decide_eq_false g1
  have b2 : decide (c1 < 1) = false := decide_eq_false g2
  have b3 : decide (50 < c1) = false := decide_eq_false g3
  have b4 : decide (c2 < 1) = false := decide_eq_false g4
  have b5 : decide (50 < c2) = true := decide_eq_true g5
  clear g0 g1 g2 g3 g4 g5
  go_enter Tryz.func31, Tryz.ntmps31
  go_wp2_with fail
  refine bodyPost_ret (v := .tuple #[.pointer none, .agg #[.int .i64 1, .int .i64 0]]) (by simp [results, Tryz.results31, go_sem]) rfl ⟨⟨_, Or.inr ⟨rfl, rfl⟩, rfl⟩, ?_⟩
  exact ((Below.refl _ _).alloc (Nat.le_refl _) _).alloc (by simp) _

set_option maxHeartbeats 400000 in
theorem loadB_bad6 (s : ByteArray) (c0 c1 c2 c3 : Int) (w : World) (g0 : ¬ c0 < 1) (g1 : ¬ 200 < c0) (g2 : ¬ c1 < 1) (g3 : ¬ 50 < c1) (g4 : ¬ c2 < 1) (g5 : ¬ 50 < c2) (g6 : c3 < 1) :
    Calls Tryz.prog 31 #[.string s, .agg #[.int .i64 c0, .int .i64 c1, .int .i64 c2, .int .i64 c3]] w fun e w' => Load2 e (1, 0, false) ∧ Below w.heap.size w w' := by
  have b0 : decide (c0 < 1) = false := decide_eq_false g0
  have b1 : decide (200 < c0) = false := decide_eq_false g1
  have b2 : decide (c1 < 1) = false := decide_eq_false g2
  have b3 : decide (50 < c1) = false := decide_eq_false g3
  have b4 : decide (c2 < 1) = false := decide_eq_false g4
  have b5 : decide (50 < c2) = false := decide_eq_false g5
  have b6 : decide (c3 < 1) = true := decide_eq_true g6
  clear g0 g1 g2 g3 g4 g5 g6
  go_enter Tryz.func31, Tryz.ntmps31
  go_wp2_with fail
  refine bodyPost_ret (v := .tuple #[.pointer none, .agg #[.int .i64 1, .int .i64 0]]) (by simp [results, Tryz.results31, go_sem]) rfl ⟨⟨_, Or.inr ⟨rfl, rfl⟩, rfl⟩, ?_⟩
  exact ((Below.refl _ _).alloc (Nat.le_refl _) _).alloc (by simp) _

set_option maxHeartbeats 400000 in
theorem loadB_bad7 (s : ByteArray) (c0 c1 c2 c3 : Int) (w : World) (g0 : ¬ c0 < 1) (g1 : ¬ 200 < c0) (g2 : ¬ c1 < 1) (g3 : ¬ 50 < c1) (g4 : ¬ c2 < 1) (g5 : ¬ 50 < c2) (g6 : ¬ c3 < 1) (g7 : 16 < c3) :
    Calls Tryz.prog 31 #[.string s, .agg #[.int .i64 c0, .int .i64 c1, .int .i64 c2, .int .i64 c3]] w fun e w' => Load2 e (1, 0, false) ∧ Below w.heap.size w w' := by
  have b0 : decide (c0 < 1) = false := decide_eq_false g0
  have b1 : decide (200 < c0) = false := decide_eq_false g1
  have b2 : decide (c1 < 1) = false := decide_eq_false g2
  have b3 : decide (50 < c1) = false := decide_eq_false g3
  have b4 : decide (c2 < 1) = false := decide_eq_false g4
  have b5 : decide (50 < c2) = false := decide_eq_false g5
  have b6 : decide (c3 < 1) = false := decide_eq_false g6
  have b7 : decide (16 < c3) = true := decide_eq_true g7
  clear g0 g1 g2 g3 g4 g5 g6 g7
  go_enter Tryz.func31, Tryz.ntmps31
  go_wp2_with fail
  refine bodyPost_ret (v := .tuple #[.pointer none, .agg #[.int .i64 1, .int .i64 0]]) (by simp [results, Tryz.results31, go_sem]) rfl ⟨⟨_, Or.inr ⟨rfl, rfl⟩, rfl⟩, ?_⟩
  exact ((Below.refl _ _).alloc (Nat.le_refl _) _).alloc (by simp) _

theorem loadB_any (s : ByteArray) (c0 c1 c2 c3 : Int) (w : World) (hs : s.size ≤ maxLen) (hs2 : s.size ≤ 140737488355328) :
    Calls Tryz.prog 31 #[.string s, .agg #[.int .i64 c0, .int .i64 c1, .int .i64 c2, .int .i64 c3]] w fun e w' => Load2 e (told s c0 c1 c2 c3) ∧ Below w.heap.size w w' := by
  by_cases g0 : c0 < 1
  · rw [told_bad (by simp [okC, inB]; omega)]
    exact loadB_bad0 s c0 c1 c2 c3 w g0
  by_cases g1 : 200 < c0
  · rw [told_bad (by simp [okC, inB]; omega)]
    exact loadB_bad1 s c0 c1 c2 c3 w g0 g1
  by_cases g2 : c1 < 1
  · rw [told_bad (by simp [okC, inB]; omega)]
    exact loadB_bad2 s c0 c1 c2 c3 w g0 g1 g2
  by_cases g3 : 50 < c1
  · rw [told_bad (by simp [okC, inB]; omega)]
    exact loadB_bad3 s c0 c1 c2 c3 w g0 g1 g2 g3
  by_cases g4 : c2 < 1
  · rw [told_bad (by simp [okC, inB]; omega)]
    exact loadB_bad4 s c0 c1 c2 c3 w g0 g1 g2 g3 g4
  by_cases g5 : 50 < c2
  · rw [told_bad (by simp [okC, inB]; omega)]
    exact loadB_bad5 s c0 c1 c2 c3 w g0 g1 g2 g3 g4 g5
  by_cases g6 : c3 < 1
  · rw [told_bad (by simp [okC, inB]; omega)]
    exact loadB_bad6 s c0 c1 c2 c3 w g0 g1 g2 g3 g4 g5 g6
  by_cases g7 : 16 < c3
  · rw [told_bad (by simp [okC, inB]; omega)]
    exact loadB_bad7 s c0 c1 c2 c3 w g0 g1 g2 g3 g4 g5 g6 g7
  exact loadB_good s c0 c1 c2 c3 w hs hs2 (by omega) (by omega) (by omega) (by omega) (by omega) (by omega) (by omega) (by omega)

end Go.Proofs.YtnjiinbhbjpfkaaGreatDoor
