/-
  The program's 'target' and 'highest' answer as the plain functions 'tgt' and 'hiOf' say: for every reader whose place is within its text.
-/
import Derived.Test.YtnjiinbhbjpfkaaGreatDoorRoomC
import Derived.Deep.MidRow
namespace Go.Proofs.YtnjiinbhbjpfkaaGreatDoor
open Go.RowKit

theorem ofInt64 (a : Nat) (ha : a < 65536) : (BitVec.ofInt 64 (a : Int)).toNat = a := by
  rw [BitVec.ofInt_natCast, BitVec.toNat_ofNat]; exact Nat.mod_eq_of_lt (by omega)
theorem or_pair (a b : Nat) (ha : a < 256) (hb : b < 256) : bits .or .i64 ((a : Int) * 256) (b : Int) = 256 * (a : Int) + (b : Int) := by
  have hx : a * 256 ||| b = 256 * a + b := by
    have := Nat.shiftLeft_add_eq_or_of_lt (i := 8) (b := b) (by omega) a
    rw [Nat.shiftLeft_eq, show (2 : Nat) ^ 8 = 256 from rfl] at this
    omega
  have h1 : ((a : Int) * 256) = ((a * 256 : Nat) : Int) := by omega
  rw [h1]
  show IntKind.i64.wrap ((BitVec.ofInt 64 ((a * 256 : Nat) : Int) ||| BitVec.ofInt 64 (b : Int)).toNat : Int) = _
  rw [BitVec.toNat_or, ofInt64 (a * 256) (by omega), ofInt64 b (by omega), hx, IntWalk.i64_left, IntWalk.wrap64_in _ (by omega)]
  omega

set_option maxHeartbeats 400000 in
theorem target_short (b : Nat) (s : ByteArray) (p : Nat) (f r l : Int) (w : World) (h : w.heap[b]? = some (rdA s p f r l)) (_hs : s.size ≤ 9223372036854775807) (hp : p ≤ s.size) (h1 : s.size < p + 2) :
    Calls Tryz.prog 216 #[.pointer (some ⟨b, 0, none⟩)] w fun e w' => e = .returned (.bool false) ∧ ∃ n, w' = (w.drewN n).setCell ⟨b, 1, none⟩ (.int .i64 s.size) := by
  obtain ⟨c0, c1, _, _, _⟩ := rdA_cells h
  obtain ⟨f1, _⟩ := rdA_frozen h
  clear h
  go_enter Tryz.func216, Tryz.ntmps216
  go_wp2
  go_quiet (fail)
  go_wp2
  go_ret
  exact ⟨rfl, _, rfl⟩

set_option maxHeartbeats 400000 in
theorem target_yes (b : Nat) (s : ByteArray) (p : Nat) (f r l : Int) (w : World) (h : w.heap[b]? = some (rdA s p f r l)) (hs : s.size ≤ 9223372036854775807) (h1 : p + 2 ≤ s.size) (h2 : 256 * (s[p].toNat : Int) + (s[p + 1].toNat : Int) ≤ l) :
    Calls Tryz.prog 216 #[.pointer (some ⟨b, 0, none⟩)] w fun e w' => e = .returned (.bool true) ∧ ∃ n, w' = (w.drewN n).setCell ⟨b, 1, none⟩ (.int .i64 (p + 2)) := by
  obtain ⟨c0, c1, _, _, c4⟩ := rdA_cells h
  obtain ⟨f1, _⟩ := rdA_frozen h
  have hb8 : s[p].toNat < 256 := UInt8.toNat_lt _
  have hb9 : s[p + 1].toNat < 256 := UInt8.toNat_lt _
  have hp : p < s.size := by omega
  have hp1 : p + 1 < s.size := by omega
  have hw1 : IntKind.i64.wrap ((p : Int) + 1) = (p : Int) + 1 := by rw [IntWalk.i64_left, IntWalk.wrap64_in _ (by omega)]
  have hw2 : IntKind.i64.wrap (s[p].toNat : Int) = (s[p].toNat : Int) := by rw [IntWalk.i64_left, IntWalk.wrap64_in _ (by omega)]
  have hw3 : IntKind.i64.wrap ((s[p].toNat : Int) * 256) = (s[p].toNat : Int) * 256 := by rw [IntWalk.i64_left, IntWalk.wrap64_in _ (by omega)]
  have hw4 : IntKind.i64.wrap (s[p + 1].toNat : Int) = (s[p + 1].toNat : Int) := by rw [IntWalk.i64_left, IntWalk.wrap64_in _ (by omega)]
  have hor := or_pair s[p].toNat s[p + 1].toNat hb8 hb9
  have hi1 : ((p : Int) + 1).toNat = p + 1 := by omega
  have hi2 : (p : Int) + 1 < (s.size : Int) := by omega
  have hi3 : (0 : Int) ≤ (p : Int) + 1 := by omega
  clear h
  go_enter Tryz.func216, Tryz.ntmps216
  go_wp2
  go_quiet (fail)
  go_wp2
  go_quiet (fail)
  go_wp2
  go_ret
  exact ⟨rfl, _, rfl⟩

set_option maxHeartbeats 400000 in
theorem target_no (b : Nat) (s : ByteArray) (p : Nat) (f r l : Int) (w : World) (h : w.heap[b]? = some (rdA s p f r l)) (hs : s.size ≤ 9223372036854775807) (h1 : p + 2 ≤ s.size) (h2 : l < 256 * (s[p].toNat : Int) + (s[p + 1].toNat : Int)) :
    Calls Tryz.prog 216 #[.pointer (some ⟨b, 0, none⟩)] w fun e w' => e = .returned (.bool false) ∧ ∃ n, w' = w.drewN n := by
  obtain ⟨c0, c1, _, _, c4⟩ := rdA_cells h
  have hb8 : s[p].toNat < 256 := UInt8.toNat_lt _
  have hb9 : s[p + 1].toNat < 256 := UInt8.toNat_lt _
  have hp : p < s.size := by omega
  have hp1 : p + 1 < s.size := by omega
  have hw1 : IntKind.i64.wrap ((p : Int) + 1) = (p : Int) + 1 := by rw [IntWalk.i64_left, IntWalk.wrap64_in _ (by omega)]
  have hw2 : IntKind.i64.wrap (s[p].toNat : Int) = (s[p].toNat : Int) := by rw [IntWalk.i64_left, IntWalk.wrap64_in _ (by omega)]
  have hw3 : IntKind.i64.wrap ((s[p].toNat : Int) * 256) = (s[p].toNat : Int) * 256 := by rw [IntWalk.i64_left, IntWalk.wrap64_in _ (by omega)]
  have hw4 : IntKind.i64.wrap (s[p + 1].toNat : Int) = (s[p + 1].toNat : Int) := by rw [IntWalk.i64_left, IntWalk.wrap64_in _ (by omega)]
  have hor := or_pair s[p].toNat s[p + 1].toNat hb8 hb9
  have hi1 : ((p : Int) + 1).toNat = p + 1 := by omega
  have hi2 : (p : Int) + 1 < (s.size : Int) := by omega
  have hi3 : (0 : Int) ≤ (p : Int) + 1 := by omega
  clear h
  go_enter Tryz.func216, Tryz.ntmps216
  go_wp2
  go_quiet (fail)
  go_wp2
  go_quiet (fail)
  go_wp2
  go_ret
  exact ⟨rfl, _, World.drewN_drewN _ _ _⟩

/-- A t: just as 'tgt' says. -/
theorem rtarget_any (b : Nat) (s : ByteArray) (p L : Nat) (f r l : Int) (w : World) (h : w.heap[b]? = some (rdA s p f r l)) (hs : s.size ≤ maxLen) (hp : p ≤ s.size) (hl : l = L) :
    Calls Tryz.prog 216 #[.pointer (some ⟨b, 0, none⟩)] w fun e w' => e = .returned (.bool (M.tgt s p L).2) ∧ w'.heap[b]? = some (rdA s ((M.tgt s p L).1 : Nat) f r l) ∧ w.grownBy w' (some b) := by
  have hs' : s.size ≤ 9223372036854775807 := by unfold maxLen at hs; omega
  by_cases h1 : s.size < p + 2
  · have e : M.tgt s p L = (s.size, false) := by unfold M.tgt; rw [if_pos h1]
    rw [e]
    refine (target_short b s p f r l w h hs' hp h1).mono ?_
    rintro e w' ⟨rfl, n, rfl⟩
    exact ⟨rfl, rdA_set1 (w := w.drewN n) h _, grown_setCell (grown_drewN (grown_refl _ _) _) (Or.inl rfl) _⟩
  · have e1 := M.bt_at s p (by omega)
    have e2 := M.bt_at s (p + 1) (by omega)
    by_cases h2 : L < 256 * M.bt s p + M.bt s (p + 1)
    · have e : M.tgt s p L = (p, false) := by unfold M.tgt; rw [if_neg h1, if_pos h2]
      rw [e]
      refine (target_no b s p f r l w h hs' (by omega) (by rw [← e1, ← e2]; omega)).mono ?_
      rintro e w' ⟨rfl, n, rfl⟩
      exact ⟨rfl, h, grown_drewN (grown_refl _ _) _⟩
    · have e : M.tgt s p L = (p + 2, true) := by unfold M.tgt; rw [if_neg h1, if_neg h2]
      rw [e]
      refine (target_yes b s p f r l w h hs' (by omega) (by rw [← e1, ← e2]; omega)).mono ?_
      rintro e w' ⟨rfl, n, rfl⟩
      exact ⟨rfl, rdA_set1 (w := w.drewN n) h _, grown_setCell (grown_drewN (grown_refl _ _) _) (Or.inl rfl) _⟩

set_option maxHeartbeats 400000 in
/-- The greatest byte of an operand of a letter that is no t. -/
theorem highest_any (b : Nat) (s : ByteArray) (k R F : Nat) (p f r l kk : Int) (w : World) (h : w.heap[b]? = some (rdA s p f r l)) (hr : r = R) (hf : f = F) (h1 : 1 ≤ R) (h2 : 1 ≤ F) (h3 : R ≤ 8) (h4 : F ≤ 8) (hk : kk = k) :
    Calls Tryz.prog 217 #[.pointer (some ⟨b, 0, none⟩), .int .u8 kk] w fun e w' => e = .returned (.int .i64 (M.hiOf R F k)) ∧ w' = w := by
  obtain ⟨_, _, c2, c3, _⟩ := rdA_cells h
  clear h
  have hh : (M.hiOf R F k : Int) = if kk = 114 then r - 1 else if kk = 102 then f - 1 else if kk = 115 then 8 else if kk = 107 then 255 else 0 := by
    unfold M.hiOf
    repeat' split
    all_goals omega
  rw [hh]
  clear hh hk
  have b1 : 1 ≤ r := by omega
  have b2 : 1 ≤ f := by omega
  have b3 : r ≤ 8 := by omega
  have b4 : f ≤ 8 := by omega
  clear hr hf h1 h2 h3 h4
  by_cases e1 : kk = 114
  · subst e1
    go_enter Tryz.func217, Tryz.ntmps217
    go_wp2
    go_ret
    exact ⟨rfl, rfl⟩
  · have q1 : (kk == 114) = false := by simpa using e1
    rw [if_neg e1]; clear e1
    by_cases e2 : kk = 102
    · subst e2
      go_enter Tryz.func217, Tryz.ntmps217
      go_wp2
      go_ret
      exact ⟨rfl, rfl⟩
    · have q2 : (kk == 102) = false := by simpa using e2
      rw [if_neg e2]; clear e2
      by_cases e3 : kk = 115
      · subst e3
        go_enter Tryz.func217, Tryz.ntmps217
        go_wp2
        go_ret
        exact ⟨rfl, rfl⟩
      · have q3 : (kk == 115) = false := by simpa using e3
        rw [if_neg e3]; clear e3
        by_cases e4 : kk = 107
        · subst e4
          go_enter Tryz.func217, Tryz.ntmps217
          go_wp2
          go_ret
          exact ⟨rfl, rfl⟩
        · have q4 : (kk == 107) = false := by simpa using e4
          rw [if_neg e4]; clear e4
          go_enter Tryz.func217, Tryz.ntmps217
          go_wp2
          go_ret
          exact ⟨rfl, rfl⟩

end Go.Proofs.YtnjiinbhbjpfkaaGreatDoor

/-
  The program's 'operands' answers as the plain function 'ops' says: for every reader and every text of at most three letters.
-/
namespace Go.Proofs.YtnjiinbhbjpfkaaGreatDoor
open Go.RowKit

set_option maxHeartbeats 400000 in
theorem operands_any (b : Nat) (s S : ByteArray) (p R F L : Nat) (f r l : Int) (w : World) (h : w.heap[b]? = some (rdA s p f r l)) (hs : s.size ≤ maxLen) (hS : S.size ≤ 3) (hp : p ≤ s.size)
    (hr : Hid (r = R)) (hf : Hid (f = F)) (hl : Hid (l = L)) (h1 : 1 ≤ R) (h2 : 1 ≤ F) (h3 : R ≤ 8) (h4 : F ≤ 8) :
    Calls Tryz.prog 197 #[.pointer (some ⟨b, 0, none⟩), .string S] w fun e w' => e = .returned (.bool (M.ops s R F L (M.letters S) p).2) ∧ w'.heap[b]? = some (rdA s ((M.ops s R F L (M.letters S) p).1 : Nat) f r l) ∧ w.grownBy w' (some b) := by
  have hs' : s.size ≤ 9223372036854775807 := by unfold maxLen at hs; omega
  have HS : Hid (s.size ≤ maxLen) := hs
  clear hs
  go_enter Tryz.func197, Tryz.ntmps197
  go_wp2
  go_loopw [10] (fun i wr => ∃ k q : Nat, k ≤ S.size ∧ q ≤ s.size ∧ i = .int .i64 k ∧ Hid (wr.heap[b]? = some (rdA s q f r l)) ∧ w.grownBy wr (some b) ∧ Hid (M.ops s R F L ((M.letters S).drop k) q = M.ops s R F L (M.letters S) p)) (fun i _ => S.size - (intOf i).toNat)
  case atStart => exact ⟨0, p, by omega, hp, rfl, h, grown_refl _ _, rfl⟩
  case round =>
    obtain ⟨k, q, hk, hq, rfl, hq1, hg, ho⟩ := hrel
    by_cases hlt : k < S.size
    · have hc := M.letters_drop S k hlt
      have ho2 : Hid (M.ops s R F L (M.letters S) p = if S[k].toNat = 116 then M.tgt s q L else if M.tk s q 0 (M.hiOf R F S[k].toNat) = true then M.ops s R F L ((M.letters S).drop (k + 1)) (q + 1) else (q, false)) := by
        show _ = _
        rw [← ho.out, hc]; rfl
      clear hc ho
      by_cases ht : S[k].toNat = 116
      · have ho3 : Hid (M.ops s R F L (M.letters S) p = M.tgt s q L) := by show _ = _; rw [ho2.out, if_pos ht]
        clear ho2
        have hb1 : ((S[k].toNat : Int) == 116) = true := by simp; omega
        clear ht
        go_wp2_with fail
        refine (rtarget_any b s q L f r l _ hq1.out HS.out hq hl.out).mono ?_
        rintro e w1 ⟨rfl, hh, hg1⟩
        go_wp2_with fail
        go_ret
        refine ⟨?_, ?_, grown_trans hg hg1⟩
        · rw [ho3.out]; rfl
        · rw [ho3.out]; exact hh
      · have hb1 : ((S[k].toNat : Int) == 116) = false := by simp; omega
        rw [if_neg ht] at ho2
        clear ht
        go_wp2_with fail
        refine (highest_any b s S[k].toNat R F q f r l _ _ hq1.out hr.out hf.out h1 h2 h3 h4 rfl).mono ?_
        rintro e w1 ⟨rfl, rfl⟩
        go_wp2_with fail
        by_cases htk : M.tk s q 0 (M.hiOf R F S[k].toNat) = true
        · have ho3 : Hid (M.ops s R F L (M.letters S) p = M.ops s R F L ((M.letters S).drop (k + 1)) (q + 1)) := by show _ = _; rw [ho2.out, if_pos htk]
          have hq2 := (M.tk_lt htk).1
          clear ho2
          refine (take_good b s q 0 _ f r l _ _ _ hq1.out HS.out rfl rfl htk).mono ?_
          rintro e w2 ⟨rfl, hh, hg2⟩
          have HH : Hid (w2.heap[b]? = some (rdA s ((q + 1 : Nat) : Int) f r l)) := hh
          clear hh htk
          go_wp2_with fail
          go_roundw
          case rel => exact ⟨k + 1, q + 1, by omega, by omega, by go_num, HH, grown_trans hg hg2, ho3.out.symm⟩
          case measure => simp [intOf]; omega
        · have htf : M.tk s q 0 (M.hiOf R F S[k].toNat) = false := by simpa using htk
          have ho3 : Hid (M.ops s R F L (M.letters S) p = (q, false)) := by show _ = _; rw [ho2.out, if_neg htk]
          clear ho2
          refine (take_bad b s q 0 _ f r l _ _ _ hq1.out hq rfl rfl htf).mono ?_
          rintro e w2 ⟨rfl, hh, hg2⟩
          have HH : Hid (w2.heap[b]? = some (rdA s q f r l)) := hh
          clear hh htk htf
          go_wp2_with fail
          go_ret
          refine ⟨?_, ?_, grown_trans hg hg2⟩
          · rw [ho3.out]; rfl
          · rw [ho3.out]; exact HH.out
    · obtain rfl : k = S.size := by omega
      have ho3 : Hid (M.ops s R F L (M.letters S) p = (q, true)) := by
        show _ = _
        rw [← ho.out, M.letters_end]; rfl
      clear ho
      go_wp2_with fail
      go_ret
      refine ⟨?_, ?_, hg⟩
      · rw [ho3.out]; rfl
      · rw [ho3.out]; exact hq1.out

end Go.Proofs.YtnjiinbhbjpfkaaGreatDoor

/-
  The program's 'instruction' answers as the plain function 'ins' says, where the variable of the operands' letters holds its table.
-/
namespace Go.Proofs.YtnjiinbhbjpfkaaGreatDoor
open Go.RowKit

/-- The table of the operands' letters lies in the program's variable. -/
def Tab (w : World) : Prop := 0 < w.heap.size ∧ ∀ op, op < 23 → w.cell? ⟨0, op, none⟩ = some (.string (M.KS op))
theorem Tab.kept {w w' : World} {b : Nat} (h : Tab w) (hg : w.grownBy w' (some b)) (hb : b ≠ 0) : Tab w' :=
  ⟨Nat.lt_of_lt_of_le h.1 hg.size, fun op ho => (World.cell?_of_block (a := ⟨0, op, none⟩) (hg.block 0 h.1 (by intro e; injection e; omega))).trans (h.2 op ho)⟩
theorem Tab.alloc {w : World} (h : Tab w) (o : Obj) : Tab (w.alloc o) := h.kept (b := 1) (World.grownBy_alloc _ _ _) (by omega)

def Instr4 (s : ByteArray) (p : Nat) (e : Ending) (ok : Bool) : Prop := ∃ a0 a1 a2 a3 : Int, e = .returned (.tuple #[.agg #[.int .u8 a0, .int .u8 a1, .int .u8 a2, .int .u8 a3], .bool ok]) ∧ (ok = true → a0 = (M.bt s p : Int) ∧ a1 = (M.bt s (p + 1) : Int) ∧ a2 = (M.bt s (p + 2) : Int) ∧ a3 = (M.bt s (p + 3) : Int))

theorem rdA_alloc {w : World} {b : Nat} {s : ByteArray} {p f r l : Int} (h : w.heap[b]? = some (rdA s p f r l)) (o : Obj) : (w.alloc o).heap[b]? = some (rdA s p f r l) := (Below.heap_alloc _ _ _ (heap_lt h)).trans h

/-- A new block of four cells, behind a call that wrote into another. -/
theorem four_cells {w w1 : World} {b k : Nat} {a0 a1 a2 a3 : Value} {T : TypeId} (h : w.heap[k]? = some (.cells #[a0, a1, a2, a3] T (0, 0))) (hg : w.grownBy w1 (some b)) (hk : k ≠ b) :
    k < w1.heap.size ∧ w1.cell? ⟨k, 0, none⟩ = some a0 ∧ w1.cell? ⟨k, 1, none⟩ = some a1 ∧ w1.cell? ⟨k, 2, none⟩ = some a2 ∧ w1.cell? ⟨k, 3, none⟩ = some a3 ∧
    w1.frozen? ⟨k, 0, none⟩ = false ∧ w1.frozen? ⟨k, 1, none⟩ = false ∧ w1.frozen? ⟨k, 2, none⟩ = false ∧ w1.frozen? ⟨k, 3, none⟩ = false := by
  have h1 := grown_heap hg h (by intro e; injection e; omega)
  exact ⟨heap_lt h1, by simp [World.cell?, World.frozen?, h1]⟩

set_option maxHeartbeats 400000 in
theorem instruction_no1 (b : Nat) (s : ByteArray) (p : Nat) (f r l : Int) (w : World) (h : w.heap[b]? = some (rdA s p f r l)) (hp : p ≤ s.size) (ht : M.tk s p 0 22 = false) :
    Calls Tryz.prog 147 #[.pointer (some ⟨b, 0, none⟩)] w fun e w' => Instr4 s p e false ∧ w'.heap[b]? = some (rdA s p f r l) ∧ w.grownBy w' (some b) := by
  have hb := heap_lt h
  obtain ⟨c0, c1, _, _, _⟩ := rdA_cells h
  have H : Hid (w.heap[b]? = some (rdA s p f r l)) := h
  clear h
  go_enter Tryz.func147, Tryz.ntmps147
  go_wp2_with fail
  refine (take_bad b s p 0 22 f r l _ _ _ (rdA_alloc H.out _) hp rfl rfl ht).mono ?_
  rintro e w1 ⟨rfl, hh, hg⟩
  obtain ⟨hz, d0, d1, d2, d3, e0, e1, e2, e3⟩ := four_cells (k := w.heap.size) (heap_alloc_new w _) hg (by omega)
  have HH : Hid (w1.heap[b]? = some (rdA s p f r l)) := hh
  clear hh
  go_wp2_with fail
  refine bodyPost_ret (v := .tuple #[.agg #[.int .u8 0, .int .u8 0, .int .u8 0, .int .u8 0], .bool false]) (by simp [results, Tryz.results147, go_sem, *]) rfl ⟨⟨0, 0, 0, 0, rfl, fun h => by cases h⟩, ?_, ?_⟩
  · repeat (rw [Below.heap_setCell _ _ _ _ (by simp; omega)])
    exact HH.out
  · repeat (refine grown_setCell ?_ (Or.inr (by simp)) _)
    exact grown_trans (World.grownBy_alloc _ _ _) hg

set_option maxHeartbeats 400000 in
theorem instruction_no2 (b : Nat) (s : ByteArray) (p R F L : Nat) (f r l : Int) (w : World) (h : w.heap[b]? = some (rdA s p f r l)) (hs : s.size ≤ maxLen) (hb0 : b ≠ 0) (hT : Tab w) (hr : Hid (r = R)) (hf : Hid (f = F)) (hl : Hid (l = L)) (h1 : 1 ≤ R) (h2 : 1 ≤ F) (h3 : R ≤ 8) (h4 : F ≤ 8)
    (ht : M.tk s p 0 22 = true) (ho : Hid ((M.opn s (p + 1) (M.bt s p) R F L).2 = false)) :
    Calls Tryz.prog 147 #[.pointer (some ⟨b, 0, none⟩)] w fun e w' => Instr4 s p e false ∧ w'.heap[b]? = some (rdA s ((M.opn s (p + 1) (M.bt s p) R F L).1 : Nat) f r l) ∧ w.grownBy w' (some b) := by
  have hb := heap_lt h
  obtain ⟨c0, c1, _, _, _⟩ := rdA_cells h
  have H : Hid (w.heap[b]? = some (rdA s p f r l)) := h
  have HS : Hid (s.size ≤ maxLen) := hs
  obtain ⟨hp, _, hop⟩ := M.tk_lt ht
  have HO : Hid (M.ops s R F L (M.letters (M.KS (M.bt s p))) (p + 1) = M.opn s (p + 1) (M.bt s p) R F L) := by
    show _ = _
    rw [(M.KS_facts _ (by omega)).1, M.ops_opn _ _ _ _ _ _ (by omega)]
  have HK : Hid ((M.KS (M.bt s p)).size ≤ 3) := by show _ ≤ _; rw [(M.KS_facts _ (by omega)).2]; exact Nat.le_refl _
  have HT : Hid (M.tk s p 0 22 = true) := ht
  have HTab : Hid (Tab w) := hT
  clear h hs ht hT
  go_enter Tryz.func147, Tryz.ntmps147
  go_wp2_with fail
  refine (take_good b s p 0 22 f r l _ _ _ (rdA_alloc H.out _) HS.out rfl rfl HT.out).mono ?_
  rintro e w1 ⟨rfl, hh, hg⟩
  have hT1 := (HTab.out.alloc _).kept hg hb0
  have hc := hT1.2 (M.bt s p) (by omega)
  have hz1 := hT1.1
  have HH : Hid (w1.heap[b]? = some (rdA s ((p + 1 : Nat) : Int) f r l)) := hh
  clear hh
  generalize hq : M.bt s p = q at *
  have HQ : Hid (M.bt s p = q) := hq
  clear hq hT1
  go_wp2_with fail
  refine (operands_any b s (M.KS q) (p + 1) R F L f r l _ HH.out HS.out HK.out (by omega) hr hf hl h1 h2 h3 h4).mono ?_
  rintro e w2 ⟨rfl, hh, hg2⟩
  rw [HO.out] at hh ⊢
  rw [ho.out]
  obtain ⟨hz, d0, d1, d2, d3, e0, e1, e2, e3⟩ := four_cells (k := w.heap.size) (heap_alloc_new w _) (grown_trans hg hg2) (by omega)
  have HH2 : Hid (w2.heap[b]? = some (rdA s ((M.opn s (p + 1) q R F L).1 : Nat) f r l)) := hh
  clear hh
  go_wp2_with fail
  refine bodyPost_ret (v := .tuple #[.agg #[.int .u8 0, .int .u8 0, .int .u8 0, .int .u8 0], .bool false]) (by simp [results, Tryz.results147, go_sem, *]) rfl ⟨⟨0, 0, 0, 0, rfl, fun h => by cases h⟩, ?_, ?_⟩
  · repeat (rw [Below.heap_setCell _ _ _ _ (by simp; omega)])
    rw [HQ.out]; exact HH2.out
  · repeat (refine grown_setCell ?_ (Or.inr (by simp)) _)
    exact grown_trans (grown_trans (World.grownBy_alloc _ _ _) hg) hg2
set_option maxHeartbeats 400000 in
theorem instruction_yes (b : Nat) (s : ByteArray) (p R F L : Nat) (f r l : Int) (w : World) (h : w.heap[b]? = some (rdA s p f r l)) (hs : s.size ≤ maxLen) (hb0 : b ≠ 0) (hT : Tab w) (hr : Hid (r = R)) (hf : Hid (f = F)) (hl : Hid (l = L)) (h1 : 1 ≤ R) (h2 : 1 ≤ F) (h3 : R ≤ 8) (h4 : F ≤ 8)
    (ht : M.tk s p 0 22 = true) (ho : Hid ((M.opn s (p + 1) (M.bt s p) R F L).2 = true)) :
    Calls Tryz.prog 147 #[.pointer (some ⟨b, 0, none⟩)] w fun e w' => Instr4 s p e true ∧ w'.heap[b]? = some (rdA s ((p + 4 : Nat) : Int) f r l) ∧ w.grownBy w' (some b) := by
  have hb := heap_lt h
  obtain ⟨c0, c1, _, _, _⟩ := rdA_cells h
  have H : Hid (w.heap[b]? = some (rdA s p f r l)) := h
  have HS : Hid (s.size ≤ maxLen) := hs
  obtain ⟨hp, _, hop⟩ := M.tk_lt ht
  have HO : Hid (M.ops s R F L (M.letters (M.KS (M.bt s p))) (p + 1) = M.opn s (p + 1) (M.bt s p) R F L) := by
    show _ = _
    rw [(M.KS_facts _ (by omega)).1, M.ops_opn _ _ _ _ _ _ (by omega)]
  have HK : Hid ((M.KS (M.bt s p)).size ≤ 3) := by show _ ≤ _; rw [(M.KS_facts _ (by omega)).2]; exact Nat.le_refl _
  have HT : Hid (M.tk s p 0 22 = true) := ht
  have HTab : Hid (Tab w) := hT
  clear h hs ht hT
  go_enter Tryz.func147, Tryz.ntmps147
  go_wp2_with fail
  refine (take_good b s p 0 22 f r l _ _ _ (rdA_alloc H.out _) HS.out rfl rfl HT.out).mono ?_
  rintro e w1 ⟨rfl, hh, hg⟩
  have hT1 := (HTab.out.alloc _).kept hg hb0
  have hc := hT1.2 (M.bt s p) (by omega)
  have hz1 := hT1.1
  have HH : Hid (w1.heap[b]? = some (rdA s ((p + 1 : Nat) : Int) f r l)) := hh
  clear hh
  generalize hq : M.bt s p = q at *
  have HQ : Hid (M.bt s p = q) := hq
  clear hq hT1
  go_wp2_with fail
  refine (operands_any b s (M.KS q) (p + 1) R F L f r l _ HH.out HS.out HK.out (by omega) hr hf hl h1 h2 h3 h4).mono ?_
  rintro e w2 ⟨rfl, hh, hg2⟩
  rw [HO.out] at hh ⊢
  rw [ho.out]
  rw [M.opn_yes ho.out] at hh
  have hle := (M.opn_le (s := s) (p := p + 1) (op := q) (r := R) (f := F) (l := L) (by omega)).2
  rw [M.opn_yes ho.out] at hle
  obtain ⟨hz, d0, d1, d2, d3, e0, e1, e2, e3⟩ := four_cells (k := w.heap.size) (heap_alloc_new w _) (grown_trans hg hg2) (by omega)
  have HH2 : Hid (w2.heap[b]? = some (rdA s ((p + 4 : Nat) : Int) f r l)) := hh
  obtain ⟨x0, x1, _, _, _⟩ := rdA_cells hh
  clear hh
  go_wp2_with fail
  go_quiet (fail)
  go_wp2_with fail
  have h4 : (s.extract p (p + 1 + 3)).size = 4 := by simp; omega
  have HX : Hid (M.bt (s.extract p (p + 1 + 3)) 0 = M.bt s p ∧ M.bt (s.extract p (p + 1 + 3)) 1 = M.bt s (p + 1) ∧ M.bt (s.extract p (p + 1 + 3)) 2 = M.bt s (p + 2) ∧ M.bt (s.extract p (p + 1 + 3)) 3 = M.bt s (p + 3)) :=
    ⟨M.bt_extract s p _ 0 (by omega) (by omega), M.bt_extract s p _ 1 (by omega) (by omega), M.bt_extract s p _ 2 (by omega) (by omega), M.bt_extract s p _ 3 (by omega) (by omega)⟩
  generalize s.extract p (p + 1 + 3) = x at *
  go_region
  go_wp2_with fail
  refine bodyPost_ret (v := .tuple #[.agg #[.int .u8 (x[0].toNat : Int), .int .u8 (x[1].toNat : Int), .int .u8 (x[2].toNat : Int), .int .u8 (x[3].toNat : Int)], .bool true]) (by simp [results, Tryz.results147, go_sem, *]) rfl ⟨⟨_, _, _, _, rfl, fun _ => ?_⟩, ?_, ?_⟩
  · obtain ⟨k0, k1, k2, k3⟩ := HX.out
    rw [M.bt_at x 0 (by omega)] at k0
    rw [M.bt_at x 1 (by omega)] at k1
    rw [M.bt_at x 2 (by omega)] at k2
    rw [M.bt_at x 3 (by omega)] at k3
    rw [k0, k1, k2, k3]
    exact ⟨rfl, rfl, rfl, rfl⟩
  · repeat (rw [Below.heap_setCell _ _ _ _ (by simp; omega)])
    exact HH2.out
  · repeat (refine grown_setCell ?_ (Or.inr (by simp)) _)
    exact grown_drewN (grown_trans (grown_trans (World.grownBy_alloc _ _ _) hg) hg2) _

/-- An instruction: just as 'ins' says. -/
theorem instruction_any (b : Nat) (s : ByteArray) (p R F L : Nat) (f r l : Int) (w : World) (h : w.heap[b]? = some (rdA s p f r l)) (hs : s.size ≤ maxLen) (hp : p ≤ s.size) (hb0 : b ≠ 0) (hT : Tab w) (hr : Hid (r = R)) (hf : Hid (f = F)) (hl : Hid (l = L)) (h1 : 1 ≤ R) (h2 : 1 ≤ F) (h3 : R ≤ 8) (h4 : F ≤ 8) :
    Calls Tryz.prog 147 #[.pointer (some ⟨b, 0, none⟩)] w fun e w' => Instr4 s p e (M.ins s p R F L).2 ∧ w'.heap[b]? = some (rdA s ((M.ins s p R F L).1 : Nat) f r l) ∧ w.grownBy w' (some b) := by
  by_cases ht : M.tk s p 0 22 = true
  · have e : M.ins s p R F L = M.opn s (p + 1) (M.bt s p) R F L := by unfold M.ins; rw [if_pos ht]
    rw [e]
    by_cases ho : (M.opn s (p + 1) (M.bt s p) R F L).2 = true
    · rw [ho, M.opn_yes ho]
      exact instruction_yes b s p R F L f r l w h hs hb0 hT hr hf hl h1 h2 h3 h4 ht ho
    · have ho' : (M.opn s (p + 1) (M.bt s p) R F L).2 = false := by simpa using ho
      rw [ho']
      exact instruction_no2 b s p R F L f r l w h hs hb0 hT hr hf hl h1 h2 h3 h4 ht ho'
  · have e : M.ins s p R F L = (p, false) := by unfold M.ins; rw [if_neg ht]
    rw [e]
    exact instruction_no1 b s p f r l w h hp (by simpa using ht)

end Go.Proofs.YtnjiinbhbjpfkaaGreatDoor

/-
  The program's 'function' answers as the plain function 'fn' says, where the variable of the operands' letters holds its table.
-/
namespace Go.Proofs.YtnjiinbhbjpfkaaGreatDoor
open Go.RowKit

/-- The cells of an instruction row that begins at p in the text. -/
def codeP (s : ByteArray) (p : Nat) : Nat → Value := fun j => .int .u8 (M.bt s (p + j) : Int)
def Func2 (s : ByteArray) (p : Nat) (w w' : World) (e : Ending) (ok : Bool) : Prop := ∃ (x : Int) (ad : Option Addr) (n c : Nat), e = .returned (.tuple #[.agg #[.int .i64 x, .slice ad n c], .bool ok]) ∧
  (ok = true → x = (M.bt s p : Int) ∧ n = M.bt s (p + 1) ∧ c = n ∧ ∃ g, w.heap.size ≤ g ∧ ad = some ⟨g, 0, none⟩ ∧ Full w' g 183 (n * 4) (n * 4) (codeP s (p + 2)))
theorem Tryz.info183 : (Tryz.prog.info? 183).map (fun i => (i.zero, i.size, i.bytes)) = some (some (.agg #[.int .u8 0, .int .u8 0, .int .u8 0, .int .u8 0]), 4, 4) := by kernel_rfl

/-- A new block of two cells, behind a call that wrote into another. -/
theorem two_cells {w w1 : World} {b k : Nat} {a0 a1 : Value} {T : TypeId} (h : w.heap[k]? = some (.cells #[a0, a1] T (0, 0))) (hg : w.grownBy w1 (some b)) (hk : k ≠ b) :
    k < w1.heap.size ∧ w1.cell? ⟨k, 0, none⟩ = some a0 ∧ w1.cell? ⟨k, 1, none⟩ = some a1 ∧ w1.frozen? ⟨k, 0, none⟩ = false ∧ w1.frozen? ⟨k, 1, none⟩ = false := by
  have h1 := grown_heap hg h (by intro e; injection e; omega)
  exact ⟨heap_lt h1, by simp [World.cell?, World.frozen?, h1]⟩

set_option maxRecDepth 100000 in
set_option maxHeartbeats 400000 in
theorem function_try (b : Nat) (s : ByteArray) (p F : Nat) (f r l : Int) (w : World) (h : w.heap[b]? = some (rdA s p f r l)) (hs : s.size ≤ maxLen) (hb0 : b ≠ 0) (hT : Tab w) (hf : Hid (f = F)) (h2 : 1 ≤ F) (h4 : F ≤ 8)
    (ht1 : M.tk s p 2 8 = true) (ht2 : M.tk s (p + 1) 1 200 = true) :
    Calls Tryz.prog 82 #[.pointer (some ⟨b, 0, none⟩)] w fun e w' => Func2 s p w w' e (M.fn s p F).2 ∧ ∃ r' l', w'.heap[b]? = some (rdA s ((M.fn s p F).1 : Nat) f r' l') ∧ w.grownBy w' (some b) := by
  have hb := heap_lt h
  have H : Hid (w.heap[b]? = some (rdA s p f r l)) := h
  have HS : Hid (s.size ≤ maxLen) := hs
  have HT1 : Hid (M.tk s p 2 8 = true) := ht1
  have HT2 : Hid (M.tk s (p + 1) 1 200 = true) := ht2
  obtain ⟨_, q1, q2⟩ := M.tk_lt ht1
  obtain ⟨_, q3, q4⟩ := M.tk_lt ht2
  have HTab : Hid (Tab w) := hT
  clear h hs ht1 ht2 hT
  go_enter Tryz.func82, Tryz.ntmps82
  go_wp2_with fail
  refine (take_good b s p 2 8 f r l _ _ _ (rdA_alloc H.out _) HS.out rfl rfl HT1.out).mono ?_
  rintro e w1 ⟨rfl, hh, hg⟩
  have HH : Hid (w1.heap[b]? = some (rdA s ((p + 1 : Nat) : Int) f r l)) := hh
  obtain ⟨_, _, _, x3, _⟩ := rdA_cells hh
  obtain ⟨_, _, y3, y4⟩ := rdA_frozen hh
  clear hh
  generalize hR : M.bt s p = R at *
  have HR : Hid (M.bt s p = R) := hR
  clear hR
  go_wp2_with fail
  refine (take_good b s (p + 1) 1 200 f R l _ _ _ (rdA_set3 HH.out _) HS.out rfl rfl HT2.out).mono ?_
  rintro e w2 ⟨rfl, hh, hg2⟩
  have HH2 : Hid (w2.heap[b]? = some (rdA s ((p + 1 + 1 : Nat) : Int) f R l)) := hh
  obtain ⟨_, _, _, z3, z4⟩ := rdA_cells hh
  obtain ⟨_, _, _, u4⟩ := rdA_frozen hh
  clear hh
  generalize hL : M.bt s (p + 1) = L at *
  have HL : Hid (M.bt s (p + 1) = L) := hL
  clear hL x3 y3 y4
  obtain ⟨i0, hi, hz0, hz1, hz2⟩ := info_parts Tryz.info183
  go_wp2_with (at_make; go_loud (refine wpList_make_full _ rfl _ _ 176 rfl 0 183 i0 _ 4 Tryz.underlying176 hi hz0 hz1 _ _ _ _ L rfl rfl rfl rfl (by rw [hz2]; omega) (by unfold maxLen; omega) (Nat.zero_le _) ?_))
  intro w3 hown hg3
  have hg4 : (w2.setCell ⟨b, 4, none⟩ (.int .i64 L)).grownBy w3 (some b) := grown_of_none hg3
  have gA : w.grownBy (w2.setCell ⟨b, 4, none⟩ (.int .i64 L)) (some b) := grown_setCell (grown_trans (grown_setCell (grown_trans (World.grownBy_alloc _ _ _) hg) (Or.inl rfl) _) hg2) (Or.inl rfl) _
  have gB : (w.alloc (.cells #[.int .i64 0, .slice none 0 0] 178)).grownBy w3 (some b) := grown_trans (grown_setCell (grown_trans (grown_setCell hg (Or.inl rfl) _) hg2) (Or.inl rfl) _) hg4
  have KB : Hid (w3.heap[b]? = some (rdA s ((p + 2 : Nat) : Int) f R L)) := by
    show _ = _
    rw [hg3.block b (by have := heap_lt HH2.out; simpa [World.setCell] using this) (by intro e; cases e)]
    exact rdA_set4 HH2.out _
  have KG : Hid (w.grownBy w3 (some b)) := grown_trans gA hg4
  have KR : Hid (w3.heap[w.heap.size]? = some (.cells #[.int .i64 0, .slice none 0 0] 178 (0, 0))) := grown_heap gB (heap_alloc_new w _) (by intro e; injection e; omega)
  have KT : Hid (Tab w3) := HTab.out.kept KG.out hb0
  have KW : Hid (Full w3 w2.heap.size 183 (L * 4) (0 * 4) (codeP s (p + 2))) := (Blk.owned hown).full _
  have hng : w.heap.size < w2.heap.size := by have := hg.size; have := hg2.size; simp [World.setCell] at *; omega
  have KT0 : Hid (Tab w) := HTab.out
  clear hown hg3 hg4 gA gB HH HH2 z3 z4 u4 hg hg2 HTab
  generalize w2.heap.size = g at *
  have HFN : Hid (M.fn s p F = M.code s R F L (p + 2) L) := by
    show _ = _
    unfold M.fn; rw [if_pos HT1.out, if_pos HT2.out, HR.out, HL.out]
  have hpp := (M.tk_lt HT2.out).1
  go_wp2_with fail
  go_loopw [36] (fun i wr => ∃ k q : Nat, k ≤ L ∧ q ≤ s.size ∧ i = .int .i64 k ∧ Hid (wr.heap[b]? = some (rdA s q f R L)) ∧ Hid (w.grownBy wr (some b)) ∧ Hid (wr.heap[w.heap.size]? = some (.cells #[.int .i64 0, .slice none 0 0] 178 (0, 0))) ∧ Hid (Tab wr) ∧ Hid (Full wr g 183 (L * 4) (k * 4) (codeP s (p + 2))) ∧ Hid (q = p + 2 + 4 * k) ∧ Hid (M.code s R F L q (L - k) = M.code s R F L (p + 2) L)) (fun i _ => L - (intOf i).toNat)
  case atStart => exact ⟨0, p + 2, by omega, by omega, rfl, KB, KG, KR, KT, KW, rfl, rfl⟩
  case round =>
    obtain ⟨k, q, hk, hq, rfl, rB, rG, rR, rT, rW, rQ, rC⟩ := hrel
    clear KB KG KR KT KW
    by_cases hlt : k < L
    · go_wp2_with fail
      refine (instruction_any b s q R F L f R L _ rB.out HS.out hq hb0 rT.out rfl hf rfl (by omega) h2 q2 h4).mono ?_
      rintro e w4 ⟨⟨a0, a1, a2, a3, rfl, hA⟩, hh, hg4⟩
      have HA : Hid ((M.ins s q R F L).2 = true → a0 = (M.bt s q : Int) ∧ a1 = (M.bt s (q + 1) : Int) ∧ a2 = (M.bt s (q + 2) : Int) ∧ a3 = (M.bt s (q + 3) : Int)) := hA
      clear hA
      have hbg : g ≠ b := by omega
      have hbn : w.heap.size ≠ b := by omega
      have KW4 : Hid (Full w4 g 183 (L * 4) (k * 4) (codeP s (p + 2))) := rW.out.kept hg4 hbg
      have KB4 : Hid (w4.heap[b]? = some (rdA s ((M.ins s q R F L).1 : Nat) f R L)) := hh
      have KG4 : Hid (w.grownBy w4 (some b)) := grown_trans rG.out hg4
      have KR4 : Hid (w4.heap[w.heap.size]? = some (.cells #[.int .i64 0, .slice none 0 0] 178 (0, 0))) := grown_heap hg4 rR.out (by intro e; injection e; omega)
      have KT4 : Hid (Tab w4) := rT.out.kept hg4 hb0
      clear hh hg4 rB rG rR rT rW
      cases hok : (M.ins s q R F L).2
      · have HC : Hid (M.code s R F L (p + 2) L = ((M.ins s q R F L).1, false)) := by
          show _ = _
          rw [← rC.out, show L - k = (L - (k + 1)) + 1 by omega]
          unfold M.code; rw [if_neg (by rw [hok]; simp)]
        clear rC hok
        simp only []
        iterate 13 (first | go_values | go_skip | go_guarded | go_step | go_upon | go_back)
        refine wpList_store_mid rfl 183 (.tmp 46) (.tmp 44) rfl g (k * 4) #[.int .u8 a0, .int .u8 a1, .int .u8 a2, .int .u8 a3] rfl rfl (KW4.out.blk.there _ _ (by simp; omega)) (by kernel_rfl) (by simp [Value.oneCell']) ?_
        have HW5 : ∃ w5, w5 = w4.setCells g (k * 4) #[Value.int .u8 a0, .int .u8 a1, .int .u8 a2, .int .u8 a3].toList := ⟨_, rfl⟩
        obtain ⟨w5, hw5⟩ := HW5
        have KB5 : Hid (w5.heap[b]? = some (rdA s ((M.ins s q R F L).1 : Nat) f R L)) := by show _ = _; rw [hw5, heap_setCells g b (by omega)]; exact KB4.out
        have KG5 : Hid (w.grownBy w5 (some b)) := by show World.grownBy _ _ _; rw [hw5]; exact grown_setCells g _ _ _ _ KG4.out (by omega)
        have KR5 : Hid (w5.heap[w.heap.size]? = some (.cells #[.int .i64 0, .slice none 0 0] 178 (0, 0))) := by show _ = _; rw [hw5, heap_setCells g _ (by omega)]; exact KR4.out
        have KT5 : Hid (Tab w5) := KT0.out.kept KG5.out hb0
        rw [← hw5]
        clear hw5 KB4 KG4 KR4 KW4 KT4
        obtain ⟨hz5, d0, d1, e0, e1⟩ := two_cells KR5.out (grown_refl w5 (some b)) hbn
        go_wp2_with fail
        refine bodyPost_ret (v := .tuple #[.agg #[.int .i64 0, .slice none 0 0], .bool false]) (by simp [results, Tryz.results82, go_sem, *]) rfl ⟨?_, R, L, ?_, ?_⟩
        · rw [HFN.out, HC.out]; exact ⟨_, _, _, _, rfl, fun h => by cases h⟩
        · rw [HFN.out, HC.out]
          repeat (rw [Below.heap_setCell _ _ _ _ (by simp; omega)])
          exact KB5.out
        · repeat (refine grown_setCell ?_ (Or.inr (by simp)) _)
          exact KG5.out
      · have HC : Hid (M.code s R F L (M.ins s q R F L).1 (L - (k + 1)) = M.code s R F L (p + 2) L) := by
          show _ = _
          rw [← rC.out, show L - k = (L - (k + 1)) + 1 by omega]
          conv => rhs; unfold M.code
          rw [if_pos hok]
        have hq2 := (M.ins_le (s := s) (p := q) (r := R) (f := F) (l := L) hq).2
        have HOK : Hid ((M.ins s q R F L).2 = true) := hok
        have KQ : Hid ((M.ins s q R F L).1 = p + 2 + 4 * (k + 1)) := by
          show _ = _
          have := M.ins_yes hok
          have := rQ.out
          omega
        clear rC hok
        simp only []
        iterate 13 (first | go_values | go_skip | go_guarded | go_step | go_upon | go_back)
        refine wpList_store_mid rfl 183 (.tmp 46) (.tmp 44) rfl g (k * 4) #[.int .u8 a0, .int .u8 a1, .int .u8 a2, .int .u8 a3] rfl rfl (KW4.out.blk.there _ _ (by simp; omega)) (by kernel_rfl) (by simp [Value.oneCell']) ?_
        have HW5 : ∃ w5, w5 = w4.setCells g (k * 4) #[Value.int .u8 a0, .int .u8 a1, .int .u8 a2, .int .u8 a3].toList := ⟨_, rfl⟩
        obtain ⟨w5, hw5⟩ := HW5
        have KB5 : Hid (w5.heap[b]? = some (rdA s ((M.ins s q R F L).1 : Nat) f R L)) := by show _ = _; rw [hw5, heap_setCells g b (by omega)]; exact KB4.out
        have KG5 : Hid (w.grownBy w5 (some b)) := by show World.grownBy _ _ _; rw [hw5]; exact grown_setCells g _ _ _ _ KG4.out (by omega)
        have KR5 : Hid (w5.heap[w.heap.size]? = some (.cells #[.int .i64 0, .slice none 0 0] 178 (0, 0))) := by show _ = _; rw [hw5, heap_setCells g _ (by omega)]; exact KR4.out
        have KT5 : Hid (Tab w5) := KT0.out.kept KG5.out hb0
        have KW5 : Hid (Full w5 g 183 (L * 4) ((k + 1) * 4) (codeP s (p + 2))) := by
          show Full _ _ _ _ _ _
          rw [hw5, show (k + 1) * 4 = k * 4 + 4 by omega]
          obtain ⟨rfl, rfl, rfl, rfl⟩ := HA.out HOK.out
          have hqq := rQ.out
          refine KW4.out.sets4 (by omega) _ _ _ _ ?_ ?_ ?_ ?_ <;> (unfold codeP; rw [hqq]; congr 3; omega)
        rw [← hw5]
        clear hw5 KB4 KG4 KR4 KW4 KT4 HA HOK rQ
        generalize (M.ins s q R F L).1 = q' at *
        go_wp2_with fail
        go_roundw
        case rel => exact ⟨k + 1, q', by omega, hq2, by go_num, KB5, KG5, KR5, KT5, KW5, KQ, HC⟩
        case measure => simp [intOf]; omega
    · obtain rfl : k = L := by omega
      have HC : Hid (M.code s R F k (p + 2) k = (q, true)) := by
        show _ = _
        rw [← rC.out, Nat.sub_self]; rfl
      clear rC
      obtain ⟨hz5, d0, d1, e0, e1⟩ := two_cells rR.out (grown_refl wr (some b)) (by omega)
      obtain ⟨_, _, _, x3, _⟩ := rdA_cells rB.out
      go_wp2_with fail
      refine bodyPost_ret (v := .tuple #[.agg #[.int .i64 R, .slice (some ⟨g, 0, none⟩) k k], .bool true]) (by simp [results, Tryz.results82, go_sem, *]) rfl ⟨?_, R, k, ?_, ?_⟩
      · rw [HFN.out, HC.out]
        refine ⟨_, _, _, _, rfl, fun _ => ⟨by rw [HR.out], by rw [HL.out], rfl, g, by omega, rfl, rW.out.block ?_⟩⟩
        repeat (rw [Below.heap_setCell _ _ _ _ (by simp; omega)])
      · rw [HFN.out, HC.out]
        repeat (rw [Below.heap_setCell _ _ _ _ (by simp; omega)])
        exact rB.out
      · repeat (refine grown_setCell ?_ (Or.inr (by simp)) _)
        exact rG.out
set_option maxHeartbeats 400000 in
theorem function_no1 (b : Nat) (s : ByteArray) (p : Nat) (f r l : Int) (w : World) (h : w.heap[b]? = some (rdA s p f r l)) (hp : p ≤ s.size) (ht1 : M.tk s p 2 8 = false) :
    Calls Tryz.prog 82 #[.pointer (some ⟨b, 0, none⟩)] w fun e w' => Func2 s p w w' e false ∧ ∃ r' l', w'.heap[b]? = some (rdA s p f r' l') ∧ w.grownBy w' (some b) := by
  have hb := heap_lt h
  have H : Hid (w.heap[b]? = some (rdA s p f r l)) := h
  clear h
  go_enter Tryz.func82, Tryz.ntmps82
  go_wp2_with fail
  refine (take_bad b s p 2 8 f r l _ _ _ (rdA_alloc H.out _) hp rfl rfl ht1).mono ?_
  rintro e w1 ⟨rfl, hh, hg⟩
  have HH : Hid (w1.heap[b]? = some (rdA s p f r l)) := hh
  obtain ⟨_, _, _, x3, _⟩ := rdA_cells hh
  obtain ⟨_, _, y3, y4⟩ := rdA_frozen hh
  obtain ⟨hz5, d0, d1, e0, e1⟩ := two_cells (heap_alloc_new w (.cells #[.int .i64 0, .slice none 0 0] 178)) hg (by omega)
  clear hh
  go_wp2_with fail
  refine bodyPost_ret (v := .tuple #[.agg #[.int .i64 0, .slice none 0 0], .bool false]) (by simp [results, Tryz.results82, go_sem, *]) rfl ⟨⟨_, _, _, _, rfl, fun h => by cases h⟩, 0, l, ?_, ?_⟩
  · repeat (rw [Below.heap_setCell _ _ _ _ (by simp; omega)])
    exact rdA_set3 HH.out _
  · repeat (refine grown_setCell ?_ (by first | exact Or.inl rfl | exact Or.inr (by simp)) _)
    exact grown_trans (World.grownBy_alloc _ _ _) hg

set_option maxHeartbeats 400000 in
theorem function_no2 (b : Nat) (s : ByteArray) (p : Nat) (f r l : Int) (w : World) (h : w.heap[b]? = some (rdA s p f r l)) (hs : s.size ≤ maxLen) (ht1 : M.tk s p 2 8 = true) (ht2 : M.tk s (p + 1) 1 200 = false) :
    Calls Tryz.prog 82 #[.pointer (some ⟨b, 0, none⟩)] w fun e w' => Func2 s p w w' e false ∧ ∃ r' l', w'.heap[b]? = some (rdA s ((p + 1 : Nat) : Int) f r' l') ∧ w.grownBy w' (some b) := by
  have hb := heap_lt h
  have H : Hid (w.heap[b]? = some (rdA s p f r l)) := h
  have HS : Hid (s.size ≤ maxLen) := hs
  have HT1 : Hid (M.tk s p 2 8 = true) := ht1
  have HT2 : Hid (M.tk s (p + 1) 1 200 = false) := ht2
  obtain ⟨hp, q1, q2⟩ := M.tk_lt ht1
  clear h hs ht1 ht2
  go_enter Tryz.func82, Tryz.ntmps82
  go_wp2_with fail
  refine (take_good b s p 2 8 f r l _ _ _ (rdA_alloc H.out _) HS.out rfl rfl HT1.out).mono ?_
  rintro e w1 ⟨rfl, hh, hg⟩
  have HH : Hid (w1.heap[b]? = some (rdA s ((p + 1 : Nat) : Int) f r l)) := hh
  obtain ⟨_, _, _, x3, _⟩ := rdA_cells hh
  obtain ⟨_, _, y3, y4⟩ := rdA_frozen hh
  clear hh
  generalize hR : M.bt s p = R at *
  have HR : Hid (M.bt s p = R) := hR
  clear hR
  go_wp2_with fail
  refine (take_bad b s (p + 1) 1 200 f R l _ _ _ (rdA_set3 HH.out _) (by omega) rfl rfl HT2.out).mono ?_
  rintro e w2 ⟨rfl, hh, hg2⟩
  have HH2 : Hid (w2.heap[b]? = some (rdA s ((p + 1 : Nat) : Int) f R l)) := hh
  obtain ⟨_, _, _, _, z4⟩ := rdA_cells hh
  obtain ⟨_, _, _, u4⟩ := rdA_frozen hh
  have gB : (w.alloc (.cells #[.int .i64 0, .slice none 0 0] 178)).grownBy w2 (some b) := grown_trans (grown_setCell hg (Or.inl rfl) _) hg2
  obtain ⟨hz5, d0, d1, e0, e1⟩ := two_cells (heap_alloc_new w (.cells #[.int .i64 0, .slice none 0 0] 178)) gB (by omega)
  clear hh x3 y3 y4
  go_wp2_with fail
  refine bodyPost_ret (v := .tuple #[.agg #[.int .i64 0, .slice none 0 0], .bool false]) (by simp [results, Tryz.results82, go_sem, *]) rfl ⟨⟨_, _, _, _, rfl, fun h => by cases h⟩, R, 0, ?_, ?_⟩
  · repeat (rw [Below.heap_setCell _ _ _ _ (by simp; omega)])
    exact rdA_set4 HH2.out _
  · repeat (refine grown_setCell ?_ (by first | exact Or.inl rfl | exact Or.inr (by simp)) _)
    exact grown_trans (World.grownBy_alloc _ _ _) gB

/-- A function: just as 'fn' says. -/
theorem rfunction_any (b : Nat) (s : ByteArray) (p F : Nat) (f r l : Int) (w : World) (h : w.heap[b]? = some (rdA s p f r l)) (hs : s.size ≤ maxLen) (hp : p ≤ s.size) (hb0 : b ≠ 0) (hT : Tab w) (hf : Hid (f = F)) (h2 : 1 ≤ F) (h4 : F ≤ 8) :
    Calls Tryz.prog 82 #[.pointer (some ⟨b, 0, none⟩)] w fun e w' => Func2 s p w w' e (M.fn s p F).2 ∧ ∃ r' l', w'.heap[b]? = some (rdA s ((M.fn s p F).1 : Nat) f r' l') ∧ w.grownBy w' (some b) := by
  by_cases ht1 : M.tk s p 2 8 = true
  · by_cases ht2 : M.tk s (p + 1) 1 200 = true
    · exact function_try b s p F f r l w h hs hb0 hT hf h2 h4 ht1 ht2
    · have e : M.fn s p F = (p + 1, false) := by unfold M.fn; rw [if_pos ht1, if_neg ht2]
      rw [e]
      exact function_no2 b s p f r l w h hs ht1 (by simpa using ht2)
  · have e : M.fn s p F = (p, false) := by unfold M.fn; rw [if_neg ht1]
    rw [e]
    exact function_no1 b s p f r l w h hp (by simpa using ht1)

end Go.Proofs.YtnjiinbhbjpfkaaGreatDoor

/-
  The program's 'program' answers as the plain function 'prg' says, where the variable of the operands' letters holds its table.
-/
namespace Go.Proofs.YtnjiinbhbjpfkaaGreatDoor
open Go.RowKit

/-- The cells of a row of functions, whose instructions lie in the blocks gs. -/
def fnsP (s : ByteArray) (gs : Nat → Nat) : Nat → Value := fun j =>
  if j % 2 = 0 then .int .i64 (M.bt s (M.pos s (j / 2)) : Int) else .slice (some ⟨gs (j / 2), 0, none⟩) (M.bt s (M.pos s (j / 2) + 1)) (M.bt s (M.pos s (j / 2) + 1))
/-- The functions of a text lie in block g, from the first on; all of it at z or behind. -/
def Fns (w : World) (s : ByteArray) (z g n m : Nat) : Prop := z ≤ g ∧ ∃ gs : Nat → Nat, Full w g 178 (n * 2) (m * 2) (fnsP s gs) ∧
  ∀ k, k < m → g < gs k ∧ 2 ≤ M.bt s (M.pos s k) ∧ M.bt s (M.pos s k) ≤ 8 ∧ 1 ≤ M.bt s (M.pos s k + 1) ∧ M.bt s (M.pos s k + 1) ≤ 200 ∧ Full w (gs k) 183 (M.bt s (M.pos s k + 1) * 4) (M.bt s (M.pos s k + 1) * 4) (codeP s (M.pos s k + 2))
theorem Fns.below {w w' : World} {s : ByteArray} {z g n m : Nat} (h : Fns w s z g n m) (hb : ∀ k, z ≤ k → k < w.heap.size → w'.heap[k]? = w.heap[k]?) : Fns w' s z g n m := by
  obtain ⟨h1, gs, h2, h3⟩ := h
  refine ⟨h1, gs, h2.block (hb g h1 h2.lt), fun k hk => ?_⟩
  obtain ⟨a, b, c, d, e, f⟩ := h3 k hk
  exact ⟨a, b, c, d, e, f.block (hb _ (by omega) f.lt)⟩
theorem Fns.kept {w w' : World} {s : ByteArray} {z g n m b : Nat} (h : Fns w s z g n m) (hg : w.grownBy w' (some b)) (hb : b < z) : Fns w' s z g n m :=
  h.below (fun k hk hk2 => hg.block k hk2 (by intro e; injection e; omega))
theorem Fns.start {w : World} {s : ByteArray} {z g n : Nat} (hz : z ≤ g) (h : Blk w g 178 (n * 2)) : Fns w s z g n 0 :=
  ⟨hz, fun _ => 0, h.full _, fun k hk => absurd hk (Nat.not_lt_zero k)⟩
theorem Fns.blk {w : World} {s : ByteArray} {z g n m : Nat} (h : Fns w s z g n m) : Blk w g 178 (n * 2) := by obtain ⟨_, _, h, _⟩ := h; exact h.blk
/-- One function more. -/
theorem Fns.more {w : World} {s : ByteArray} {z g n m g' : Nat} (h : Fns w s z g n m) (hm : m < n) (hg : g < g')
    (h1 : 2 ≤ M.bt s (M.pos s m) ∧ M.bt s (M.pos s m) ≤ 8 ∧ 1 ≤ M.bt s (M.pos s m + 1) ∧ M.bt s (M.pos s m + 1) ≤ 200)
    (hf : Full w g' 183 (M.bt s (M.pos s m + 1) * 4) (M.bt s (M.pos s m + 1) * 4) (codeP s (M.pos s m + 2))) :
    Fns (w.setCells g (m * 2) [.int .i64 (M.bt s (M.pos s m) : Int), .slice (some ⟨g', 0, none⟩) (M.bt s (M.pos s m + 1)) (M.bt s (M.pos s m + 1))]) s z g n (m + 1) := by
  obtain ⟨h0, gs, h2, h3⟩ := h
  have hfull : Full w g 178 (n * 2) (m * 2) (fnsP s (fun j => if j = m then g' else gs j)) := by
    obtain ⟨cur, c1, c2, c3⟩ := h2
    refine ⟨cur, c1, c2, fun j hj => ?_⟩
    rw [c3 j hj]
    unfold fnsP
    have : j / 2 ≠ m := by omega
    simp only [if_neg this]
  refine ⟨h0, fun j => if j = m then g' else gs j, ?_, fun k hk => ?_⟩
  · rw [show (m + 1) * 2 = m * 2 + 2 by omega]
    refine hfull.sets2 (by omega) _ _ ?_ ?_
    · unfold fnsP; rw [if_pos (by omega), show m * 2 / 2 = m by omega]
    · unfold fnsP; rw [if_neg (by omega), show (m * 2 + 1) / 2 = m by omega]; simp
  · by_cases e : k = m
    · subst e
      simp only [if_pos]
      refine ⟨hg, h1.1, h1.2.1, h1.2.2.1, h1.2.2.2, hf.block (heap_setCells g g' (by omega) _ _ _)⟩
    · simp only [if_neg e]
      obtain ⟨a, b, c, d, e', f⟩ := h3 k (by omega)
      exact ⟨a, b, c, d, e', f.block (heap_setCells g _ (by omega) _ _ _)⟩
def Prog2 (s : ByteArray) (w w' : World) (e : Ending) (ok : Bool) : Prop := ∃ (ad : Option Addr) (n c : Nat), e = .returned (.tuple #[.slice ad n c, .bool ok]) ∧
  (ok = true → n = M.bt s 0 ∧ c = n ∧ 1 ≤ n ∧ n ≤ 8 ∧ ∃ g, ad = some ⟨g, 0, none⟩ ∧ Fns w' s w.heap.size g n n)
theorem Tryz.info178 : (Tryz.prog.info? 178).map (fun i => (i.zero, i.size, i.bytes)) = some (some (.agg #[.int .i64 0, .slice none 0 0]), 2, 32) := by kernel_rfl

set_option maxHeartbeats 400000 in
theorem program_no (b : Nat) (s : ByteArray) (f r l : Int) (w : World) (h : w.heap[b]? = some (rdA s (0 : Nat) f r l)) (ht : M.tk s 0 1 8 = false) :
    Calls Tryz.prog 56 #[.pointer (some ⟨b, 0, none⟩)] w fun e w' => Prog2 s w w' e false ∧ ∃ f' r' l', w'.heap[b]? = some (rdA s (0 : Nat) f' r' l') ∧ w.grownBy w' (some b) := by
  go_enter Tryz.func56, Tryz.ntmps56
  have H : Hid (w.heap[b]? = some (rdA s (0 : Nat) f r l)) := h
  clear h
  go_wp2_with fail
  refine (take_bad b s 0 1 8 f r l _ _ _ H.out (by omega) rfl rfl ht).mono ?_
  rintro e w1 ⟨rfl, hh, hg⟩
  have HH : Hid (w1.heap[b]? = some (rdA s (0 : Nat) f r l)) := hh
  clear hh
  go_wp2_with fail
  go_ret2
  exact ⟨⟨_, _, _, rfl, fun h => by cases h⟩, f, r, l, HH.out, hg⟩

set_option maxRecDepth 100000 in
set_option maxHeartbeats 400000 in
theorem program_try (b : Nat) (s : ByteArray) (f r l : Int) (w : World) (h : w.heap[b]? = some (rdA s (0 : Nat) f r l)) (hs : s.size ≤ maxLen) (hb0 : b ≠ 0) (hT : Tab w) (ht : M.tk s 0 1 8 = true) :
    Calls Tryz.prog 56 #[.pointer (some ⟨b, 0, none⟩)] w fun e w' => Prog2 s w w' e (M.prg s).2 ∧ ∃ f' r' l', w'.heap[b]? = some (rdA s ((M.prg s).1 : Nat) f' r' l') ∧ w.grownBy w' (some b) := by
  have hb := heap_lt h
  have hs' : s.size ≤ 9223372036854775807 := by unfold maxLen at hs; omega
  have H : Hid (w.heap[b]? = some (rdA s (0 : Nat) f r l)) := h
  have HS : Hid (s.size ≤ maxLen) := hs
  have HT : Hid (M.tk s 0 1 8 = true) := ht
  have KT0 : Hid (Tab w) := hT
  obtain ⟨hp, q1, q2⟩ := M.tk_lt ht
  clear h hs ht hT
  go_enter Tryz.func56, Tryz.ntmps56
  go_wp2_with fail
  refine (take_good b s 0 1 8 f r l _ _ _ H.out HS.out rfl rfl HT.out).mono ?_
  rintro e w1 ⟨rfl, hh, hg⟩
  have HH : Hid (w1.heap[b]? = some (rdA s ((0 + 1 : Nat) : Int) f r l)) := hh
  obtain ⟨_, _, x2, _, _⟩ := rdA_cells hh
  obtain ⟨_, y2, _, _⟩ := rdA_frozen hh
  clear hh
  generalize hF : M.bt s 0 = F at *
  have HF : Hid (M.bt s 0 = F) := hF
  clear hF
  obtain ⟨i0, hi, hz0, hz1, hz2⟩ := info_parts Tryz.info178
  go_wp2_with (at_make; refine wpList_make_full _ rfl _ _ 92 rfl 0 178 i0 _ 2 Tryz.underlying92 hi hz0 hz1 _ _ _ _ F rfl rfl rfl rfl (by rw [hz2]; omega) (by unfold maxLen; omega) (Nat.zero_le _) ?_)
  intro w3 hown hg3
  have hg4 : (w1.setCell ⟨b, 2, none⟩ (.int .i64 F)).grownBy w3 (some b) := grown_of_none hg3
  have gA : w.grownBy (w1.setCell ⟨b, 2, none⟩ (.int .i64 F)) (some b) := grown_setCell hg (Or.inl rfl) _
  have KB : Hid (w3.heap[b]? = some (rdA s ((1 : Nat) : Int) F r l)) := by
    show _ = _
    rw [hg3.block b (by have := heap_lt HH.out; simpa [World.setCell] using this) (by intro e; cases e)]
    exact rdA_set2 HH.out _
  have KG : Hid (w.grownBy w3 (some b)) := grown_trans gA hg4
  have hng : w.heap.size ≤ w1.heap.size := hg.size
  have KW : Hid (Fns w3 s w.heap.size w1.heap.size F 0) := Fns.start hng (Blk.owned hown)
  clear hown hg3 hg4 gA HH x2 y2 hg
  generalize w1.heap.size = g at *
  have HFN : Hid (M.prg s = ((M.fns s F 1 F).1, (M.fns s F 1 F).2 && decide ((M.fns s F 1 F).1 = s.size))) := by
    show _ = _
    unfold M.prg; rw [if_pos HT.out, HF.out]
  have hbg : g ≠ b := by omega
  go_wp2_with fail
  go_loopw [23] (fun i wr => ∃ (k q : Nat) (r' l' : Int), k ≤ F ∧ q ≤ s.size ∧ i = .int .i64 k ∧ Hid (wr.heap[b]? = some (rdA s q F r' l')) ∧ Hid (w.grownBy wr (some b)) ∧ Hid (Fns wr s w.heap.size g F k) ∧ Hid (q = M.pos s k) ∧ Hid (M.fns s F q (F - k) = M.fns s F 1 F)) (fun i _ => F - (intOf i).toNat)
  case atStart => exact ⟨0, 1, r, l, by omega, by omega, rfl, KB, KG, KW, rfl, rfl⟩
  case round =>
    obtain ⟨k, q, r', l', hk, hq, rfl, rB, rG, rW, rQ, rC⟩ := hrel
    clear KB KG KW
    by_cases hlt : k < F
    · go_wp2_with fail
      refine (rfunction_any b s q F F r' l' _ rB.out HS.out hq hb0 (KT0.out.kept rG.out hb0) rfl q1 q2).mono ?_
      rintro e w4 ⟨⟨x, ad, n, c, rfl, hA⟩, r4, l4, hh, hg4⟩
      have hgr : g < wr.heap.size := rW.out.blk.lt
      have HA : Hid ((M.fn s q F).2 = true → x = (M.bt s q : Int) ∧ n = M.bt s (q + 1) ∧ c = n ∧ ∃ g', g < g' ∧ ad = some ⟨g', 0, none⟩ ∧ Full w4 g' 183 (n * 4) (n * 4) (codeP s (q + 2))) := fun h => by
        obtain ⟨a1, a2, a3, g', a4, a5, a6⟩ := hA h
        exact ⟨a1, a2, a3, g', by omega, a5, a6⟩
      clear hA hgr
      have KW4 : Hid (Fns w4 s w.heap.size g F k) := rW.out.kept hg4 hb
      have KB4 : Hid (w4.heap[b]? = some (rdA s ((M.fn s q F).1 : Nat) F r4 l4)) := hh
      have KG4 : Hid (w.grownBy w4 (some b)) := grown_trans rG.out hg4
      clear hh hg4 rB rG rW
      cases hok : (M.fn s q F).2
      · have HC : Hid (M.fns s F 1 F = ((M.fn s q F).1, false)) := by
          show _ = _
          rw [← rC.out, show F - k = (F - (k + 1)) + 1 by omega]
          unfold M.fns; rw [if_neg (by rw [hok]; simp)]
        clear rC hok
        simp only []
        iterate 13 (first | go_values | go_skip | go_guarded | go_step | go_upon | go_back)
        refine wpList_store_mid rfl 178 (.tmp 33) (.tmp 31) rfl g (k * 2) #[.int .i64 x, .slice ad n c] rfl rfl (KW4.out.blk.there _ _ (by simp; omega)) (by kernel_rfl) (by simp [Value.oneCell']) ?_
        have HW5 : ∃ w5, w5 = w4.setCells g (k * 2) #[Value.int .i64 x, .slice ad n c].toList := ⟨_, rfl⟩
        obtain ⟨w5, hw5⟩ := HW5
        have KB5 : Hid (w5.heap[b]? = some (rdA s ((M.fn s q F).1 : Nat) F r4 l4)) := by show _ = _; rw [hw5, heap_setCells g b (by omega)]; exact KB4.out
        have KG5 : Hid (w.grownBy w5 (some b)) := by show World.grownBy _ _ _; rw [hw5]; exact grown_setCells g _ _ _ _ KG4.out (by omega)
        rw [← hw5]
        clear hw5 KB4 KG4 KW4
        go_wp2_with fail
        go_ret2
        refine ⟨?_, F, r4, l4, ?_, KG5.out⟩
        · rw [HFN.out, HC.out]; exact ⟨_, _, _, rfl, fun h => by cases h⟩
        · rw [HFN.out, HC.out]; exact KB5.out
      · have HC : Hid (M.fns s F (M.fn s q F).1 (F - (k + 1)) = M.fns s F 1 F) := by
          show _ = _
          rw [← rC.out, show F - k = (F - (k + 1)) + 1 by omega]
          conv => rhs; unfold M.fns
          rw [if_pos hok]
        have hq2 := (M.fn_le (s := s) (p := q) (f := F) hq).2
        have HOK : Hid ((M.fn s q F).2 = true) := hok
        have KQ : Hid ((M.fn s q F).1 = M.pos s (k + 1)) := by
          show _ = _
          rw [(M.fn_yes hok).1, rQ.out, M.pos]
        clear rC hok
        simp only []
        iterate 13 (first | go_values | go_skip | go_guarded | go_step | go_upon | go_back)
        refine wpList_store_mid rfl 178 (.tmp 33) (.tmp 31) rfl g (k * 2) #[.int .i64 x, .slice ad n c] rfl rfl (KW4.out.blk.there _ _ (by simp; omega)) (by kernel_rfl) (by simp [Value.oneCell']) ?_
        have HW5 : ∃ w5, w5 = w4.setCells g (k * 2) #[Value.int .i64 x, .slice ad n c].toList := ⟨_, rfl⟩
        obtain ⟨w5, hw5⟩ := HW5
        have KB5 : Hid (w5.heap[b]? = some (rdA s ((M.fn s q F).1 : Nat) F r4 l4)) := by show _ = _; rw [hw5, heap_setCells g b (by omega)]; exact KB4.out
        have KG5 : Hid (w.grownBy w5 (some b)) := by show World.grownBy _ _ _; rw [hw5]; exact grown_setCells g _ _ _ _ KG4.out (by omega)
        have KW5 : Hid (Fns w5 s w.heap.size g F (k + 1)) := by
          show Fns _ _ _ _ _ _
          obtain ⟨a1, a2, a3, g', a4, a5, a6⟩ := HA.out HOK.out
          have hqq := rQ.out
          have hy := M.fn_yes HOK.out
          rw [hqq] at a1 a2 a6 hy
          subst a1 a3 a5
          rw [a2] at a6
          rw [hw5, a2]
          exact KW4.out.more hlt a4 hy.2 a6
        rw [← hw5]
        clear hw5 KB4 KG4 KW4 HA HOK rQ
        generalize (M.fn s q F).1 = q' at *
        go_wp2_with fail
        go_roundw
        case rel => exact ⟨k + 1, q', r4, l4, by omega, hq2, by go_num, KB5, KG5, KW5, KQ, HC⟩
        case measure => simp [intOf]; omega
    · obtain rfl : k = F := by omega
      have HC : Hid (M.fns s k 1 k = (q, true)) := by
        show _ = _
        rw [← rC.out, Nat.sub_self]; rfl
      clear rC
      obtain ⟨x0, x1, _, _, _⟩ := rdA_cells rB.out
      by_cases he : q = s.size
      · have hb1 : ((q : Int) == (s.size : Int)) = true := by simp; omega
        have HE : Hid (q = s.size) := he
        clear he
        go_wp2_with fail
        go_quiet (fail)
        go_wp2_with fail
        go_ret2
        refine ⟨?_, k, r', l', ?_, grown_drewN rG.out _⟩
        · rw [HFN.out, HC.out, HE.out]; simp; exact ⟨_, _, _, rfl, fun _ => ⟨by rw [HF.out], rfl, q1, q2, g, rfl, rW.out.below (fun _ _ _ => rfl)⟩⟩
        · rw [HFN.out, HC.out]; exact rB.out
      · have hb1 : ((q : Int) == (s.size : Int)) = false := by simp; omega
        go_wp2_with fail
        go_quiet (fail)
        go_wp2_with fail
        go_ret2
        refine ⟨?_, k, r', l', ?_, grown_drewN rG.out _⟩
        · rw [HFN.out, HC.out]; simp [he]; exact ⟨_, _, _, rfl, fun h => by cases h⟩
        · rw [HFN.out, HC.out]; exact rB.out

/-- The whole text. -/
theorem program_any (b : Nat) (s : ByteArray) (f r l : Int) (w : World) (h : w.heap[b]? = some (rdA s (0 : Nat) f r l)) (hs : s.size ≤ maxLen) (hb0 : b ≠ 0) (hT : Tab w) :
    Calls Tryz.prog 56 #[.pointer (some ⟨b, 0, none⟩)] w fun e w' => Prog2 s w w' e (M.prg s).2 ∧ ∃ f' r' l', w'.heap[b]? = some (rdA s ((M.prg s).1 : Nat) f' r' l') ∧ w.grownBy w' (some b) := by
  by_cases ht : M.tk s 0 1 8 = true
  · exact program_try b s f r l w h hs hb0 hT ht
  · have e : M.prg s = (0, false) := by unfold M.prg; rw [if_neg ht]
    rw [e]
    exact program_no b s f r l w h (by simpa using ht)

end Go.Proofs.YtnjiinbhbjpfkaaGreatDoor
