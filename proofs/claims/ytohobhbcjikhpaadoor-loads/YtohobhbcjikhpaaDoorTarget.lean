/-
  The program's 'target' and 'highest' answer as the plain functions 'tgt' and 'hiOf' say: for every reader whose place is within its text.
-/
import Derived.Test.YtohobhbcjikhpaaDoorBase
namespace Go.Proofs.YtohobhbcjikhpaaDoor
open Go.RowKit

theorem ofInt64 (a : Nat) (ha : a < 65536) : (BitVec.ofInt 64 (a : Int)).toNat = a := by
  rw [BitVec.ofInt_natCast, BitVec.toNat_ofNat]; exact Nat.mod_eq_of_lt (by omega)
theorem or_pair (a b : Nat) (ha : a < 256) (hb : b < 256) : bits .or .i64 ((a : Int) * 256) (b : Int) = 256 * (a : Int) + (b : Int) := by
  have hx : a * 256 ||| b = 256 * a + b := by
    have := Nat.shiftLeft_add_eq_or_of_lt (i := 8) (b := b) (by omega) a
    rw [Nat.shiftLeft_eq, show (2 : Nat) ^ 8 = 256 from rfl] at this
    omega
  have h1 : ((a : Int) * 256) = ((a * 256 : Nat) : Int) := by omega
  rw [h1]
  show IntKind.i64.wrap ((BitVec.ofInt 64 ((a * 256 : Nat) : Int) ||| BitVec.ofInt 64 (b : Int)).toNat : Int) = _
  rw [BitVec.toNat_or, ofInt64 (a * 256) (by omega), ofInt64 b (by omega), hx, IntWalk.i64_left, IntWalk.wrap64_in _ (by omega)]
  omega

set_option maxHeartbeats 400000 in
theorem target_short (b : Nat) (s : ByteArray) (p : Nat) (f r l : Int) (w : World) (h : w.heap[b]? = some (rdA s p f r l)) (_hs : s.size ≤ 9223372036854775807) (hp : p ≤ s.size) (h1 : s.size < p + 2) :
    Calls Tryd.prog 84 #[.pointer (some ⟨b, 0, none⟩)] w fun e w' => e = .returned (.bool false) ∧ ∃ n, w' = (w.drewN n).setCell ⟨b, 1, none⟩ (.int .i64 s.size) := by
  obtain ⟨c0, c1, _, _, _⟩ := rdA_cells h
  obtain ⟨f1, _⟩ := rdA_frozen h
  clear h
  go_enter Tryd.func84, Tryd.ntmps84
  go_wp2
  go_quiet (fail)
  go_wp2
  go_ret
  exact ⟨rfl, _, rfl⟩

set_option maxHeartbeats 400000 in
theorem target_yes (b : Nat) (s : ByteArray) (p : Nat) (f r l : Int) (w : World) (h : w.heap[b]? = some (rdA s p f r l)) (hs : s.size ≤ 9223372036854775807) (h1 : p + 2 ≤ s.size) (h2 : 256 * (s[p].toNat : Int) + (s[p + 1].toNat : Int) ≤ l) :
    Calls Tryd.prog 84 #[.pointer (some ⟨b, 0, none⟩)] w fun e w' => e = .returned (.bool true) ∧ ∃ n, w' = (w.drewN n).setCell ⟨b, 1, none⟩ (.int .i64 (p + 2)) := by
  obtain ⟨c0, c1, _, _, c4⟩ := rdA_cells h
  obtain ⟨f1, _⟩ := rdA_frozen h
  have hb8 : s[p].toNat < 256 := UInt8.toNat_lt _
  have hb9 : s[p + 1].toNat < 256 := UInt8.toNat_lt _
  have hp : p < s.size := by omega
  have hp1 : p + 1 < s.size := by omega
  have hw1 : IntKind.i64.wrap ((p : Int) + 1) = (p : Int) + 1 := by rw [IntWalk.i64_left, IntWalk.wrap64_in _ (by omega)]
  have hw2 : IntKind.i64.wrap (s[p].toNat : Int) = (s[p].toNat : Int) := by rw [IntWalk.i64_left, IntWalk.wrap64_in _ (by omega)]
  have hw3 : IntKind.i64.wrap ((s[p].toNat : Int) * 256) = (s[p].toNat : Int) * 256 := by rw [IntWalk.i64_left, IntWalk.wrap64_in _ (by omega)]
  have hw4 : IntKind.i64.wrap (s[p + 1].toNat : Int) = (s[p + 1].toNat : Int) := by rw [IntWalk.i64_left, IntWalk.wrap64_in _ (by omega)]
  have hor := or_pair s[p].toNat s[p + 1].toNat hb8 hb9
  have hi1 : ((p : Int) + 1).toNat = p + 1 := by omega
  have hi2 : (p : Int) + 1 < (s.size : Int) := by omega
  have hi3 : (0 : Int) ≤ (p : Int) + 1 := by omega
  clear h
  go_enter Tryd.func84, Tryd.ntmps84
  go_wp2
  go_quiet (fail)
  go_wp2
  go_quiet (fail)
  go_wp2
  go_ret
  exact ⟨rfl, _, rfl⟩

set_option maxHeartbeats 400000 in
theorem target_no (b : Nat) (s : ByteArray) (p : Nat) (f r l : Int) (w : World) (h : w.heap[b]? = some (rdA s p f r l)) (hs : s.size ≤ 9223372036854775807) (h1 : p + 2 ≤ s.size) (h2 : l < 256 * (s[p].toNat : Int) + (s[p + 1].toNat : Int)) :
    Calls Tryd.prog 84 #[.pointer (some ⟨b, 0, none⟩)] w fun e w' => e = .returned (.bool false) ∧ ∃ n, w' = w.drewN n := by
  obtain ⟨c0, c1, _, _, c4⟩ := rdA_cells h
  have hb8 : s[p].toNat < 256 := UInt8.toNat_lt _
  have hb9 : s[p + 1].toNat < 256 := UInt8.toNat_lt _
  have hp : p < s.size := by omega
  have hp1 : p + 1 < s.size := by omega
  have hw1 : IntKind.i64.wrap ((p : Int) + 1) = (p : Int) + 1 := by rw [IntWalk.i64_left, IntWalk.wrap64_in _ (by omega)]
  have hw2 : IntKind.i64.wrap (s[p].toNat : Int) = (s[p].toNat : Int) := by rw [IntWalk.i64_left, IntWalk.wrap64_in _ (by omega)]
  have hw3 : IntKind.i64.wrap ((s[p].toNat : Int) * 256) = (s[p].toNat : Int) * 256 := by rw [IntWalk.i64_left, IntWalk.wrap64_in _ (by omega)]
  have hw4 : IntKind.i64.wrap (s[p + 1].toNat : Int) = (s[p + 1].toNat : Int) := by rw [IntWalk.i64_left, IntWalk.wrap64_in _ (by omega)]
  have hor := or_pair s[p].toNat s[p + 1].toNat hb8 hb9
  have hi1 : ((p : Int) + 1).toNat = p + 1 := by omega
  have hi2 : (p : Int) + 1 < (s.size : Int) := by omega
  have hi3 : (0 : Int) ≤ (p : Int) + 1 := by omega
  clear h
  go_enter Tryd.func84, Tryd.ntmps84
  go_wp2
  go_quiet (fail)
  go_wp2
  go_quiet (fail)
  go_wp2
  go_ret
  exact ⟨rfl, _, World.drewN_drewN _ _ _⟩

/-- A t: just as 'tgt' says. -/
theorem target_any (b : Nat) (s : ByteArray) (p L : Nat) (f r l : Int) (w : World) (h : w.heap[b]? = some (rdA s p f r l)) (hs : s.size ≤ maxLen) (hp : p ≤ s.size) (hl : l = L) :
    Calls Tryd.prog 84 #[.pointer (some ⟨b, 0, none⟩)] w fun e w' => e = .returned (.bool (M.tgt s p L).2) ∧ w'.heap[b]? = some (rdA s ((M.tgt s p L).1 : Nat) f r l) ∧ w.grownBy w' (some b) := by
  have hs' : s.size ≤ 9223372036854775807 := by unfold maxLen at hs; omega
  by_cases h1 : s.size < p + 2
  · have e : M.tgt s p L = (s.size, false) := by unfold M.tgt; rw [if_pos h1]
    rw [e]
    refine (target_short b s p f r l w h hs' hp h1).mono ?_
    rintro e w' ⟨rfl, n, rfl⟩
    exact ⟨rfl, rdA_set1 (w := w.drewN n) h _, grown_setCell (grown_drewN (grown_refl _ _) _) (Or.inl rfl) _⟩
  · have e1 := M.bt_at s p (by omega)
    have e2 := M.bt_at s (p + 1) (by omega)
    by_cases h2 : L < 256 * M.bt s p + M.bt s (p + 1)
    · have e : M.tgt s p L = (p, false) := by unfold M.tgt; rw [if_neg h1, if_pos h2]
      rw [e]
      refine (target_no b s p f r l w h hs' (by omega) (by rw [← e1, ← e2]; omega)).mono ?_
      rintro e w' ⟨rfl, n, rfl⟩
      exact ⟨rfl, h, grown_drewN (grown_refl _ _) _⟩
    · have e : M.tgt s p L = (p + 2, true) := by unfold M.tgt; rw [if_neg h1, if_neg h2]
      rw [e]
      refine (target_yes b s p f r l w h hs' (by omega) (by rw [← e1, ← e2]; omega)).mono ?_
      rintro e w' ⟨rfl, n, rfl⟩
      exact ⟨rfl, rdA_set1 (w := w.drewN n) h _, grown_setCell (grown_drewN (grown_refl _ _) _) (Or.inl rfl) _⟩

set_option maxHeartbeats 400000 in
/-- The greatest byte of an operand of a letter that is no t. -/
theorem highest_any (b : Nat) (s : ByteArray) (k R F : Nat) (p f r l kk : Int) (w : World) (h : w.heap[b]? = some (rdA s p f r l)) (hr : r = R) (hf : f = F) (h1 : 1 ≤ R) (h2 : 1 ≤ F) (h3 : R ≤ 8) (h4 : F ≤ 8) (hk : kk = k) :
    Calls Tryd.prog 85 #[.pointer (some ⟨b, 0, none⟩), .int .u8 kk] w fun e w' => e = .returned (.int .i64 (M.hiOf R F k)) ∧ w' = w := by
  obtain ⟨_, _, c2, c3, _⟩ := rdA_cells h
  clear h
  have hh : (M.hiOf R F k : Int) = if kk = 114 then r - 1 else if kk = 102 then f - 1 else if kk = 115 then 8 else if kk = 107 then 255 else 0 := by
    unfold M.hiOf
    repeat' split
    all_goals omega
  rw [hh]
  clear hh hk
  have b1 : 1 ≤ r := by omega
  have b2 : 1 ≤ f := by omega
  have b3 : r ≤ 8 := by omega
  have b4 : f ≤ 8 := by omega
  clear hr hf h1 h2 h3 h4
  by_cases e1 : kk = 114
  · subst e1
    go_enter Tryd.func85, Tryd.ntmps85
    go_wp2
    go_ret
    exact ⟨rfl, rfl⟩
  · have q1 : (kk == 114) = false := by simpa using e1
    rw [if_neg e1]; clear e1
    by_cases e2 : kk = 102
    · subst e2
      go_enter Tryd.func85, Tryd.ntmps85
      go_wp2
      go_ret
      exact ⟨rfl, rfl⟩
    · have q2 : (kk == 102) = false := by simpa using e2
      rw [if_neg e2]; clear e2
      by_cases e3 : kk = 115
      · subst e3
        go_enter Tryd.func85, Tryd.ntmps85
        go_wp2
        go_ret
        exact ⟨rfl, rfl⟩
      · have q3 : (kk == 115) = false := by simpa using e3
        rw [if_neg e3]; clear e3
        by_cases e4 : kk = 107
        · subst e4
          go_enter Tryd.func85, Tryd.ntmps85
          go_wp2
          go_ret
          exact ⟨rfl, rfl⟩
        · have q4 : (kk == 107) = false := by simpa using e4
          rw [if_neg e4]; clear e4
          go_enter Tryd.func85, Tryd.ntmps85
          go_wp2
          go_ret
          exact ⟨rfl, rfl⟩

end Go.Proofs.YtohobhbcjikhpaaDoor
