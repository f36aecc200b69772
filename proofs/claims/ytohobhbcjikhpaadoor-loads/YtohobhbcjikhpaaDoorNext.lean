/-
  The document's 'next' gives the byte and goes on, if nothing was wrong and the byte lies within the bounds, and else marks the reader: for every reader whose place is within its text.
-/
import Derived.Test.YtohobhbcjikhpaaDoorBase
namespace Go.Proofs.YtohobhbcjikhpaaDoor
open Go.RowKit

set_option maxHeartbeats 400000 in
theorem next_was (b : Nat) (s : ByteArray) (p lo hi : Int) (w : World) (h : w.heap[b]? = some (rdB s p true)) :
    Calls Tryd.prog 21 #[.pointer (some ⟨b, 0, none⟩), .int .i64 lo, .int .i64 hi] w fun e w' => e = .returned (.int .i64 lo) ∧ ∃ n, w' = (w.drewN n).setCell ⟨b, 2, none⟩ (.bool true) := by
  obtain ⟨c0, c1, c2⟩ := rdB_cells h
  obtain ⟨f1, f2⟩ := rdB_frozen h
  clear h
  go_enter Tryd.func21, Tryd.ntmps21
  go_wp2
  go_quiet (fail)
  go_wp2
  go_ret
  exact ⟨rfl, _, rfl⟩

set_option maxHeartbeats 400000 in
theorem next_end (b : Nat) (s : ByteArray) (lo hi : Int) (w : World) (h : w.heap[b]? = some (rdB s s.size false)) :
    Calls Tryd.prog 21 #[.pointer (some ⟨b, 0, none⟩), .int .i64 lo, .int .i64 hi] w fun e w' => e = .returned (.int .i64 lo) ∧ ∃ n, w' = (w.drewN n).setCell ⟨b, 2, none⟩ (.bool true) := by
  obtain ⟨c0, c1, c2⟩ := rdB_cells h
  obtain ⟨f1, f2⟩ := rdB_frozen h
  clear h
  go_enter Tryd.func21, Tryd.ntmps21
  go_wp2
  go_quiet (fail)
  go_wp2
  go_ret
  exact ⟨rfl, _, rfl⟩

set_option maxHeartbeats 400000 in
theorem next_low (b : Nat) (s : ByteArray) (p : Nat) (lo hi : Int) (w : World) (h : w.heap[b]? = some (rdB s p false)) (hp : p < s.size) (hx : (s[p].toNat : Int) < lo) :
    Calls Tryd.prog 21 #[.pointer (some ⟨b, 0, none⟩), .int .i64 lo, .int .i64 hi] w fun e w' => e = .returned (.int .i64 lo) ∧ ∃ n, w' = (w.drewN n).setCell ⟨b, 2, none⟩ (.bool true) := by
  obtain ⟨c0, c1, c2⟩ := rdB_cells h
  obtain ⟨f1, f2⟩ := rdB_frozen h
  have hb8 : s[p].toNat < 256 := UInt8.toNat_lt _
  have hw2 : IntKind.i64.wrap (s[p].toNat : Int) = (s[p].toNat : Int) := by rw [IntWalk.i64_left, IntWalk.wrap64_in _ (by omega)]
  have g1 : decide (s.size ≤ p) = false := by simp; omega
  have g2 : decide ((s[p].toNat : Int) < lo) = true := by simpa using hx
  clear h
  go_enter Tryd.func21, Tryd.ntmps21
  go_wp2
  go_quiet (fail)
  go_wp2
  go_ret
  exact ⟨rfl, _, rfl⟩

set_option maxHeartbeats 400000 in
theorem next_high (b : Nat) (s : ByteArray) (p : Nat) (lo hi : Int) (w : World) (h : w.heap[b]? = some (rdB s p false)) (hp : p < s.size) (hl : lo ≤ (s[p].toNat : Int)) (hx : hi < (s[p].toNat : Int)) :
    Calls Tryd.prog 21 #[.pointer (some ⟨b, 0, none⟩), .int .i64 lo, .int .i64 hi] w fun e w' => e = .returned (.int .i64 lo) ∧ ∃ n, w' = (w.drewN n).setCell ⟨b, 2, none⟩ (.bool true) := by
  obtain ⟨c0, c1, c2⟩ := rdB_cells h
  obtain ⟨f1, f2⟩ := rdB_frozen h
  have hb8 : s[p].toNat < 256 := UInt8.toNat_lt _
  have hw2 : IntKind.i64.wrap (s[p].toNat : Int) = (s[p].toNat : Int) := by rw [IntWalk.i64_left, IntWalk.wrap64_in _ (by omega)]
  have g1 : decide (s.size ≤ p) = false := by simp; omega
  have g2 : decide ((s[p].toNat : Int) < lo) = false := by simpa using hl
  have g3 : decide (hi < (s[p].toNat : Int)) = true := by simpa using hx
  clear h
  go_enter Tryd.func21, Tryd.ntmps21
  go_wp2
  go_quiet (fail)
  go_wp2
  go_ret
  exact ⟨rfl, _, rfl⟩

set_option maxHeartbeats 400000 in
theorem next_yes (b : Nat) (s : ByteArray) (p : Nat) (lo hi : Int) (w : World) (h : w.heap[b]? = some (rdB s p false)) (hs : s.size ≤ 9223372036854775807) (hp : p < s.size) (hl : lo ≤ (s[p].toNat : Int)) (hx : (s[p].toNat : Int) ≤ hi) :
    Calls Tryd.prog 21 #[.pointer (some ⟨b, 0, none⟩), .int .i64 lo, .int .i64 hi] w fun e w' => e = .returned (.int .i64 (s[p].toNat : Int)) ∧ ∃ n m, w' = ((w.drewN n).setCell ⟨b, 1, none⟩ (.int .i64 (p + 1))).drewN m := by
  obtain ⟨c0, c1, c2⟩ := rdB_cells h
  obtain ⟨f1, f2⟩ := rdB_frozen h
  have hb8 : s[p].toNat < 256 := UInt8.toNat_lt _
  have hw2 : IntKind.i64.wrap (s[p].toNat : Int) = (s[p].toNat : Int) := by rw [IntWalk.i64_left, IntWalk.wrap64_in _ (by omega)]
  have g1 : decide (s.size ≤ p) = false := by simp; omega
  have g2 : decide ((s[p].toNat : Int) < lo) = false := by simpa using hl
  have g3 : decide (hi < (s[p].toNat : Int)) = false := by simpa using hx
  have hw1 : IntKind.i64.wrap ((p : Int) + 1 - 1) = (p : Int) := by rw [IntWalk.i64_left, IntWalk.wrap64_in _ (by omega)]; omega
  clear h
  go_enter Tryd.func21, Tryd.ntmps21
  go_wp2
  go_quiet (fail)
  go_wp2
  go_quiet (fail)
  go_wp2
  go_ret
  exact ⟨rfl, _, _, rfl⟩

/-- 'next' where the byte may be. -/
theorem next_good (b : Nat) (s : ByteArray) (p L H : Nat) (lo hi : Int) (w : World) (h : w.heap[b]? = some (rdB s p false)) (hs : s.size ≤ maxLen) (hL : lo = L) (hH : hi = H) (ht : M.tk s p L H = true) :
    Calls Tryd.prog 21 #[.pointer (some ⟨b, 0, none⟩), .int .i64 lo, .int .i64 hi] w fun e w' => e = .returned (.int .i64 (M.bt s p)) ∧ w'.heap[b]? = some (rdB s ((p + 1 : Nat) : Int) false) ∧ w.grownBy w' (some b) := by
  obtain ⟨h1, h2, h3⟩ := M.tk_lt ht
  have e := M.bt_at s p h1
  rw [e] at h2 h3 ⊢
  refine (next_yes b s p lo hi w h (by unfold maxLen at hs; omega) h1 (by omega) (by omega)).mono ?_
  rintro e w' ⟨rfl, n, m, rfl⟩
  exact ⟨rfl, rdB_set1 (w := w.drewN n) h _, grown_drewN (grown_setCell (grown_drewN (grown_refl _ _) _) (Or.inl rfl) _) _⟩

/-- 'next' where it may not, or where something was wrong before. -/
theorem next_bad (b : Nat) (s : ByteArray) (p L H : Nat) (bad : Bool) (lo hi : Int) (w : World) (h : w.heap[b]? = some (rdB s p bad)) (hp : p ≤ s.size) (hL : lo = L) (hH : hi = H) (ht : bad = true ∨ M.tk s p L H = false) :
    Calls Tryd.prog 21 #[.pointer (some ⟨b, 0, none⟩), .int .i64 lo, .int .i64 hi] w fun e w' => e = .returned (.int .i64 lo) ∧ w'.heap[b]? = some (rdB s p true) ∧ w.grownBy w' (some b) := by
  have fin : ∀ n, (((w.drewN n).setCell ⟨b, 2, none⟩ (.bool true)).heap[b]? = some (rdB s p true)) ∧ w.grownBy ((w.drewN n).setCell ⟨b, 2, none⟩ (.bool true)) (some b) := fun n =>
    ⟨rdB_set2 (w := w.drewN n) h _, grown_setCell (grown_drewN (grown_refl _ _) _) (Or.inl rfl) _⟩
  cases bad with
  | true =>
    refine (next_was b s p lo hi w h).mono ?_
    rintro e w' ⟨rfl, n, rfl⟩
    exact ⟨rfl, fin n⟩
  | false =>
    have ht' : M.tk s p L H = false := by simpa using ht
    by_cases h1 : p < s.size
    · have e := M.bt_at s p h1
      by_cases h2 : M.bt s p < L
      · refine (next_low b s p lo hi w h h1 (by rw [← e]; omega)).mono ?_
        rintro e w' ⟨rfl, n, rfl⟩
        exact ⟨rfl, fin n⟩
      · have h3 : H < M.bt s p := by simp [M.tk] at ht'; omega
        refine (next_high b s p lo hi w h h1 (by rw [← e]; omega) (by rw [← e]; omega)).mono ?_
        rintro e w' ⟨rfl, n, rfl⟩
        exact ⟨rfl, fin n⟩
    · obtain rfl : p = s.size := by omega
      refine (next_end b s lo hi w h).mono ?_
      rintro e w' ⟨rfl, n, rfl⟩
      exact ⟨rfl, fin n⟩

end Go.Proofs.YtohobhbcjikhpaaDoor
