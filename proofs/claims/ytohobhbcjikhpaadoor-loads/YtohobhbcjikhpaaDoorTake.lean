/-
  The program's 'take' gives the byte at the reader's place and goes on by one, if the byte lies within the bounds, and else gives nothing and stays: for every reader whose place is within its text.
-/
import Derived.Test.YtohobhbcjikhpaaDoorBase
namespace Go.Proofs.YtohobhbcjikhpaaDoor
open Go.RowKit

set_option maxHeartbeats 400000 in
theorem take_end (b : Nat) (s : ByteArray) (f r l lo hi : Int) (w : World) (h : w.heap[b]? = some (rdA s s.size f r l)) :
    Calls Tryd.prog 24 #[.pointer (some ⟨b, 0, none⟩), .int .i64 lo, .int .i64 hi] w fun e w' => e = .returned (.tuple #[.int .i64 0, .bool false]) ∧ ∃ n, w' = w.drewN n := by
  obtain ⟨c0, c1, _, _, _⟩ := rdA_cells h
  clear h
  go_enter Tryd.func24, Tryd.ntmps24
  go_wp2
  go_quiet (fail)
  go_wp2
  go_ret2
  exact ⟨rfl, _, rfl⟩

set_option maxHeartbeats 400000 in
theorem take_yes (b : Nat) (s : ByteArray) (p : Nat) (f r l lo hi x : Int) (w : World) (h : w.heap[b]? = some (rdA s p f r l)) (hs : s.size ≤ maxLen) (hp : p < s.size) (hx : Hid (x = (s[p].toNat : Int))) (h1 : lo ≤ x) (h2 : x ≤ hi) :
    Calls Tryd.prog 24 #[.pointer (some ⟨b, 0, none⟩), .int .i64 lo, .int .i64 hi] w fun e w' => e = .returned (.tuple #[.int .i64 x, .bool true]) ∧ ∃ n, w' = (w.drewN n).setCell ⟨b, 1, none⟩ (.int .i64 (p + 1)) := by
  unfold maxLen at hs
  obtain ⟨c0, c1, _, _, _⟩ := rdA_cells h
  obtain ⟨f1, _⟩ := rdA_frozen h
  have hpn : ((p : Int) == (s.size : Int)) = false := by simp; omega
  have hb8 : s[p].toNat < 256 := UInt8.toNat_lt _
  rw [hx.out] at h1 h2 ⊢
  clear h hx
  go_enter Tryd.func24, Tryd.ntmps24
  go_wp2
  go_quiet (fail)
  go_wp2
  go_quiet (fail)
  go_wp2
  go_ret2
  exact ⟨rfl, _, rfl⟩

set_option maxHeartbeats 400000 in
theorem take_no (b : Nat) (s : ByteArray) (p : Nat) (f r l lo hi x : Int) (w : World) (h : w.heap[b]? = some (rdA s p f r l)) (hp : p < s.size) (hx : Hid (x = (s[p].toNat : Int))) (h1 : x < lo ∨ hi < x) :
    Calls Tryd.prog 24 #[.pointer (some ⟨b, 0, none⟩), .int .i64 lo, .int .i64 hi] w fun e w' => e = .returned (.tuple #[.int .i64 0, .bool false]) ∧ ∃ n, w' = w.drewN n := by
  obtain ⟨c0, c1, _, _, _⟩ := rdA_cells h
  have hpn : ((p : Int) == (s.size : Int)) = false := by simp; omega
  have hb8 : s[p].toNat < 256 := UInt8.toNat_lt _
  rw [hx.out] at h1
  clear h hx
  by_cases h3 : (s[p].toNat : Int) < lo
  all_goals
    go_enter Tryd.func24, Tryd.ntmps24
    go_wp2
    go_quiet (fail)
    go_wp2
    go_quiet (fail)
    go_wp2
    go_ret2
    exact ⟨rfl, _, rfl⟩

/-- 'take' where the byte may be: it is given, and the reader stands behind it. -/
theorem take_good (b : Nat) (s : ByteArray) (p L H : Nat) (f r l lo hi : Int) (w : World) (h : w.heap[b]? = some (rdA s p f r l)) (hs : s.size ≤ maxLen) (hL : lo = L) (hH : hi = H) (ht : M.tk s p L H = true) :
    Calls Tryd.prog 24 #[.pointer (some ⟨b, 0, none⟩), .int .i64 lo, .int .i64 hi] w fun e w' => e = .returned (.tuple #[.int .i64 (M.bt s p), .bool true]) ∧ w'.heap[b]? = some (rdA s ((p + 1 : Nat) : Int) f r l) ∧ w.grownBy w' (some b) := by
  obtain ⟨h1, h2, h3⟩ := M.tk_lt ht
  have e := M.bt_at s p h1
  refine (take_yes b s p f r l lo hi (M.bt s p) w h hs h1 (by show _ = _; rw [e]) (by omega) (by omega)).mono ?_
  rintro e w' ⟨rfl, n, rfl⟩
  exact ⟨rfl, rdA_set1 (w := w.drewN n) h _, grown_setCell (grown_drewN (grown_refl _ _) _) (Or.inl rfl) _⟩

/-- 'take' where it may not: nothing is given, and the reader stays. -/
theorem take_bad (b : Nat) (s : ByteArray) (p L H : Nat) (f r l lo hi : Int) (w : World) (h : w.heap[b]? = some (rdA s p f r l)) (hp : p ≤ s.size) (hL : lo = L) (hH : hi = H) (ht : M.tk s p L H = false) :
    Calls Tryd.prog 24 #[.pointer (some ⟨b, 0, none⟩), .int .i64 lo, .int .i64 hi] w fun e w' => e = .returned (.tuple #[.int .i64 0, .bool false]) ∧ w'.heap[b]? = some (rdA s p f r l) ∧ w.grownBy w' (some b) := by
  by_cases h1 : p < s.size
  · have e := M.bt_at s p h1
    have h2 : M.bt s p < L ∨ H < M.bt s p := by simp [M.tk] at ht; omega
    refine (take_no b s p f r l lo hi (M.bt s p) w h h1 (by show _ = _; rw [e]) (by omega)).mono ?_
    rintro e w' ⟨rfl, n, rfl⟩
    exact ⟨rfl, h, grown_drewN (grown_refl _ _) _⟩
  · obtain rfl : p = s.size := by omega
    refine (take_end b s f r l lo hi w h).mono ?_
    rintro e w' ⟨rfl, n, rfl⟩
    exact ⟨rfl, h, grown_drewN (grown_refl _ _) _⟩

end Go.Proofs.YtohobhbcjikhpaaDoor
