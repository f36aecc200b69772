/-
  Loads: for every text and configuration Load gives what the document asks: a machine, or the fault with its place. No condition but the card's own: the table of operands' letters holds what the program's text lays.
-/
import Derived.Test.YtnjiinbhbjpfkaaGreatDoorPartC
import Derived.Test.YtnjiinbhbjpfkaaGreatDoorPartO
import Derived.Deep.RegionLawGrows
import Derived.Test.YtnjiinbhbjpfkaaGreatDoorCards
import Derived.Test.YtnjiinbhbjpfkaaGreatDoorTie
import Derived.ProofKit
import Derived.LaidMore
import Derived.OpenShut
import Derived.Stop.Joined
import Derived.Lib.SmallJoins
/-
  The document's 'next' gives the byte and goes on, if nothing was wrong and the byte lies within the bounds, and else marks the reader: for every reader whose place is within its text.
-/
namespace Go.Proofs.YtnjiinbhbjpfkaaGreatDoor
open Go.RowKit

set_option maxHeartbeats 400000 in
theorem next_was (b : Nat) (s : ByteArray) (p lo hi : Int) (w : World) (h : w.heap[b]? = some (rdB s p true)) :
    Calls Tryz.prog 53 #[.pointer (some ⟨b, 0, none⟩), .int .i64 lo, .int .i64 hi] w fun e w' => e = .returned (.int .i64 lo) ∧ ∃ n, w' = (w.drewN n).setCell ⟨b, 2, none⟩ (.bool true) := by
  obtain ⟨c0, c1, c2⟩ := rdB_cells h
  obtain ⟨f1, f2⟩ := rdB_frozen h
  clear h
  go_enter Tryz.func53, Tryz.ntmps53
  go_wp2
  go_quiet (fail)
  go_wp2
  go_ret
  exact ⟨rfl, _, rfl⟩

set_option maxHeartbeats 400000 in
theorem next_end (b : Nat) (s : ByteArray) (lo hi : Int) (w : World) (h : w.heap[b]? = some (rdB s s.size false)) :
    Calls Tryz.prog 53 #[.pointer (some ⟨b, 0, none⟩), .int .i64 lo, .int .i64 hi] w fun e w' => e = .returned (.int .i64 lo) ∧ ∃ n, w' = (w.drewN n).setCell ⟨b, 2, none⟩ (.bool true) := by
  obtain ⟨c0, c1, c2⟩ := rdB_cells h
  obtain ⟨f1, f2⟩ := rdB_frozen h
  clear h
  go_enter Tryz.func53, Tryz.ntmps53
  go_wp2
  go_quiet (fail)
  go_wp2
  go_ret
  exact ⟨rfl, _, rfl⟩

set_option maxHeartbeats 400000 in
theorem next_low (b : Nat) (s : ByteArray) (p : Nat) (lo hi : Int) (w : World) (h : w.heap[b]? = some (rdB s p false)) (hp : p < s.size) (hx : (s[p].toNat : Int) < lo) :
    Calls Tryz.prog 53 #[.pointer (some ⟨b, 0, none⟩), .int .i64 lo, .int .i64 hi] w fun e w' => e = .returned (.int .i64 lo) ∧ ∃ n, w' = (w.drewN n).setCell ⟨b, 2, none⟩ (.bool true) := by
  obtain ⟨c0, c1, c2⟩ := rdB_cells h
  obtain ⟨f1, f2⟩ := rdB_frozen h
  have hb8 : s[p].toNat < 256 := UInt8.toNat_lt _
  have hw2 : IntKind.i64.wrap (s[p].toNat : Int) = (s[p].toNat : Int) := by rw [IntWalk.i64_left, IntWalk.wrap64_in _ (by omega)]
  have g1 : decide (s.size ≤ p) = false := by simp; omega
  have g2 : decide ((s[p].toNat : Int) < lo) = true := by simpa using hx
  clear h
  go_enter Tryz.func53, Tryz.ntmps53
  go_wp2
  go_quiet (fail)
  go_wp2
  go_ret
  exact ⟨rfl, _, rfl⟩

set_option maxHeartbeats 400000 in
theorem next_high (b : Nat) (s : ByteArray) (p : Nat) (lo hi : Int) (w : World) (h : w.heap[b]? = some (rdB s p false)) (hp : p < s.size) (hl : lo ≤ (s[p].toNat : Int)) (hx : hi < (s[p].toNat : Int)) :
    Calls Tryz.prog 53 #[.pointer (some ⟨b, 0, none⟩), .int .i64 lo, .int .i64 hi] w fun e w' => e = .returned (.int .i64 lo) ∧ ∃ n, w' = (w.drewN n).setCell ⟨b, 2, none⟩ (.bool true) := by
  obtain ⟨c0, c1, c2⟩ := rdB_cells h
  obtain ⟨f1, f2⟩ := rdB_frozen h
  have hb8 : s[p].toNat < 256 := UInt8.toNat_lt _
  have hw2 : IntKind.i64.wrap (s[p].toNat : Int) = (s[p].toNat : Int) := by rw [IntWalk.i64_left, IntWalk.wrap64_in _ (by omega)]
  have g1 : decide (s.size ≤ p) = false := by simp; omega
  have g2 : decide ((s[p].toNat : Int) < lo) = false := by simpa using hl
  have g3 : decide (hi < (s[p].toNat : Int)) = true := by simpa using hx
  clear h
  go_enter Tryz.func53, Tryz.ntmps53
  go_wp2
  go_quiet (fail)
  go_wp2
  go_ret
  exact ⟨rfl, _, rfl⟩

set_option maxHeartbeats 400000 in
theorem next_yes (b : Nat) (s : ByteArray) (p : Nat) (lo hi : Int) (w : World) (h : w.heap[b]? = some (rdB s p false)) (hs : s.size ≤ 9223372036854775807) (hp : p < s.size) (hl : lo ≤ (s[p].toNat : Int)) (hx : (s[p].toNat : Int) ≤ hi) :
    Calls Tryz.prog 53 #[.pointer (some ⟨b, 0, none⟩), .int .i64 lo, .int .i64 hi] w fun e w' => e = .returned (.int .i64 (s[p].toNat : Int)) ∧ ∃ n m, w' = ((w.drewN n).setCell ⟨b, 1, none⟩ (.int .i64 (p + 1))).drewN m := by
  obtain ⟨c0, c1, c2⟩ := rdB_cells h
  obtain ⟨f1, f2⟩ := rdB_frozen h
  have hb8 : s[p].toNat < 256 := UInt8.toNat_lt _
  have hw2 : IntKind.i64.wrap (s[p].toNat : Int) = (s[p].toNat : Int) := by rw [IntWalk.i64_left, IntWalk.wrap64_in _ (by omega)]
  have g1 : decide (s.size ≤ p) = false := by simp; omega
  have g2 : decide ((s[p].toNat : Int) < lo) = false := by simpa using hl
  have g3 : decide (hi < (s[p].toNat : Int)) = false := by simpa using hx
  have hw1 : IntKind.i64.wrap ((p : Int) + 1 - 1) = (p : Int) := by rw [IntWalk.i64_left, IntWalk.wrap64_in _ (by omega)]; omega
  clear h
  go_enter Tryz.func53, Tryz.ntmps53
  go_wp2
  go_quiet (fail)
  go_wp2
  go_quiet (fail)
  go_wp2
  go_ret
  exact ⟨rfl, _, _, rfl⟩

/-- 'next' where the byte may be. -/
theorem next_good (b : Nat) (s : ByteArray) (p L H : Nat) (lo hi : Int) (w : World) (h : w.heap[b]? = some (rdB s p false)) (hs : s.size ≤ maxLen) (hL : lo = L) (hH : hi = H) (ht : M.tk s p L H = true) :
    Calls Tryz.prog 53 #[.pointer (some ⟨b, 0, none⟩), .int .i64 lo, .int .i64 hi] w fun e w' => e = .returned (.int .i64 (M.bt s p)) ∧ w'.heap[b]? = some (rdB s ((p + 1 : Nat) : Int) false) ∧ w.grownBy w' (some b) := by
  obtain ⟨h1, h2, h3⟩ := M.tk_lt ht
  have e := M.bt_at s p h1
  rw [e] at h2 h3 ⊢
  refine (next_yes b s p lo hi w h (by unfold maxLen at hs; omega) h1 (by omega) (by omega)).mono ?_
  rintro e w' ⟨rfl, n, m, rfl⟩
  exact ⟨rfl, rdB_set1 (w := w.drewN n) h _, grown_drewN (grown_setCell (grown_drewN (grown_refl _ _) _) (Or.inl rfl) _) _⟩

/-- 'next' where it may not, or where something was wrong before. -/
theorem next_bad (b : Nat) (s : ByteArray) (p L H : Nat) (bad : Bool) (lo hi : Int) (w : World) (h : w.heap[b]? = some (rdB s p bad)) (hp : p ≤ s.size) (hL : lo = L) (hH : hi = H) (ht : bad = true ∨ M.tk s p L H = false) :
    Calls Tryz.prog 53 #[.pointer (some ⟨b, 0, none⟩), .int .i64 lo, .int .i64 hi] w fun e w' => e = .returned (.int .i64 lo) ∧ w'.heap[b]? = some (rdB s p true) ∧ w.grownBy w' (some b) := by
  have fin : ∀ n, (((w.drewN n).setCell ⟨b, 2, none⟩ (.bool true)).heap[b]? = some (rdB s p true)) ∧ w.grownBy ((w.drewN n).setCell ⟨b, 2, none⟩ (.bool true)) (some b) := fun n =>
    ⟨rdB_set2 (w := w.drewN n) h _, grown_setCell (grown_drewN (grown_refl _ _) _) (Or.inl rfl) _⟩
  cases bad with
  | true =>
    refine (next_was b s p lo hi w h).mono ?_
    rintro e w' ⟨rfl, n, rfl⟩
    exact ⟨rfl, fin n⟩
  | false =>
    have ht' : M.tk s p L H = false := by simpa using ht
    by_cases h1 : p < s.size
    · have e := M.bt_at s p h1
      by_cases h2 : M.bt s p < L
      · refine (next_low b s p lo hi w h h1 (by rw [← e]; omega)).mono ?_
        rintro e w' ⟨rfl, n, rfl⟩
        exact ⟨rfl, fin n⟩
      · have h3 : H < M.bt s p := by simp [M.tk] at ht'; omega
        refine (next_high b s p lo hi w h h1 (by rw [← e]; omega) (by rw [← e]; omega)).mono ?_
        rintro e w' ⟨rfl, n, rfl⟩
        exact ⟨rfl, fin n⟩
    · obtain rfl : p = s.size := by omega
      refine (next_end b s lo hi w h).mono ?_
      rintro e w' ⟨rfl, n, rfl⟩
      exact ⟨rfl, fin n⟩

end Go.Proofs.YtnjiinbhbjpfkaaGreatDoor

/-
  The document's 'kinds' gives the letters of an instruction, for every number of one.
-/
namespace Go.Proofs.YtnjiinbhbjpfkaaGreatDoor
open Go.RowKit

/-- The letters' texts. -/
def KL : List Value := [.string { data := #[114, 107, 107] }, .string { data := #[114, 114, 45] }, .string { data := #[114, 114, 114] }, .string { data := #[114, 114, 114] }, .string { data := #[114, 114, 114] }, .string { data := #[114, 114, 114] }, .string { data := #[114, 114, 114] }, .string { data := #[45, 116, 116] }, .string { data := #[114, 116, 116] }, .string { data := #[114, 115, 45] }, .string { data := #[114, 114, 114] }, .string { data := #[114, 114, 114] }, .string { data := #[114, 102, 114] }, .string { data := #[114, 114, 114] }, .string { data := #[114, 45, 45] }, .string { data := #[114, 114, 114] }, .string { data := #[45, 45, 45] }, .string { data := #[114, 45, 45] }, .string { data := #[114, 114, 45] }, .string { data := #[114, 45, 45] }, .string { data := #[114, 45, 45] }, .string { data := #[114, 114, 45] }, .string { data := #[114, 45, 45] }]
theorem KL_map : KL = (List.range 23).map (fun i => Value.string (M.KS i)) := by rfl
theorem KL_at (op : Nat) (h : op < KL.length) : KL[op] = .string (M.KS op) := by
  have h2 : KL[op]? = some (.string (M.KS op)) := by
    have h3 : op < 23 := h
    rw [KL_map]; simp [h3]
  exact (List.getElem_eq_iff h).2 h2

set_option maxHeartbeats 400000 in
theorem kinds_any (op : Nat) (w : World) (h : op < 23) :
    Calls Tryz.prog 80 #[.int .i64 op] w fun e w' => e = .returned (.string (M.KS op)) ∧ Below w.heap.size w w' := by
  go_enter Tryz.func80, Tryz.ntmps80
  go_wp2_with fail
  go_ret
  exact ⟨congrArg Ending.returned (KL_at op h), (Below.refl _ _).alloc (Nat.le_refl _) _⟩
end Go.Proofs.YtnjiinbhbjpfkaaGreatDoor

/-
  The document's reader of an instruction, as plain functions, comes to the same place and the same answer as the program's: for every text, place and bounds.
-/
namespace Go.Proofs.YtnjiinbhbjpfkaaGreatDoor.M

/-- The document's reader: where it stands; is something wrong? One byte from 0 to hi. -/
def nx (s : ByteArray) (hi : Nat) (q : Nat) (bad : Bool) : Nat × Bool :=
  if bad = true then (q, true) else if tk s q 0 hi = true then (q + 1, false) else (q, true)

def hiB (r f k : Nat) : Nat := if k = 114 then r - 1 else if k = 102 then f - 1 else if k = 115 then 8 else if k = 45 then 0 else 255

/-- Is a t wrong that begins at q? -/
def tb (s : ByteArray) (l q : Nat) : Bool := decide (q + 1 < s.size ∧ l < 256 * bt s q + bt s (q + 1))

/-- One operand of the document's reader: i from 1 to 3, its letter k, the second letter m. -/
def bst (s : ByteArray) (r f l m i k q : Nat) (bad : Bool) : Nat × Bool :=
  nx s (hiB r f k) q (bad || (decide (i = 2 ∧ m = 116) && tb s l q))

def brun (s : ByteArray) (r f l m : Nat) : List Nat → Nat → Nat × Bool → Nat × Bool
  | [], _, st => st
  | k :: ks, i, st => brun s r f l m ks (i + 1) (bst s r f l m i k st.1 st.2)

theorem nx_bad (s : ByteArray) (hi q : Nat) : nx s hi q true = (q, true) := by simp [nx]
theorem nx_le {s : ByteArray} {hi q : Nat} {bad : Bool} (h : q ≤ s.size) : q ≤ (nx s hi q bad).1 ∧ (nx s hi q bad).1 ≤ s.size := by
  unfold nx
  split
  · exact ⟨Nat.le_refl _, h⟩
  · split
    · rename_i h1
      have := tk_lt h1
      simp; omega
    · exact ⟨Nat.le_refl _, h⟩
theorem bst_bad (s : ByteArray) (r f l m i k q : Nat) : bst s r f l m i k q true = (q, true) := by simp [bst, nx_bad]
theorem bst_le {s : ByteArray} {r f l m i k q : Nat} {bad : Bool} (h : q ≤ s.size) : (bst s r f l m i k q bad).1 ≤ s.size := (nx_le h).2
theorem brun_bad (s : ByteArray) (r f l m : Nat) (ks : List Nat) : ∀ i q, brun s r f l m ks i (q, true) = (q, true) := by
  induction ks with
  | nil => intro i q; rfl
  | cons k ks ih => intro i q; unfold brun; simp only [bst_bad]; exact ih _ _

theorem kd_more : ∀ op, op < 23 → (k1 op = 116 → k2 op = 116) ∧ (k0 op = 114 ∨ k0 op = 102 ∨ k0 op = 115 ∨ k0 op = 107 ∨ k0 op = 45) ∧ (k1 op ≠ 116 → (k1 op = 114 ∨ k1 op = 102 ∨ k1 op = 115 ∨ k1 op = 107 ∨ k1 op = 45) ∧ (k2 op = 114 ∨ k2 op = 102 ∨ k2 op = 115 ∨ k2 op = 107 ∨ k2 op = 45)) := by decide

theorem hiB_eq (r f k : Nat) (h : k = 114 ∨ k = 102 ∨ k = 115 ∨ k = 107 ∨ k = 45) : hiB r f k = hiOf r f k := by
  rcases h with rfl | rfl | rfl | rfl | rfl <;> rfl
theorem hiB_t (r f : Nat) : hiB r f 116 = 255 := rfl

theorem tk255 (s : ByteArray) (q : Nat) : tk s q 0 255 = decide (q < s.size) := by
  have := bt_lt s q
  unfold tk
  congr 1
  apply propext
  constructor
  · intro h; exact h.1
  · intro h; exact ⟨h, by omega, by omega⟩

theorem brun_opn (s : ByteArray) (p op r f l : Nat) (h : op < 23) :
    brun s r f l (k1 op) (kd.getD op []) 1 (p, false) = ((opn s p op r f l).1, !(opn s p op r f l).2) := by
  obtain ⟨h1, h2, h3⟩ := kd_facts op h
  obtain ⟨m1, m2, m3⟩ := kd_more op h
  rw [h1]
  simp only [brun]
  unfold opn
  have e0 : bst s r f l (k1 op) 1 (k0 op) p false = nx s (hiOf r f (k0 op)) p false := by
    unfold bst; rw [hiB_eq _ _ _ m2]; simp
  by_cases t0 : tk s p 0 (hiOf r f (k0 op)) = true
  · have p1 := (tk_lt t0).1
    have e0' : bst s r f l (k1 op) 1 (k0 op) p false = (p + 1, false) := by rw [e0]; simp [nx, t0]
    rw [if_pos t0, e0']
    by_cases ht : k1 op = 116
    · have ht2 := m1 ht
      rw [if_pos ht]
      have e1 : bst s r f l (k1 op) (1 + 1) (k1 op) (p + 1) false = nx s 255 (p + 1) (tb s l (p + 1)) := by
        unfold bst; rw [ht, hiB_t]; simp
      have e2 : ∀ q bad, bst s r f l (k1 op) (1 + 1 + 1) (k2 op) q bad = nx s 255 q bad := by
        intro q bad; unfold bst; rw [ht2, hiB_t]; simp
      simp only [e1, e2]
      unfold tgt
      by_cases c1 : s.size < p + 1 + 2
      · rw [if_pos c1]
        have tbf : tb s l (p + 1) = false := by unfold tb; simp; omega
        rw [tbf]
        by_cases c2 : p + 1 < s.size
        · have : s.size = p + 2 := by omega
          simp [nx, tk255, this]
        · have : s.size = p + 1 := by omega
          simp [nx, tk255, this]
      · rw [if_neg c1]
        by_cases c2 : l < 256 * bt s (p + 1) + bt s (p + 1 + 1)
        · have tbt : tb s l (p + 1) = true := by unfold tb; simp; omega
          rw [if_pos c2, tbt]; simp [nx]
        · have tbf : tb s l (p + 1) = false := by unfold tb; simp; omega
          rw [if_neg c2, tbf]
          have d1 : p + 1 < s.size := by omega
          have d2 : p + 1 + 1 < s.size := by omega
          simp [nx, tk255, d1, d2]
    · obtain ⟨m4, m5⟩ := m3 ht
      rw [if_neg ht]
      have e1 : bst s r f l (k1 op) (1 + 1) (k1 op) (p + 1) false = nx s (hiOf r f (k1 op)) (p + 1) false := by
        unfold bst; rw [hiB_eq _ _ _ m4]; simp [ht]
      have e2 : ∀ q bad, bst s r f l (k1 op) (1 + 1 + 1) (k2 op) q bad = nx s (hiOf r f (k2 op)) q bad := by
        intro q bad; unfold bst; rw [hiB_eq _ _ _ m5]; simp
      simp only [e1, e2]
      by_cases t1 : tk s (p + 1) 0 (hiOf r f (k1 op)) = true
      · by_cases t2 : tk s (p + 1 + 1) 0 (hiOf r f (k2 op)) = true
        · simp [nx, t1, t2]
        · simp [nx, t1, t2]
      · simp [nx, t1]
  · have e0' : bst s r f l (k1 op) 1 (k0 op) p false = (p, true) := by rw [e0]; simp [nx, t0]
    rw [if_neg t0, e0']
    simp [bst_bad]

end Go.Proofs.YtnjiinbhbjpfkaaGreatDoor.M

/-
  The document's 'code' answers as the plain function 'ins' says: for every reader with nothing wrong yet, whose text is no longer than a text can be.
-/
namespace Go.Proofs.YtnjiinbhbjpfkaaGreatDoor
open Go.RowKit

/-- 'next' from 0 on, whatever stands there. -/
theorem next_any (b : Nat) (s : ByteArray) (p H : Nat) (bad : Bool) (hi : Int) (w : World) (h : w.heap[b]? = some (rdB s p bad)) (hs : s.size ≤ maxLen) (hp : p ≤ s.size) (hH : hi = H) :
    Calls Tryz.prog 53 #[.pointer (some ⟨b, 0, none⟩), .int .i64 0, .int .i64 hi] w fun e w' => ∃ x : Int, e = .returned (.int .i64 x) ∧ w'.heap[b]? = some (rdB s ((M.nx s H p bad).1 : Nat) (M.nx s H p bad).2) ∧ w.grownBy w' (some b) := by
  cases bad with
  | true =>
    rw [M.nx_bad]
    refine (next_bad b s p 0 H true 0 hi w h hp rfl hH (Or.inl rfl)).mono ?_
    rintro e w' ⟨rfl, h1, h2⟩
    exact ⟨_, rfl, h1, h2⟩
  | false =>
    by_cases ht : M.tk s p 0 H = true
    · have e : M.nx s H p false = (p + 1, false) := by simp [M.nx, ht]
      rw [e]
      refine (next_good b s p 0 H 0 hi w h hs rfl hH ht).mono ?_
      rintro e w' ⟨rfl, h1, h2⟩
      exact ⟨_, rfl, h1, h2⟩
    · have e : M.nx s H p false = (p, true) := by simp [M.nx, ht]
      rw [e]
      refine (next_bad b s p 0 H false 0 hi w h hp rfl hH (Or.inr (by simpa using ht))).mono ?_
      rintro e w' ⟨rfl, h1, h2⟩
      exact ⟨_, rfl, h1, h2⟩

/-- The first byte of an instruction, and what its operands come to. -/
theorem next22 (b : Nat) (s : ByteArray) (p R F L : Nat) (w : World) (h : w.heap[b]? = some (rdB s p false)) (hs : s.size ≤ maxLen) (hp : p ≤ s.size) :
    Calls Tryz.prog 53 #[.pointer (some ⟨b, 0, none⟩), .int .i64 0, .int .i64 22] w fun e w' => ∃ (op q : Nat) (bad : Bool), e = .returned (.int .i64 op) ∧ op < 23 ∧ q ≤ s.size ∧ w'.heap[b]? = some (rdB s q bad) ∧ w.grownBy w' (some b) ∧
      M.brun s R F L (M.k1 op) (M.kd.getD op []) 1 (q, bad) = ((M.ins s p R F L).1, !(M.ins s p R F L).2) := by
  by_cases ht : M.tk s p 0 22 = true
  · have e : M.ins s p R F L = M.opn s (p + 1) (M.bt s p) R F L := by unfold M.ins; rw [if_pos ht]
    have h3 := M.tk_lt ht
    rw [e]
    refine (next_good b s p 0 22 0 22 w h hs rfl rfl ht).mono ?_
    rintro e w' ⟨rfl, h1, h2⟩
    exact ⟨M.bt s p, p + 1, false, rfl, by omega, by omega, h1, h2, M.brun_opn s (p + 1) (M.bt s p) R F L (by omega)⟩
  · have e : M.ins s p R F L = (p, false) := by unfold M.ins; rw [if_neg ht]
    rw [e]
    refine (next_bad b s p 0 22 false 0 22 w h hp rfl rfl (Or.inr (by simpa using ht))).mono ?_
    rintro e w' ⟨rfl, h1, h2⟩
    exact ⟨0, p, true, rfl, by omega, hp, h1, h2, M.brun_bad _ _ _ _ _ _ _ _⟩

theorem rdB_alloc {w : World} {b : Nat} {s : ByteArray} {p : Int} {bad : Bool} (h : w.heap[b]? = some (rdB s p bad)) (o : Obj) : (w.alloc o).heap[b]? = some (rdB s p bad) := (Below.heap_alloc _ _ _ (heap_lt h)).trans h
theorem rdB_other {w : World} {b x k : Nat} {v : Value} {s : ByteArray} {p : Int} {bad : Bool} (h : w.heap[b]? = some (rdB s p bad)) (hx : b ≠ x) : (w.setCell ⟨x, k, none⟩ v).heap[b]? = some (rdB s p bad) := (Below.heap_setCell _ _ _ _ hx).trans h

def four (a0 a1 a2 a3 : Int) : Obj := .cells #[.int .i64 a0, .int .i64 a1, .int .i64 a2, .int .i64 a3] 90 (0, 0)
def Four (w : World) (c : Nat) : Prop := ∃ a0 a1 a2 a3, w.heap[c]? = some (four a0 a1 a2 a3)

theorem Four.kept {w w' : World} {c b : Nat} (h : Four w c) (hg : w.grownBy w' (some b)) (hb : c ≠ b) : Four w' c := by
  obtain ⟨a0, a1, a2, a3, h⟩ := h
  exact ⟨a0, a1, a2, a3, grown_heap hg h (by intro e; injection e; omega)⟩
theorem Four.cell {w : World} {c : Nat} (h : Four w c) (k : Nat) (hk : k < 4) : (∃ x : Int, w.cell? ⟨c, k, none⟩ = some (.int .i64 x)) ∧ w.frozen? ⟨c, k, none⟩ = false := by
  obtain ⟨a0, a1, a2, a3, h⟩ := h
  match k, hk with
  | 0, _ => exact ⟨⟨a0, by simp [World.cell?, h, four]⟩, by simp [World.frozen?, h, four]⟩
  | 1, _ => exact ⟨⟨a1, by simp [World.cell?, h, four]⟩, by simp [World.frozen?, h, four]⟩
  | 2, _ => exact ⟨⟨a2, by simp [World.cell?, h, four]⟩, by simp [World.frozen?, h, four]⟩
  | 3, _ => exact ⟨⟨a3, by simp [World.cell?, h, four]⟩, by simp [World.frozen?, h, four]⟩
theorem Four.set {w : World} {c : Nat} (h : Four w c) (k : Nat) (hk : k < 4) (x : Int) : Four (w.setCell ⟨c, k, none⟩ (.int .i64 x)) c := by
  obtain ⟨a0, a1, a2, a3, h⟩ := h
  match k, hk with
  | 0, _ => exact ⟨x, a1, a2, a3, by simp [World.setCell, Array.getElem?_modify, h, four]⟩
  | 1, _ => exact ⟨a0, x, a2, a3, by simp [World.setCell, Array.getElem?_modify, h, four]⟩
  | 2, _ => exact ⟨a0, a1, x, a3, by simp [World.setCell, Array.getElem?_modify, h, four]⟩
  | 3, _ => exact ⟨a0, a1, a2, x, by simp [World.setCell, Array.getElem?_modify, h, four]⟩
theorem Four.other {w : World} {c d k : Nat} {v : Value} (h : Four w c) (hd : c ≠ d) : Four (w.setCell ⟨d, k, none⟩ v) c := by
  obtain ⟨a0, a1, a2, a3, h⟩ := h
  exact ⟨a0, a1, a2, a3, (Below.heap_setCell _ _ _ _ hd).trans h⟩

/-- A block of four cells, behind a call that wrote into another. -/
theorem fourB_cells {w w1 : World} {b k : Nat} {a0 a1 a2 a3 : Int} (h : w.heap[k]? = some (four a0 a1 a2 a3)) (hg : w.grownBy w1 (some b)) (hk : k ≠ b) :
    k < w1.heap.size ∧ w1.cell? ⟨k, 0, none⟩ = some (.int .i64 a0) ∧ w1.cell? ⟨k, 1, none⟩ = some (.int .i64 a1) ∧ w1.cell? ⟨k, 2, none⟩ = some (.int .i64 a2) ∧ w1.cell? ⟨k, 3, none⟩ = some (.int .i64 a3) ∧
    w1.frozen? ⟨k, 0, none⟩ = false ∧ w1.frozen? ⟨k, 1, none⟩ = false ∧ w1.frozen? ⟨k, 2, none⟩ = false ∧ w1.frozen? ⟨k, 3, none⟩ = false := by
  have h1 := grown_heap hg h (by intro e; injection e; omega)
  unfold four at h1
  exact ⟨heap_lt h1, by simp [World.cell?, World.frozen?, h1]⟩

def Code4 (e : Ending) : Prop := ∃ a0 a1 a2 a3 : Int, e = .returned (.agg #[.int .i64 a0, .int .i64 a1, .int .i64 a2, .int .i64 a3])

theorem List.head?_drop_getD {α : Type} (l : List α) (n : Nat) (d : α) : (l.drop n).head?.getD d = l.getD n d := by simp [List.head?_drop, List.getD]

set_option maxRecDepth 100000 in
set_option maxHeartbeats 4000000 in
theorem code_head (b : Nat) (s : ByteArray) (p R F L : Nat) (r f l : Int) (w : World) (h : w.heap[b]? = some (rdB s p false)) (hs : s.size ≤ maxLen) (hs2 : s.size ≤ 140737488355328) (hp : p ≤ s.size) (hr : Hid (r = R)) (hf : Hid (f = F)) (hl : Hid (l = L)) (h1 : 1 ≤ R) (h2 : 1 ≤ F) (h3 : R ≤ 8) (h4 : F ≤ 8) :
    Calls Tryz.prog 54 #[.pointer (some ⟨b, 0, none⟩), .int .i64 r, .int .i64 l, .int .i64 f] w fun e w' => Code4 e ∧ w'.heap[b]? = some (rdB s ((M.ins s p R F L).1 : Nat) (!(M.ins s p R F L).2)) ∧ w.grownBy w' (some b) := by
  have hb := heap_lt h
  have H : Hid (w.heap[b]? = some (rdB s p false)) := h
  have HS : Hid (s.size ≤ maxLen) := hs
  clear h hs
  go_enter Tryz.func54, Tryz.ntmps54
  go_wp2_with fail
  refine (next22 b s p R F L _ (rdB_alloc (rdB_alloc H.out _) _) HS.out hp).mono ?_
  rintro e w1 ⟨op, q, bad, rfl, hop, hq, hh, hg, hrun⟩
  have hgA : w.grownBy w1 (some b) := grown_trans (grown_trans (World.grownBy_alloc _ _ _) (World.grownBy_alloc _ _ _)) hg
  have F8 : Four w1 w.heap.size := Four.kept (w := (w.alloc (four 0 0 0 0)).alloc (four 0 0 0 0)) ⟨0, 0, 0, 0, (Below.heap_alloc _ _ _ (by simp)).trans (heap_alloc_new w _)⟩ hg (by omega)
  have F9 : Four w1 (w.heap.size + 1) := Four.kept (w := (w.alloc (four 0 0 0 0)).alloc (four 0 0 0 0)) ⟨0, 0, 0, 0, by have := heap_alloc_new (w.alloc (four 0 0 0 0)) (four 0 0 0 0); simpa using this⟩ hg (by omega)
  obtain ⟨⟨x9, d9⟩, e9⟩ := F9.cell 0 (by omega)
  have HH : Hid (w1.heap[b]? = some (rdB s q bad)) := hh
  have HR : Hid (M.brun s R F L (M.k1 op) (M.kd.getD op []) 1 (q, bad) = ((M.ins s p R F L).1, !(M.ins s p R F L).2)) := hrun
  have HG : Hid (w.grownBy w1 (some b)) := hgA
  have H8 : Hid (Four w1 w.heap.size) := F8
  have H9 : Hid (Four w1 (w.heap.size + 1)) := F9
  clear hh hrun hgA F8 F9 hg
  go_wp2_with fail
  refine (kinds_any op _ hop).mono ?_
  rintro e w2 ⟨rfl, hB⟩
  have gB : (w1.setCell ⟨w.heap.size + 1, 0, none⟩ (.int .i64 op)).grownBy w2 (some b) := grown_of_below (by simpa using hB)
  have KG : Hid (w.grownBy w2 (some b)) := grown_trans (grown_setCell HG.out (Or.inr (by simp)) _) gB
  have gN : (w1.setCell ⟨w.heap.size + 1, 0, none⟩ (.int .i64 op)).grownBy w2 (some w2.heap.size) := grown_of_below (by simpa using hB)
  have hz2 := hB.size
  simp [World.setCell] at hz2
  have KB : Hid (w2.heap[b]? = some (rdB s q bad)) := grown_heap gN (rdB_other HH.out (by omega)) (by intro e; injection e; have := heap_lt HH.out; omega)
  have K8 : Hid (Four w2 w.heap.size) := Four.kept (Four.other H8.out (by omega)) gB (by omega)
  have K9 : Hid (Four w2 (w.heap.size + 1)) := Four.kept (Four.set H9.out 0 (by omega) _) gB (by omega)
  obtain ⟨kf, kz⟩ := M.KS_facts op hop
  have KL : Hid (M.letters (M.KS op) = M.kd.getD op []) := kf
  clear gB gN hB HH HG H8 H9 d9 e9 kf
  generalize hS : M.KS op = S at *
  clear hS
  have hS1 : 1 < S.size := by omega
  have HM : Hid (S[1].toNat = M.k1 op) := by
    show _ = _
    have e := M.letters_drop S 1 hS1
    have e2 : M.k1 op = (M.letters S).getD 1 0 := by rw [KL.out]; rfl
    rw [e2, ← List.head?_drop_getD, e]; rfl
  have hs3 : S.size = 3 := kz
  have KZ : Hid (S.size = 3) := kz
  have hS3 : S.size ≤ 3 := by omega
  have hS4 : 3 ≤ S.size := by omega
  have hSi : (1 : Int) < (S.size : Int) := by omega
  have HR2 : Hid (M.brun s R F L (M.k1 op) ((M.letters S).drop 0) (0 + 1) (q, bad) = ((M.ins s p R F L).1, !(M.ins s p R F L).2)) := by show _ = _; rw [KL.out]; exact HR.out
  clear kz hs3 HR
  generalize M.k1 op = m at *
  go_wp2_with fail
  go_loopw [11] (fun i wr => ∃ (k q : Nat) (bad : Bool), k ≤ 3 ∧ q ≤ s.size ∧ i = .int .i64 ((k : Int) + 1) ∧ Hid (wr.heap[b]? = some (rdB s q bad)) ∧ Hid (w.grownBy wr (some b)) ∧ Hid (Four wr w.heap.size) ∧ Hid (Four wr (w.heap.size + 1)) ∧ Hid (M.brun s R F L m ((M.letters S).drop k) (k + 1) (q, bad) = ((M.ins s p R F L).1, !(M.ins s p R F L).2))) (fun i _ => 4 - (intOf i).toNat)
  case atStart => exact ⟨0, q, bad, by omega, hq, rfl, KB, KG, K8, K9, HR2⟩
  case round =>
    clear hq KB KG K8 K9 HR2
    obtain ⟨k, q, bad, hk, hq, rfl, rB, rG, r8, r9, rC⟩ := hrel
    by_cases hlt : k < 3
    · have hk2 : k < S.size := by omega
      have hc := M.letters_drop S k hk2
      have rC2 : Hid (M.brun s R F L m ((M.letters S).drop (k + 1)) (k + 1 + 1) (M.bst s R F L m (k + 1) S[k].toNat q bad) = ((M.ins s p R F L).1, !(M.ins s p R F L).2)) := by
        show _ = _
        rw [← rC.out, hc]; rfl
      have HKM : Hid (k = 1 → S[k].toNat = m) := by
        intro e; subst e; exact HM.out
      clear hc rC
      have b1 : 1 ≤ r := by have := hr.out; omega
      have b2 : r ≤ 8 := by have := hr.out; omega
      have b3 : 1 ≤ f := by have := hf.out; omega
      have b4 : f ≤ 8 := by have := hf.out; omega
      by_cases e1 : k = 1
      · have g2 : (((k : Int) + 1) == 2) = true := by simp; omega
        have HE1 : Hid (k = 1) := e1
        clear e1
        by_cases em : m = 116
        · have g3 : ((S[1].toNat : Int) == 116) = true := by have := HM.out; simp; omega
          have HKT : Hid (S[k].toNat = 116) := by show _ = _; rw [HKM.out HE1.out, em]
          have q0 : ((S[k].toNat : Int) == 114) = false := by have := HKT.out; simp; omega
          have q1 : ((S[k].toNat : Int) == 102) = false := by have := HKT.out; simp; omega
          have q2 : ((S[k].toNat : Int) == 115) = false := by have := HKT.out; simp; omega
          have q3 : ((S[k].toNat : Int) == 45) = false := by have := HKT.out; simp; omega
          have HB0 : Hid (M.bst s R F L m (k + 1) S[k].toNat q bad = M.nx s 255 q (bad || M.tb s L q)) := by
            show _ = _
            unfold M.bst; rw [HKT.out, M.hiB_t]; have := HE1.out; simp [this, em]
          clear em
          obtain ⟨y0, y1, y2⟩ := rdB_cells rB.out
          obtain ⟨_, u2⟩ := rdB_frozen rB.out
          cases bad with
          | true =>
            have HB : Hid (M.bst s R F L m (k + 1) S[k].toNat q true = M.nx s 255 q true) := by show _ = _; rw [HB0.out]; simp
            clear HB0
            go_wp2_with fail
            go_quiet (fail)
            go_wp2_with fail
            refine (next_any b s q (255) true (255) (wr.drewN nq) rB.out HS.out hq rfl).mono ?_
            rintro e w4 ⟨x, rfl, hh, hg4⟩
            have hq4 := (M.nx_le (s := s) (hi := 255) (q := q) (bad := true) hq).2
            have KB4 : Hid (w4.heap[b]? = some (rdB s ((M.nx s (255) q true).1 : Nat) (M.nx s (255) q true).2)) := hh
            have KG4 : Hid (w.grownBy w4 (some b)) := grown_trans (grown_drewN rG.out _) hg4
            have K84 : Hid (Four w4 w.heap.size) := Four.kept (w := (wr.drewN nq)) r8.out hg4 (by omega)
            have K94 : Hid (Four w4 (w.heap.size + 1)) := Four.kept (w := (wr.drewN nq)) r9.out hg4 (by omega)
            obtain ⟨⟨y, d4⟩, e4⟩ := K94.out.cell (k + 1) (by omega)
            rw [HB.out] at rC2
            clear hh hg4 HB rB rG r8 r9
            generalize M.nx s (255) q true = st at *
            obtain ⟨q', bad'⟩ := st
            go_wp2_with fail
            go_roundw
            case rel => exact ⟨k + 1, q', bad', by omega, hq4, by go_num, rdB_other KB4.out (by omega), grown_setCell KG4.out (Or.inr (by simp)) _, Four.other K84.out (by omega), Four.set K94.out (k + 1) (by omega) x, rC2⟩
            case measure => simp [intOf]; omega
          | false =>
            by_cases ez : q + 1 < s.size
            · have hw1 : IntKind.i64.wrap ((q : Int) + 1) = (q : Int) + 1 := by rw [IntWalk.i64_left, IntWalk.wrap64_in _ (by omega)]
              have hq0 : q < s.size := by omega
              have hb8 : s[q].toNat < 256 := UInt8.toNat_lt _
              have hb9 : s[q + 1].toNat < 256 := UInt8.toNat_lt _
              have hw2 : IntKind.i64.wrap (s[q].toNat : Int) = (s[q].toNat : Int) := by rw [IntWalk.i64_left, IntWalk.wrap64_in _ (by omega)]
              have hw3 : IntKind.i64.wrap (256 * (s[q].toNat : Int)) = 256 * (s[q].toNat : Int) := by rw [IntWalk.i64_left, IntWalk.wrap64_in _ (by omega)]
              have hw4 : IntKind.i64.wrap (s[q + 1].toNat : Int) = (s[q + 1].toNat : Int) := by rw [IntWalk.i64_left, IntWalk.wrap64_in _ (by omega)]
              have hw5 : IntKind.i64.wrap (256 * (s[q].toNat : Int) + (s[q + 1].toNat : Int)) = 256 * (s[q].toNat : Int) + (s[q + 1].toNat : Int) := by rw [IntWalk.i64_left, IntWalk.wrap64_in _ (by omega)]
              have hi1 : ((q : Int) + 1).toNat = q + 1 := by omega
              have hi2 : (q : Int) + 1 < (s.size : Int) := by omega
              have hi3 : (0 : Int) ≤ (q : Int) + 1 := by omega
              have g4 : decide ((q : Int) + 1 < (s.size : Int)) = true := by simp; omega
              have t1 := M.bt_at s q hq0
              have t2 := M.bt_at s (q + 1) ez
              by_cases ev : L < 256 * M.bt s q + M.bt s (q + 1)
              · have g5 : decide (l < 256 * (s[q].toNat : Int) + (s[q + 1].toNat : Int)) = true := by have := hl.out; rw [← t1, ← t2]; simp; omega
                have g6 : l < 256 * (s[q].toNat : Int) + (s[q + 1].toNat : Int) := by simpa using g5
                have HB : Hid (M.bst s R F L m (k + 1) S[k].toNat q false = M.nx s 255 q true) := by show _ = _; rw [HB0.out]; unfold M.tb; simp [ez, ev]
                clear HB0 t1 t2 ev
                go_wp2_with fail
                go_quiet (fail)
                go_wp2_with fail
                refine (next_any b s q (255) true (255) ((wr.drewN nq).setCell ⟨b, 2, none⟩ (.bool true)) (rdB_set2 (w := wr.drewN nq) rB.out true) HS.out hq rfl).mono ?_
                rintro e w4 ⟨x, rfl, hh, hg4⟩
                have hq4 := (M.nx_le (s := s) (hi := 255) (q := q) (bad := true) hq).2
                have KB4 : Hid (w4.heap[b]? = some (rdB s ((M.nx s (255) q true).1 : Nat) (M.nx s (255) q true).2)) := hh
                have KG4 : Hid (w.grownBy w4 (some b)) := grown_trans (grown_setCell (grown_drewN rG.out _) (Or.inl rfl) _) hg4
                have K84 : Hid (Four w4 w.heap.size) := Four.kept (w := ((wr.drewN nq).setCell ⟨b, 2, none⟩ (.bool true))) (Four.other r8.out (by omega)) hg4 (by omega)
                have K94 : Hid (Four w4 (w.heap.size + 1)) := Four.kept (w := ((wr.drewN nq).setCell ⟨b, 2, none⟩ (.bool true))) (Four.other r9.out (by omega)) hg4 (by omega)
                obtain ⟨⟨y, d4⟩, e4⟩ := K94.out.cell (k + 1) (by omega)
                rw [HB.out] at rC2
                clear hh hg4 HB rB rG r8 r9
                generalize M.nx s (255) q true = st at *
                obtain ⟨q', bad'⟩ := st
                go_wp2_with fail
                go_roundw
                case rel => exact ⟨k + 1, q', bad', by omega, hq4, by go_num, rdB_other KB4.out (by omega), grown_setCell KG4.out (Or.inr (by simp)) _, Four.other K84.out (by omega), Four.set K94.out (k + 1) (by omega) x, rC2⟩
                case measure => simp [intOf]; omega
              · have g5 : decide (l < 256 * (s[q].toNat : Int) + (s[q + 1].toNat : Int)) = false := by have := hl.out; rw [← t1, ← t2]; simp; omega
                have g6 : 256 * (s[q].toNat : Int) + (s[q + 1].toNat : Int) ≤ l := by simpa using g5
                have HB : Hid (M.bst s R F L m (k + 1) S[k].toNat q false = M.nx s 255 q false) := by show _ = _; rw [HB0.out]; unfold M.tb; simp [ez, ev]
                clear HB0 t1 t2 ev
                go_wp2_with fail
                go_quiet (fail)
                go_wp2_with fail
                refine (next_any b s q (255) false (255) (wr.drewN nq) rB.out HS.out hq rfl).mono ?_
                rintro e w4 ⟨x, rfl, hh, hg4⟩
                have hq4 := (M.nx_le (s := s) (hi := 255) (q := q) (bad := false) hq).2
                have KB4 : Hid (w4.heap[b]? = some (rdB s ((M.nx s (255) q false).1 : Nat) (M.nx s (255) q false).2)) := hh
                have KG4 : Hid (w.grownBy w4 (some b)) := grown_trans (grown_drewN rG.out _) hg4
                have K84 : Hid (Four w4 w.heap.size) := Four.kept (w := (wr.drewN nq)) r8.out hg4 (by omega)
                have K94 : Hid (Four w4 (w.heap.size + 1)) := Four.kept (w := (wr.drewN nq)) r9.out hg4 (by omega)
                obtain ⟨⟨y, d4⟩, e4⟩ := K94.out.cell (k + 1) (by omega)
                rw [HB.out] at rC2
                clear hh hg4 HB rB rG r8 r9
                generalize M.nx s (255) q false = st at *
                obtain ⟨q', bad'⟩ := st
                go_wp2_with fail
                go_roundw
                case rel => exact ⟨k + 1, q', bad', by omega, hq4, by go_num, rdB_other KB4.out (by omega), grown_setCell KG4.out (Or.inr (by simp)) _, Four.other K84.out (by omega), Four.set K94.out (k + 1) (by omega) x, rC2⟩
                case measure => simp [intOf]; omega
            · have hw1 : IntKind.i64.wrap ((q : Int) + 1) = (q : Int) + 1 := by rw [IntWalk.i64_left, IntWalk.wrap64_in _ (by omega)]
              have g4 : decide ((q : Int) + 1 < (s.size : Int)) = false := by simp; omega
              have HB : Hid (M.bst s R F L m (k + 1) S[k].toNat q false = M.nx s 255 q false) := by show _ = _; rw [HB0.out]; unfold M.tb; simp [ez]
              clear HB0
              go_wp2_with fail
              go_quiet (fail)
              go_wp2_with fail
              refine (next_any b s q (255) false (255) (wr.drewN nq) rB.out HS.out hq rfl).mono ?_
              rintro e w4 ⟨x, rfl, hh, hg4⟩
              have hq4 := (M.nx_le (s := s) (hi := 255) (q := q) (bad := false) hq).2
              have KB4 : Hid (w4.heap[b]? = some (rdB s ((M.nx s (255) q false).1 : Nat) (M.nx s (255) q false).2)) := hh
              have KG4 : Hid (w.grownBy w4 (some b)) := grown_trans (grown_drewN rG.out _) hg4
              have K84 : Hid (Four w4 w.heap.size) := Four.kept (w := (wr.drewN nq)) r8.out hg4 (by omega)
              have K94 : Hid (Four w4 (w.heap.size + 1)) := Four.kept (w := (wr.drewN nq)) r9.out hg4 (by omega)
              obtain ⟨⟨y, d4⟩, e4⟩ := K94.out.cell (k + 1) (by omega)
              rw [HB.out] at rC2
              clear hh hg4 HB rB rG r8 r9
              generalize M.nx s (255) q false = st at *
              obtain ⟨q', bad'⟩ := st
              go_wp2_with fail
              go_roundw
              case rel => exact ⟨k + 1, q', bad', by omega, hq4, by go_num, rdB_other KB4.out (by omega), grown_setCell KG4.out (Or.inr (by simp)) _, Four.other K84.out (by omega), Four.set K94.out (k + 1) (by omega) x, rC2⟩
              case measure => simp [intOf]; omega
        · have g3 : ((S[1].toNat : Int) == 116) = false := by have := HM.out; simp; omega
          have HEM : Hid (m ≠ 116) := em
          clear em
          by_cases z0 : S[k].toNat = 114
          · have q0 : ((S[k].toNat : Int) == 114) = true := by simp; omega
            have HB : Hid (M.bst s R F L m (k + 1) S[k].toNat q bad = M.nx s (R - 1) q bad) := by
              show _ = _
              unfold M.bst M.hiB; rw [if_pos z0]; have := HEM.out; simp [this]
            clear z0
            go_wp2_with fail
            go_quiet (fail)
            go_wp2_with fail
            refine (next_any b s q (R - 1) bad (r - 1) (wr.drewN nq) rB.out HS.out hq (by have := hr.out; omega)).mono ?_
            rintro e w4 ⟨x, rfl, hh, hg4⟩
            have hq4 := (M.nx_le (s := s) (hi := R - 1) (q := q) (bad := bad) hq).2
            have KB4 : Hid (w4.heap[b]? = some (rdB s ((M.nx s (R - 1) q bad).1 : Nat) (M.nx s (R - 1) q bad).2)) := hh
            have KG4 : Hid (w.grownBy w4 (some b)) := grown_trans (grown_drewN rG.out _) hg4
            have K84 : Hid (Four w4 w.heap.size) := Four.kept (w := (wr.drewN nq)) r8.out hg4 (by omega)
            have K94 : Hid (Four w4 (w.heap.size + 1)) := Four.kept (w := (wr.drewN nq)) r9.out hg4 (by omega)
            obtain ⟨⟨y, d4⟩, e4⟩ := K94.out.cell (k + 1) (by omega)
            rw [HB.out] at rC2
            clear hh hg4 HB rB rG r8 r9
            generalize M.nx s (R - 1) q bad = st at *
            obtain ⟨q', bad'⟩ := st
            go_wp2_with fail
            go_roundw
            case rel => exact ⟨k + 1, q', bad', by omega, hq4, by go_num, rdB_other KB4.out (by omega), grown_setCell KG4.out (Or.inr (by simp)) _, Four.other K84.out (by omega), Four.set K94.out (k + 1) (by omega) x, rC2⟩
            case measure => simp [intOf]; omega
          · have q0 : ((S[k].toNat : Int) == 114) = false := by simp; omega
            by_cases z1 : S[k].toNat = 102
            · have q1 : ((S[k].toNat : Int) == 102) = true := by simp; omega
              have HB : Hid (M.bst s R F L m (k + 1) S[k].toNat q bad = M.nx s (F - 1) q bad) := by
                show _ = _
                unfold M.bst M.hiB; rw [if_neg z0, if_pos z1]; have := HEM.out; simp [this]
              clear z0 z1
              go_wp2_with fail
              go_quiet (fail)
              go_wp2_with fail
              refine (next_any b s q (F - 1) bad (f - 1) (wr.drewN nq) rB.out HS.out hq (by have := hf.out; omega)).mono ?_
              rintro e w4 ⟨x, rfl, hh, hg4⟩
              have hq4 := (M.nx_le (s := s) (hi := F - 1) (q := q) (bad := bad) hq).2
              have KB4 : Hid (w4.heap[b]? = some (rdB s ((M.nx s (F - 1) q bad).1 : Nat) (M.nx s (F - 1) q bad).2)) := hh
              have KG4 : Hid (w.grownBy w4 (some b)) := grown_trans (grown_drewN rG.out _) hg4
              have K84 : Hid (Four w4 w.heap.size) := Four.kept (w := (wr.drewN nq)) r8.out hg4 (by omega)
              have K94 : Hid (Four w4 (w.heap.size + 1)) := Four.kept (w := (wr.drewN nq)) r9.out hg4 (by omega)
              obtain ⟨⟨y, d4⟩, e4⟩ := K94.out.cell (k + 1) (by omega)
              rw [HB.out] at rC2
              clear hh hg4 HB rB rG r8 r9
              generalize M.nx s (F - 1) q bad = st at *
              obtain ⟨q', bad'⟩ := st
              go_wp2_with fail
              go_roundw
              case rel => exact ⟨k + 1, q', bad', by omega, hq4, by go_num, rdB_other KB4.out (by omega), grown_setCell KG4.out (Or.inr (by simp)) _, Four.other K84.out (by omega), Four.set K94.out (k + 1) (by omega) x, rC2⟩
              case measure => simp [intOf]; omega
            · have q1 : ((S[k].toNat : Int) == 102) = false := by simp; omega
              by_cases z2 : S[k].toNat = 115
              · have q2 : ((S[k].toNat : Int) == 115) = true := by simp; omega
                have HB : Hid (M.bst s R F L m (k + 1) S[k].toNat q bad = M.nx s (8) q bad) := by
                  show _ = _
                  unfold M.bst M.hiB; rw [if_neg z0, if_neg z1, if_pos z2]; have := HEM.out; simp [this]
                clear z0 z1 z2
                go_wp2_with fail
                go_quiet (fail)
                go_wp2_with fail
                refine (next_any b s q (8) bad (8) (wr.drewN nq) rB.out HS.out hq rfl).mono ?_
                rintro e w4 ⟨x, rfl, hh, hg4⟩
                have hq4 := (M.nx_le (s := s) (hi := 8) (q := q) (bad := bad) hq).2
                have KB4 : Hid (w4.heap[b]? = some (rdB s ((M.nx s (8) q bad).1 : Nat) (M.nx s (8) q bad).2)) := hh
                have KG4 : Hid (w.grownBy w4 (some b)) := grown_trans (grown_drewN rG.out _) hg4
                have K84 : Hid (Four w4 w.heap.size) := Four.kept (w := (wr.drewN nq)) r8.out hg4 (by omega)
                have K94 : Hid (Four w4 (w.heap.size + 1)) := Four.kept (w := (wr.drewN nq)) r9.out hg4 (by omega)
                obtain ⟨⟨y, d4⟩, e4⟩ := K94.out.cell (k + 1) (by omega)
                rw [HB.out] at rC2
                clear hh hg4 HB rB rG r8 r9
                generalize M.nx s (8) q bad = st at *
                obtain ⟨q', bad'⟩ := st
                go_wp2_with fail
                go_roundw
                case rel => exact ⟨k + 1, q', bad', by omega, hq4, by go_num, rdB_other KB4.out (by omega), grown_setCell KG4.out (Or.inr (by simp)) _, Four.other K84.out (by omega), Four.set K94.out (k + 1) (by omega) x, rC2⟩
                case measure => simp [intOf]; omega
              · have q2 : ((S[k].toNat : Int) == 115) = false := by simp; omega
                by_cases z3 : S[k].toNat = 45
                · have q3 : ((S[k].toNat : Int) == 45) = true := by simp; omega
                  have HB : Hid (M.bst s R F L m (k + 1) S[k].toNat q bad = M.nx s (0) q bad) := by
                    show _ = _
                    unfold M.bst M.hiB; rw [if_neg z0, if_neg z1, if_neg z2, if_pos z3]; have := HEM.out; simp [this]
                  clear z0 z1 z2 z3
                  go_wp2_with fail
                  go_quiet (fail)
                  go_wp2_with fail
                  refine (next_any b s q (0) bad (0) (wr.drewN nq) rB.out HS.out hq rfl).mono ?_
                  rintro e w4 ⟨x, rfl, hh, hg4⟩
                  have hq4 := (M.nx_le (s := s) (hi := 0) (q := q) (bad := bad) hq).2
                  have KB4 : Hid (w4.heap[b]? = some (rdB s ((M.nx s (0) q bad).1 : Nat) (M.nx s (0) q bad).2)) := hh
                  have KG4 : Hid (w.grownBy w4 (some b)) := grown_trans (grown_drewN rG.out _) hg4
                  have K84 : Hid (Four w4 w.heap.size) := Four.kept (w := (wr.drewN nq)) r8.out hg4 (by omega)
                  have K94 : Hid (Four w4 (w.heap.size + 1)) := Four.kept (w := (wr.drewN nq)) r9.out hg4 (by omega)
                  obtain ⟨⟨y, d4⟩, e4⟩ := K94.out.cell (k + 1) (by omega)
                  rw [HB.out] at rC2
                  clear hh hg4 HB rB rG r8 r9
                  generalize M.nx s (0) q bad = st at *
                  obtain ⟨q', bad'⟩ := st
                  go_wp2_with fail
                  go_roundw
                  case rel => exact ⟨k + 1, q', bad', by omega, hq4, by go_num, rdB_other KB4.out (by omega), grown_setCell KG4.out (Or.inr (by simp)) _, Four.other K84.out (by omega), Four.set K94.out (k + 1) (by omega) x, rC2⟩
                  case measure => simp [intOf]; omega
                · have q3 : ((S[k].toNat : Int) == 45) = false := by simp; omega
                  have HB : Hid (M.bst s R F L m (k + 1) S[k].toNat q bad = M.nx s 255 q bad) := by
                    show _ = _
                    unfold M.bst M.hiB; rw [if_neg z0, if_neg z1, if_neg z2, if_neg z3]; have := HEM.out; simp [this]
                  clear z0 z1 z2 z3
                  go_wp2_with fail
                  go_quiet (fail)
                  go_wp2_with fail
                  refine (next_any b s q (255) bad (255) (wr.drewN nq) rB.out HS.out hq rfl).mono ?_
                  rintro e w4 ⟨x, rfl, hh, hg4⟩
                  have hq4 := (M.nx_le (s := s) (hi := 255) (q := q) (bad := bad) hq).2
                  have KB4 : Hid (w4.heap[b]? = some (rdB s ((M.nx s (255) q bad).1 : Nat) (M.nx s (255) q bad).2)) := hh
                  have KG4 : Hid (w.grownBy w4 (some b)) := grown_trans (grown_drewN rG.out _) hg4
                  have K84 : Hid (Four w4 w.heap.size) := Four.kept (w := (wr.drewN nq)) r8.out hg4 (by omega)
                  have K94 : Hid (Four w4 (w.heap.size + 1)) := Four.kept (w := (wr.drewN nq)) r9.out hg4 (by omega)
                  obtain ⟨⟨y, d4⟩, e4⟩ := K94.out.cell (k + 1) (by omega)
                  rw [HB.out] at rC2
                  clear hh hg4 HB rB rG r8 r9
                  generalize M.nx s (255) q bad = st at *
                  obtain ⟨q', bad'⟩ := st
                  go_wp2_with fail
                  go_roundw
                  case rel => exact ⟨k + 1, q', bad', by omega, hq4, by go_num, rdB_other KB4.out (by omega), grown_setCell KG4.out (Or.inr (by simp)) _, Four.other K84.out (by omega), Four.set K94.out (k + 1) (by omega) x, rC2⟩
                  case measure => simp [intOf]; omega
      · have g2 : (((k : Int) + 1) == 2) = false := by simp; omega
        have HE1 : Hid (k ≠ 1) := e1
        clear e1
        by_cases z0 : S[k].toNat = 114
        · have q0 : ((S[k].toNat : Int) == 114) = true := by simp; omega
          have HB : Hid (M.bst s R F L m (k + 1) S[k].toNat q bad = M.nx s (R - 1) q bad) := by
            show _ = _
            unfold M.bst M.hiB; rw [if_pos z0]; have := HE1.out; simp [this]
          clear z0
          go_wp2_with fail
          go_quiet (fail)
          go_wp2_with fail
          refine (next_any b s q (R - 1) bad (r - 1) (wr.drewN nq) rB.out HS.out hq (by have := hr.out; omega)).mono ?_
          rintro e w4 ⟨x, rfl, hh, hg4⟩
          have hq4 := (M.nx_le (s := s) (hi := R - 1) (q := q) (bad := bad) hq).2
          have KB4 : Hid (w4.heap[b]? = some (rdB s ((M.nx s (R - 1) q bad).1 : Nat) (M.nx s (R - 1) q bad).2)) := hh
          have KG4 : Hid (w.grownBy w4 (some b)) := grown_trans (grown_drewN rG.out _) hg4
          have K84 : Hid (Four w4 w.heap.size) := Four.kept (w := (wr.drewN nq)) r8.out hg4 (by omega)
          have K94 : Hid (Four w4 (w.heap.size + 1)) := Four.kept (w := (wr.drewN nq)) r9.out hg4 (by omega)
          obtain ⟨⟨y, d4⟩, e4⟩ := K94.out.cell (k + 1) (by omega)
          rw [HB.out] at rC2
          clear hh hg4 HB rB rG r8 r9
          generalize M.nx s (R - 1) q bad = st at *
          obtain ⟨q', bad'⟩ := st
          go_wp2_with fail
          go_roundw
          case rel => exact ⟨k + 1, q', bad', by omega, hq4, by go_num, rdB_other KB4.out (by omega), grown_setCell KG4.out (Or.inr (by simp)) _, Four.other K84.out (by omega), Four.set K94.out (k + 1) (by omega) x, rC2⟩
          case measure => simp [intOf]; omega
        · have q0 : ((S[k].toNat : Int) == 114) = false := by simp; omega
          by_cases z1 : S[k].toNat = 102
          · have q1 : ((S[k].toNat : Int) == 102) = true := by simp; omega
            have HB : Hid (M.bst s R F L m (k + 1) S[k].toNat q bad = M.nx s (F - 1) q bad) := by
              show _ = _
              unfold M.bst M.hiB; rw [if_neg z0, if_pos z1]; have := HE1.out; simp [this]
            clear z0 z1
            go_wp2_with fail
            go_quiet (fail)
            go_wp2_with fail
            refine (next_any b s q (F - 1) bad (f - 1) (wr.drewN nq) rB.out HS.out hq (by have := hf.out; omega)).mono ?_
            rintro e w4 ⟨x, rfl, hh, hg4⟩
            have hq4 := (M.nx_le (s := s) (hi := F - 1) (q := q) (bad := bad) hq).2
            have KB4 : Hid (w4.heap[b]? = some (rdB s ((M.nx s (F - 1) q bad).1 : Nat) (M.nx s (F - 1) q bad).2)) := hh
            have KG4 : Hid (w.grownBy w4 (some b)) := grown_trans (grown_drewN rG.out _) hg4
            have K84 : Hid (Four w4 w.heap.size) := Four.kept (w := (wr.drewN nq)) r8.out hg4 (by omega)
            have K94 : Hid (Four w4 (w.heap.size + 1)) := Four.kept (w := (wr.drewN nq)) r9.out hg4 (by omega)
            obtain ⟨⟨y, d4⟩, e4⟩ := K94.out.cell (k + 1) (by omega)
            rw [HB.out] at rC2
            clear hh hg4 HB rB rG r8 r9
            generalize M.nx s (F - 1) q bad = st at *
            obtain ⟨q', bad'⟩ := st
            go_wp2_with fail
            go_roundw
            case rel => exact ⟨k + 1, q', bad', by omega, hq4, by go_num, rdB_other KB4.out (by omega), grown_setCell KG4.out (Or.inr (by simp)) _, Four.other K84.out (by omega), Four.set K94.out (k + 1) (by omega) x, rC2⟩
            case measure => simp [intOf]; omega
          · have q1 : ((S[k].toNat : Int) == 102) = false := by simp; omega
            by_cases z2 : S[k].toNat = 115
            · have q2 : ((S[k].toNat : Int) == 115) = true := by simp; omega
              have HB : Hid (M.bst s R F L m (k + 1) S[k].toNat q bad = M.nx s (8) q bad) := by
                show _ = _
                unfold M.bst M.hiB; rw [if_neg z0, if_neg z1, if_pos z2]; have := HE1.out; simp [this]
              clear z0 z1 z2
              go_wp2_with fail
              go_quiet (fail)
              go_wp2_with fail
              refine (next_any b s q (8) bad (8) (wr.drewN nq) rB.out HS.out hq rfl).mono ?_
              rintro e w4 ⟨x, rfl, hh, hg4⟩
              have hq4 := (M.nx_le (s := s) (hi := 8) (q := q) (bad := bad) hq).2
              have KB4 : Hid (w4.heap[b]? = some (rdB s ((M.nx s (8) q bad).1 : Nat) (M.nx s (8) q bad).2)) := hh
              have KG4 : Hid (w.grownBy w4 (some b)) := grown_trans (grown_drewN rG.out _) hg4
              have K84 : Hid (Four w4 w.heap.size) := Four.kept (w := (wr.drewN nq)) r8.out hg4 (by omega)
              have K94 : Hid (Four w4 (w.heap.size + 1)) := Four.kept (w := (wr.drewN nq)) r9.out hg4 (by omega)
              obtain ⟨⟨y, d4⟩, e4⟩ := K94.out.cell (k + 1) (by omega)
              rw [HB.out] at rC2
              clear hh hg4 HB rB rG r8 r9
              generalize M.nx s (8) q bad = st at *
              obtain ⟨q', bad'⟩ := st
              go_wp2_with fail
              go_roundw
              case rel => exact ⟨k + 1, q', bad', by omega, hq4, by go_num, rdB_other KB4.out (by omega), grown_setCell KG4.out (Or.inr (by simp)) _, Four.other K84.out (by omega), Four.set K94.out (k + 1) (by omega) x, rC2⟩
              case measure => simp [intOf]; omega
            · have q2 : ((S[k].toNat : Int) == 115) = false := by simp; omega
              by_cases z3 : S[k].toNat = 45
              · have q3 : ((S[k].toNat : Int) == 45) = true := by simp; omega
                have HB : Hid (M.bst s R F L m (k + 1) S[k].toNat q bad = M.nx s (0) q bad) := by
                  show _ = _
                  unfold M.bst M.hiB; rw [if_neg z0, if_neg z1, if_neg z2, if_pos z3]; have := HE1.out; simp [this]
                clear z0 z1 z2 z3
                go_wp2_with fail
                go_quiet (fail)
                go_wp2_with fail
                refine (next_any b s q (0) bad (0) (wr.drewN nq) rB.out HS.out hq rfl).mono ?_
                rintro e w4 ⟨x, rfl, hh, hg4⟩
                have hq4 := (M.nx_le (s := s) (hi := 0) (q := q) (bad := bad) hq).2
                have KB4 : Hid (w4.heap[b]? = some (rdB s ((M.nx s (0) q bad).1 : Nat) (M.nx s (0) q bad).2)) := hh
                have KG4 : Hid (w.grownBy w4 (some b)) := grown_trans (grown_drewN rG.out _) hg4
                have K84 : Hid (Four w4 w.heap.size) := Four.kept (w := (wr.drewN nq)) r8.out hg4 (by omega)
                have K94 : Hid (Four w4 (w.heap.size + 1)) := Four.kept (w := (wr.drewN nq)) r9.out hg4 (by omega)
                obtain ⟨⟨y, d4⟩, e4⟩ := K94.out.cell (k + 1) (by omega)
                rw [HB.out] at rC2
                clear hh hg4 HB rB rG r8 r9
                generalize M.nx s (0) q bad = st at *
                obtain ⟨q', bad'⟩ := st
                go_wp2_with fail
                go_roundw
                case rel => exact ⟨k + 1, q', bad', by omega, hq4, by go_num, rdB_other KB4.out (by omega), grown_setCell KG4.out (Or.inr (by simp)) _, Four.other K84.out (by omega), Four.set K94.out (k + 1) (by omega) x, rC2⟩
                case measure => simp [intOf]; omega
              · have q3 : ((S[k].toNat : Int) == 45) = false := by simp; omega
                have HB : Hid (M.bst s R F L m (k + 1) S[k].toNat q bad = M.nx s 255 q bad) := by
                  show _ = _
                  unfold M.bst M.hiB; rw [if_neg z0, if_neg z1, if_neg z2, if_neg z3]; have := HE1.out; simp [this]
                clear z0 z1 z2 z3
                go_wp2_with fail
                go_quiet (fail)
                go_wp2_with fail
                refine (next_any b s q (255) bad (255) (wr.drewN nq) rB.out HS.out hq rfl).mono ?_
                rintro e w4 ⟨x, rfl, hh, hg4⟩
                have hq4 := (M.nx_le (s := s) (hi := 255) (q := q) (bad := bad) hq).2
                have KB4 : Hid (w4.heap[b]? = some (rdB s ((M.nx s (255) q bad).1 : Nat) (M.nx s (255) q bad).2)) := hh
                have KG4 : Hid (w.grownBy w4 (some b)) := grown_trans (grown_drewN rG.out _) hg4
                have K84 : Hid (Four w4 w.heap.size) := Four.kept (w := (wr.drewN nq)) r8.out hg4 (by omega)
                have K94 : Hid (Four w4 (w.heap.size + 1)) := Four.kept (w := (wr.drewN nq)) r9.out hg4 (by omega)
                obtain ⟨⟨y, d4⟩, e4⟩ := K94.out.cell (k + 1) (by omega)
                rw [HB.out] at rC2
                clear hh hg4 HB rB rG r8 r9
                generalize M.nx s (255) q bad = st at *
                obtain ⟨q', bad'⟩ := st
                go_wp2_with fail
                go_roundw
                case rel => exact ⟨k + 1, q', bad', by omega, hq4, by go_num, rdB_other KB4.out (by omega), grown_setCell KG4.out (Or.inr (by simp)) _, Four.other K84.out (by omega), Four.set K94.out (k + 1) (by omega) x, rC2⟩
                case measure => simp [intOf]; omega
    · obtain rfl : k = 3 := by omega
      have HC : Hid ((q, bad) = ((M.ins s p R F L).1, !(M.ins s p R F L).2)) := by
        show _ = _
        have e : (M.letters S).drop 3 = [] := by have := M.letters_end S; rw [KZ.out] at this; exact this
        rw [← rC.out, e]; rfl
      obtain ⟨a0, a1, a2, a3, f9⟩ := r9.out
      obtain ⟨z0, z1, z2, z3, f8⟩ := r8.out
      obtain ⟨_, d0, d1, d2, d3, _, _, _, _⟩ := fourB_cells f9 (grown_refl wr (some b)) (by omega)
      obtain ⟨_, c0, c1, c2, c3, e0, e1, e2, e3⟩ := fourB_cells f8 (grown_refl wr (some b)) (by omega)
      clear f8 f9 r8 r9 rC
      go_wp2_with fail
      refine bodyPost_ret (v := .agg #[.int .i64 a0, .int .i64 a1, .int .i64 a2, .int .i64 a3]) (by simp [results, Tryz.results54, go_sem, c0, c1, c2, c3]) rfl ⟨⟨_, _, _, _, rfl⟩, ?_, ?_⟩
      · have hc := HC.out
        simp only [Prod.mk.injEq] at hc
        rw [← hc.1, ← hc.2]
        repeat (rw [Below.heap_setCell _ _ _ _ (by simp; omega)])
        exact rB.out
      · repeat (refine grown_setCell ?_ (Or.inr (by simp)) _)
        exact rG.out

end Go.Proofs.YtnjiinbhbjpfkaaGreatDoor

/-
  The document's 'Program' answers as the plain function 'prg' says: for every text that is no longer than a text can be.
-/
namespace Go.Proofs.YtnjiinbhbjpfkaaGreatDoor
open Go.RowKit

/-- What 'next' has come to. -/
def Nxt (s : ByteArray) (p L H : Nat) (bad : Bool) (x q : Nat) (bad' : Bool) : Prop :=
  (bad' = true ∧ q = p ∧ (bad = true ∨ M.tk s p L H = false)) ∨ (bad' = false ∧ bad = false ∧ q = p + 1 ∧ x = M.bt s p ∧ M.tk s p L H = true)

/-- 'next', whatever stands there: a number within the bounds; the byte, if nothing is wrong. -/
theorem next_val (b : Nat) (s : ByteArray) (p L H : Nat) (bad : Bool) (lo hi : Int) (w : World) (h : w.heap[b]? = some (rdB s p bad)) (hs : s.size ≤ maxLen) (hp : p ≤ s.size) (hL : lo = L) (hH : hi = H) (hLH : L ≤ H) :
    Calls Tryz.prog 53 #[.pointer (some ⟨b, 0, none⟩), .int .i64 lo, .int .i64 hi] w fun e w' => ∃ (x q : Nat) (bad' : Bool), e = .returned (.int .i64 x) ∧ L ≤ x ∧ x ≤ H ∧ w'.heap[b]? = some (rdB s q bad') ∧ w.grownBy w' (some b) ∧ q ≤ s.size ∧
      Nxt s p L H bad x q bad' := by
  by_cases hb : bad = false ∧ M.tk s p L H = true
  · obtain ⟨rfl, ht⟩ := hb
    have h3 := M.tk_lt ht
    refine (next_good b s p L H lo hi w h hs hL hH ht).mono ?_
    rintro e w' ⟨rfl, h1, h2⟩
    exact ⟨M.bt s p, p + 1, false, rfl, h3.2.1, h3.2.2, h1, h2, by omega, Or.inr ⟨rfl, rfl, rfl, rfl, ht⟩⟩
  · have hb' : bad = true ∨ M.tk s p L H = false := by
      cases bad with
      | true => exact Or.inl rfl
      | false => exact Or.inr (by simpa using hb)
    refine (next_bad b s p L H bad lo hi w h hp hL hH hb').mono ?_
    rintro e w' ⟨rfl, h1, h2⟩
    exact ⟨L, p, true, by rw [hL], Nat.le_refl _, hLH, h1, h2, hp, Or.inl ⟨rfl, rfl, hb'⟩⟩

theorem below_of_grownB {w w' : World} {o : Obj} (h : (w.alloc o).grownBy w' (some w.heap.size)) : Below w.heap.size w w' :=
  ⟨h.os, h.tape, h.output, by have := h.size; simp at this; omega, fun k hk => (h.block k (by simp; omega) (by intro e; injection e; omega)).trans (Below.heap_alloc _ _ _ hk)⟩

theorem below_same {w0 w w' : World} (h : w.grownBy w' (some w0.heap.size)) (hs : w0.heap.size ≤ w.heap.size) : Below w0.heap.size w w' :=
  ⟨h.os, h.tape, h.output, h.size, fun k hk => h.block k (by omega) (by intro e; injection e; omega)⟩
theorem twoB_cells {w : World} {k : Nat} {a0 a1 : Value} {T : TypeId} (h1 : w.heap[k]? = some (.cells #[a0, a1] T (0, 0))) :
    k < w.heap.size ∧ w.cell? ⟨k, 0, none⟩ = some a0 ∧ w.cell? ⟨k, 1, none⟩ = some a1 ∧ w.frozen? ⟨k, 0, none⟩ = false ∧ w.frozen? ⟨k, 1, none⟩ = false :=
  ⟨heap_lt h1, by simp [World.cell?, World.frozen?, h1]⟩

theorem two_new (w : World) (a0 a1 : Value) (T : TypeId) : ∀ j u, [a0, a1][j]? = some u → (w.alloc (.cells #[a0, a1] T)).cell? ((⟨w.heap.size, 0, none⟩ : Addr).add j) = some u := by
  intro j u hj
  match j, hj with
  | 0, hj => simp at hj; subst hj; simp [Addr.add]
  | 1, hj => simp at hj; subst hj; simp [Addr.add]
theorem four_new (w : World) (o : Obj) (a0 a1 a2 a3 : Value) (T : TypeId) : ∀ j u, [a0, a1, a2, a3][j]? = some u → ((w.alloc o).alloc (.cells #[a0, a1, a2, a3] T)).cell? ((⟨w.heap.size + 1, 0, none⟩ : Addr).add j) = some u := by
  intro j u hj
  match j, hj with
  | 0, hj => simp at hj; subst hj; simp [Addr.add]
  | 1, hj => simp at hj; subst hj; simp [Addr.add]
  | 2, hj => simp at hj; subst hj; simp [Addr.add]
  | 3, hj => simp at hj; subst hj; simp [Addr.add]

theorem two_set1 {w : World} {g : Nat} {a0 a1 : Value} {T : TypeId} (h : w.heap[g]? = some (.cells #[a0, a1] T (0, 0))) (v : Value) : (w.setCell ⟨g, 1, none⟩ v).heap[g]? = some (.cells #[a0, v] T (0, 0)) := by
  simp [World.setCell, Array.getElem?_modify, h]

/-- What is left to read, if something is wrong, or not. -/
def left (bad : Bool) (q : Nat) (r : Nat × Bool) : Nat × Bool := if bad = true then (q, false) else r

theorem Tryz.info90 : (Tryz.prog.info? 90).map (fun i => (i.zero, i.size, i.bytes)) = some (some (.agg #[.int .i64 0, .int .i64 0, .int .i64 0, .int .i64 0]), 4, 32) := by kernel_rfl
theorem Tryz.info89 : (Tryz.prog.info? 89).map (fun i => (i.zero, i.size, i.bytes)) = some (some (.agg #[.int .i64 0, .slice none 0 0]), 2, 32) := by kernel_rfl

def ProgB (w w' : World) (e : Ending) (r : Nat × Bool) : Prop :=
  (r.2 = false ∧ e = .returned (.tuple #[.slice none 0 0, .int .i64 (r.1 : Int), .bool false])) ∨
  (r.2 = true ∧ ∃ (ad : Addr) (n c : Nat) (r0 : Nat), e = .returned (.tuple #[.slice (some ad) n c, .int .i64 0, .bool true]) ∧ 1 ≤ n ∧ 2 ≤ r0 ∧ r0 ≤ 8 ∧ w'.cell? ad = some (.int .i64 r0) ∧ ad.spot = none ∧ ad.off = 0 ∧ w.heap.size ≤ ad.block ∧ ad.block < w'.heap.size)

theorem left_fn {s : ByteArray} {q F R L q1 q2 : Nat} {bad1 bad2 : Bool}
    (h1 : Nxt s q 2 8 false R q1 bad1)
    (h2 : Nxt s q1 1 200 bad1 L q2 bad2) :
    left bad2 q2 (M.code s R F L q2 L) = M.fn s q F := by
  unfold left M.fn
  rcases h1 with ⟨rfl, rfl, h1⟩ | ⟨rfl, _, rfl, rfl, h1⟩
  · have h1' : ¬ M.tk s q1 2 8 = true := by simpa using h1
    rcases h2 with ⟨rfl, rfl, h2⟩ | ⟨_, h, _⟩
    · rw [if_pos rfl, if_neg h1']
    · cases h
  · rw [if_pos h1]
    rcases h2 with ⟨rfl, rfl, h2⟩ | ⟨rfl, _, rfl, rfl, h2⟩
    · have h2' : ¬ M.tk s (q + 1) 1 200 = true := by simpa using h2
      rw [if_pos rfl, if_neg h2']
    · rw [if_pos h2]; simp

theorem left_fns {s : ByteArray} {F q q' n : Nat} {bad' : Bool} {X : Nat × Bool} (h : M.fns s F q (n + 1) = X) (hy : M.fn s q F = (q', !bad')) : left bad' q' (M.fns s F q' n) = X := by
  rw [← h]; unfold left
  conv => rhs; unfold M.fns
  rw [hy]
  cases bad' <;> simp

theorem left_code {s : ByteArray} {R F L q n : Nat} {Y : Nat × Bool} (h : M.code s R F L q (n + 1) = Y) : left (!(M.ins s q R F L).2) (M.ins s q R F L).1 (M.code s R F L (M.ins s q R F L).1 n) = Y := by
  rw [← h]; unfold left
  conv => rhs; unfold M.code
  cases (M.ins s q R F L).2 <;> simp

theorem left_prg {s : ByteArray} {F q : Nat} {bad : Bool} (h : Nxt s 0 1 8 false F q bad) :
    ∃ X : Nat × Bool, M.prg s = (X.1, X.2 && decide (X.1 = s.size)) ∧ left bad q (M.fns s F q F) = X := by
  rcases h with ⟨rfl, rfl, h⟩ | ⟨rfl, _, rfl, rfl, h⟩
  · have h' : ¬ M.tk s 0 1 8 = true := by simpa using h
    exact ⟨(0, false), by unfold M.prg; rw [if_neg h']; rfl, rfl⟩
  · exact ⟨M.fns s (M.bt s 0) 1 (M.bt s 0), by unfold M.prg; rw [if_pos h], rfl⟩

def First (xs : List Value) (k : Nat) : Prop := k = 0 ∨ ∃ r0 : Nat, 2 ≤ r0 ∧ r0 ≤ 8 ∧ xs[0]? = some (.int .i64 r0)
theorem First.more {xs : List Value} {k R : Nat} {v : Value} (h : First xs k) (h1 : 2 ≤ R) (h2 : R ≤ 8) (h3 : k = 0 → xs = []) : First (xs ++ [.int .i64 R, v]) (k + 1) := by
  right
  rcases h with rfl | ⟨r0, a, b, c⟩
  · rw [h3 rfl]; exact ⟨R, h1, h2, rfl⟩
  · refine ⟨r0, a, b, ?_⟩
    rw [List.getElem?_append_left]
    · exact c
    · exact (List.getElem?_eq_some_iff.1 c).1

set_option maxRecDepth 100000 in
set_option maxHeartbeats 4000000 in
theorem programB_any (s : ByteArray) (w : World) (hs : s.size ≤ maxLen) (hs2 : s.size ≤ 140737488355328) :
    Calls Tryz.prog 35 #[.string s] w fun e w' => ProgB w w' e (M.prg s) ∧ Below w.heap.size w w' := by
  have HS : Hid (s.size ≤ maxLen) := hs
  clear hs
  obtain ⟨i1, hi1, hz10, hz11, hz12⟩ := info_parts Tryz.info90
  obtain ⟨i2, hi2, hz20, hz21, hz22⟩ := info_parts Tryz.info89
  go_enter Tryz.func35, Tryz.ntmps35
  go_wp2_with fail
  refine (next_val w.heap.size s 0 1 8 false 1 8 (w.alloc (rdB s 0 false)) (heap_alloc_new w _) HS.out (by omega) rfl rfl (by omega)).mono ?_
  rintro e w1 ⟨F, q, bad, rfl, f1, f2, hh, hg, hq, hcase⟩
  have KB : Hid (w1.heap[w.heap.size]? = some (rdB s q bad)) := hh
  have KL : Hid (Below w.heap.size w w1) := below_of_grownB hg
  obtain ⟨X, hX1, hX2⟩ := left_prg hcase
  have HX1 : Hid (M.prg s = (X.1, X.2 && decide (X.1 = s.size))) := hX1
  have HX2 : Hid (left bad q (M.fns s F q F) = X) := hX2
  clear hh hg hcase hX1 hX2
  go_wp2_with fail
  go_loopw [7, 8] (fun v i wr => ∃ (k q : Nat) (bad : Bool) (ad : Option Addr) (cp : Nat) (xs : List Value), k ≤ F ∧ q ≤ s.size ∧ i = .int .i64 k ∧ v = .slice ad k cp ∧ Hid (wr.heap[w.heap.size]? = some (rdB s q bad)) ∧ Hid (Below w.heap.size w wr) ∧ Hid (wr.ownsRow (w.heap.size + 1) 89 2 (.slice ad k cp) k xs) ∧ Hid (First xs k) ∧ Hid (left bad q (M.fns s F q (F - k)) = X)) (fun _ i _ => F - (intOf i).toNat)
  case atStart => exact ⟨0, q, bad, none, 0, [], by omega, hq, rfl, rfl, KB, KL, World.ownsRow_nil _ _ _ _, Or.inl rfl, HX2⟩
  case round =>
    clear hq KB KL HX2
    obtain ⟨k, q, bad, ad, cp, xs, hk, hq, rfl, rfl, rB, rL, rO, rF, rX⟩ := hrel
    obtain ⟨y0, y1, y2⟩ := rdB_cells rB.out
    by_cases hlt : k < F
    · cases bad with
      | true =>
        have HC : Hid ((q, false) = X) := rX
        go_wp2_with fail
        go_quiet (fail)
        go_wp2_with fail
        go_ret3
        refine ⟨?_, below_drewN rL.out _⟩
        rw [HX1.out, ← HC.out]
        exact Or.inl ⟨rfl, rfl⟩
      | false =>
        clear y0 y1 y2
        have HX3 : Hid (M.fns s F q ((F - (k + 1)) + 1) = X) := by
          show _ = _
          rw [← rX.out, show F - k = (F - (k + 1)) + 1 by omega]; rfl
        clear rX
        have y2 := (rdB_cells rB.out).2.2
        go_wp2_with fail
        refine (next_val w.heap.size s q 2 8 false 2 8 wr rB.out HS.out hq rfl rfl (by omega)).mono ?_
        rintro e w3 ⟨R, q1, bad1, rfl, a1, a2, hh, hg, hq1, hc1⟩
        have KB3 : Hid (w3.heap[w.heap.size]? = some (rdB s q1 bad1)) := hh
        have KL3 : Hid (Below w.heap.size w w3) := rL.out.trans (below_same hg rL.out.size)
        have hne : (Value.slice ad k cp).ownBlock = none ∨ (Value.slice ad k cp).ownBlock ≠ some w.heap.size := by
          right; intro e; have := (rO.out.lt _ e).1; omega
        have KO3 : Hid (w3.ownsRow (w.heap.size + 1) 89 2 (.slice ad k cp) k xs) := rO.out.kept hg hne
        have HC1 : Hid (Nxt s q 2 8 false R q1 bad1) := hc1
        clear hh hg rB rL rO y2 hc1
        have hgN : w.heap.size < w3.heap.size := heap_lt KB3.out
        have KV : Hid (∀ x, (Value.slice ad k cp).ownBlock = some x → x < w3.heap.size) := fun x hx => (KO3.out.lt x hx).2
        go_wp2_with fail
        refine (next_val w.heap.size s q1 1 200 bad1 1 200 (w3.alloc (.cells #[.int .i64 R, .slice none 0 0] 89)) (rdB_alloc KB3.out _) HS.out hq1 rfl rfl (by omega)).mono ?_
        rintro e w4 ⟨L, q2, bad2, rfl, l1, l2, hh, hg, hq2, hc2⟩
        have KB4 : Hid (w4.heap[w.heap.size]? = some (rdB s q2 bad2)) := hh
        have KL4 : Hid (Below w.heap.size w w4) := (KL3.out.alloc (by omega) _).trans (below_same hg (by simp; omega))
        have KO4 : Hid (w4.ownsRow (w.heap.size + 1) 89 2 (.slice ad k cp) k xs) := (KO3.out.alloc _).kept hg hne
        have KF4 : Hid (w4.heap[w3.heap.size]? = some (.cells #[.int .i64 R, .slice none 0 0] 89 (0, 0))) := grown_heap hg (heap_alloc_new w3 _) (by intro e; injection e; omega)
        have HY : Hid (left bad2 q2 (M.code s R F L q2 L) = M.fn s q F) := left_fn HC1.out hc2
        clear hh hg KB3 KL3 KO3 HC1 hc2 hq1
        generalize w3.heap.size = g at *
        go_wp2_with fail
        go_loopw [11] (fun i wx => ∃ (j q' : Nat) (bad' : Bool) (ad' : Option Addr) (cp' : Nat) (ys : List Value), j ≤ L ∧ q' ≤ s.size ∧ i = .int .i64 j ∧ Hid (wx.heap[w.heap.size]? = some (rdB s q' bad')) ∧ Hid (wx.heap[g]? = some (.cells #[.int .i64 R, .slice ad' j cp'] 89 (0, 0))) ∧ Hid (wx.ownsRow (g + 1) 90 4 (.slice ad' j cp') j ys) ∧ Hid (wx.ownsRow (w.heap.size + 1) 89 2 (.slice ad k cp) k xs) ∧ Hid (Below w.heap.size w wx) ∧ Hid (left bad' q' (M.code s R F L q' (L - j)) = M.fn s q F)) (fun i _ => L - (intOf i).toNat)
        case atStart => exact ⟨0, q2, bad2, none, 0, [], by omega, hq2, rfl, KB4, KF4, World.ownsRow_nil _ _ _ _, KO4, KL4, HY⟩
        case round =>
          clear KB4 KL4 KO4 KF4 HY hq2
          obtain ⟨j, q', bad', ad', cp', ys, hj, hq', rfl, sB, sF, sY, sO, sL, sC⟩ := hrel
          obtain ⟨_, _, y2⟩ := rdB_cells sB.out
          obtain ⟨_, d0, d1, e0, e1⟩ := twoB_cells sF.out
          by_cases hjl : j < L
          · cases bad' with
            | true =>
              have HYY : Hid (M.fn s q F = (q', !true)) := sC.out.symm
              clear sC
              go_wp2_with (at_builtin; refine wpList_append_own _ rfl (.tmp 59) (.tmp 61) 83 rfl (w.heap.size + 1) 89 i2 _ 2 32 Tryz.underlying83 hi2 hz20 hz21 hz22 rfl (by decide) _ _ _ rfl (sO.out.alloc _) ⟨wr.heap.size, 0, none⟩ 1 1 [.int .i64 R, .slice ad' j cp'] rfl rfl ?c1 ?c2 ?c3 ?c4 ?c5 ?_)
              case c1 => exact two_new wr _ _ _
              case c2 => intro u hu; simp at hu; rcases hu with rfl | rfl <;> rfl
              case c3 => unfold maxLen; omega
              case c4 => omega
              case c5 => have := sL.out.size; have := heap_lt sB.out; simp; omega
              intro v' w6 hown hgrow _
              obtain ⟨g', cap', rfl⟩ : ∃ g' cap', v' = .slice (some ⟨g', 0, none⟩) (k + 1) cap' := by
                rcases hown.2 with ⟨_, h⟩ | ⟨g', cap', _, h, _⟩
                · omega
                · exact ⟨g', cap', h⟩
              have hnN : some w.heap.size ≠ (Value.slice ad k cp).ownBlock := by
                intro e; have := (sO.out.lt _ e.symm).1; omega
              have KB6 : Hid (w6.heap[w.heap.size]? = some (rdB s q' true)) := grown_heap hgrow (rdB_alloc sB.out _) hnN
              have KL6 : Hid (Below w.heap.size w w6) := (sL.out.alloc (by have := heap_lt sB.out; omega) _).grown hgrow (by have := heap_lt sB.out; simp; omega) (fun x hx => by have := (sO.out.lt _ hx).1; omega)
              have KO6 : Hid (w6.ownsRow (w.heap.size + 1) 89 2 (.slice (some ⟨g', 0, none⟩) (k + 1) cap') (k + 1) (xs ++ [.int .i64 R, .slice ad' j cp'])) := hown
              have KF6 : Hid (First (xs ++ [.int .i64 R, .slice ad' j cp']) (k + 1)) := rF.out.more a1 a2 (fun e => by have := sO.out.1; rw [e] at this; simpa using this)
              have KX6 : Hid (left true q' (M.fns s F q' (F - (k + 1))) = X) := left_fns HX3.out HYY.out
              clear hown hgrow sB sF sY sO sL y2 d0 d1 e0 e1 hnN
              go_wp2_with fail
              go_roundw
              case rel => exact ⟨k + 1, q', true, some ⟨g', 0, none⟩, cap', _, by omega, hq', by go_num, rfl, KB6, KL6, KO6, KF6, KX6⟩
              case measure => simp [intOf]; omega
            | false =>
              have HC5 : Hid (M.code s R F L q' ((L - (j + 1)) + 1) = M.fn s q F) := by
                show _ = _
                rw [← sC.out, show L - j = (L - (j + 1)) + 1 by omega]; rfl
              clear sC
              go_wp2_with fail
              refine (code_head w.heap.size s q' R F L R F L wr sB.out HS.out hs2 hq' rfl rfl rfl (by omega) f1 a2 f2).mono ?_
              rintro e w5 ⟨⟨b0, b1, b2, b3, rfl⟩, hh, hg⟩
              have hne' : (Value.slice ad' j cp').ownBlock = none ∨ (Value.slice ad' j cp').ownBlock ≠ some w.heap.size := by
                right; intro e; have := (sY.out.lt _ e).1; omega
              have KB5 : Hid (w5.heap[w.heap.size]? = some (rdB s ((M.ins s q' R F L).1 : Nat) (!(M.ins s q' R F L).2))) := hh
              have KF5 : Hid (w5.heap[g]? = some (.cells #[.int .i64 R, .slice ad' j cp'] 89 (0, 0))) := grown_heap hg sF.out (by intro e; injection e; omega)
              have KY5 : Hid (w5.ownsRow (g + 1) 90 4 (.slice ad' j cp') j ys) := sY.out.kept hg hne'
              have KO5 : Hid (w5.ownsRow (w.heap.size + 1) 89 2 (.slice ad k cp) k xs) := sO.out.kept hg hne
              have KL5 : Hid (Below w.heap.size w w5) := sL.out.trans (below_same hg sL.out.size)
              have HC6 := left_code HC5.out
              have HC7 : Hid (left (!(M.ins s q' R F L).2) (M.ins s q' R F L).1 (M.code s R F L (M.ins s q' R F L).1 (L - (j + 1))) = M.fn s q F) := HC6
              have hq5 := (M.ins_le (s := s) (p := q') (r := R) (f := F) (l := L) hq').2
              clear hh hg sB sF sY sO sL y2 d0 d1 e0 e1 hne' HC5 HC6
              generalize (M.ins s q' R F L).1 = q5 at *
              generalize (!(M.ins s q' R F L).2) = bad5 at *
              obtain ⟨hz5, d0, d1, e0, e1⟩ := twoB_cells KF5.out
              have hz6 : g < w5.heap.size + 1 := by omega
              go_wp2_with (at_builtin; refine wpList_append_own _ rfl (.tmp 54) (.tmp 56) 87 rfl (g + 1) 90 i1 _ 4 32 Tryz.underlying87 hi1 hz10 hz11 hz12 rfl (by decide) _ _ _ rfl ((KY5.out.alloc _).alloc _) ⟨w5.heap.size + 1, 0, none⟩ 1 1 [.int .i64 b0, .int .i64 b1, .int .i64 b2, .int .i64 b3] rfl rfl ?c1 ?c2 ?c3 ?c4 ?c5 ?_)
              case c1 => exact four_new w5 _ _ _ _ _ _
              case c2 => intro u hu; simp at hu; rcases hu with rfl | rfl | rfl | rfl <;> rfl
              case c3 => unfold maxLen; omega
              case c4 => omega
              case c5 => simp; omega
              intro v' w6 hown hgrow _
              obtain ⟨g', cap', rfl⟩ : ∃ g' cap', v' = .slice (some ⟨g', 0, none⟩) (j + 1) cap' := by
                rcases hown.2 with ⟨_, h⟩ | ⟨g', cap', _, h, _⟩
                · omega
                · exact ⟨g', cap', h⟩
              have hnN : ∀ x, x < g + 1 → some x ≠ (Value.slice ad' j cp').ownBlock := by
                intro x hx e; have := (KY5.out.lt _ e.symm).1; omega
              have KB6 : Hid (w6.heap[w.heap.size]? = some (rdB s q5 bad5)) := grown_heap hgrow (rdB_alloc (rdB_alloc KB5.out _) _) (hnN _ (by omega))
              have KF6 : Hid (w6.heap[g]? = some (.cells #[.int .i64 R, .slice ad' j cp'] 89 (0, 0))) := grown_heap hgrow ((Below.heap_alloc _ _ _ (by simp; omega)).trans ((Below.heap_alloc _ _ _ hz5).trans KF5.out)) (hnN _ (by omega))
              have KL6 : Hid (Below w.heap.size w w6) := ((KL5.out.alloc (by omega) _).alloc (by simp; omega) _).grown hgrow (by simp; omega) (fun x hx => by have := (KY5.out.lt _ hx).1; omega)
              have KY6 : Hid (w6.ownsRow (g + 1) 90 4 (.slice (some ⟨g', 0, none⟩) (j + 1) cap') (j + 1) (ys ++ [.int .i64 b0, .int .i64 b1, .int .i64 b2, .int .i64 b3])) := hown
              have KO6 : Hid (w6.ownsRow (w.heap.size + 1) 89 2 (.slice ad k cp) k xs) := ((KO5.out.alloc _).alloc _).kept hgrow (by cases hv : (Value.slice ad k cp).ownBlock with | none => exact Or.inl rfl | some x => exact Or.inr (hnN x (by have := KV.out x hv; omega)))
              clear hown hgrow KB5 KF5 KY5 KO5 KL5 d0 d1 e0 e1
              obtain ⟨hz7, d0, d1, e0, e1⟩ := twoB_cells KF6.out
              go_wp2_with fail
              go_roundw
              case rel => exact ⟨j + 1, q5, bad5, some ⟨g', 0, none⟩, cap', _, by omega, hq5, by go_num, rdB_other KB6.out (by omega), two_set1 KF6.out _, ownsRow_setCell_below KY6.out (by show g < g + 1; omega) _, KO6.out.kept (grown_setCell (grown_refl w6 (some g)) (Or.inl rfl) _) (by right; intro e; have := KV.out _ e; omega), KL6.out.setCell (by show w.heap.size ≤ g; omega) _, HC7⟩
              case measure => simp [intOf]; omega
          · obtain rfl : j = L := by omega
            have HYY : Hid (M.fn s q F = (q', !bad')) := by show _ = _; rw [← sC.out, Nat.sub_self]; unfold left; cases bad' <;> rfl
            clear sC
            go_wp2_with (at_builtin; refine wpList_append_own _ rfl (.tmp 59) (.tmp 61) 83 rfl (w.heap.size + 1) 89 i2 _ 2 32 Tryz.underlying83 hi2 hz20 hz21 hz22 rfl (by decide) _ _ _ rfl (sO.out.alloc _) ⟨wr.heap.size, 0, none⟩ 1 1 [.int .i64 R, .slice ad' j cp'] rfl rfl ?c1 ?c2 ?c3 ?c4 ?c5 ?_)
            case c1 => exact two_new wr _ _ _
            case c2 => intro u hu; simp at hu; rcases hu with rfl | rfl <;> rfl
            case c3 => unfold maxLen; omega
            case c4 => omega
            case c5 => have := sL.out.size; have := heap_lt sB.out; simp; omega
            intro v' w6 hown hgrow _
            obtain ⟨g', cap', rfl⟩ : ∃ g' cap', v' = .slice (some ⟨g', 0, none⟩) (k + 1) cap' := by
              rcases hown.2 with ⟨_, h⟩ | ⟨g', cap', _, h, _⟩
              · omega
              · exact ⟨g', cap', h⟩
            have hnN : some w.heap.size ≠ (Value.slice ad k cp).ownBlock := by
              intro e; have := (sO.out.lt _ e.symm).1; omega
            have KB6 : Hid (w6.heap[w.heap.size]? = some (rdB s q' bad')) := grown_heap hgrow (rdB_alloc sB.out _) hnN
            have KL6 : Hid (Below w.heap.size w w6) := (sL.out.alloc (by have := heap_lt sB.out; omega) _).grown hgrow (by have := heap_lt sB.out; simp; omega) (fun x hx => by have := (sO.out.lt _ hx).1; omega)
            have KO6 : Hid (w6.ownsRow (w.heap.size + 1) 89 2 (.slice (some ⟨g', 0, none⟩) (k + 1) cap') (k + 1) (xs ++ [.int .i64 R, .slice ad' j cp'])) := hown
            have KF6 : Hid (First (xs ++ [.int .i64 R, .slice ad' j cp']) (k + 1)) := rF.out.more a1 a2 (fun e => by have := sO.out.1; rw [e] at this; simpa using this)
            have KX6 : Hid (left bad' q' (M.fns s F q' (F - (k + 1))) = X) := left_fns HX3.out HYY.out
            clear hown hgrow sB sF sY sO sL y2 d0 d1 e0 e1 hnN
            go_wp2_with fail
            go_roundw
            case rel => exact ⟨k + 1, q', bad', some ⟨g', 0, none⟩, cap', _, by omega, hq', by go_num, rfl, KB6, KL6, KO6, KF6, KX6⟩
            case measure => simp [intOf]; omega
    · obtain rfl : k = F := by omega
      have HC : Hid ((q, !bad) = X) := by show _ = _; rw [← rX.out, Nat.sub_self]; unfold left; cases bad <;> rfl
      clear rX
      cases bad with
      | true =>
        go_wp2_with fail
        go_quiet (fail)
        go_wp2_with fail
        go_ret3
        refine ⟨?_, below_drewN rL.out _⟩
        rw [HX1.out, ← HC.out]
        exact Or.inl ⟨rfl, rfl⟩
      | false =>
        by_cases hz : q < s.size
        · go_wp2_with fail
          go_quiet (fail)
          go_wp2_with fail
          go_ret3
          refine ⟨?_, below_drewN rL.out _⟩
          rw [HX1.out, ← HC.out]
          have hne : decide (q = s.size) = false := by simp; omega
          refine Or.inl ⟨by simpa using hne, rfl⟩
        · have g1 : decide ((q : Int) < (s.size : Int)) = false := by simp; omega
          have heq : Hid (q = s.size) := by show _ = _; omega
          go_wp2_with fail
          go_ret3
          refine ⟨?_, rL.out⟩
          rw [HX1.out, ← HC.out]
          have hne : decide (q = s.size) = true := by simpa using heq.out
          refine Or.inr ⟨by simpa using hne, ?_⟩
          rcases rO.out.2 with ⟨_, h0⟩ | ⟨g, cap, cur, h0, hb0, hg0, _⟩
          · omega
          · simp only [Value.slice.injEq] at h0
            obtain ⟨rfl, _, rfl⟩ := h0
            rcases rF.out with h0 | ⟨r0, ra, rb, rc⟩
            · omega
            · refine ⟨⟨g, 0, none⟩, k, cp, r0, rfl, f1, ra, rb, ?_, rfl, rfl, ?_, heap_lt hg0⟩
              · rw [rO.out.cellAt 0 (by omega)]; exact rc
              · show w.heap.size ≤ g; omega

end Go.Proofs.YtnjiinbhbjpfkaaGreatDoor

/-
  The document's 'frame' and 'spawn' return and write into the machine alone, where its program has a function of two to eight registers.
-/
namespace Go.Proofs.YtnjiinbhbjpfkaaGreatDoor
open Go.RowKit

theorem Tryz.info115 : (Tryz.prog.info? 115).map (fun i => (i.zero, i.size, i.bytes)) = some (some (.agg #[.int .i64 0, .int .i64 0]), 2, 16) := by kernel_rfl

set_option maxRecDepth 100000 in
set_option maxHeartbeats 1000000 in
theorem frame_any (mb pb n c r0 : Nat) (w : World) (h0 : w.cell? ⟨mb, 0, none⟩ = some (.slice (some ⟨pb, 0, none⟩) n c)) (h1 : w.cell? ⟨pb, 0, none⟩ = some (.int .i64 r0)) (hm : mb < w.heap.size) (hp : pb < w.heap.size) (hn : 1 ≤ n) (hr : 2 ≤ r0) (hr2 : r0 ≤ 8) :
    Calls Tryz.prog 74 #[.pointer (some ⟨mb, 0, none⟩), .int .i64 0, .agg #[.int .i64 0, .int .i64 0], .agg #[.int .i64 0, .int .i64 0], .int .i64 0] w fun e w' => (∃ a : Option Addr, e = .returned (.agg #[.int .i64 0, .slice a r0 r0, .int .i64 0, .int .i64 0])) ∧ Below w.heap.size w w' := by
  obtain ⟨i0, hi, hz0, hz1, hz2⟩ := info_parts Tryz.info115
  have hn2 : (0 : Int) < (n : Int) := by omega
  have hn3 : 0 < n := by omega
  have hm1 : mb < w.heap.size + 1 := by omega
  have hm2 : mb < w.heap.size + 1 + 1 := by omega
  have hp1 : pb < w.heap.size + 1 := by omega
  have hp2 : pb < w.heap.size + 1 + 1 := by omega
  go_enter Tryz.func74, Tryz.ntmps74
  go_wp2_with (at_make; go_loud (refine wpList_make_full _ rfl _ _ 161 rfl 0 115 i0 _ 2 Tryz.underlying161 hi hz0 hz1 _ _ _ _ r0 rfl rfl rfl rfl (by rw [hz2]; omega) (by unfold maxLen; omega) (Nat.zero_le _) ?_))
  intro w3 hown hg3
  have hB3 := below_none hg3
  obtain ⟨hc, hf⟩ := bcell hB3
  have hz := hB3.size
  simp at hz
  have KB3 : Hid (Below w.heap.size w w3) := ((((Below.refl _ _).alloc (Nat.le_refl _) _).alloc (by simp) _).alloc (by simp; omega) _).trans (hB3.mono (by simp; omega))
  have KW0 : Blk w3 (w.heap.size + 1 + 1 + 1) 115 (r0 * 2) := by have := Blk.owned hown; simpa using this
  have KW : Hid (Blk w3 (w.heap.size + 1 + 1 + 1) 115 (r0 * 2)) := KW0
  clear KW0
  have a0 : w3.cell? ⟨w.heap.size, 0, none⟩ = some (.int .i64 0) := by rw [hc _ _ (by simp; omega)]; simp [go_sem]
  have a1 : w3.cell? ⟨w.heap.size, 1, none⟩ = some (.int .i64 0) := by rw [hc _ _ (by simp; omega)]; simp [go_sem]
  have b0 : w3.cell? ⟨w.heap.size + 1, 0, none⟩ = some (.int .i64 0) := by rw [hc _ _ (by simp)]; simp [go_sem]
  have b1 : w3.cell? ⟨w.heap.size + 1, 1, none⟩ = some (.int .i64 0) := by rw [hc _ _ (by simp)]; simp [go_sem]
  have r0' : w3.cell? ⟨w.heap.size + 1 + 1, 0, none⟩ = some (.int .i64 0) := by rw [hc _ _ (by simp)]; simp [go_sem]
  have r1 : w3.cell? ⟨w.heap.size + 1 + 1, 1, none⟩ = some (.slice none 0 0) := by rw [hc _ _ (by simp)]; simp [go_sem]
  have r2 : w3.cell? ⟨w.heap.size + 1 + 1, 2, none⟩ = some (.int .i64 0) := by rw [hc _ _ (by simp)]; simp [go_sem]
  have r3 : w3.cell? ⟨w.heap.size + 1 + 1, 3, none⟩ = some (.int .i64 0) := by rw [hc _ _ (by simp)]; simp [go_sem]
  have z0 : w3.frozen? ⟨w.heap.size + 1 + 1, 0, none⟩ = false := by rw [hf _ _ (by simp)]; simp [go_sem]
  have z1 : w3.frozen? ⟨w.heap.size + 1 + 1, 1, none⟩ = false := by rw [hf _ _ (by simp)]; simp [go_sem]
  have z2 : w3.frozen? ⟨w.heap.size + 1 + 1, 2, none⟩ = false := by rw [hf _ _ (by simp)]; simp [go_sem]
  have z3 : w3.frozen? ⟨w.heap.size + 1 + 1, 3, none⟩ = false := by rw [hf _ _ (by simp)]; simp [go_sem]
  obtain ⟨⟨x0, c0⟩, e0⟩ := KW.out.cell 0 (by omega)
  obtain ⟨⟨x1, c1⟩, e1⟩ := KW.out.cell 1 (by omega)
  obtain ⟨⟨x2, c2⟩, e2⟩ := KW.out.cell 2 (by omega)
  obtain ⟨⟨x3, c3⟩, e3⟩ := KW.out.cell 3 (by omega)
  have hq0 : (0 : Int) < (r0 : Int) := by omega
  have hq1 : (1 : Int) < (r0 : Int) := by omega
  clear hown hg3 hB3 hc hf hz h0 h1
  go_wp2_with fail
  refine bodyPost_ret (v := .agg #[.int .i64 0, .slice (some ⟨w.heap.size + 1 + 1 + 1, 0, none⟩) r0 r0, .int .i64 0, .int .i64 0]) (by simp [results, Tryz.results74, go_sem, r0', r1, r2, r3]) rfl ⟨⟨_, rfl⟩, ?_⟩
  repeat (refine Below.setCell ?_ (by simp; omega) _)
  exact KB3.out
theorem eight_new (w : World) (a0 a1 a2 a3 a4 a5 a6 a7 : Value) (T : TypeId) : ∀ j u, [a0, a1, a2, a3, a4, a5, a6, a7][j]? = some u → (w.alloc (.cells #[a0, a1, a2, a3, a4, a5, a6, a7] T)).cell? ((⟨w.heap.size, 0, none⟩ : Addr).add j) = some u := by
  intro j u hj
  match j, hj with
  | 0, hj => simp at hj; subst hj; simp [Addr.add]
  | 1, hj => simp at hj; subst hj; simp [Addr.add]
  | 2, hj => simp at hj; subst hj; simp [Addr.add]
  | 3, hj => simp at hj; subst hj; simp [Addr.add]
  | 4, hj => simp at hj; subst hj; simp [Addr.add]
  | 5, hj => simp at hj; subst hj; simp [Addr.add]
  | 6, hj => simp at hj; subst hj; simp [Addr.add]
  | 7, hj => simp at hj; subst hj; simp [Addr.add]
theorem eight_new2 (w : World) (A B : Obj) (a0 a1 a2 a3 a4 a5 a6 a7 : Value) (T : TypeId) : ∀ j u, [a0, a1, a2, a3, a4, a5, a6, a7][j]? = some u → (((w.alloc A).alloc B).alloc (.cells #[a0, a1, a2, a3, a4, a5, a6, a7] T)).drew.cell? ((⟨w.heap.size + 1 + 1, 0, none⟩ : Addr).add j) = some u := by
  have h := eight_new ((w.alloc A).alloc B) a0 a1 a2 a3 a4 a5 a6 a7 T
  have e : ((w.alloc A).alloc B).heap.size = w.heap.size + 1 + 1 := by simp
  rw [e] at h
  exact h
theorem Tryz.info167 : (Tryz.prog.info? 167).map (fun i => (i.zero, i.size, i.bytes)) = some (some (.agg #[.slice none 0 0, .int .i64 0, .int .i64 0, .int .i64 0, .int .i64 0, .int .i64 0, .int .i64 0, .int .i64 0]), 8, 80) := by kernel_rfl
theorem Tryz.info3s : (Tryz.prog.info? 3).map (fun i => (i.zero, i.size, i.bytes)) = some (some (.int .i64 0), 1, 8) := by kernel_rfl

set_option maxRecDepth 100000 in
set_option maxHeartbeats 1000000 in
theorem spawn_any (mb pb n c r0 : Nat) (w : World) (h0 : w.cell? ⟨mb, 0, none⟩ = some (.slice (some ⟨pb, 0, none⟩) n c)) (h1 : w.cell? ⟨pb, 0, none⟩ = some (.int .i64 r0)) (h6 : w.cell? ⟨mb, 6, none⟩ = some (.slice none 0 0)) (h7 : w.cell? ⟨mb, 7, none⟩ = some (.slice none 0 0))
    (z6 : w.frozen? ⟨mb, 6, none⟩ = false) (z7 : w.frozen? ⟨mb, 7, none⟩ = false) (hm : mb < w.heap.size) (hp : pb < w.heap.size) (hn : 1 ≤ n) (hr : 2 ≤ r0) (hr2 : r0 ≤ 8) :
    Calls Tryz.prog 47 #[.pointer (some ⟨mb, 0, none⟩), .int .i64 0, .agg #[.int .i64 0, .int .i64 0], .agg #[.int .i64 0, .int .i64 0]] w fun e w' => (∃ x : Int, e = .returned (.int .i64 x)) ∧ w.grownBy w' (some mb) := by
  have hm1 : mb < w.heap.size + 1 := by omega
  have hm2 : mb < w.heap.size + 1 + 1 := by omega
  go_enter Tryz.func47, Tryz.ntmps47
  go_wp2_with fail
  refine (frame_any mb pb n c r0 ((w.alloc (.cells #[.int .i64 0, .int .i64 0] 115)).alloc (.cells #[.int .i64 0, .int .i64 0] 115)) (by simp [go_sem, hm, hm1, h0]) (by simp [go_sem, hp, show pb < w.heap.size + 1 by omega, h1]) (by simp; omega) (by simp; omega) hn hr hr2).mono ?_
  rintro e w1 ⟨⟨a, rfl⟩, hB⟩
  have hm3 : mb < w1.heap.size := by have := hB.size; simp at this; omega
  obtain ⟨hc, hf⟩ := bcell hB
  have k6 : w1.cell? ⟨mb, 6, none⟩ = some (.slice none 0 0) := by rw [hc _ _ (by simp; omega)]; simp [go_sem, hm, hm1, h6]
  have k7 : w1.cell? ⟨mb, 7, none⟩ = some (.slice none 0 0) := by rw [hc _ _ (by simp; omega)]; simp [go_sem, hm, hm1, h7]
  have y6 : w1.frozen? ⟨mb, 6, none⟩ = false := by rw [hf _ _ (by simp; omega)]; simp [go_sem, hm, hm1, z6]
  have y7 : w1.frozen? ⟨mb, 7, none⟩ = false := by rw [hf _ _ (by simp; omega)]; simp [go_sem, hm, hm1, z7]
  have KG : Hid (w.grownBy w1 (some mb)) := grown_trans (grown_trans (World.grownBy_alloc _ _ _) (World.grownBy_alloc _ _ _)) (grown_of_below hB)
  clear hc hf hB h0 h1 h6 h7 z6 z7
  obtain ⟨i0, hi, hz0, hz1, hz2⟩ := info_parts Tryz.info167
  have hm4 : mb < w1.heap.size + 1 := by omega
  have hm5 : mb < w1.heap.size + 1 + 1 := by omega
  have hm6 : mb < w1.heap.size + 1 + 1 + 1 := by omega
  go_wp2_with fail
  go_region_law (refine step_append_grows rfl (.tmp 19) (.tmp 23) 106 rfl 167 i0 _ 8 80 Tryz.underlying106 hi hz0 hz1 hz2 rfl (by decide) none 0 0 [] (by simp [Act.eval]) (fun _ => ⟨rfl, rfl⟩) rfl (by intro _ h; cases h) ⟨w1.heap.size + 1 + 1, 0, none⟩ 1 1 [.slice (some ⟨w1.heap.size + 1, 0, none⟩) 1 1, .int .i64 1, .int .i64 0, .int .i64 0, .int .i64 0, .int .i64 0, .int .i64 0, .int .i64 0] (by simp [Act.eval]) rfl (eight_new2 _ _ _ _ _ _ _ _ _ _ _ _) (by simp [Value.oneCell']) (by omega) (by unfold maxLen; omega) (by omega) ?_; intro v' w6 hown hgrow; obtain ⟨g6, cap6, rfl⟩ := row_form hown (by omega); have hgn : w1.grownBy w6 none := grown_trans (grown_drew (grown_trans (grown_trans (World.grownBy_alloc _ _ _) (World.grownBy_alloc _ _ _)) (World.grownBy_alloc _ _ _))) hgrow; obtain ⟨t6, u6⟩ := grown_cell hgn (a := ⟨mb, 6, none⟩) hm3; obtain ⟨t7, u7⟩ := grown_cell hgn (a := ⟨mb, 7, none⟩) hm3; rw [k6] at t6; rw [k7] at t7; rw [y6] at u6; rw [y7] at u7; have KG6 : Hid (w.grownBy w6 (some mb)) := grown_trans KG.out (grown_of_none hgn); have hm7 : mb < w6.heap.size := Nat.lt_of_lt_of_le hm3 hgn.size; clear hown hgrow hgn k6 k7 y6 y7 KG)
  all_goals
    clear i0 hi hz0 hz1 hz2 hm4 hm5 hm6
    obtain ⟨j0, hj, hq0, hq1, hq2⟩ := info_parts Tryz.info3s
    go_wp2_with fail
    go_region_law (refine step_append_grows rfl (.tmp 31) (.tmp 37) 54 rfl 3 j0 _ 1 8 Tryz.underlying54 hj hq0 hq1 hq2 rfl (by decide) none 0 0 [] (by simp [Act.eval]) (fun _ => ⟨rfl, rfl⟩) rfl (by intro _ h; cases h) ⟨w6.heap.size, 0, none⟩ 1 1 [.int .i64 1] (by simp [Act.eval]) rfl (by intro j u hj; match j, hj with | 0, hj => (simp at hj; subst hj; simp [Addr.add, go_sem])) (by simp [Value.oneCell']) (by omega) (by unfold maxLen; omega) (by omega) ?_; intro v' w8 hown hgrow; obtain ⟨g8, cap8, rfl⟩ := row_form hown (by omega); obtain ⟨t8, u8⟩ := grown_cell hgrow (a := ⟨mb, 6, none⟩) (by simp [go_sem]; omega); obtain ⟨t9, u9⟩ := grown_cell hgrow (a := ⟨mb, 7, none⟩) (by simp [go_sem]; omega); simp [go_sem, t6, t7, u6, u7, hm7] at t8 t9 u8 u9; have KG8 : Hid (w.grownBy w8 (some mb)) := grown_trans (by repeat (first | exact KG6.out | refine grown_drew ?_ | refine grown_alloc ?_ _ | refine grown_setCell ?_ (Or.inl rfl) _)) (grown_of_none hgrow); clear hown hgrow t6 t7 u6 u7 KG6)
  all_goals
    go_wp2_with fail
    go_ret
    exact ⟨⟨_, rfl⟩, by repeat (first | exact KG8.out | refine grown_setCell ?_ (Or.inl rfl) _)⟩

end Go.Proofs.YtnjiinbhbjpfkaaGreatDoor

/-
  The document's Load tells what 'told' says, for every text and configuration.
-/
namespace Go.Proofs.YtnjiinbhbjpfkaaGreatDoor
open Go.RowKit

set_option maxRecDepth 100000 in
set_option maxHeartbeats 1000000 in
theorem loadB_good (s : ByteArray) (c0 c1 c2 c3 : Int) (w : World) (hs : s.size ≤ maxLen) (hs2 : s.size ≤ 140737488355328)
    (g0 : 1 ≤ c0) (g1 : c0 ≤ 200) (g2 : 1 ≤ c1) (g3 : c1 ≤ 50) (g4 : 1 ≤ c2) (g5 : c2 ≤ 50) (g6 : 1 ≤ c3) (g7 : c3 ≤ 16) :
    Calls Tryz.prog 31 #[.string s, .agg #[.int .i64 c0, .int .i64 c1, .int .i64 c2, .int .i64 c3]] w fun e w' => Load2 e (told s c0 c1 c2 c3) ∧ Below w.heap.size w w' := by
  have HS : Hid (s.size ≤ maxLen) := hs
  have HOK : Hid (okC c0 c1 c2 c3 = true) := by
    show _ = _
    simp [okC, inB]; omega
  have b0 : decide (c0 < 1) = false := by simp; omega
  have b1 : decide (200 < c0) = false := by simp; omega
  have b2 : decide (c1 < 1) = false := by simp; omega
  have b3 : decide (50 < c1) = false := by simp; omega
  have b4 : decide (c2 < 1) = false := by simp; omega
  have b5 : decide (50 < c2) = false := by simp; omega
  have b6 : decide (c3 < 1) = false := by simp; omega
  have b7 : decide (16 < c3) = false := by simp; omega
  clear hs
  go_enter Tryz.func31, Tryz.ntmps31
  go_wp2_with fail
  refine (programB_any s _ HS.out hs2).mono ?_
  rintro e w1 ⟨hP, hB⟩
  obtain ⟨hc, hf⟩ := bcell hB
  have hz := hB.size
  simp at hz
  have KB1 : Hid (Below w.heap.size w w1) := (((Below.refl _ _).alloc (Nat.le_refl _) _).alloc (by simp) _).trans (hB.mono (by simp; omega))
  have d0 : w1.cell? ⟨w.heap.size + 1, 0, none⟩ = some (.int .i64 0) := by rw [hc _ _ (by simp)]; simp [go_sem]
  have d1 : w1.cell? ⟨w.heap.size + 1, 1, none⟩ = some (.int .i64 0) := by rw [hc _ _ (by simp)]; simp [go_sem]
  have e0 : w1.frozen? ⟨w.heap.size + 1, 0, none⟩ = false := by rw [hf _ _ (by simp)]; simp [go_sem]
  have e1 : w1.frozen? ⟨w.heap.size + 1, 1, none⟩ = false := by rw [hf _ _ (by simp)]; simp [go_sem]
  have a0 : w1.cell? ⟨w.heap.size, 0, none⟩ = some (.int .i64 c0) := by rw [hc _ _ (by simp; omega)]; simp [go_sem]
  have a1 : w1.cell? ⟨w.heap.size, 1, none⟩ = some (.int .i64 c1) := by rw [hc _ _ (by simp; omega)]; simp [go_sem]
  have a2 : w1.cell? ⟨w.heap.size, 2, none⟩ = some (.int .i64 c2) := by rw [hc _ _ (by simp; omega)]; simp [go_sem]
  have a3 : w1.cell? ⟨w.heap.size, 3, none⟩ = some (.int .i64 c3) := by rw [hc _ _ (by simp; omega)]; simp [go_sem]
  clear hc hf hB b0 b1 b2 b3 b4 b5 b6 b7 g0 g1 g2 g3 g4 g5 g6 g7
  rcases hP with ⟨hno, rfl⟩ | ⟨hyes, ad, n, c, r0, rfl, n1, ra, rb, rc, rd, re, rf', rg⟩
  · have HN : Hid ((M.prg s).2 = false) := hno
    clear hno
    generalize hP : (M.prg s).1 = P at *
    have HP : Hid ((M.prg s).1 = P) := hP
    clear hP
    go_wp2_with fail
    refine bodyPost_ret (v := .tuple #[.pointer none, .agg #[.int .i64 2, .int .i64 P]]) (by simp [results, Tryz.results31, go_sem, d0, d1]) rfl ⟨?_, ?_⟩
    · have e : told s c0 c1 c2 c3 = (2, (P : Int), false) := by unfold told; rw [if_pos HOK.out, HN.out, HP.out]; rfl
      rw [e]; exact ⟨_, Or.inr ⟨rfl, rfl⟩, rfl⟩
    · repeat (refine Below.setCell ?_ (by simp) _)
      exact KB1.out
  · have HN : Hid ((M.prg s).2 = true) := hyes
    clear hyes
    obtain ⟨pb, po, ps⟩ := ad
    simp only at rd re
    subst rd re
    have hpb : pb < w1.heap.size := rg
    have l1 : w.heap.size + 1 < w1.heap.size := by omega
    go_wp2_with fail
    refine (spawn_any w1.heap.size pb n c r0 _ (by simp [go_sem]) (by simp [go_sem, hpb, rc]) (by simp [go_sem]) (by simp [go_sem]) (by simp [go_sem]) (by simp [go_sem]) (by simp) (by simp; omega) n1 ra rb).mono ?_
    rintro e w2 ⟨⟨x, rfl⟩, hg⟩
    have hgs := hg.size
    simp at hgs
    have q0 : w2.cell? ⟨w.heap.size + 1, 0, none⟩ = some (.int .i64 0) := hg.cell (by simp [go_sem, l1, d0]) (by intro e; injection e with e; simp only at e; omega)
    have q1 : w2.cell? ⟨w.heap.size + 1, 1, none⟩ = some (.int .i64 0) := hg.cell (by simp [go_sem, l1, d1]) (by intro e; injection e with e; simp only at e; omega)
    have k0 : w2.frozen? ⟨w.heap.size + 1, 0, none⟩ = false := by
      rw [World.frozen?_of_block (hg.block (w.heap.size + 1) (by simp; omega) (by intro e; injection e; omega))]; simp [go_sem, l1, e0]
    have k1 : w2.frozen? ⟨w.heap.size + 1, 1, none⟩ = false := by
      rw [World.frozen?_of_block (hg.block (w.heap.size + 1) (by simp; omega) (by intro e; injection e; omega))]; simp [go_sem, l1, e1]
    have KB2 : Hid (Below w.heap.size w w2) := KB1.out.trans ((below_of_grown hg).mono (by omega))
    clear hg d0 d1 e0 e1 a0 a1 a2 a3 KB1 rc rf' rg hpb
    go_wp2_with fail
    refine bodyPost_ret (v := .tuple #[.pointer (some ⟨w1.heap.size, 0, none⟩), .agg #[.int .i64 0, .int .i64 0]]) (by simp [results, Tryz.results31, go_sem, q0, q1]) rfl ⟨?_, ?_⟩
    · have e : told s c0 c1 c2 c3 = (0, 0, true) := by unfold told; rw [if_pos HOK.out, HN.out]; rfl
      rw [e]; exact ⟨_, Or.inl ⟨rfl, _, rfl⟩, rfl⟩
    · repeat (refine Below.setCell ?_ (by simp) _)
      exact KB2.out

theorem told_bad {s : ByteArray} {c0 c1 c2 c3 : Int} (h : okC c0 c1 c2 c3 = false) : told s c0 c1 c2 c3 = (1, 0, false) := by unfold told; rw [if_neg (by rw [h]; simp)]

set_option maxHeartbeats 400000 in
theorem loadB_bad0 (s : ByteArray) (c0 c1 c2 c3 : Int) (w : World)  (g0 : c0 < 1) :
    Calls Tryz.prog 31 #[.string s, .agg #[.int .i64 c0, .int .i64 c1, .int .i64 c2, .int .i64 c3]] w fun e w' => Load2 e (1, 0, false) ∧ Below w.heap.size w w' := by
  have b0 : decide (c0 < 1) = true := decide_eq_true g0
  clear g0
  go_enter Tryz.func31, Tryz.ntmps31
  go_wp2_with fail
  refine bodyPost_ret (v := .tuple #[.pointer none, .agg #[.int .i64 1, .int .i64 0]]) (by simp [results, Tryz.results31, go_sem]) rfl ⟨⟨_, Or.inr ⟨rfl, rfl⟩, rfl⟩, ?_⟩
  exact ((Below.refl _ _).alloc (Nat.le_refl _) _).alloc (by simp) _

set_option maxHeartbeats 400000 in
theorem loadB_bad1 (s : ByteArray) (c0 c1 c2 c3 : Int) (w : World) (g0 : ¬ c0 < 1) (g1 : 200 < c0) :
    Calls Tryz.prog 31 #[.string s, .agg #[.int .i64 c0, .int .i64 c1, .int .i64 c2, .int .i64 c3]] w fun e w' => Load2 e (1, 0, false) ∧ Below w.heap.size w w' := by
  have b0 : decide (c0 < 1) = false := decide_eq_false g0
  have b1 : decide (200 < c0) = true := decide_eq_true g1
  clear g0 g1
  go_enter Tryz.func31, Tryz.ntmps31
  go_wp2_with fail
  refine bodyPost_ret (v := .tuple #[.pointer none, .agg #[.int .i64 1, .int .i64 0]]) (by simp [results, Tryz.results31, go_sem]) rfl ⟨⟨_, Or.inr ⟨rfl, rfl⟩, rfl⟩, ?_⟩
  exact ((Below.refl _ _).alloc (Nat.le_refl _) _).alloc (by simp) _

set_option maxHeartbeats 400000 in
theorem loadB_bad2 (s : ByteArray) (c0 c1 c2 c3 : Int) (w : World) (g0 : ¬ c0 < 1) (g1 : ¬ 200 < c0) (g2 : c1 < 1) :
    Calls Tryz.prog 31 #[.string s, .agg #[.int .i64 c0, .int .i64 c1, .int .i64 c2, .int .i64 c3]] w fun e w' => Load2 e (1, 0, false) ∧ Below w.heap.size w w' := by
  have b0 : decide (c0 < 1) = false := decide_eq_false g0
  have b1 : decide (200 < c0) = false := decide_eq_false g1
  have b2 : decide (c1 < 1) = true := decide_eq_true g2
  clear g0 g1 g2
  go_enter Tryz.func31, Tryz.ntmps31
  go_wp2_with fail
  refine bodyPost_ret (v := .tuple #[.pointer none, .agg #[.int .i64 1, .int .i64 0]]) (by simp [results, Tryz.results31, go_sem]) rfl ⟨⟨_, Or.inr ⟨rfl, rfl⟩, rfl⟩, ?_⟩
  exact ((Below.refl _ _).alloc (Nat.le_refl _) _).alloc (by simp) _

set_option maxHeartbeats 400000 in
theorem loadB_bad3 (s : ByteArray) (c0 c1 c2 c3 : Int) (w : World) (g0 : ¬ c0 < 1) (g1 : ¬ 200 < c0) (g2 : ¬ c1 < 1) (g3 : 50 < c1) :
    Calls Tryz.prog 31 #[.string s, .agg #[.int .i64 c0, .int .i64 c1, .int .i64 c2, .int .i64 c3]] w fun e w' => Load2 e (1, 0, false) ∧ Below w.heap.size w w' := by
  have b0 : decide (c0 < 1) = false := decide_eq_false g0
  have b1 : decide (200 < c0) = false := decide_eq_false g1
  have b2 : decide (c1 < 1) = false := decide_eq_false g2
  have b3 : decide (50 < c1) = true := decide_eq_true g3
  clear g0 g1 g2 g3
  go_enter Tryz.func31, Tryz.ntmps31
  go_wp2_with fail
  refine bodyPost_ret (v := .tuple #[.pointer none, .agg #[.int .i64 1, .int .i64 0]]) (by simp [results, Tryz.results31, go_sem]) rfl ⟨⟨_, Or.inr ⟨rfl, rfl⟩, rfl⟩, ?_⟩
  exact ((Below.refl _ _).alloc (Nat.le_refl _) _).alloc (by simp) _

set_option maxHeartbeats 400000 in
theorem loadB_bad4 (s : ByteArray) (c0 c1 c2 c3 : Int) (w : World) (g0 : ¬ c0 < 1) (g1 : ¬ 200 < c0) (g2 : ¬ c1 < 1) (g3 : ¬ 50 < c1) (g4 : c2 < 1) :
    Calls Tryz.prog 31 #[.string s, .agg #[.int .i64 c0, .int .i64 c1, .int .i64 c2, .int .i64 c3]] w fun e w' => Load2 e (1, 0, false) ∧ Below w.heap.size w w' := by
  have b0 : decide (c0 < 1) = false := decide_eq_false g0
  have b1 : decide (200 < c0) = false := decide_eq_false g1
  have b2 : decide (c1 < 1) = false := decide_eq_false g2
  have b3 : decide (50 < c1) = false := decide_eq_false g3
  have b4 : decide (c2 < 1) = true := decide_eq_true g4
  clear g0 g1 g2 g3 g4
  go_enter Tryz.func31, Tryz.ntmps31
  go_wp2_with fail
  refine bodyPost_ret (v := .tuple #[.pointer none, .agg #[.int .i64 1, .int .i64 0]]) (by simp [results, Tryz.results31, go_sem]) rfl ⟨⟨_, Or.inr ⟨rfl, rfl⟩, rfl⟩, ?_⟩
  exact ((Below.refl _ _).alloc (Nat.le_refl _) _).alloc (by simp) _

set_option maxHeartbeats 400000 in
theorem loadB_bad5 (s : ByteArray) (c0 c1 c2 c3 : Int) (w : World) (g0 : ¬ c0 < 1) (g1 : ¬ 200 < c0) (g2 : ¬ c1 < 1) (g3 : ¬ 50 < c1) (g4 : ¬ c2 < 1) (g5 : 50 < c2) :
    Calls Tryz.prog 31 #[.string s, .agg #[.int .i64 c0, .int .i64 c1, .int .i64 c2, .int .i64 c3]] w fun e w' => Load2 e (1, 0, false) ∧ Below w.heap.size w w' := by
  have b0 : decide (c0 < 1) = false := decide_eq_false g0
  have b1 : decide (200 < c0) = false := decide_eq_false g1
  have b2 : decide (c1 < 1) = false := decide_eq_false g2
  have b3 : decide (50 < c1) = false := decide_eq_false g3
  have b4 : decide (c2 < 1) = false := decide_eq_false g4
  have b5 : decide (50 < c2) = true := decide_eq_true g5
  clear g0 g1 g2 g3 g4 g5
  go_enter Tryz.func31, Tryz.ntmps31
  go_wp2_with fail
  refine bodyPost_ret (v := .tuple #[.pointer none, .agg #[.int .i64 1, .int .i64 0]]) (by simp [results, Tryz.results31, go_sem]) rfl ⟨⟨_, Or.inr ⟨rfl, rfl⟩, rfl⟩, ?_⟩
  exact ((Below.refl _ _).alloc (Nat.le_refl _) _).alloc (by simp) _

set_option maxHeartbeats 400000 in
theorem loadB_bad6 (s : ByteArray) (c0 c1 c2 c3 : Int) (w : World) (g0 : ¬ c0 < 1) (g1 : ¬ 200 < c0) (g2 : ¬ c1 < 1) (g3 : ¬ 50 < c1) (g4 : ¬ c2 < 1) (g5 : ¬ 50 < c2) (g6 : c3 < 1) :
    Calls Tryz.prog 31 #[.string s, .agg #[.int .i64 c0, .int .i64 c1, .int .i64 c2, .int .i64 c3]] w fun e w' => Load2 e (1, 0, false) ∧ Below w.heap.size w w' := by
  have b0 : decide (c0 < 1) = false := decide_eq_false g0
  have b1 : decide (200 < c0) = false := decide_eq_false g1
  have b2 : decide (c1 < 1) = false := decide_eq_false g2
  have b3 : decide (50 < c1) = false := decide_eq_false g3
  have b4 : decide (c2 < 1) = false := decide_eq_false g4
  have b5 : decide (50 < c2) = false := decide_eq_false g5
  have b6 : decide (c3 < 1) = true := decide_eq_true g6
  clear g0 g1 g2 g3 g4 g5 g6
  go_enter Tryz.func31, Tryz.ntmps31
  go_wp2_with fail
  refine bodyPost_ret (v := .tuple #[.pointer none, .agg #[.int .i64 1, .int .i64 0]]) (by simp [results, Tryz.results31, go_sem]) rfl ⟨⟨_, Or.inr ⟨rfl, rfl⟩, rfl⟩, ?_⟩
  exact ((Below.refl _ _).alloc (Nat.le_refl _) _).alloc (by simp) _

set_option maxHeartbeats 400000 in
theorem loadB_bad7 (s : ByteArray) (c0 c1 c2 c3 : Int) (w : World) (g0 : ¬ c0 < 1) (g1 : ¬ 200 < c0) (g2 : ¬ c1 < 1) (g3 : ¬ 50 < c1) (g4 : ¬ c2 < 1) (g5 : ¬ 50 < c2) (g6 : ¬ c3 < 1) (g7 : 16 < c3) :
    Calls Tryz.prog 31 #[.string s, .agg #[.int .i64 c0, .int .i64 c1, .int .i64 c2, .int .i64 c3]] w fun e w' => Load2 e (1, 0, false) ∧ Below w.heap.size w w' := by
  have b0 : decide (c0 < 1) = false := decide_eq_false g0
  have b1 : decide (200 < c0) = false := decide_eq_false g1
  have b2 : decide (c1 < 1) = false := decide_eq_false g2
  have b3 : decide (50 < c1) = false := decide_eq_false g3
  have b4 : decide (c2 < 1) = false := decide_eq_false g4
  have b5 : decide (50 < c2) = false := decide_eq_false g5
  have b6 : decide (c3 < 1) = false := decide_eq_false g6
  have b7 : decide (16 < c3) = true := decide_eq_true g7
  clear g0 g1 g2 g3 g4 g5 g6 g7
  go_enter Tryz.func31, Tryz.ntmps31
  go_wp2_with fail
  refine bodyPost_ret (v := .tuple #[.pointer none, .agg #[.int .i64 1, .int .i64 0]]) (by simp [results, Tryz.results31, go_sem]) rfl ⟨⟨_, Or.inr ⟨rfl, rfl⟩, rfl⟩, ?_⟩
  exact ((Below.refl _ _).alloc (Nat.le_refl _) _).alloc (by simp) _

theorem loadB_any (s : ByteArray) (c0 c1 c2 c3 : Int) (w : World) (hs : s.size ≤ maxLen) (hs2 : s.size ≤ 140737488355328) :
    Calls Tryz.prog 31 #[.string s, .agg #[.int .i64 c0, .int .i64 c1, .int .i64 c2, .int .i64 c3]] w fun e w' => Load2 e (told s c0 c1 c2 c3) ∧ Below w.heap.size w w' := by
  by_cases g0 : c0 < 1
  · rw [told_bad (by simp [okC, inB]; omega)]
    exact loadB_bad0 s c0 c1 c2 c3 w g0
  by_cases g1 : 200 < c0
  · rw [told_bad (by simp [okC, inB]; omega)]
    exact loadB_bad1 s c0 c1 c2 c3 w g0 g1
  by_cases g2 : c1 < 1
  · rw [told_bad (by simp [okC, inB]; omega)]
    exact loadB_bad2 s c0 c1 c2 c3 w g0 g1 g2
  by_cases g3 : 50 < c1
  · rw [told_bad (by simp [okC, inB]; omega)]
    exact loadB_bad3 s c0 c1 c2 c3 w g0 g1 g2 g3
  by_cases g4 : c2 < 1
  · rw [told_bad (by simp [okC, inB]; omega)]
    exact loadB_bad4 s c0 c1 c2 c3 w g0 g1 g2 g3 g4
  by_cases g5 : 50 < c2
  · rw [told_bad (by simp [okC, inB]; omega)]
    exact loadB_bad5 s c0 c1 c2 c3 w g0 g1 g2 g3 g4 g5
  by_cases g6 : c3 < 1
  · rw [told_bad (by simp [okC, inB]; omega)]
    exact loadB_bad6 s c0 c1 c2 c3 w g0 g1 g2 g3 g4 g5 g6
  by_cases g7 : 16 < c3
  · rw [told_bad (by simp [okC, inB]; omega)]
    exact loadB_bad7 s c0 c1 c2 c3 w g0 g1 g2 g3 g4 g5 g6 g7
  exact loadB_good s c0 c1 c2 c3 w hs hs2 (by omega) (by omega) (by omega) (by omega) (by omega) (by omega) (by omega) (by omega)

end Go.Proofs.YtnjiinbhbjpfkaaGreatDoor

/-
  The laws 'load' and 'Loads' answer true, for every text and configuration, where the variable of the operands' letters holds its table.
-/
namespace Go.Proofs.YtnjiinbhbjpfkaaGreatDoor
open Go.RowKit

theorem lnum_any (n : Int) (w : World) : Calls Tryz.prog 32 #[.int .i64 n] w fun e w' => e = .returned (.int .i64 n) ∧ w' = w := by
  go_enter Tryz.func32, Tryz.ntmps32
  go_wp2
  go_ret
  exact ⟨rfl, rfl⟩

set_option maxRecDepth 100000 in
set_option maxHeartbeats 1000000 in
theorem load_any (s : ByteArray) (c0 c1 c2 c3 : Int) (w : World) (hs : s.size ≤ maxLen) (hs2 : s.size ≤ 140737488355328) (hT : Tab w) :
    Calls Tryz.prog 14 #[.string s, .agg #[.int .i64 c0, .int .i64 c1, .int .i64 c2, .int .i64 c3]] w fun e w' => (∃ v, ptrIs v (told s c0 c1 c2 c3).2.2 ∧ e = .returned (.tuple #[v, .bool true])) ∧ Below w.heap.size w w' := by
  have HS : Hid (s.size ≤ maxLen) := hs
  have KT : Hid (Tab w) := hT
  clear hs hT
  go_enter Tryz.func14, Tryz.ntmps14
  go_wp2_with fail
  refine (loadA_any s c0 c1 c2 c3 _ HS.out (KT.out.alloc _)).mono ?_
  rintro e w1 ⟨⟨va, hva, rfl⟩, hB1⟩
  obtain ⟨hc, hf⟩ := bcell hB1
  have hz := hB1.size
  simp at hz
  have KB1 : Hid (Below w.heap.size w w1) := ((Below.refl _ _).alloc (Nat.le_refl _) _).trans (hB1.mono (by simp))
  have a0 : w1.cell? ⟨w.heap.size, 0, none⟩ = some (.int .i64 c0) := by rw [hc _ _ (by simp)]; simp [go_sem]
  have a1 : w1.cell? ⟨w.heap.size, 1, none⟩ = some (.int .i64 c1) := by rw [hc _ _ (by simp)]; simp [go_sem]
  have a2 : w1.cell? ⟨w.heap.size, 2, none⟩ = some (.int .i64 c2) := by rw [hc _ _ (by simp)]; simp [go_sem]
  have a3 : w1.cell? ⟨w.heap.size, 3, none⟩ = some (.int .i64 c3) := by rw [hc _ _ (by simp)]; simp [go_sem]
  clear hc hf hB1
  generalize hT : told s c0 c1 c2 c3 = T at *
  have HT : Hid (told s c0 c1 c2 c3 = T) := hT
  clear hT
  obtain ⟨t1, t2, t3⟩ := T
  simp only at hva
  have l0 : w.heap.size < w1.heap.size := by omega
  go_wp2_with fail
  refine (loadB_any s c0 c1 c2 c3 _ HS.out hs2).mono ?_
  rw [HT.out]
  rintro e w2 ⟨⟨vb, hvb, rfl⟩, hB2⟩
  obtain ⟨hc, hf⟩ := bcell hB2
  have hz2 := hB2.size
  simp at hz2
  have KB2 : Hid (Below w.heap.size w w2) := (KB1.out.alloc (by omega) _).trans (hB2.mono (by simp; omega))
  have f0 : w2.cell? ⟨w1.heap.size, 0, none⟩ = some (.int .i64 t1) := by rw [hc _ _ (by simp)]; simp [go_sem]
  have f1 : w2.cell? ⟨w1.heap.size, 1, none⟩ = some (.int .i64 t2) := by rw [hc _ _ (by simp)]; simp [go_sem]
  clear hc hf hB2 a0 a1 a2 a3 KB1
  have l1 : w1.heap.size < w2.heap.size := by omega
  have n1 : (t1 != t1) = false := by simp
  have n2 : (t2 != t2) = false := by simp
  simp only at hvb
  rcases hva with ⟨rfl, xa, rfl⟩ | ⟨rfl, rfl⟩
  · rcases hvb with ⟨_, xb, rfl⟩ | ⟨h, _⟩
    · go_wp2_with fail
      go_quiet ((go_at_call 32; exact Calls.quiet_of_same (lnum_any _ _)))
      go_wp2_with fail
      go_ret2
      refine ⟨⟨_, ?_, rfl⟩, ?_⟩
      · rw [HT.out]; exact Or.inl ⟨rfl, _, rfl⟩
      · repeat (first | exact KB2.out | refine Below.alloc ?_ (by first | omega | (simp; omega)) _ | refine below_drewN ?_ _)
    · cases h
  · rcases hvb with ⟨h, _⟩ | ⟨_, rfl⟩
    · cases h
    · go_wp2_with fail
      go_quiet ((go_at_call 32; exact Calls.quiet_of_same (lnum_any _ _)))
      go_wp2_with fail
      go_ret2
      refine ⟨⟨_, ?_, rfl⟩, ?_⟩
      · rw [HT.out]; exact Or.inr ⟨rfl, rfl⟩
      · repeat (first | exact KB2.out | refine Below.alloc ?_ (by first | omega | (simp; omega)) _ | refine below_drewN ?_ _)

def firstS : ByteArray := { data := #[1, 2, 3, 0, 0, 0, 5, 20, 0, 0, 0, 14, 0, 0, 0] }
def zeroS : ByteArray := { data := #[0] }
theorem first_told : (told firstS 1 2 1 1).2.2 = true := by decide +kernel
theorem zero_told : (told zeroS 1 2 1 1).2.2 = false := by decide +kernel

set_option maxRecDepth 100000 in
set_option maxHeartbeats 1000000 in
theorem loads_any (s : ByteArray) (c0 c1 c2 c3 : Int) (w : World) (hs : s.size ≤ maxLen) (hs2 : s.size ≤ 140737488355328) (hT : Tab w) :
    Calls Tryz.prog 3 #[.string s, .agg #[.int .i64 c0, .int .i64 c1, .int .i64 c2, .int .i64 c3]] w fun e w' => e = .returned (.bool true) ∧ Below w.heap.size w w' := by
  have HS : Hid (s.size ≤ maxLen) := hs
  have KT : Hid (Tab w) := hT
  clear hs hT
  go_enter Tryz.func3, Tryz.ntmps3
  go_wp2_with (go_at_call 15; go_in)
  refine (load_any firstS 1 2 1 1 _ (by decide) (by decide) (KT.out.alloc _)).mono ?_
  rintro e w1 ⟨⟨v1, hv1, rfl⟩, hB1⟩
  rw [first_told] at hv1
  have KB1 : Hid (Below w.heap.size w w1) := ((Below.refl _ _).alloc (Nat.le_refl _) _).trans (hB1.mono (by simp))
  obtain ⟨x1, rfl⟩ : ∃ x1, v1 = .pointer (some x1) := by
    rcases hv1 with ⟨_, h⟩ | ⟨h, _⟩
    · exact h
    · cases h
  clear hv1
  obtain ⟨hc, hf⟩ := bcell hB1
  have hz := hB1.size
  simp at hz
  have a0 : w1.cell? ⟨w.heap.size, 0, none⟩ = some (.int .i64 c0) := by rw [hc _ _ (by simp)]; simp [go_sem]
  have a1 : w1.cell? ⟨w.heap.size, 1, none⟩ = some (.int .i64 c1) := by rw [hc _ _ (by simp)]; simp [go_sem]
  have a2 : w1.cell? ⟨w.heap.size, 2, none⟩ = some (.int .i64 c2) := by rw [hc _ _ (by simp)]; simp [go_sem]
  have a3 : w1.cell? ⟨w.heap.size, 3, none⟩ = some (.int .i64 c3) := by rw [hc _ _ (by simp)]; simp [go_sem]
  have l0 : w.heap.size < w1.heap.size := by omega
  clear hc hf hB1
  go_wp2_with fail
  refine (load_any zeroS 1 2 1 1 _ (by decide) (by decide) (KT.out.below KB1.out)).mono ?_
  rintro e w2 ⟨⟨v2, hv2, rfl⟩, hB2⟩
  rw [zero_told] at hv2
  obtain rfl : v2 = .pointer none := by
    rcases hv2 with ⟨h, _⟩ | ⟨_, h⟩
    · cases h
    · exact h
  clear hv2
  have KB2 : Hid (Below w.heap.size w w2) := KB1.out.trans (hB2.mono (by omega))
  have b0 := (hB2.cell (p := ⟨w.heap.size, 0, none⟩) l0).trans a0
  have b1 := (hB2.cell (p := ⟨w.heap.size, 1, none⟩) l0).trans a1
  have b2 := (hB2.cell (p := ⟨w.heap.size, 2, none⟩) l0).trans a2
  have b3 := (hB2.cell (p := ⟨w.heap.size, 3, none⟩) l0).trans a3
  have hz2 := hB2.size
  clear hB2 a0 a1 a2 a3 KB1
  go_wp2_with fail
  refine (load_any s c0 c1 c2 c3 _ HS.out hs2 (KT.out.below KB2.out)).mono ?_
  rintro e w3 ⟨⟨v3, hv3, rfl⟩, hB3⟩
  have KB3 : Hid (Below w.heap.size w w3) := KB2.out.trans (hB3.mono (by omega))
  obtain ⟨o3, rfl⟩ : ∃ o3, v3 = .pointer o3 := by
    rcases hv3 with ⟨_, x, h⟩ | ⟨_, h⟩
    · exact ⟨_, h⟩
    · exact ⟨_, h⟩
  clear hv3 hB3 b0 b1 b2 b3 KB2
  go_wp2_with fail
  go_ret
  exact ⟨rfl, KB3.out⟩
end Go.Proofs.YtnjiinbhbjpfkaaGreatDoor

/-
  For every text and every configuration the law Loads returns true, and its arguments read as they did: the program's Load and the document's tell the same fault at the same byte, or both give a machine. No condition on the input; the package-level table of the operands' letters is taken as its initialiser lays it, which the card ties to the program's text.
-/
namespace Go.Proofs.YtnjiinbhbjpfkaaGreatDoor
open Go.ChangeShapes Go.WideShapes Go.ChangeAt Go.WideMaps Go.WideElems Go.RowKit Go.Joins
open Go.ChangeMaps (open_string shut_string)

theorem own : ownKnob Tryz.prog.godebug = none := by kernel_rfl
theorem gOpn : Tryz.prog.globalNamed (Rows.loadsRow.named.headD "") = some 0 := by kernel_rfl
theorem tOpn : (Tryz.prog.globals[0]?).map (·.type) = some 283 := by kernel_rfl
theorem cells9 : Tryz.prog.cellsOf 9 = 1 := by kernel_rfl
theorem cells283 : Tryz.prog.cellsOf 283 = 23 := by kernel_rfl
theorem cells23 : Tryz.prog.cellsOf 23 = 4 := by kernel_rfl

theorem laid_is : (Rows.laid_turnstile_code_operandKinds : DataW Unit) = .agg ((List.range 23).map fun i => .lit (.string (M.KS i).data.toList)) := by rfl

/-- What the row's list gives: the table. -/
theorem tab_of_laid {W : World} (h : laidMetH Tryz.prog Rows.loadsRow.laid W) : Tab W := by
  rw [MakeChecks.laidMetH_plain _ _ _ (by kernel_rfl)] at h
  obtain ⟨ps, ⟨g0, t0, cs0, f0, p0, q0, hg0, ht0, hv0, hd0, _, _⟩, _, _⟩ := h
  obtain rfl : 0 = g0 := Option.some.inj (gOpn.symm.trans hg0)
  obtain rfl : 283 = t0 := Option.some.inj (tOpn.symm.trans ht0)
  obtain ⟨xs, m1, rfl, hx1, hlen, hn3, hel⟩ := DataW.trod_array Tryz.underlying283 hd0
  simp only [Prod.mk.injEq] at hx1
  have hx := hx1.1
  have key : ∀ op, op < 23 → W.cell? ⟨0, op, none⟩ = some (.string (M.KS op)) := by
    intro op ho
    have h1 := hel op ho
    have hxo : xs[op]? = some (xs[op]'(by omega)) := List.getElem?_eq_getElem (by omega)
    rw [hxo, cells9] at h1
    obtain ⟨S, e1, e2, _⟩ := DataW.trod_string Tryz.underlying9 h1
    have hS : S = M.KS op := by
      have e3 : (.agg ((List.range 23).map fun i => .lit (.string (M.KS i).data.toList)) : DataW Unit) = .agg (xs.map (·.1)) := laid_is.symm.trans hx
      simp only [DataW.agg.injEq] at e3
      have e4 := congrArg (fun l => l[op]?) e3
      simp only [List.getElem?_map, List.getElem?_range ho, hxo, Option.map_some, Option.some.injEq] at e4
      rw [e2] at e4
      simp only [DataW.lit.injEq, Lit.string.injEq] at e4
      have e5 : (M.KS op).data = S.data := Array.toList_inj.1 e4
      cases S; cases hk : M.KS op
      rw [hk] at e5
      exact congrArg ByteArray.mk e5.symm
    have hc := World.var?_cell hg0 hv0 op
    rw [hc, ← hS]
    rw [Nat.mul_one] at e1
    have e6 := congrArg (fun l => l[0]?) e1
    simpa [List.getElem?_take, List.getElem?_drop] using e6
  refine ⟨?_, key⟩
  have := key 0 (by omega)
  exact World.block_lt_of_cell? W ⟨0, 0, none⟩ this

theorem door_met (os : Os) (args : Array Value) : laidMetH Tryz.prog Rows.loadsRow.laid ((World.doorLaid Tryz.prog 400 os).forCall (fun _ _ => 0) ⟨#[], args, []⟩).memory :=
  laidMetH_of_parts3 (fuel := 8) (laidMet_of_run' 8 (by kernel_rfl) (by kernel_rfl)) (by kernel_rfl) (by kernel_rfl)

set_option maxRecDepth 100000 in
theorem lifted (os : Os) (started : os.Started) (H : Type) (enc : TypeId × Value → H) :
    ReturnsInHanded {} Tryz.checked os 3 .any (fun w args => (Rows.loadsSpec.pre enc Tryz.prog Tryz.f3 [] false w args ∧ laidMetH Tryz.prog Rows.loadsRow.laid w) ∧ sizedMet enc Tryz.prog Tryz.f3 (OpenSpec.ofChange Rows.loadsSpec) false w args)
      (Rows.loadsSpec.post enc Tryz.prog Tryz.f3 false true false false) := by
  refine returnsInHanded_of_change_and (C := Tryz.checked) (X := fun w _ => laidMetH Tryz.prog Rows.loadsRow.laid w) (fun _ _ _ hh h => h.of_heap hh) own started (by kernel_rfl) Tryz.func3
    (ChangeSpec.witness_shaped (enc := enc) (C := Tryz.checked) (os := os) (X := fun w _ => laidMetH Tryz.prog Rows.loadsRow.laid w) false (World.doorLaid Tryz.prog 400 os) #[.string { data := #[] }, .agg #[.int .i64 0, .int .i64 0, .int .i64 0, .int .i64 0]] 8 rfl (World.shaped_of_RefB (by kernel_rfl) (by kernel_rfl)) (by kernel_rfl) (by kernel_rfl) (by kernel_rfl) (door_met os _)) ?_
  intro W base args ds gs before hval0 hW hcnd hsz0 hL _
  have hval : ∀ (j : Nat) t v, Tryz.f3.params[j]? = some t → args[j]? = some v → Value.okWide Tryz.prog W .any base t v := hval0
  have hW' := hW
  obtain ⟨p, q, hA0, hV, rfl, hfz, hnd⟩ := hW
  have hA : DataW.TrodAll enc Tryz.prog W 0 (fun _ => true) true Tryz.f3.params.toList args.toList ds p := hA0
  rw [Tryz.params3] at hA hval
  obtain ⟨v0, v1, d0, d1, p0, p1, rfl, rfl, rfl, h0, h1⟩ := trodAll_two hA
  obtain ⟨rfl, rfl⟩ := trodVars_none hV
  have hsz : ((DataW.weightsEach Tryz.prog [9, 23] [d0, d1]).all fun x => decide (x ≤ reachBytes)) = true := hsz0
  have hT : Tab W := tab_of_laid hL
  have h1k := h1
  obtain ⟨s, rfl, rfl, rfl, hs⟩ := open_string Tryz.underlying9 (hval 0 9 v0 rfl rfl) h0
  obtain ⟨u0, u1, u2, u3, y0, y1, y2, y3, m, rfl, rfl, rfl, hy0, hy1, hy2, hy3⟩ := open_agg4 Tryz.underlying23 (by kernel_rfl) cells23 (hval 1 23 v1 rfl rfl) h1
  obtain ⟨c0, e0, rfl, wc0⟩ := DataW.trod_int Tryz.underlying3 hy0
  obtain ⟨c1, e1, rfl, wc1⟩ := DataW.trod_int Tryz.underlying3 hy1
  obtain ⟨c2, e2, rfl, wc2⟩ := DataW.trod_int Tryz.underlying3 hy2
  obtain ⟨c3, e3, rfl, wc3⟩ := DataW.trod_int Tryz.underlying3 hy3
  simp at e0 e1 e2 e3
  subst e0 e1 e2 e3
  have hb := sized_string hsz (j := 0) (t := 9) rfl rfl
  have hb2 : s.size ≤ 140737488355328 := by
    have e : s.data.toList.length = s.size := by simp
    have := reachBytes_lt
    omega
  refine (loads_any s c0 c1 c2 c3 W hs hb2 hT).mono fun e W' ⟨he, hB⟩ => ?_
  subst he
  refine ⟨_, rfl, [.lit (.string s.data.toList), .agg [.lit (.int .i64 c0), .lit (.int .i64 c1), .lit (.int .i64 c2), .lit (.int .i64 c3)]], [], _, [], [], [], hW', ?_, ?_, rfl, ?_, fun h => by cases h⟩
  · exact trodAll_mk1 (shut_bool Tryz.underlying4 _)
  · exact trodAll_mk2 (shut_string Tryz.underlying9 hs) (shut_agg4 (y0 := (.lit (.int .i64 c0), [])) (y1 := (.lit (.int .i64 c1), [])) (y2 := (.lit (.int .i64 c2), [])) (y3 := (.lit (.int .i64 c3), [])) Tryz.underlying23 (by kernel_rfl) cells23 ⟨1, by simp [DataW.trod, Tryz.underlying3, wc0]⟩ ⟨1, by simp [DataW.trod, Tryz.underlying3, wc1]⟩ ⟨1, by simp [DataW.trod, Tryz.underlying3, wc2]⟩ ⟨1, by simp [DataW.trod, Tryz.underlying3, wc3]⟩)
  · exact hB.frame _

theorem loads_said : Rows.LoadsSaid :=
  OpenClaim.holds_of_wide 3 Tryz.f3 rfl rfl rfl rfl rfl rfl rfl ⟨rfl, rfl, rfl, rfl, rfl⟩ rfl rfl rfl rfl rfl (by kernel_rfl) Tryz.func3 (by kernel_rfl)
    (of_decide_eq_true (by kernel_rfl)) (by unfold Func.isWrapper; first | (rw [if_pos (by decide +kernel)]; kernel_rfl) | (rw [if_neg (by decide +kernel)]; exact ⟨rfl, rfl⟩))
    (fun os started H enc _ => lifted os started H enc)

/-- No parameter wants a stand-in; the program's own looks are off. -/
theorem plain (f : FuncId) (fn : Func) (hf : Tryz.pinned.checked.prog.funcNamed Rows.loadsRow.func = some f) (hfn : Tryz.pinned.checked.prog.funcs[f]? = some fn) :
    false = Tryz.pinned.checked.prog.looks [] ∧ ∀ (j : Nat) t, fn.params[j]? = some t → Tryz.pinned.checked.prog.wantsStandIn t = false := by
  obtain rfl : f = 3 := Option.some.inj ((show Tryz.prog.funcNamed Rows.loadsRow.func = some 3 by kernel_rfl).symm.trans hf) |>.symm
  obtain rfl : fn = Tryz.f3 := (Option.some.inj (Tryz.func3.symm.trans hfn)).symm
  refine ⟨by kernel_rfl, fun j t ht => ?_⟩
  rw [Tryz.params3] at ht
  have hm : t ∈ [9, 23] := by simpa using Array.mem_of_getElem? ht
  have hall : ([9, 23].all fun u => !Tryz.prog.wantsStandIn u) = true := by kernel_rfl
  exact (show Tryz.prog.wantsStandIn t = false by simpa using List.all_eq_true.1 hall t hm)

theorem loads_card : Rows.LoadsCardSaid :=
  Claim7.holds_tied_plain_at .later [] _ _ _ _ loads_said (fun _ h => by cases h) (by kernel_rfl) (fun _ h => by cases h) loads_row_tie rfl ⟨rfl, rfl⟩ (by kernel_rfl) rfl plain (by kernel_rfl)
#print axioms loads_card
end Go.Proofs.YtnjiinbhbjpfkaaGreatDoor


