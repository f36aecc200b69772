/-
  The document's 'next' gives the byte and goes on, if nothing was wrong and the byte lies within the bounds, and else marks the reader: for every reader whose place is within its text.
-/
import Derived.Test.YtnjiinbhbjpfkaaGreatDoorPartC
namespace Go.Proofs.YtnjiinbhbjpfkaaGreatDoor
open Go.RowKit

set_option maxHeartbeats 400000 in
theorem next_was (b : Nat) (s : ByteArray) (p lo hi : Int) (w : World) (h : w.heap[b]? = some (rdB s p true)) :
    Calls Tryz.prog 53 #[.pointer (some ⟨b, 0, none⟩), .int .i64 lo, .int .i64 hi] w fun e w' => e = .returned (.int .i64 lo) ∧ ∃ n, w' = (w.drewN n).setCell ⟨b, 2, none⟩ (.bool true) := by
  obtain ⟨c0, c1, c2⟩ := rdB_cells h
  obtain ⟨f1, f2⟩ := rdB_frozen h
  clear h
  go_enter Tryz.func53, Tryz.ntmps53
  go_wp2
  go_quiet (fail)
  go_wp2
  go_ret
  exact ⟨rfl, _, rfl⟩

set_option maxHeartbeats 400000 in
theorem next_end (b : Nat) (s : ByteArray) (lo hi : Int) (w : World) (h : w.heap[b]? = some (rdB s s.size false)) :
    Calls Tryz.prog 53 #[.pointer (some ⟨b, 0, none⟩), .int .i64 lo, .int .i64 hi] w fun e w' => e = .returned (.int .i64 lo) ∧ ∃ n, w' = (w.drewN n).setCell ⟨b, 2, none⟩ (.bool true) := by
  obtain ⟨c0, c1, c2⟩ := rdB_cells h
  obtain ⟨f1, f2⟩ := rdB_frozen h
  clear h
  go_enter Tryz.func53, Tryz.ntmps53
  go_wp2
  go_quiet (fail)
  go_wp2
  go_ret
  exact ⟨rfl, _, rfl⟩

set_option maxHeartbeats 400000 in
theorem next_low (b : Nat) (s : ByteArray) (p : Nat) (lo hi : Int) (w : World) (h : w.heap[b]? = some (rdB s p false)) (hp : p < s.size) (hx : (s[p].toNat : Int) < lo) :
    Calls Tryz.prog 53 #[.pointer (some ⟨b, 0, none⟩), .int .i64 lo, .int .i64 hi] w fun e w' => e = .returned (.int .i64 lo) ∧ ∃ n, w' = (w.drewN n).setCell ⟨b, 2, none⟩ (.bool true) := by
  obtain ⟨c0, c1, c2⟩ := rdB_cells h
  obtain ⟨f1, f2⟩ := rdB_frozen h
  have hb8 : s[p].toNat < 256 := UInt8.toNat_lt _
  have hw2 : IntKind.i64.wrap (s[p].toNat : Int) = (s[p].toNat : Int) := by rw [IntWalk.i64_left, IntWalk.wrap64_in _ (by omega)]
  have g1 : decide (s.size ≤ p) = false := by simp; omega
  have g2 : decide ((s[p].toNat : Int) < lo) = true := by simpa using hx
  clear h
  go_enter Tryz.func53, Tryz.ntmps53
  go_wp2
  go_quiet (fail)
  go_wp2
  go_ret
  exact ⟨rfl, _, rfl⟩

set_option maxHeartbeats 400000 in
theorem next_high (b : Nat) (s : ByteArray) (p : Nat) (lo hi : Int) (w : World) (h : w.heap[b]? = some (rdB s p false)) (hp : p < s.size) (hl : lo ≤ (s[p].toNat : Int)) (hx : hi < (s[p].toNat : Int)) :
    Calls Tryz.prog 53 #[.pointer (some ⟨b, 0, none⟩), .int .i64 lo, .int .i64 hi] w fun e w' => e = .returned (.int .i64 lo) ∧ ∃ n, w' = (w.drewN n).setCell ⟨b, 2, none⟩ (.bool true) := by
  obtain ⟨c0, c1, c2⟩ := rdB_cells h
  obtain ⟨f1, f2⟩ := rdB_frozen h
  have hb8 : s[p].toNat < 256 := UInt8.toNat_lt _
  have hw2 : IntKind.i64.wrap (s[p].toNat : Int) = (s[p].toNat : Int) := by rw [IntWalk.i64_left, IntWalk.wrap64_in _ (by omega)]
  have g1 : decide (s.size ≤ p) = false := by simp; omega
  have g2 : decide ((s[p].toNat : Int) < lo) = false := by simpa using hl
  have g3 : decide (hi < (s[p].toNat : Int)) = true := by simpa using hx
  clear h
  go_enter Tryz.func53, Tryz.ntmps53
  go_wp2
  go_quiet (fail)
  go_wp2
  go_ret
  exact ⟨rfl, _, rfl⟩

set_option maxHeartbeats 400000 in
theorem next_yes (b : Nat) (s : ByteArray) (p : Nat) (lo hi : Int) (w : World) (h : w.heap[b]? = some (rdB s p false)) (hs : s.size ≤ 9223372036854775807) (hp : p < s.size) (hl : lo ≤ (s[p].toNat : Int)) (hx : (s[p].toNat : Int) ≤ hi) :
    Calls Tryz.prog 53 #[.pointer (some ⟨b, 0, none⟩), .int .i64 lo, .int .i64 hi] w fun e w' => e = .returned (.int .i64 (s[p].toNat : Int)) ∧ ∃ n m, w' = ((w.drewN n).setCell ⟨b, 1, none⟩ (.int .i64 (p + 1))).drewN m := by
  obtain ⟨c0, c1, c2⟩ := rdB_cells h
  obtain ⟨f1, f2⟩ := rdB_frozen h
  have hb8 : s[p].toNat < 256 := UInt8.toNat_lt _
  have hw2 : IntKind.i64.wrap (s[p].toNat : Int) = (s[p].toNat : Int) := by rw [IntWalk.i64_left, IntWalk.wrap64_in _ (by omega)]
  have g1 : decide (s.size ≤ p) = false := by simp; omega
  have g2 : decide ((s[p].toNat : Int) < lo) = false := by simpa using hl
  have g3 : decide (hi < (s[p].toNat : Int)) = false := by simpa using hx
  have hw1 : IntKind.i64.wrap ((p : Int) + 1 - 1) = (p : Int) := by rw [IntWalk.i64_left, IntWalk.wrap64_in _ (by omega)]; omega
  clear h
  go_enter Tryz.func53, Tryz.ntmps53
  go_wp2
  go_quiet (fail)
  go_wp2
  go_quiet (fail)
  go_wp2
  go_ret
  exact ⟨rfl, _, _, rfl⟩

/-- 'next' where the byte may be. -/
theorem next_good (b : Nat) (s : ByteArray) (p L H : Nat) (lo hi : Int) (w : World) (h : w.heap[b]? = some (rdB s p false)) (hs : s.size ≤ maxLen) (hL : lo = L) (hH : hi = H) (ht : M.tk s p L H = true) :
    Calls Tryz.prog 53 #[.pointer (some ⟨b, 0, none⟩), .int .i64 lo, .int .i64 hi] w fun e w' => e = .returned (.int .i64 (M.bt s p)) ∧ w'.heap[b]? = some (rdB s ((p + 1 : Nat) : Int) false) ∧ w.grownBy w' (some b) := by
  obtain ⟨h1, h2, h3⟩ := M.tk_lt ht
  have e := M.bt_at s p h1
  rw [e] at h2 h3 ⊢
  refine (next_yes b s p lo hi w h (by unfold maxLen at hs; omega) h1 (by omega) (by omega)).mono ?_
  rintro e w' ⟨rfl, n, m, rfl⟩
  exact ⟨rfl, rdB_set1 (w := w.drewN n) h _, grown_drewN (grown_setCell (grown_drewN (grown_refl _ _) _) (Or.inl rfl) _) _⟩

/-- 'next' where it may not, or where something was wrong before. -/
theorem next_bad (b : Nat) (s : ByteArray) (p L H : Nat) (bad : Bool) (lo hi : Int) (w : World) (h : w.heap[b]? = some (rdB s p bad)) (hp : p ≤ s.size) (hL : lo = L) (hH : hi = H) (ht : bad = true ∨ M.tk s p L H = false) :
    Calls Tryz.prog 53 #[.pointer (some ⟨b, 0, none⟩), .int .i64 lo, .int .i64 hi] w fun e w' => e = .returned (.int .i64 lo) ∧ w'.heap[b]? = some (rdB s p true) ∧ w.grownBy w' (some b) := by
  have fin : ∀ n, (((w.drewN n).setCell ⟨b, 2, none⟩ (.bool true)).heap[b]? = some (rdB s p true)) ∧ w.grownBy ((w.drewN n).setCell ⟨b, 2, none⟩ (.bool true)) (some b) := fun n =>
    ⟨rdB_set2 (w := w.drewN n) h _, grown_setCell (grown_drewN (grown_refl _ _) _) (Or.inl rfl) _⟩
  cases bad with
  | true =>
    refine (next_was b s p lo hi w h).mono ?_
    rintro e w' ⟨rfl, n, rfl⟩
    exact ⟨rfl, fin n⟩
  | false =>
    have ht' : M.tk s p L H = false := by simpa using ht
    by_cases h1 : p < s.size
    · have e := M.bt_at s p h1
      by_cases h2 : M.bt s p < L
      · refine (next_low b s p lo hi w h h1 (by rw [← e]; omega)).mono ?_
        rintro e w' ⟨rfl, n, rfl⟩
        exact ⟨rfl, fin n⟩
      · have h3 : H < M.bt s p := by simp [M.tk] at ht'; omega
        refine (next_high b s p lo hi w h h1 (by rw [← e]; omega) (by rw [← e]; omega)).mono ?_
        rintro e w' ⟨rfl, n, rfl⟩
        exact ⟨rfl, fin n⟩
    · obtain rfl : p = s.size := by omega
      refine (next_end b s lo hi w h).mono ?_
      rintro e w' ⟨rfl, n, rfl⟩
      exact ⟨rfl, fin n⟩

end Go.Proofs.YtnjiinbhbjpfkaaGreatDoor

/-
  The document's 'kinds' gives the letters of an instruction, for every number of one.
-/
namespace Go.Proofs.YtnjiinbhbjpfkaaGreatDoor
open Go.RowKit

/-- The letters' texts. -/
def KL : List Value := [.string { data := #[114, 107, 107] }, .string { data := #[114, 114, 45] }, .string { data := #[114, 114, 114] }, .string { data := #[114, 114, 114] }, .string { data := #[114, 114, 114] }, .string { data := #[114, 114, 114] }, .string { data := #[114, 114, 114] }, .string { data := #[45, 116, 116] }, .string { data := #[114, 116, 116] }, .string { data := #[114, 115, 45] }, .string { data := #[114, 114, 114] }, .string { data := #[114, 114, 114] }, .string { data := #[114, 102, 114] }, .string { data := #[114, 114, 114] }, .string { data := #[114, 45, 45] }, .string { data := #[114, 114, 114] }, .string { data := #[45, 45, 45] }, .string { data := #[114, 45, 45] }, .string { data := #[114, 114, 45] }, .string { data := #[114, 45, 45] }, .string { data := #[114, 45, 45] }, .string { data := #[114, 114, 45] }, .string { data := #[114, 45, 45] }]
theorem KL_map : KL = (List.range 23).map (fun i => Value.string (M.KS i)) := by rfl
theorem KL_at (op : Nat) (h : op < KL.length) : KL[op] = .string (M.KS op) := by
  have h2 : KL[op]? = some (.string (M.KS op)) := by
    have h3 : op < 23 := h
    rw [KL_map]; simp [h3]
  exact (List.getElem_eq_iff h).2 h2

set_option maxHeartbeats 400000 in
theorem kinds_any (op : Nat) (w : World) (h : op < 23) :
    Calls Tryz.prog 80 #[.int .i64 op] w fun e w' => e = .returned (.string (M.KS op)) ∧ Below w.heap.size w w' := by
  go_enter Tryz.func80, Tryz.ntmps80
  go_wp2_with fail
  go_ret
  exact ⟨congrArg Ending.returned (KL_at op h), (Below.refl _ _).alloc (Nat.le_refl _) _⟩
end Go.Proofs.YtnjiinbhbjpfkaaGreatDoor

/-
  The document's reader of an instruction, as plain functions, comes to the same place and the same answer as the program's: for every text, place and bounds.
-/
namespace Go.Proofs.YtnjiinbhbjpfkaaGreatDoor.M

/-- The document's reader: where it stands; is something wrong? One byte from 0 to hi. -/
def nx (s : ByteArray) (hi : Nat) (q : Nat) (bad : Bool) : Nat × Bool :=
  if bad = true then (q, true) else if tk s q 0 hi = true then (q + 1, false) else (q, true)

def hiB (r f k : Nat) : Nat := if k = 114 then r - 1 else if k = 102 then f - 1 else if k = 115 then 8 else if k = 45 then 0 else 255

/-- Is a t wrong that begins at q? -/
def tb (s : ByteArray) (l q : Nat) : Bool := decide (q + 1 < s.size ∧ l < 256 * bt s q + bt s (q + 1))

/-- One operand of the document's reader: i from 1 to 3, its letter k, the second letter m. -/
def bst (s : ByteArray) (r f l m i k q : Nat) (bad : Bool) : Nat × Bool :=
  nx s (hiB r f k) q (bad || (decide (i = 2 ∧ m = 116) && tb s l q))

def brun (s : ByteArray) (r f l m : Nat) : List Nat → Nat → Nat × Bool → Nat × Bool
  | [], _, st => st
  | k :: ks, i, st => brun s r f l m ks (i + 1) (bst s r f l m i k st.1 st.2)

theorem nx_bad (s : ByteArray) (hi q : Nat) : nx s hi q true = (q, true) := by simp [nx]
theorem nx_le {s : ByteArray} {hi q : Nat} {bad : Bool} (h : q ≤ s.size) : q ≤ (nx s hi q bad).1 ∧ (nx s hi q bad).1 ≤ s.size := by
  unfold nx
  split
  · exact ⟨Nat.le_refl _, h⟩
  · split
    · rename_i h1
      have := tk_lt h1
      simp; omega
    · exact ⟨Nat.le_refl _, h⟩
theorem bst_bad (s : ByteArray) (r f l m i k q : Nat) : bst s r f l m i k q true = (q, true) := by simp [bst, nx_bad]
theorem bst_le {s : ByteArray} {r f l m i k q : Nat} {bad : Bool} (h : q ≤ s.size) : (bst s r f l m i k q bad).1 ≤ s.size := (nx_le h).2
theorem brun_bad (s : ByteArray) (r f l m : Nat) (ks : List Nat) : ∀ i q, brun s r f l m ks i (q, true) = (q, true) := by
  induction ks with
  | nil => intro i q; rfl
  | cons k ks ih => intro i q; unfold brun; simp only [bst_bad]; exact ih _ _

theorem kd_more : ∀ op, op < 23 → (k1 op = 116 → k2 op = 116) ∧ (k0 op = 114 ∨ k0 op = 102 ∨ k0 op = 115 ∨ k0 op = 107 ∨ k0 op = 45) ∧ (k1 op ≠ 116 → (k1 op = 114 ∨ k1 op = 102 ∨ k1 op = 115 ∨ k1 op = 107 ∨ k1 op = 45) ∧ (k2 op = 114 ∨ k2 op = 102 ∨ k2 op = 115 ∨ k2 op = 107 ∨ k2 op = 45)) := by decide

theorem hiB_eq (r f k : Nat) (h : k = 114 ∨ k = 102 ∨ k = 115 ∨ k = 107 ∨ k = 45) : hiB r f k = hiOf r f k := by
  rcases h with rfl | rfl | rfl | rfl | rfl <;> rfl
theorem hiB_t (r f : Nat) : hiB r f 116 = 255 := rfl

theorem tk255 (s : ByteArray) (q : Nat) : tk s q 0 255 = decide (q < s.size) := by
  have := bt_lt s q
  unfold tk
  congr 1
  apply propext
  constructor
  · intro h; exact h.1
  · intro h; exact ⟨h, by omega, by omega⟩

theorem brun_opn (s : ByteArray) (p op r f l : Nat) (h : op < 23) :
    brun s r f l (k1 op) (kd.getD op []) 1 (p, false) = ((opn s p op r f l).1, !(opn s p op r f l).2) := by
  obtain ⟨h1, h2, h3⟩ := kd_facts op h
  obtain ⟨m1, m2, m3⟩ := kd_more op h
  rw [h1]
  simp only [brun]
  unfold opn
  have e0 : bst s r f l (k1 op) 1 (k0 op) p false = nx s (hiOf r f (k0 op)) p false := by
    unfold bst; rw [hiB_eq _ _ _ m2]; simp
  by_cases t0 : tk s p 0 (hiOf r f (k0 op)) = true
  · have p1 := (tk_lt t0).1
    have e0' : bst s r f l (k1 op) 1 (k0 op) p false = (p + 1, false) := by rw [e0]; simp [nx, t0]
    rw [if_pos t0, e0']
    by_cases ht : k1 op = 116
    · have ht2 := m1 ht
      rw [if_pos ht]
      have e1 : bst s r f l (k1 op) (1 + 1) (k1 op) (p + 1) false = nx s 255 (p + 1) (tb s l (p + 1)) := by
        unfold bst; rw [ht, hiB_t]; simp
      have e2 : ∀ q bad, bst s r f l (k1 op) (1 + 1 + 1) (k2 op) q bad = nx s 255 q bad := by
        intro q bad; unfold bst; rw [ht2, hiB_t]; simp
      simp only [e1, e2]
      unfold tgt
      by_cases c1 : s.size < p + 1 + 2
      · rw [if_pos c1]
        have tbf : tb s l (p + 1) = false := by unfold tb; simp; omega
        rw [tbf]
        by_cases c2 : p + 1 < s.size
        · have : s.size = p + 2 := by omega
          simp [nx, tk255, this]
        · have : s.size = p + 1 := by omega
          simp [nx, tk255, this]
      · rw [if_neg c1]
        by_cases c2 : l < 256 * bt s (p + 1) + bt s (p + 1 + 1)
        · have tbt : tb s l (p + 1) = true := by unfold tb; simp; omega
          rw [if_pos c2, tbt]; simp [nx]
        · have tbf : tb s l (p + 1) = false := by unfold tb; simp; omega
          rw [if_neg c2, tbf]
          have d1 : p + 1 < s.size := by omega
          have d2 : p + 1 + 1 < s.size := by omega
          simp [nx, tk255, d1, d2]
    · obtain ⟨m4, m5⟩ := m3 ht
      rw [if_neg ht]
      have e1 : bst s r f l (k1 op) (1 + 1) (k1 op) (p + 1) false = nx s (hiOf r f (k1 op)) (p + 1) false := by
        unfold bst; rw [hiB_eq _ _ _ m4]; simp [ht]
      have e2 : ∀ q bad, bst s r f l (k1 op) (1 + 1 + 1) (k2 op) q bad = nx s (hiOf r f (k2 op)) q bad := by
        intro q bad; unfold bst; rw [hiB_eq _ _ _ m5]; simp
      simp only [e1, e2]
      by_cases t1 : tk s (p + 1) 0 (hiOf r f (k1 op)) = true
      · by_cases t2 : tk s (p + 1 + 1) 0 (hiOf r f (k2 op)) = true
        · simp [nx, t1, t2]
        · simp [nx, t1, t2]
      · simp [nx, t1]
  · have e0' : bst s r f l (k1 op) 1 (k0 op) p false = (p, true) := by rw [e0]; simp [nx, t0]
    rw [if_neg t0, e0']
    simp [bst_bad]

end Go.Proofs.YtnjiinbhbjpfkaaGreatDoor.M

/-
  The document's 'code' answers as the plain function 'ins' says: for every reader with nothing wrong yet, whose text is no longer than a text can be.
-/
namespace Go.Proofs.YtnjiinbhbjpfkaaGreatDoor
open Go.RowKit

/-- 'next' from 0 on, whatever stands there. -/
theorem next_any (b : Nat) (s : ByteArray) (p H : Nat) (bad : Bool) (hi : Int) (w : World) (h : w.heap[b]? = some (rdB s p bad)) (hs : s.size ≤ maxLen) (hp : p ≤ s.size) (hH : hi = H) :
    Calls Tryz.prog 53 #[.pointer (some ⟨b, 0, none⟩), .int .i64 0, .int .i64 hi] w fun e w' => ∃ x : Int, e = .returned (.int .i64 x) ∧ w'.heap[b]? = some (rdB s ((M.nx s H p bad).1 : Nat) (M.nx s H p bad).2) ∧ w.grownBy w' (some b) := by
  cases bad with
  | true =>
    rw [M.nx_bad]
    refine (next_bad b s p 0 H true 0 hi w h hp rfl hH (Or.inl rfl)).mono ?_
    rintro e w' ⟨rfl, h1, h2⟩
    exact ⟨_, rfl, h1, h2⟩
  | false =>
    by_cases ht : M.tk s p 0 H = true
    · have e : M.nx s H p false = (p + 1, false) := by simp [M.nx, ht]
      rw [e]
      refine (next_good b s p 0 H 0 hi w h hs rfl hH ht).mono ?_
      rintro e w' ⟨rfl, h1, h2⟩
      exact ⟨_, rfl, h1, h2⟩
    · have e : M.nx s H p false = (p, true) := by simp [M.nx, ht]
      rw [e]
      refine (next_bad b s p 0 H false 0 hi w h hp rfl hH (Or.inr (by simpa using ht))).mono ?_
      rintro e w' ⟨rfl, h1, h2⟩
      exact ⟨_, rfl, h1, h2⟩

/-- The first byte of an instruction, and what its operands come to. -/
theorem next22 (b : Nat) (s : ByteArray) (p R F L : Nat) (w : World) (h : w.heap[b]? = some (rdB s p false)) (hs : s.size ≤ maxLen) (hp : p ≤ s.size) :
    Calls Tryz.prog 53 #[.pointer (some ⟨b, 0, none⟩), .int .i64 0, .int .i64 22] w fun e w' => ∃ (op q : Nat) (bad : Bool), e = .returned (.int .i64 op) ∧ op < 23 ∧ q ≤ s.size ∧ w'.heap[b]? = some (rdB s q bad) ∧ w.grownBy w' (some b) ∧
      M.brun s R F L (M.k1 op) (M.kd.getD op []) 1 (q, bad) = ((M.ins s p R F L).1, !(M.ins s p R F L).2) := by
  by_cases ht : M.tk s p 0 22 = true
  · have e : M.ins s p R F L = M.opn s (p + 1) (M.bt s p) R F L := by unfold M.ins; rw [if_pos ht]
    have h3 := M.tk_lt ht
    rw [e]
    refine (next_good b s p 0 22 0 22 w h hs rfl rfl ht).mono ?_
    rintro e w' ⟨rfl, h1, h2⟩
    exact ⟨M.bt s p, p + 1, false, rfl, by omega, by omega, h1, h2, M.brun_opn s (p + 1) (M.bt s p) R F L (by omega)⟩
  · have e : M.ins s p R F L = (p, false) := by unfold M.ins; rw [if_neg ht]
    rw [e]
    refine (next_bad b s p 0 22 false 0 22 w h hp rfl rfl (Or.inr (by simpa using ht))).mono ?_
    rintro e w' ⟨rfl, h1, h2⟩
    exact ⟨0, p, true, rfl, by omega, hp, h1, h2, M.brun_bad _ _ _ _ _ _ _ _⟩

theorem rdB_alloc {w : World} {b : Nat} {s : ByteArray} {p : Int} {bad : Bool} (h : w.heap[b]? = some (rdB s p bad)) (o : Obj) : (w.alloc o).heap[b]? = some (rdB s p bad) := (Below.heap_alloc _ _ _ (heap_lt h)).trans h
theorem rdB_other {w : World} {b x k : Nat} {v : Value} {s : ByteArray} {p : Int} {bad : Bool} (h : w.heap[b]? = some (rdB s p bad)) (hx : b ≠ x) : (w.setCell ⟨x, k, none⟩ v).heap[b]? = some (rdB s p bad) := (Below.heap_setCell _ _ _ _ hx).trans h

def four (a0 a1 a2 a3 : Int) : Obj := .cells #[.int .i64 a0, .int .i64 a1, .int .i64 a2, .int .i64 a3] 90 (0, 0)
def Four (w : World) (c : Nat) : Prop := ∃ a0 a1 a2 a3, w.heap[c]? = some (four a0 a1 a2 a3)

theorem Four.kept {w w' : World} {c b : Nat} (h : Four w c) (hg : w.grownBy w' (some b)) (hb : c ≠ b) : Four w' c := by
  obtain ⟨a0, a1, a2, a3, h⟩ := h
  exact ⟨a0, a1, a2, a3, grown_heap hg h (by intro e; injection e; omega)⟩
theorem Four.cell {w : World} {c : Nat} (h : Four w c) (k : Nat) (hk : k < 4) : (∃ x : Int, w.cell? ⟨c, k, none⟩ = some (.int .i64 x)) ∧ w.frozen? ⟨c, k, none⟩ = false := by
  obtain ⟨a0, a1, a2, a3, h⟩ := h
  match k, hk with
  | 0, _ => exact ⟨⟨a0, by simp [World.cell?, h, four]⟩, by simp [World.frozen?, h, four]⟩
  | 1, _ => exact ⟨⟨a1, by simp [World.cell?, h, four]⟩, by simp [World.frozen?, h, four]⟩
  | 2, _ => exact ⟨⟨a2, by simp [World.cell?, h, four]⟩, by simp [World.frozen?, h, four]⟩
  | 3, _ => exact ⟨⟨a3, by simp [World.cell?, h, four]⟩, by simp [World.frozen?, h, four]⟩
theorem Four.set {w : World} {c : Nat} (h : Four w c) (k : Nat) (hk : k < 4) (x : Int) : Four (w.setCell ⟨c, k, none⟩ (.int .i64 x)) c := by
  obtain ⟨a0, a1, a2, a3, h⟩ := h
  match k, hk with
  | 0, _ => exact ⟨x, a1, a2, a3, by simp [World.setCell, Array.getElem?_modify, h, four]⟩
  | 1, _ => exact ⟨a0, x, a2, a3, by simp [World.setCell, Array.getElem?_modify, h, four]⟩
  | 2, _ => exact ⟨a0, a1, x, a3, by simp [World.setCell, Array.getElem?_modify, h, four]⟩
  | 3, _ => exact ⟨a0, a1, a2, x, by simp [World.setCell, Array.getElem?_modify, h, four]⟩
theorem Four.other {w : World} {c d k : Nat} {v : Value} (h : Four w c) (hd : c ≠ d) : Four (w.setCell ⟨d, k, none⟩ v) c := by
  obtain ⟨a0, a1, a2, a3, h⟩ := h
  exact ⟨a0, a1, a2, a3, (Below.heap_setCell _ _ _ _ hd).trans h⟩

/-- A block of four cells, behind a call that wrote into another. -/
theorem fourB_cells {w w1 : World} {b k : Nat} {a0 a1 a2 a3 : Int} (h : w.heap[k]? = some (four a0 a1 a2 a3)) (hg : w.grownBy w1 (some b)) (hk : k ≠ b) :
    k < w1.heap.size ∧ w1.cell? ⟨k, 0, none⟩ = some (.int .i64 a0) ∧ w1.cell? ⟨k, 1, none⟩ = some (.int .i64 a1) ∧ w1.cell? ⟨k, 2, none⟩ = some (.int .i64 a2) ∧ w1.cell? ⟨k, 3, none⟩ = some (.int .i64 a3) ∧
    w1.frozen? ⟨k, 0, none⟩ = false ∧ w1.frozen? ⟨k, 1, none⟩ = false ∧ w1.frozen? ⟨k, 2, none⟩ = false ∧ w1.frozen? ⟨k, 3, none⟩ = false := by
  have h1 := grown_heap hg h (by intro e; injection e; omega)
  unfold four at h1
  exact ⟨heap_lt h1, by simp [World.cell?, World.frozen?, h1]⟩

def Code4 (e : Ending) : Prop := ∃ a0 a1 a2 a3 : Int, e = .returned (.agg #[.int .i64 a0, .int .i64 a1, .int .i64 a2, .int .i64 a3])

theorem List.head?_drop_getD {α : Type} (l : List α) (n : Nat) (d : α) : (l.drop n).head?.getD d = l.getD n d := by simp [List.head?_drop, List.getD]

set_option maxRecDepth 100000 in
set_option maxHeartbeats 4000000 in
theorem code_head (b : Nat) (s : ByteArray) (p R F L : Nat) (r f l : Int) (w : World) (h : w.heap[b]? = some (rdB s p false)) (hs : s.size ≤ maxLen) (hs2 : s.size ≤ 140737488355328) (hp : p ≤ s.size) (hr : Hid (r = R)) (hf : Hid (f = F)) (hl : Hid (l = L)) (h1 : 1 ≤ R) (h2 : 1 ≤ F) (h3 : R ≤ 8) (h4 : F ≤ 8) :
    Calls Tryz.prog 54 #[.pointer (some ⟨b, 0, none⟩), .int .i64 r, .int .i64 l, .int .i64 f] w fun e w' => Code4 e ∧ w'.heap[b]? = some (rdB s ((M.ins s p R F L).1 : Nat) (!(M.ins s p R F L).2)) ∧ w.grownBy w' (some b) := by
  have hb := heap_lt h
  have H : Hid (w.heap[b]? = some (rdB s p false)) := h
  have HS : Hid (s.size ≤ maxLen) := hs
  clear h hs
  go_enter Tryz.func54, Tryz.ntmps54
  go_wp2_with fail
  refine (next22 b s p R F L _ (rdB_alloc (rdB_alloc H.out _) _) HS.out hp).mono ?_
  rintro e w1 ⟨op, q, bad, rfl, hop, hq, hh, hg, hrun⟩
  have hgA : w.grownBy w1 (some b) := grown_trans (grown_trans (World.grownBy_alloc _ _ _) (World.grownBy_alloc _ _ _)) hg
  have F8 : Four w1 w.heap.size := Four.kept (w := (w.alloc (four 0 0 0 0)).alloc (four 0 0 0 0)) ⟨0, 0, 0, 0, (Below.heap_alloc _ _ _ (by simp)).trans (heap_alloc_new w _)⟩ hg (by omega)
  have F9 : Four w1 (w.heap.size + 1) := Four.kept (w := (w.alloc (four 0 0 0 0)).alloc (four 0 0 0 0)) ⟨0, 0, 0, 0, by have := heap_alloc_new (w.alloc (four 0 0 0 0)) (four 0 0 0 0); simpa using this⟩ hg (by omega)
  obtain ⟨⟨x9, d9⟩, e9⟩ := F9.cell 0 (by omega)
  have HH : Hid (w1.heap[b]? = some (rdB s q bad)) := hh
  have HR : Hid (M.brun s R F L (M.k1 op) (M.kd.getD op []) 1 (q, bad) = ((M.ins s p R F L).1, !(M.ins s p R F L).2)) := hrun
  have HG : Hid (w.grownBy w1 (some b)) := hgA
  have H8 : Hid (Four w1 w.heap.size) := F8
  have H9 : Hid (Four w1 (w.heap.size + 1)) := F9
  clear hh hrun hgA F8 F9 hg
  go_wp2_with fail
  refine (kinds_any op _ hop).mono ?_
  rintro e w2 ⟨rfl, hB⟩
  have gB : (w1.setCell ⟨w.heap.size + 1, 0, none⟩ (.int .i64 op)).grownBy w2 (some b) := grown_of_below (by simpa using hB)
  have KG : Hid (w.grownBy w2 (some b)) := grown_trans (grown_setCell HG.out (Or.inr (by simp)) _) gB
  have gN : (w1.setCell ⟨w.heap.size + 1, 0, none⟩ (.int .i64 op)).grownBy w2 (some w2.heap.size) := grown_of_below (by simpa using hB)
  have hz2 := hB.size
  simp [World.setCell] at hz2
  have KB : Hid (w2.heap[b]? = some (rdB s q bad)) := grown_heap gN (rdB_other HH.out (by omega)) (by intro e; injection e; have := heap_lt HH.out; omega)
  have K8 : Hid (Four w2 w.heap.size) := Four.kept (Four.other H8.out (by omega)) gB (by omega)
  have K9 : Hid (Four w2 (w.heap.size + 1)) := Four.kept (Four.set H9.out 0 (by omega) _) gB (by omega)
  obtain ⟨kf, kz⟩ := M.KS_facts op hop
  have KL : Hid (M.letters (M.KS op) = M.kd.getD op []) := kf
  clear gB gN hB HH HG H8 H9 d9 e9 kf
  generalize hS : M.KS op = S at *
  clear hS
  have hS1 : 1 < S.size := by omega
  have HM : Hid (S[1].toNat = M.k1 op) := by
    show _ = _
    have e := M.letters_drop S 1 hS1
    have e2 : M.k1 op = (M.letters S).getD 1 0 := by rw [KL.out]; rfl
    rw [e2, ← List.head?_drop_getD, e]; rfl
  have hs3 : S.size = 3 := kz
  have KZ : Hid (S.size = 3) := kz
  have hS3 : S.size ≤ 3 := by omega
  have hS4 : 3 ≤ S.size := by omega
  have hSi : (1 : Int) < (S.size : Int) := by omega
  have HR2 : Hid (M.brun s R F L (M.k1 op) ((M.letters S).drop 0) (0 + 1) (q, bad) = ((M.ins s p R F L).1, !(M.ins s p R F L).2)) := by show _ = _; rw [KL.out]; exact HR.out
  clear kz hs3 HR
  generalize M.k1 op = m at *
  go_wp2_with fail
  go_loopw [11] (fun i wr => ∃ (k q : Nat) (bad : Bool), k ≤ 3 ∧ q ≤ s.size ∧ i = .int .i64 ((k : Int) + 1) ∧ Hid (wr.heap[b]? = some (rdB s q bad)) ∧ Hid (w.grownBy wr (some b)) ∧ Hid (Four wr w.heap.size) ∧ Hid (Four wr (w.heap.size + 1)) ∧ Hid (M.brun s R F L m ((M.letters S).drop k) (k + 1) (q, bad) = ((M.ins s p R F L).1, !(M.ins s p R F L).2))) (fun i _ => 4 - (intOf i).toNat)
  case atStart => exact ⟨0, q, bad, by omega, hq, rfl, KB, KG, K8, K9, HR2⟩
  case round =>
    clear hq KB KG K8 K9 HR2
    obtain ⟨k, q, bad, hk, hq, rfl, rB, rG, r8, r9, rC⟩ := hrel
    by_cases hlt : k < 3
    · have hk2 : k < S.size := by omega
      have hc := M.letters_drop S k hk2
      have rC2 : Hid (M.brun s R F L m ((M.letters S).drop (k + 1)) (k + 1 + 1) (M.bst s R F L m (k + 1) S[k].toNat q bad) = ((M.ins s p R F L).1, !(M.ins s p R F L).2)) := by
        show _ = _
        rw [← rC.out, hc]; rfl
      have HKM : Hid (k = 1 → S[k].toNat = m) := by
        intro e; subst e; exact HM.out
      clear hc rC
      have b1 : 1 ≤ r := by have := hr.out; omega
      have b2 : r ≤ 8 := by have := hr.out; omega
      have b3 : 1 ≤ f := by have := hf.out; omega
      have b4 : f ≤ 8 := by have := hf.out; omega
      by_cases e1 : k = 1
      · have g2 : (((k : Int) + 1) == 2) = true := by simp; omega
        have HE1 : Hid (k = 1) := e1
        clear e1
        by_cases em : m = 116
        · have g3 : ((S[1].toNat : Int) == 116) = true := by have := HM.out; simp; omega
          have HKT : Hid (S[k].toNat = 116) := by show _ = _; rw [HKM.out HE1.out, em]
          have q0 : ((S[k].toNat : Int) == 114) = false := by have := HKT.out; simp; omega
          have q1 : ((S[k].toNat : Int) == 102) = false := by have := HKT.out; simp; omega
          have q2 : ((S[k].toNat : Int) == 115) = false := by have := HKT.out; simp; omega
          have q3 : ((S[k].toNat : Int) == 45) = false := by have := HKT.out; simp; omega
          have HB0 : Hid (M.bst s R F L m (k + 1) S[k].toNat q bad = M.nx s 255 q (bad || M.tb s L q)) := by
            show _ = _
            unfold M.bst; rw [HKT.out, M.hiB_t]; have := HE1.out; simp [this, em]
          clear em
          obtain ⟨y0, y1, y2⟩ := rdB_cells rB.out
          obtain ⟨_, u2⟩ := rdB_frozen rB.out
          cases bad with
          | true =>
            have HB : Hid (M.bst s R F L m (k + 1) S[k].toNat q true = M.nx s 255 q true) := by show _ = _; rw [HB0.out]; simp
            clear HB0
            go_wp2_with fail
            go_quiet (fail)
            go_wp2_with fail
            refine (next_any b s q (255) true (255) (wr.drewN nq) rB.out HS.out hq rfl).mono ?_
            rintro e w4 ⟨x, rfl, hh, hg4⟩
            have hq4 := (M.nx_le (s := s) (hi := 255) (q := q) (bad := true) hq).2
            have KB4 : Hid (w4.heap[b]? = some (rdB s ((M.nx s (255) q true).1 : Nat) (M.nx s (255) q true).2)) := hh
            have KG4 : Hid (w.grownBy w4 (some b)) := grown_trans (grown_drewN rG.out _) hg4
            have K84 : Hid (Four w4 w.heap.size) := Four.kept (w := (wr.drewN nq)) r8.out hg4 (by omega)
            have K94 : Hid (Four w4 (w.heap.size + 1)) := Four.kept (w := (wr.drewN nq)) r9.out hg4 (by omega)
            obtain ⟨⟨y, d4⟩, e4⟩ := K94.out.cell (k + 1) (by omega)
            rw [HB.out] at rC2
            clear hh hg4 HB rB rG r8 r9
            generalize M.nx s (255) q true = st at *
            obtain ⟨q', bad'⟩ := st
            go_wp2_with fail
            go_roundw
            case rel => exact ⟨k + 1, q', bad', by omega, hq4, by go_num, rdB_other KB4.out (by omega), grown_setCell KG4.out (Or.inr (by simp)) _, Four.other K84.out (by omega), Four.set K94.out (k + 1) (by omega) x, rC2⟩
            case measure => simp [intOf]; omega
          | false =>
            by_cases ez : q + 1 < s.size
            · have hw1 : IntKind.i64.wrap ((q : Int) + 1) = (q : Int) + 1 := by rw [IntWalk.i64_left, IntWalk.wrap64_in _ (by omega)]
              have hq0 : q < s.size := by omega
              have hb8 : s[q].toNat < 256 := UInt8.toNat_lt _
              have hb9 : s[q + 1].toNat < 256 := UInt8.toNat_lt _
              have hw2 : IntKind.i64.wrap (s[q].toNat : Int) = (s[q].toNat : Int) := by rw [IntWalk.i64_left, IntWalk.wrap64_in _ (by omega)]
              have hw3 : IntKind.i64.wrap (256 * (s[q].toNat : Int)) = 256 * (s[q].toNat : Int) := by rw [IntWalk.i64_left, IntWalk.wrap64_in _ (by omega)]
              have hw4 : IntKind.i64.wrap (s[q + 1].toNat : Int) = (s[q + 1].toNat : Int) := by rw [IntWalk.i64_left, IntWalk.wrap64_in _ (by omega)]
              have hw5 : IntKind.i64.wrap (256 * (s[q].toNat : Int) + (s[q + 1].toNat : Int)) = 256 * (s[q].toNat : Int) + (s[q + 1].toNat : Int) := by rw [IntWalk.i64_left, IntWalk.wrap64_in _ (by omega)]
              have hi1 : ((q : Int) + 1).toNat = q + 1 := by omega
              have hi2 : (q : Int) + 1 < (s.size : Int) := by omega
              have hi3 : (0 : Int) ≤ (q : Int) + 1 := by omega
              have g4 : decide ((q : Int) + 1 < (s.size : Int)) = true := by simp; omega
              have t1 := M.bt_at s q hq0
              have t2 := M.bt_at s (q + 1) ez
              by_cases ev : L < 256 * M.bt s q + M.bt s (q + 1)
              · have g5 : decide (l < 256 * (s[q].toNat : Int) + (s[q + 1].toNat : Int)) = true := by have := hl.out; rw [← t1, ← t2]; simp; omega
                have g6 : l < 256 * (s[q].toNat : Int) + (s[q + 1].toNat : Int) := by simpa using g5
                have HB : Hid (M.bst s R F L m (k + 1) S[k].toNat q false = M.nx s 255 q true) := by show _ = _; rw [HB0.out]; unfold M.tb; simp [ez, ev]
                clear HB0 t1 t2 ev
                go_wp2_with fail
                go_quiet (fail)
                go_wp2_with fail
                refine (next_any b s q (255) true (255) ((wr.drewN nq).setCell ⟨b, 2, none⟩ (.bool true)) (rdB_set2 (w := wr.drewN nq) rB.out true) HS.out hq rfl).mono ?_
                rintro e w4 ⟨x, rfl, hh, hg4⟩
                have hq4 := (M.nx_le (s := s) (hi := 255) (q := q) (bad := true) hq).2
                have KB4 : Hid (w4.heap[b]? = some (rdB s ((M.nx s (255) q true).1 : Nat) (M.nx s (255) q true).2)) := hh
                have KG4 : Hid (w.grownBy w4 (some b)) := grown_trans (grown_setCell (grown_drewN rG.out _) (Or.inl rfl) _) hg4
                have K84 : Hid (Four w4 w.heap.size) := Four.kept (w := ((wr.drewN nq).setCell ⟨b, 2, none⟩ (.bool true))) (Four.other r8.out (by omega)) hg4 (by omega)
                have K94 : Hid (Four w4 (w.heap.size + 1)) := Four.kept (w := ((wr.drewN nq).setCell ⟨b, 2, none⟩ (.bool true))) (Four.other r9.out (by omega)) hg4 (by omega)
                obtain ⟨⟨y, d4⟩, e4⟩ := K94.out.cell (k + 1) (by omega)
                rw [HB.out] at rC2
                clear hh hg4 HB rB rG r8 r9
                generalize M.nx s (255) q true = st at *
                obtain ⟨q', bad'⟩ := st
                go_wp2_with fail
                go_roundw
                case rel => exact ⟨k + 1, q', bad', by omega, hq4, by go_num, rdB_other KB4.out (by omega), grown_setCell KG4.out (Or.inr (by simp)) _, Four.other K84.out (by omega), Four.set K94.out (k + 1) (by omega) x, rC2⟩
                case measure => simp [intOf]; omega
              · have g5 : decide (l < 256 * (s[q].toNat : Int) + (s[q + 1].toNat : Int)) = false := by have := hl.out; rw [← t1, ← t2]; simp; omega
                have g6 : 256 * (s[q].toNat : Int) + (s[q + 1].toNat : Int) ≤ l := by simpa using g5
                have HB : Hid (M.bst s R F L m (k + 1) S[k].toNat q false = M.nx s 255 q false) := by show _ = _; rw [HB0.out]; unfold M.tb; simp [ez, ev]
                clear HB0 t1 t2 ev
                go_wp2_with fail
                go_quiet (fail)
                go_wp2_with fail
                refine (next_any b s q (255) false (255) (wr.drewN nq) rB.out HS.out hq rfl).mono ?_
                rintro e w4 ⟨x, rfl, hh, hg4⟩
                have hq4 := (M.nx_le (s := s) (hi := 255) (q := q) (bad := false) hq).2
                have KB4 : Hid (w4.heap[b]? = some (rdB s ((M.nx s (255) q false).1 : Nat) (M.nx s (255) q false).2)) := hh
                have KG4 : Hid (w.grownBy w4 (some b)) := grown_trans (grown_drewN rG.out _) hg4
                have K84 : Hid (Four w4 w.heap.size) := Four.kept (w := (wr.drewN nq)) r8.out hg4 (by omega)
                have K94 : Hid (Four w4 (w.heap.size + 1)) := Four.kept (w := (wr.drewN nq)) r9.out hg4 (by omega)
                obtain ⟨⟨y, d4⟩, e4⟩ := K94.out.cell (k + 1) (by omega)
                rw [HB.out] at rC2
                clear hh hg4 HB rB rG r8 r9
                generalize M.nx s (255) q false = st at *
                obtain ⟨q', bad'⟩ := st
                go_wp2_with fail
                go_roundw
                case rel => exact ⟨k + 1, q', bad', by omega, hq4, by go_num, rdB_other KB4.out (by omega), grown_setCell KG4.out (Or.inr (by simp)) _, Four.other K84.out (by omega), Four.set K94.out (k + 1) (by omega) x, rC2⟩
                case measure => simp [intOf]; omega
            · have hw1 : IntKind.i64.wrap ((q : Int) + 1) = (q : Int) + 1 := by rw [IntWalk.i64_left, IntWalk.wrap64_in _ (by omega)]
              have g4 : decide ((q : Int) + 1 < (s.size : Int)) = false := by simp; omega
              have HB : Hid (M.bst s R F L m (k + 1) S[k].toNat q false = M.nx s 255 q false) := by show _ = _; rw [HB0.out]; unfold M.tb; simp [ez]
              clear HB0
              go_wp2_with fail
              go_quiet (fail)
              go_wp2_with fail
              refine (next_any b s q (255) false (255) (wr.drewN nq) rB.out HS.out hq rfl).mono ?_
              rintro e w4 ⟨x, rfl, hh, hg4⟩
              have hq4 := (M.nx_le (s := s) (hi := 255) (q := q) (bad := false) hq).2
              have KB4 : Hid (w4.heap[b]? = some (rdB s ((M.nx s (255) q false).1 : Nat) (M.nx s (255) q false).2)) := hh
              have KG4 : Hid (w.grownBy w4 (some b)) := grown_trans (grown_drewN rG.out _) hg4
              have K84 : Hid (Four w4 w.heap.size) := Four.kept (w := (wr.drewN nq)) r8.out hg4 (by omega)
              have K94 : Hid (Four w4 (w.heap.size + 1)) := Four.kept (w := (wr.drewN nq)) r9.out hg4 (by omega)
              obtain ⟨⟨y, d4⟩, e4⟩ := K94.out.cell (k + 1) (by omega)
              rw [HB.out] at rC2
              clear hh hg4 HB rB rG r8 r9
              generalize M.nx s (255) q false = st at *
              obtain ⟨q', bad'⟩ := st
              go_wp2_with fail
              go_roundw
              case rel => exact ⟨k + 1, q', bad', by omega, hq4, by go_num, rdB_other KB4.out (by omega), grown_setCell KG4.out (Or.inr (by simp)) _, Four.other K84.out (by omega), Four.set K94.out (k + 1) (by omega) x, rC2⟩
              case measure => simp [intOf]; omega
        · have g3 : ((S[1].toNat : Int) == 116) = false := by have := HM.out; simp; omega
          have HEM : Hid (m ≠ 116) := em
          clear em
          by_cases z0 : S[k].toNat = 114
          · have q0 : ((S[k].toNat : Int) == 114) = true := by simp; omega
            have HB : Hid (M.bst s R F L m (k + 1) S[k].toNat q bad = M.nx s (R - 1) q bad) := by
              show _ = _
              unfold M.bst M.hiB; rw [if_pos z0]; have := HEM.out; simp [this]
            clear z0
            go_wp2_with fail
            go_quiet (fail)
            go_wp2_with fail
            refine (next_any b s q (R - 1) bad (r - 1) (wr.drewN nq) rB.out HS.out hq (by have := hr.out; omega)).mono ?_
            rintro e w4 ⟨x, rfl, hh, hg4⟩
            have hq4 := (M.nx_le (s := s) (hi := R - 1) (q := q) (bad := bad) hq).2
            have KB4 : Hid (w4.heap[b]? = some (rdB s ((M.nx s (R - 1) q bad).1 : Nat) (M.nx s (R - 1) q bad).2)) := hh
            have KG4 : Hid (w.grownBy w4 (some b)) := grown_trans (grown_drewN rG.out _) hg4
            have K84 : Hid (Four w4 w.heap.size) := Four.kept (w := (wr.drewN nq)) r8.out hg4 (by omega)
            have K94 : Hid (Four w4 (w.heap.size + 1)) := Four.kept (w := (wr.drewN nq)) r9.out hg4 (by omega)
            obtain ⟨⟨y, d4⟩, e4⟩ := K94.out.cell (k + 1) (by omega)
            rw [HB.out] at rC2
            clear hh hg4 HB rB rG r8 r9
            generalize M.nx s (R - 1) q bad = st at *
            obtain ⟨q', bad'⟩ := st
            go_wp2_with fail
            go_roundw
            case rel => exact ⟨k + 1, q', bad', by omega, hq4, by go_num, rdB_other KB4.out (by omega), grown_setCell KG4.out (Or.inr (by simp)) _, Four.other K84.out (by omega), Four.set K94.out (k + 1) (by omega) x, rC2⟩
            case measure => simp [intOf]; omega
          · have q0 : ((S[k].toNat : Int) == 114) = false := by simp; omega
            by_cases z1 : S[k].toNat = 102
            · have q1 : ((S[k].toNat : Int) == 102) = true := by simp; omega
              have HB : Hid (M.bst s R F L m (k + 1) S[k].toNat q bad = M.nx s (F - 1) q bad) := by
                show _ = _
                unfold M.bst M.hiB; rw [if_neg z0, if_pos z1]; have := HEM.out; simp [this]
              clear z0 z1
              go_wp2_with fail
              go_quiet (fail)
              go_wp2_with fail
              refine (next_any b s q (F - 1) bad (f - 1) (wr.drewN nq) rB.out HS.out hq (by have := hf.out; omega)).mono ?_
              rintro e w4 ⟨x, rfl, hh, hg4⟩
              have hq4 := (M.nx_le (s := s) (hi := F - 1) (q := q) (bad := bad) hq).2
              have KB4 : Hid (w4.heap[b]? = some (rdB s ((M.nx s (F - 1) q bad).1 : Nat) (M.nx s (F - 1) q bad).2)) := hh
              have KG4 : Hid (w.grownBy w4 (some b)) := grown_trans (grown_drewN rG.out _) hg4
              have K84 : Hid (Four w4 w.heap.size) := Four.kept (w := (wr.drewN nq)) r8.out hg4 (by omega)
              have K94 : Hid (Four w4 (w.heap.size + 1)) := Four.kept (w := (wr.drewN nq)) r9.out hg4 (by omega)
              obtain ⟨⟨y, d4⟩, e4⟩ := K94.out.cell (k + 1) (by omega)
              rw [HB.out] at rC2
              clear hh hg4 HB rB rG r8 r9
              generalize M.nx s (F - 1) q bad = st at *
              obtain ⟨q', bad'⟩ := st
              go_wp2_with fail
              go_roundw
              case rel => exact ⟨k + 1, q', bad', by omega, hq4, by go_num, rdB_other KB4.out (by omega), grown_setCell KG4.out (Or.inr (by simp)) _, Four.other K84.out (by omega), Four.set K94.out (k + 1) (by omega) x, rC2⟩
              case measure => simp [intOf]; omega
            · have q1 : ((S[k].toNat : Int) == 102) = false := by simp; omega
              by_cases z2 : S[k].toNat = 115
              · have q2 : ((S[k].toNat : Int) == 115) = true := by simp; omega
                have HB : Hid (M.bst s R F L m (k + 1) S[k].toNat q bad = M.nx s (8) q bad) := by
                  show _ = _
                  unfold M.bst M.hiB; rw [if_neg z0, if_neg z1, if_pos z2]; have := HEM.out; simp [this]
                clear z0 z1 z2
                go_wp2_with fail
                go_quiet (fail)
                go_wp2_with fail
                refine (next_any b s q (8) bad (8) (wr.drewN nq) rB.out HS.out hq rfl).mono ?_
                rintro e w4 ⟨x, rfl, hh, hg4⟩
                have hq4 := (M.nx_le (s := s) (hi := 8) (q := q) (bad := bad) hq).2
                have KB4 : Hid (w4.heap[b]? = some (rdB s ((M.nx s (8) q bad).1 : Nat) (M.nx s (8) q bad).2)) := hh
                have KG4 : Hid (w.grownBy w4 (some b)) := grown_trans (grown_drewN rG.out _) hg4
                have K84 : Hid (Four w4 w.heap.size) := Four.kept (w := (wr.drewN nq)) r8.out hg4 (by omega)
                have K94 : Hid (Four w4 (w.heap.size + 1)) := Four.kept (w := (wr.drewN nq)) r9.out hg4 (by omega)
                obtain ⟨⟨y, d4⟩, e4⟩ := K94.out.cell (k + 1) (by omega)
                rw [HB.out] at rC2
                clear hh hg4 HB rB rG r8 r9
                generalize M.nx s (8) q bad = st at *
                obtain ⟨q', bad'⟩ := st
                go_wp2_with fail
                go_roundw
                case rel => exact ⟨k + 1, q', bad', by omega, hq4, by go_num, rdB_other KB4.out (by omega), grown_setCell KG4.out (Or.inr (by simp)) _, Four.other K84.out (by omega), Four.set K94.out (k + 1) (by omega) x, rC2⟩
                case measure => simp [intOf]; omega
              · have q2 : ((S[k].toNat : Int) == 115) = false := by simp; omega
                by_cases z3 : S[k].toNat = 45
                · have q3 : ((S[k].toNat : Int) == 45) = true := by simp; omega
                  have HB : Hid (M.bst s R F L m (k + 1) S[k].toNat q bad = M.nx s (0) q bad) := by
                    show _ = _
                    unfold M.bst M.hiB; rw [if_neg z0, if_neg z1, if_neg z2, if_pos z3]; have := HEM.out; simp [this]
                  clear z0 z1 z2 z3
                  go_wp2_with fail
                  go_quiet (fail)
                  go_wp2_with fail
                  refine (next_any b s q (0) bad (0) (wr.drewN nq) rB.out HS.out hq rfl).mono ?_
                  rintro e w4 ⟨x, rfl, hh, hg4⟩
                  have hq4 := (M.nx_le (s := s) (hi := 0) (q := q) (bad := bad) hq).2
                  have KB4 : Hid (w4.heap[b]? = some (rdB s ((M.nx s (0) q bad).1 : Nat) (M.nx s (0) q bad).2)) := hh
                  have KG4 : Hid (w.grownBy w4 (some b)) := grown_trans (grown_drewN rG.out _) hg4
                  have K84 : Hid (Four w4 w.heap.size) := Four.kept (w := (wr.drewN nq)) r8.out hg4 (by omega)
                  have K94 : Hid (Four w4 (w.heap.size + 1)) := Four.kept (w := (wr.drewN nq)) r9.out hg4 (by omega)
                  obtain ⟨⟨y, d4⟩, e4⟩ := K94.out.cell (k + 1) (by omega)
                  rw [HB.out] at rC2
                  clear hh hg4 HB rB rG r8 r9
                  generalize M.nx s (0) q bad = st at *
                  obtain ⟨q', bad'⟩ := st
                  go_wp2_with fail
                  go_roundw
                  case rel => exact ⟨k + 1, q', bad', by omega, hq4, by go_num, rdB_other KB4.out (by omega), grown_setCell KG4.out (Or.inr (by simp)) _, Four.other K84.out (by omega), Four.set K94.out (k + 1) (by omega) x, rC2⟩
                  case measure => simp [intOf]; omega
                · have q3 : ((S[k].toNat : Int) == 45) = false := by simp; omega
                  have HB : Hid (M.bst s R F L m (k + 1) S[k].toNat q bad = M.nx s 255 q bad) := by
                    show _ = _
                    unfold M.bst M.hiB; rw [if_neg z0, if_neg z1, if_neg z2, if_neg z3]; have := HEM.out; simp [this]
                  clear z0 z1 z2 z3
                  go_wp2_with fail
                  go_quiet (fail)
                  go_wp2_with fail
                  refine (next_any b s q (255) bad (255) (wr.drewN nq) rB.out HS.out hq rfl).mono ?_
                  rintro e w4 ⟨x, rfl, hh, hg4⟩
                  have hq4 := (M.nx_le (s := s) (hi := 255) (q := q) (bad := bad) hq).2
                  have KB4 : Hid (w4.heap[b]? = some (rdB s ((M.nx s (255) q bad).1 : Nat) (M.nx s (255) q bad).2)) := hh
                  have KG4 : Hid (w.grownBy w4 (some b)) := grown_trans (grown_drewN rG.out _) hg4
                  have K84 : Hid (Four w4 w.heap.size) := Four.kept (w := (wr.drewN nq)) r8.out hg4 (by omega)
                  have K94 : Hid (Four w4 (w.heap.size + 1)) := Four.kept (w := (wr.drewN nq)) r9.out hg4 (by omega)
                  obtain ⟨⟨y, d4⟩, e4⟩ := K94.out.cell (k + 1) (by omega)
                  rw [HB.out] at rC2
                  clear hh hg4 HB rB rG r8 r9
                  generalize M.nx s (255) q bad = st at *
                  obtain ⟨q', bad'⟩ := st
                  go_wp2_with fail
                  go_roundw
                  case rel => exact ⟨k + 1, q', bad', by omega, hq4, by go_num, rdB_other KB4.out (by omega), grown_setCell KG4.out (Or.inr (by simp)) _, Four.other K84.out (by omega), Four.set K94.out (k + 1) (by omega) x, rC2⟩
                  case measure => simp [intOf]; omega
      · have g2 : (((k : Int) + 1) == 2) = false := by simp; omega
        have HE1 : Hid (k ≠ 1) := e1
        clear e1
        by_cases z0 : S[k].toNat = 114
        · have q0 : ((S[k].toNat : Int) == 114) = true := by simp; omega
          have HB : Hid (M.bst s R F L m (k + 1) S[k].toNat q bad = M.nx s (R - 1) q bad) := by
            show _ = _
            unfold M.bst M.hiB; rw [if_pos z0]; have := HE1.out; simp [this]
          clear z0
          go_wp2_with fail
          go_quiet (fail)
          go_wp2_with fail
          refine (next_any b s q (R - 1) bad (r - 1) (wr.drewN nq) rB.out HS.out hq (by have := hr.out; omega)).mono ?_
          rintro e w4 ⟨x, rfl, hh, hg4⟩
          have hq4 := (M.nx_le (s := s) (hi := R - 1) (q := q) (bad := bad) hq).2
          have KB4 : Hid (w4.heap[b]? = some (rdB s ((M.nx s (R - 1) q bad).1 : Nat) (M.nx s (R - 1) q bad).2)) := hh
          have KG4 : Hid (w.grownBy w4 (some b)) := grown_trans (grown_drewN rG.out _) hg4
          have K84 : Hid (Four w4 w.heap.size) := Four.kept (w := (wr.drewN nq)) r8.out hg4 (by omega)
          have K94 : Hid (Four w4 (w.heap.size + 1)) := Four.kept (w := (wr.drewN nq)) r9.out hg4 (by omega)
          obtain ⟨⟨y, d4⟩, e4⟩ := K94.out.cell (k + 1) (by omega)
          rw [HB.out] at rC2
          clear hh hg4 HB rB rG r8 r9
          generalize M.nx s (R - 1) q bad = st at *
          obtain ⟨q', bad'⟩ := st
          go_wp2_with fail
          go_roundw
          case rel => exact ⟨k + 1, q', bad', by omega, hq4, by go_num, rdB_other KB4.out (by omega), grown_setCell KG4.out (Or.inr (by simp)) _, Four.other K84.out (by omega), Four.set K94.out (k + 1) (by omega) x, rC2⟩
          case measure => simp [intOf]; omega
        · have q0 : ((S[k].toNat : Int) == 114) = false := by simp; omega
          by_cases z1 : S[k].toNat = 102
          · have q1 : ((S[k].toNat : Int) == 102) = true := by simp; omega
            have HB : Hid (M.bst s R F L m (k + 1) S[k].toNat q bad = M.nx s (F - 1) q bad) := by
              show _ = _
              unfold M.bst M.hiB; rw [if_neg z0, if_pos z1]; have := HE1.out; simp [this]
            clear z0 z1
            go_wp2_with fail
            go_quiet (fail)
            go_wp2_with fail
            refine (next_any b s q (F - 1) bad (f - 1) (wr.drewN nq) rB.out HS.out hq (by have := hf.out; omega)).mono ?_
            rintro e w4 ⟨x, rfl, hh, hg4⟩
            have hq4 := (M.nx_le (s := s) (hi := F - 1) (q := q) (bad := bad) hq).2
            have KB4 : Hid (w4.heap[b]? = some (rdB s ((M.nx s (F - 1) q bad).1 : Nat) (M.nx s (F - 1) q bad).2)) := hh
            have KG4 : Hid (w.grownBy w4 (some b)) := grown_trans (grown_drewN rG.out _) hg4
            have K84 : Hid (Four w4 w.heap.size) := Four.kept (w := (wr.drewN nq)) r8.out hg4 (by omega)
            have K94 : Hid (Four w4 (w.heap.size + 1)) := Four.kept (w := (wr.drewN nq)) r9.out hg4 (by omega)
            obtain ⟨⟨y, d4⟩, e4⟩ := K94.out.cell (k + 1) (by omega)
            rw [HB.out] at rC2
            clear hh hg4 HB rB rG r8 r9
            generalize M.nx s (F - 1) q bad = st at *
            obtain ⟨q', bad'⟩ := st
            go_wp2_with fail
            go_roundw
            case rel => exact ⟨k + 1, q', bad', by omega, hq4, by go_num, rdB_other KB4.out (by omega), grown_setCell KG4.out (Or.inr (by simp)) _, Four.other K84.out (by omega), Four.set K94.out (k + 1) (by omega) x, rC2⟩
            case measure => simp [intOf]; omega
          · have q1 : ((S[k].toNat : Int) == 102) = false := by simp; omega
            by_cases z2 : S[k].toNat = 115
            · have q2 : ((S[k].toNat : Int) == 115) = true := by simp; omega
              have HB : Hid (M.bst s R F L m (k + 1) S[k].toNat q bad = M.nx s (8) q bad) := by
                show _ = _
                unfold M.bst M.hiB; rw [if_neg z0, if_neg z1, if_pos z2]; have := HE1.out; simp [this]
              clear z0 z1 z2
              go_wp2_with fail
              go_quiet (fail)
              go_wp2_with fail
              refine (next_any b s q (8) bad (8) (wr.drewN nq) rB.out HS.out hq rfl).mono ?_
              rintro e w4 ⟨x, rfl, hh, hg4⟩
              have hq4 := (M.nx_le (s := s) (hi := 8) (q := q) (bad := bad) hq).2
              have KB4 : Hid (w4.heap[b]? = some (rdB s ((M.nx s (8) q bad).1 : Nat) (M.nx s (8) q bad).2)) := hh
              have KG4 : Hid (w.grownBy w4 (some b)) := grown_trans (grown_drewN rG.out _) hg4
              have K84 : Hid (Four w4 w.heap.size) := Four.kept (w := (wr.drewN nq)) r8.out hg4 (by omega)
              have K94 : Hid (Four w4 (w.heap.size + 1)) := Four.kept (w := (wr.drewN nq)) r9.out hg4 (by omega)
              obtain ⟨⟨y, d4⟩, e4⟩ := K94.out.cell (k + 1) (by omega)
              rw [HB.out] at rC2
              clear hh hg4 HB rB rG r8 r9
              generalize M.nx s (8) q bad = st at *
              obtain ⟨q', bad'⟩ := st
              go_wp2_with fail
              go_roundw
              case rel => exact ⟨k + 1, q', bad', by omega, hq4, by go_num, rdB_other KB4.out (by omega), grown_setCell KG4.out (Or.inr (by simp)) _, Four.other K84.out (by omega), Four.set K94.out (k + 1) (by omega) x, rC2⟩
              case measure => simp [intOf]; omega
            · have q2 : ((S[k].toNat : Int) == 115) = false := by simp; omega
              by_cases z3 : S[k].toNat = 45
              · have q3 : ((S[k].toNat : Int) == 45) = true := by simp; omega
                have HB : Hid (M.bst s R F L m (k + 1) S[k].toNat q bad = M.nx s (0) q bad) := by
                  show _ = _
                  unfold M.bst M.hiB; rw [if_neg z0, if_neg z1, if_neg z2, if_pos z3]; have := HE1.out; simp [this]
                clear z0 z1 z2 z3
                go_wp2_with fail
                go_quiet (fail)
                go_wp2_with fail
                refine (next_any b s q (0) bad (0) (wr.drewN nq) rB.out HS.out hq rfl).mono ?_
                rintro e w4 ⟨x, rfl, hh, hg4⟩
                have hq4 := (M.nx_le (s := s) (hi := 0) (q := q) (bad := bad) hq).2
                have KB4 : Hid (w4.heap[b]? = some (rdB s ((M.nx s (0) q bad).1 : Nat) (M.nx s (0) q bad).2)) := hh
                have KG4 : Hid (w.grownBy w4 (some b)) := grown_trans (grown_drewN rG.out _) hg4
                have K84 : Hid (Four w4 w.heap.size) := Four.kept (w := (wr.drewN nq)) r8.out hg4 (by omega)
                have K94 : Hid (Four w4 (w.heap.size + 1)) := Four.kept (w := (wr.drewN nq)) r9.out hg4 (by omega)
                obtain ⟨⟨y, d4⟩, e4⟩ := K94.out.cell (k + 1) (by omega)
                rw [HB.out] at rC2
                clear hh hg4 HB rB rG r8 r9
                generalize M.nx s (0) q bad = st at *
                obtain ⟨q', bad'⟩ := st
                go_wp2_with fail
                go_roundw
                case rel => exact ⟨k + 1, q', bad', by omega, hq4, by go_num, rdB_other KB4.out (by omega), grown_setCell KG4.out (Or.inr (by simp)) _, Four.other K84.out (by omega), Four.set K94.out (k + 1) (by omega) x, rC2⟩
                case measure => simp [intOf]; omega
              · have q3 : ((S[k].toNat : Int) == 45) = false := by simp; omega
                have HB : Hid (M.bst s R F L m (k + 1) S[k].toNat q bad = M.nx s 255 q bad) := by
                  show _ = _
                  unfold M.bst M.hiB; rw [if_neg z0, if_neg z1, if_neg z2, if_neg z3]; have := HE1.out; simp [this]
                clear z0 z1 z2 z3
                go_wp2_with fail
                go_quiet (fail)
                go_wp2_with fail
                refine (next_any b s q (255) bad (255) (wr.drewN nq) rB.out HS.out hq rfl).mono ?_
                rintro e w4 ⟨x, rfl, hh, hg4⟩
                have hq4 := (M.nx_le (s := s) (hi := 255) (q := q) (bad := bad) hq).2
                have KB4 : Hid (w4.heap[b]? = some (rdB s ((M.nx s (255) q bad).1 : Nat) (M.nx s (255) q bad).2)) := hh
                have KG4 : Hid (w.grownBy w4 (some b)) := grown_trans (grown_drewN rG.out _) hg4
                have K84 : Hid (Four w4 w.heap.size) := Four.kept (w := (wr.drewN nq)) r8.out hg4 (by omega)
                have K94 : Hid (Four w4 (w.heap.size + 1)) := Four.kept (w := (wr.drewN nq)) r9.out hg4 (by omega)
                obtain ⟨⟨y, d4⟩, e4⟩ := K94.out.cell (k + 1) (by omega)
                rw [HB.out] at rC2
                clear hh hg4 HB rB rG r8 r9
                generalize M.nx s (255) q bad = st at *
                obtain ⟨q', bad'⟩ := st
                go_wp2_with fail
                go_roundw
                case rel => exact ⟨k + 1, q', bad', by omega, hq4, by go_num, rdB_other KB4.out (by omega), grown_setCell KG4.out (Or.inr (by simp)) _, Four.other K84.out (by omega), Four.set K94.out (k + 1) (by omega) x, rC2⟩
                case measure => simp [intOf]; omega
    · obtain rfl : k = 3 := by omega
      have HC : Hid ((q, bad) = ((M.ins s p R F L).1, !(M.ins s p R F L).2)) := by
        show _ = _
        have e : (M.letters S).drop 3 = [] := by have := M.letters_end S; rw [KZ.out] at this; exact this
        rw [← rC.out, e]; rfl
      obtain ⟨a0, a1, a2, a3, f9⟩ := r9.out
      obtain ⟨z0, z1, z2, z3, f8⟩ := r8.out
      obtain ⟨_, d0, d1, d2, d3, _, _, _, _⟩ := fourB_cells f9 (grown_refl wr (some b)) (by omega)
      obtain ⟨_, c0, c1, c2, c3, e0, e1, e2, e3⟩ := fourB_cells f8 (grown_refl wr (some b)) (by omega)
      clear f8 f9 r8 r9 rC
      go_wp2_with fail
      refine bodyPost_ret (v := .agg #[.int .i64 a0, .int .i64 a1, .int .i64 a2, .int .i64 a3]) (by simp [results, Tryz.results54, go_sem, c0, c1, c2, c3]) rfl ⟨⟨_, _, _, _, rfl⟩, ?_, ?_⟩
      · have hc := HC.out
        simp only [Prod.mk.injEq] at hc
        rw [← hc.1, ← hc.2]
        repeat (rw [Below.heap_setCell _ _ _ _ (by simp; omega)])
        exact rB.out
      · repeat (refine grown_setCell ?_ (Or.inr (by simp)) _)
        exact rG.out

end Go.Proofs.YtnjiinbhbjpfkaaGreatDoor
