/-
  The document's reader of an instruction, as plain functions, comes to the same place and the same answer as the program's: for every text, place and bounds.
-/
import Derived.Test.YtohobhbcjikhpaaDoorMath
namespace Go.Proofs.YtohobhbcjikhpaaDoor.M

/-- The document's reader: where it stands; is something wrong? One byte from 0 to hi. -/
def nx (s : ByteArray) (hi : Nat) (q : Nat) (bad : Bool) : Nat × Bool :=
  if bad = true then (q, true) else if tk s q 0 hi = true then (q + 1, false) else (q, true)

def hiB (r f k : Nat) : Nat := if k = 114 then r - 1 else if k = 102 then f - 1 else if k = 115 then 8 else if k = 45 then 0 else 255

/-- Is a t wrong that begins at q? -/
def tb (s : ByteArray) (l q : Nat) : Bool := decide (q + 1 < s.size ∧ l < 256 * bt s q + bt s (q + 1))

/-- One operand of the document's reader: i from 1 to 3, its letter k, the second letter m. -/
def bst (s : ByteArray) (r f l m i k q : Nat) (bad : Bool) : Nat × Bool :=
  nx s (hiB r f k) q (bad || (decide (i = 2 ∧ m = 116) && tb s l q))

def brun (s : ByteArray) (r f l m : Nat) : List Nat → Nat → Nat × Bool → Nat × Bool
  | [], _, st => st
  | k :: ks, i, st => brun s r f l m ks (i + 1) (bst s r f l m i k st.1 st.2)

theorem nx_bad (s : ByteArray) (hi q : Nat) : nx s hi q true = (q, true) := by simp [nx]
theorem nx_le {s : ByteArray} {hi q : Nat} {bad : Bool} (h : q ≤ s.size) : q ≤ (nx s hi q bad).1 ∧ (nx s hi q bad).1 ≤ s.size := by
  unfold nx
  split
  · exact ⟨Nat.le_refl _, h⟩
  · split
    · rename_i h1
      have := tk_lt h1
      simp; omega
    · exact ⟨Nat.le_refl _, h⟩
theorem bst_bad (s : ByteArray) (r f l m i k q : Nat) : bst s r f l m i k q true = (q, true) := by simp [bst, nx_bad]
theorem bst_le {s : ByteArray} {r f l m i k q : Nat} {bad : Bool} (h : q ≤ s.size) : (bst s r f l m i k q bad).1 ≤ s.size := (nx_le h).2
theorem brun_bad (s : ByteArray) (r f l m : Nat) (ks : List Nat) : ∀ i q, brun s r f l m ks i (q, true) = (q, true) := by
  induction ks with
  | nil => intro i q; rfl
  | cons k ks ih => intro i q; unfold brun; simp only [bst_bad]; exact ih _ _

theorem kd_more : ∀ op, op < 23 → (k1 op = 116 → k2 op = 116) ∧ (k0 op = 114 ∨ k0 op = 102 ∨ k0 op = 115 ∨ k0 op = 107 ∨ k0 op = 45) ∧ (k1 op ≠ 116 → (k1 op = 114 ∨ k1 op = 102 ∨ k1 op = 115 ∨ k1 op = 107 ∨ k1 op = 45) ∧ (k2 op = 114 ∨ k2 op = 102 ∨ k2 op = 115 ∨ k2 op = 107 ∨ k2 op = 45)) := by decide

theorem hiB_eq (r f k : Nat) (h : k = 114 ∨ k = 102 ∨ k = 115 ∨ k = 107 ∨ k = 45) : hiB r f k = hiOf r f k := by
  rcases h with rfl | rfl | rfl | rfl | rfl <;> rfl
theorem hiB_t (r f : Nat) : hiB r f 116 = 255 := rfl

theorem tk255 (s : ByteArray) (q : Nat) : tk s q 0 255 = decide (q < s.size) := by
  have := bt_lt s q
  unfold tk
  congr 1
  apply propext
  constructor
  · intro h; exact h.1
  · intro h; exact ⟨h, by omega, by omega⟩

theorem brun_opn (s : ByteArray) (p op r f l : Nat) (h : op < 23) :
    brun s r f l (k1 op) (kd.getD op []) 1 (p, false) = ((opn s p op r f l).1, !(opn s p op r f l).2) := by
  obtain ⟨h1, h2, h3⟩ := kd_facts op h
  obtain ⟨m1, m2, m3⟩ := kd_more op h
  rw [h1]
  simp only [brun]
  unfold opn
  have e0 : bst s r f l (k1 op) 1 (k0 op) p false = nx s (hiOf r f (k0 op)) p false := by
    unfold bst; rw [hiB_eq _ _ _ m2]; simp
  by_cases t0 : tk s p 0 (hiOf r f (k0 op)) = true
  · have p1 := (tk_lt t0).1
    have e0' : bst s r f l (k1 op) 1 (k0 op) p false = (p + 1, false) := by rw [e0]; simp [nx, t0]
    rw [if_pos t0, e0']
    by_cases ht : k1 op = 116
    · have ht2 := m1 ht
      rw [if_pos ht]
      have e1 : bst s r f l (k1 op) (1 + 1) (k1 op) (p + 1) false = nx s 255 (p + 1) (tb s l (p + 1)) := by
        unfold bst; rw [ht, hiB_t]; simp
      have e2 : ∀ q bad, bst s r f l (k1 op) (1 + 1 + 1) (k2 op) q bad = nx s 255 q bad := by
        intro q bad; unfold bst; rw [ht2, hiB_t]; simp
      simp only [e1, e2]
      unfold tgt
      by_cases c1 : s.size < p + 1 + 2
      · rw [if_pos c1]
        have tbf : tb s l (p + 1) = false := by unfold tb; simp; omega
        rw [tbf]
        by_cases c2 : p + 1 < s.size
        · have : s.size = p + 2 := by omega
          simp [nx, tk255, this]
        · have : s.size = p + 1 := by omega
          simp [nx, tk255, this]
      · rw [if_neg c1]
        by_cases c2 : l < 256 * bt s (p + 1) + bt s (p + 1 + 1)
        · have tbt : tb s l (p + 1) = true := by unfold tb; simp; omega
          rw [if_pos c2, tbt]; simp [nx]
        · have tbf : tb s l (p + 1) = false := by unfold tb; simp; omega
          rw [if_neg c2, tbf]
          have d1 : p + 1 < s.size := by omega
          have d2 : p + 1 + 1 < s.size := by omega
          simp [nx, tk255, d1, d2]
    · obtain ⟨m4, m5⟩ := m3 ht
      rw [if_neg ht]
      have e1 : bst s r f l (k1 op) (1 + 1) (k1 op) (p + 1) false = nx s (hiOf r f (k1 op)) (p + 1) false := by
        unfold bst; rw [hiB_eq _ _ _ m4]; simp [ht]
      have e2 : ∀ q bad, bst s r f l (k1 op) (1 + 1 + 1) (k2 op) q bad = nx s (hiOf r f (k2 op)) q bad := by
        intro q bad; unfold bst; rw [hiB_eq _ _ _ m5]; simp
      simp only [e1, e2]
      by_cases t1 : tk s (p + 1) 0 (hiOf r f (k1 op)) = true
      · by_cases t2 : tk s (p + 1 + 1) 0 (hiOf r f (k2 op)) = true
        · simp [nx, t1, t2]
        · simp [nx, t1, t2]
      · simp [nx, t1]
  · have e0' : bst s r f l (k1 op) 1 (k0 op) p false = (p, true) := by rw [e0]; simp [nx, t0]
    rw [if_neg t0, e0']
    simp [bst_bad]

end Go.Proofs.YtohobhbcjikhpaaDoor.M
