/-
  What the bytes of a program are, as plain functions on a ByteArray: each reader tells where it stands behind and whether all went well. Nothing of the program is imported here.
-/
namespace Go.Proofs.YtohobhbcjikhpaaDoor.M

/-- The byte at a place (0 behind the end). -/
def bt (s : ByteArray) (p : Nat) : Nat := (s.data[p]?.getD 0).toNat

/-- May the byte at p be from lo to hi? -/
def tk (s : ByteArray) (p lo hi : Nat) : Bool := decide (p < s.size ∧ lo ≤ bt s p ∧ bt s p ≤ hi)

/-- The letters of the operands of an instruction. -/
def kd : List (List Nat) := [[114, 107, 107], [114, 114, 45], [114, 114, 114], [114, 114, 114], [114, 114, 114], [114, 114, 114], [114, 114, 114], [45, 116, 116], [114, 116, 116], [114, 115, 45], [114, 114, 114], [114, 114, 114], [114, 102, 114], [114, 114, 114], [114, 45, 45], [114, 114, 114], [45, 45, 45], [114, 45, 45], [114, 114, 45], [114, 45, 45], [114, 45, 45], [114, 114, 45], [114, 45, 45]]

def k0 (op : Nat) : Nat := (kd.getD op []).getD 0 0
def k1 (op : Nat) : Nat := (kd.getD op []).getD 1 0
def k2 (op : Nat) : Nat := (kd.getD op []).getD 2 0

/-- The greatest byte of an operand of a letter. -/
def hiOf (r f k : Nat) : Nat := if k = 114 then r - 1 else if k = 102 then f - 1 else if k = 115 then 8 else if k = 107 then 255 else 0

/-- A t at p, in a function of l instructions. -/
def tgt (s : ByteArray) (p l : Nat) : Nat × Bool :=
  if s.size < p + 2 then (s.size, false) else if l < 256 * bt s p + bt s (p + 1) then (p, false) else (p + 2, true)

/-- The operands, from p on. -/
def opn (s : ByteArray) (p op r f l : Nat) : Nat × Bool :=
  if tk s p 0 (hiOf r f (k0 op)) = true then
    if k1 op = 116 then tgt s (p + 1) l
    else if tk s (p + 1) 0 (hiOf r f (k1 op)) = true then
      if tk s (p + 2) 0 (hiOf r f (k2 op)) = true then (p + 3, true) else (p + 2, false)
    else (p + 1, false)
  else (p, false)

def ins (s : ByteArray) (p r f l : Nat) : Nat × Bool :=
  if tk s p 0 22 = true then opn s (p + 1) (bt s p) r f l else (p, false)

def code (s : ByteArray) (r f l : Nat) : Nat → Nat → Nat × Bool
  | p, 0 => (p, true)
  | p, n + 1 => if (ins s p r f l).2 = true then code s r f l (ins s p r f l).1 n else ((ins s p r f l).1, false)

def fn (s : ByteArray) (p f : Nat) : Nat × Bool :=
  if tk s p 2 8 = true then
    if tk s (p + 1) 1 200 = true then code s (bt s p) f (bt s (p + 1)) (p + 2) (bt s (p + 1)) else (p + 1, false)
  else (p, false)

def fns (s : ByteArray) (f : Nat) : Nat → Nat → Nat × Bool
  | p, 0 => (p, true)
  | p, n + 1 => if (fn s p f).2 = true then fns s f (fn s p f).1 n else ((fn s p f).1, false)

/-- The whole: where the reader stands behind it, and whether the bytes are a program. -/
def prg (s : ByteArray) : Nat × Bool :=
  if tk s 0 1 8 = true then ((fns s (bt s 0) 1 (bt s 0)).1, (fns s (bt s 0) 1 (bt s 0)).2 && decide ((fns s (bt s 0) 1 (bt s 0)).1 = s.size)) else (0, false)

/-- The operands by a list of letters. -/
def ops (s : ByteArray) (r f l : Nat) : List Nat → Nat → Nat × Bool
  | [], q => (q, true)
  | k :: ks, q => if k = 116 then tgt s q l else if tk s q 0 (hiOf r f k) = true then ops s r f l ks (q + 1) else (q, false)

theorem kd_facts : ∀ op, op < 23 → kd.getD op [] = [k0 op, k1 op, k2 op] ∧ k0 op ≠ 116 ∧ (k1 op ≠ 116 → k2 op ≠ 116) := by decide

theorem ops_opn (s : ByteArray) (p op r f l : Nat) (h : op < 23) : ops s r f l (kd.getD op []) p = opn s p op r f l := by
  obtain ⟨h1, h2, h3⟩ := kd_facts op h
  rw [h1]
  unfold opn
  simp only [ops, if_neg h2]
  by_cases h4 : k1 op = 116
  · simp only [if_pos h4]
  · simp only [if_neg h4, if_neg (h3 h4)]

theorem bt_lt (s : ByteArray) (p : Nat) : bt s p < 256 := by
  unfold bt; exact UInt8.toNat_lt _

theorem bt_at (s : ByteArray) (p : Nat) (h : p < s.size) : bt s p = (s[p]'h).toNat := by
  have h' : p < s.data.size := h
  unfold bt
  rw [Array.getElem?_eq_getElem h']
  rfl

theorem tk_lt {s : ByteArray} {p lo hi : Nat} (h : tk s p lo hi = true) : p < s.size ∧ lo ≤ bt s p ∧ bt s p ≤ hi := by
  simpa [tk] using h

theorem tgt_le {s : ByteArray} {p l : Nat} (h : p ≤ s.size) : p ≤ (tgt s p l).1 ∧ (tgt s p l).1 ≤ s.size := by
  unfold tgt; split
  · exact ⟨h, Nat.le_refl _⟩
  · split <;> simp <;> omega

theorem opn_le {s : ByteArray} {p op r f l : Nat} (h : p ≤ s.size) : p ≤ (opn s p op r f l).1 ∧ (opn s p op r f l).1 ≤ s.size := by
  unfold opn
  split
  · rename_i h1
    have := tk_lt h1
    split
    · have := tgt_le (s := s) (p := p + 1) (l := l) (by omega); omega
    · split
      · rename_i h2
        have := tk_lt h2
        split
        · rename_i h3
          have := tk_lt h3
          simp; omega
        · simp; omega
      · simp; omega
  · simp; omega

theorem ins_le {s : ByteArray} {p r f l : Nat} (h : p ≤ s.size) : p ≤ (ins s p r f l).1 ∧ (ins s p r f l).1 ≤ s.size := by
  unfold ins
  split
  · rename_i h1
    have := tk_lt h1
    have := opn_le (s := s) (p := p + 1) (op := bt s p) (r := r) (f := f) (l := l) (by omega); omega
  · simp; omega

theorem opn_yes {s : ByteArray} {p op r f l : Nat} (h : (opn s p op r f l).2 = true) : (opn s p op r f l).1 = p + 3 := by
  unfold opn at *
  by_cases h1 : tk s p 0 (hiOf r f (k0 op)) = true
  · rw [if_pos h1] at h ⊢
    by_cases h2 : k1 op = 116
    · rw [if_pos h2] at h ⊢
      unfold tgt at *
      by_cases h3 : s.size < p + 1 + 2
      · rw [if_pos h3] at h; simp at h
      · rw [if_neg h3] at h ⊢
        by_cases h4 : l < 256 * bt s (p + 1) + bt s (p + 1 + 1)
        · rw [if_pos h4] at h; simp at h
        · rw [if_neg h4]
    · rw [if_neg h2] at h ⊢
      by_cases h3 : tk s (p + 1) 0 (hiOf r f (k1 op)) = true
      · rw [if_pos h3] at h ⊢
        by_cases h4 : tk s (p + 2) 0 (hiOf r f (k2 op)) = true
        · rw [if_pos h4]
        · rw [if_neg h4] at h; simp at h
      · rw [if_neg h3] at h; simp at h
  · rw [if_neg h1] at h; simp at h

theorem ins_yes {s : ByteArray} {p r f l : Nat} (h : (ins s p r f l).2 = true) : (ins s p r f l).1 = p + 4 := by
  unfold ins at *
  split at h
  · rw [if_pos (by assumption), opn_yes h]
  · simp at h

theorem code_le {s : ByteArray} {r f l : Nat} (n : Nat) : ∀ p, p ≤ s.size → p ≤ (code s r f l p n).1 ∧ (code s r f l p n).1 ≤ s.size := by
  induction n with
  | zero => intro p h; simp [code]; exact h
  | succ n ih =>
    intro p h
    have hi := ins_le (s := s) (p := p) (r := r) (f := f) (l := l) h
    unfold code
    split
    · have := ih _ hi.2; omega
    · exact hi

theorem fn_le {s : ByteArray} {p f : Nat} (h : p ≤ s.size) : p ≤ (fn s p f).1 ∧ (fn s p f).1 ≤ s.size := by
  unfold fn
  split
  · rename_i h1
    have := tk_lt h1
    split
    · rename_i h2
      have := tk_lt h2
      have := code_le (s := s) (r := bt s p) (f := f) (l := bt s (p + 1)) (bt s (p + 1)) (p + 2) (by omega)
      omega
    · simp; omega
  · simp; omega

theorem fns_le {s : ByteArray} {f : Nat} (n : Nat) : ∀ p, p ≤ s.size → p ≤ (fns s f p n).1 ∧ (fns s f p n).1 ≤ s.size := by
  induction n with
  | zero => intro p h; simp [fns]; exact h
  | succ n ih =>
    intro p h
    have hi := fn_le (s := s) (p := p) (f := f) h
    unfold fns
    split
    · have := ih _ hi.2; omega
    · exact hi

/-- The letters of a text. -/
def letters (S : ByteArray) : List Nat := S.data.toList.map UInt8.toNat
/-- The text of the letters of an instruction. -/
def KS (op : Nat) : ByteArray := ⟨((kd.getD op []).map UInt8.ofNat).toArray⟩
theorem KS_facts : ∀ op, op < 23 → letters (KS op) = kd.getD op [] ∧ (KS op).size = 3 := by decide
theorem letters_drop (S : ByteArray) (k : Nat) (h : k < S.size) : (letters S).drop k = S[k].toNat :: (letters S).drop (k + 1) := by
  have h' : k < (letters S).length := by simpa [letters] using h
  rw [List.drop_eq_getElem_cons h']
  simp [letters]; rfl
theorem letters_end (S : ByteArray) : (letters S).drop S.size = [] := by
  apply List.drop_of_length_le; simp [letters]
theorem ops_le {s : ByteArray} {r f l : Nat} (ks : List Nat) : ∀ p, p ≤ s.size → p ≤ (ops s r f l ks p).1 ∧ (ops s r f l ks p).1 ≤ s.size := by
  induction ks with
  | nil => intro p h; simp [ops]; exact h
  | cons k ks ih =>
    intro p h
    unfold ops
    split
    · exact tgt_le h
    · split
      · rename_i h1
        have := tk_lt h1
        have := ih (p + 1) (by omega)
        omega
      · simp; exact h

/-- A byte of a piece. -/
theorem bt_extract (s : ByteArray) (p q i : Nat) (h : q ≤ s.size) (hi : p + i < q) : bt (s.extract p q) i = bt s (p + i) := by
  unfold bt
  have : (s.extract p q).data = s.data.extract p q := by simp
  rw [this, Array.getElem?_extract]
  have h' : q ≤ s.data.size := h
  rw [if_pos (by omega)]

theorem code_yes {s : ByteArray} {r f l : Nat} (n : Nat) : ∀ p, (code s r f l p n).2 = true → (code s r f l p n).1 = p + 4 * n := by
  induction n with
  | zero => intro p _; rfl
  | succ n ih =>
    intro p h
    unfold code at h ⊢
    by_cases h1 : (ins s p r f l).2 = true
    · rw [if_pos h1] at h ⊢
      rw [ih _ h, ins_yes h1]; omega
    · rw [if_neg h1] at h; simp at h

theorem fn_yes {s : ByteArray} {p f : Nat} (h : (fn s p f).2 = true) : (fn s p f).1 = p + 2 + 4 * bt s (p + 1) ∧ 2 ≤ bt s p ∧ bt s p ≤ 8 ∧ 1 ≤ bt s (p + 1) ∧ bt s (p + 1) ≤ 200 := by
  unfold fn at *
  by_cases h1 : tk s p 2 8 = true
  · rw [if_pos h1] at h ⊢
    by_cases h2 : tk s (p + 1) 1 200 = true
    · rw [if_pos h2] at h ⊢
      have := tk_lt h1
      have := tk_lt h2
      refine ⟨code_yes _ _ h, by omega, by omega, by omega, by omega⟩
    · rw [if_neg h2] at h; simp at h
  · rw [if_neg h1] at h; simp at h

/-- Where the function with the number k begins. -/
def pos (s : ByteArray) : Nat → Nat
  | 0 => 1
  | k + 1 => pos s k + 2 + 4 * bt s (pos s k + 1)

end Go.Proofs.YtohobhbcjikhpaaDoor.M
