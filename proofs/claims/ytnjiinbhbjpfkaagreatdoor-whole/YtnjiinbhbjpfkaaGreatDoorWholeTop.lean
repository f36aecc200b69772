/-
  Whole: for every input a list that is kept is whole, whatever is collected in between: its numbers are emitted in their order, and the task ends. No condition but the card's own: the table of operands' letters holds what the program's text lays.
-/
import Derived.Test.YtnjiinbhbjpfkaaGreatDoorLawsA
import Derived.Carry
import Derived.Test.YtnjiinbhbjpfkaaGreatDoorPartO
/-
  The program of the law Whole on the machine of one task: with two places more than the list is long a cell is free whenever one is asked for, and the list's numbers are emitted in their order.
-/
namespace Go.Proofs.YtnjiinbhbjpfkaaGreatDoor.B

def wholeC (n : Nat) : List In := [(0, 2, 0, n), (0, 5, 0, 1), (8, 2, 0, 10), (3, 2, 2, 5), (9, 4, 2, 0), (11, 4, 7, 3), (11, 4, 5, 2), (1, 3, 4, 0), (9, 4, 8, 0), (7, 0, 0, 2), (0, 4, 0, 0), (6, 6, 3, 4), (8, 6, 0, 14), (14, 4, 0, 0), (10, 6, 3, 5), (20, 6, 0, 0), (10, 3, 3, 4), (9, 6, 1, 0), (7, 0, 0, 11)]
/-- What stands beside the list in a cell. -/
def XW (n : Nat) : Nat → List V := fun m => [(0, (n : Int) - 1 - m)]
theorem XW_num (n : Nat) : ∀ k v, v ∈ XW n k → v.1 = 0 := fun _ v h => by simp [XW] at h; rw [h]
/-- A cell that has no other in it, or a number. -/
def Junk (M : Nat → List V) (v : V) : Prop := v.1 ≠ 0 → ∀ u, u ∈ M v.1 → u.1 = 0

def wholeI (n j : Nat) (s : St) : Prop := s.2.1 0 = (0, 0) ∧ s.2.1 1 = (0, 0) ∧ s.2.1 7 = (0, 0) ∧
  match s.1 with
  | 0 => j = 0 ∧ s.2.1 2 = (0, 0) ∧ s.2.1 3 = (0, 0) ∧ s.2.1 4 = (0, 0) ∧ s.2.1 5 = (0, 0) ∧ s.2.1 6 = (0, 0)
  | 1 => j = 1 ∧ s.2.1 2 = (0, (n : Int)) ∧ s.2.1 3 = (0, 0) ∧ s.2.1 4 = (0, 0) ∧ s.2.1 5 = (0, 0) ∧ s.2.1 6 = (0, 0)
  | 2 => ∃ i l, j = 2 + 8 * i ∧ i ≤ n ∧ l.length = i ∧ s.2.1 2 = (0, (n : Int) - i) ∧ s.2.1 5 = (0, 1) ∧ s.2.1 6 = (0, 0) ∧ Chn (XW n) s.2.2 (s.2.1 3) l ∧ Junk s.2.2 (s.2.1 4)
  | 3 => ∃ i l, j = 3 + 8 * i ∧ i < n ∧ l.length = i ∧ s.2.1 2 = (0, (n : Int) - i) ∧ s.2.1 5 = (0, 1) ∧ s.2.1 6 = (0, 0) ∧ Chn (XW n) s.2.2 (s.2.1 3) l ∧ Junk s.2.2 (s.2.1 4)
  | 4 => ∃ i l, j = 4 + 8 * i ∧ i < n ∧ l.length = i ∧ s.2.1 2 = (0, (n : Int) - 1 - i) ∧ s.2.1 5 = (0, 1) ∧ s.2.1 6 = (0, 0) ∧ Chn (XW n) s.2.2 (s.2.1 3) l ∧ Junk s.2.2 (s.2.1 4)
  | 5 => ∃ i l p, j = 5 + 8 * i ∧ i < n ∧ l.length = i ∧ s.2.1 2 = (0, (n : Int) - 1 - i) ∧ s.2.1 5 = (0, 1) ∧ s.2.1 6 = (0, 0) ∧ Chn (XW n) s.2.2 (s.2.1 3) l ∧ s.2.1 4 = (p, 0) ∧ p ≠ 0 ∧ p ∉ l ∧ s.2.2 p = [(0, 0), (0, 0)]
  | 6 => ∃ i l p, j = 6 + 8 * i ∧ i < n ∧ l.length = i ∧ s.2.1 2 = (0, (n : Int) - 1 - i) ∧ s.2.1 5 = (0, 1) ∧ s.2.1 6 = (0, 0) ∧ Chn (XW n) s.2.2 (s.2.1 3) l ∧ s.2.1 4 = (p, 0) ∧ p ≠ 0 ∧ p ∉ l ∧ s.2.2 p = [s.2.1 3, (0, 0)]
  | 7 => ∃ i l, j = 7 + 8 * i ∧ i < n ∧ l.length = i + 1 ∧ s.2.1 2 = (0, (n : Int) - 1 - i) ∧ s.2.1 5 = (0, 1) ∧ s.2.1 6 = (0, 0) ∧ Chn (XW n) s.2.2 (s.2.1 4) l
  | 8 => ∃ i l, j = 8 + 8 * i ∧ i < n ∧ l.length = i + 1 ∧ s.2.1 2 = (0, (n : Int) - 1 - i) ∧ s.2.1 5 = (0, 1) ∧ s.2.1 6 = (0, 0) ∧ Chn (XW n) s.2.2 (s.2.1 3) l ∧ s.2.1 4 = s.2.1 3
  | 9 => ∃ i l, j = 9 + 8 * i ∧ i < n ∧ l.length = i + 1 ∧ s.2.1 2 = (0, (n : Int) - 1 - i) ∧ s.2.1 5 = (0, 1) ∧ s.2.1 6 = (0, 0) ∧ Chn (XW n) s.2.2 (s.2.1 3) l ∧ Junk s.2.2 (s.2.1 4)
  | 10 => ∃ l, j = 3 + 8 * n ∧ l.length = n ∧ s.2.1 2 = (0, 0) ∧ s.2.1 5 = (0, 1) ∧ Chn (XW n) s.2.2 (s.2.1 3) l
  | 11 => ∃ i l, j = 4 + 8 * n + 7 * i ∧ i ≤ n ∧ l.length = n - i ∧ s.2.1 2 = (0, 0) ∧ s.2.1 5 = (0, 1) ∧ s.2.1 4 = (0, 0) ∧ Chn (XW n) s.2.2 (s.2.1 3) l
  | 12 => ∃ i l, j = 5 + 8 * n + 7 * i ∧ i ≤ n ∧ l.length = n - i ∧ s.2.1 2 = (0, 0) ∧ s.2.1 5 = (0, 1) ∧ s.2.1 4 = (0, 0) ∧ Chn (XW n) s.2.2 (s.2.1 3) l ∧ s.2.1 6 = (0, if i = n then 1 else 0)
  | 13 => j = 6 + 15 * n ∧ s.2.1 4 = (0, 0)
  | 14 => ∃ i l, j = 6 + 8 * n + 7 * i ∧ i < n ∧ l.length = n - i ∧ s.2.1 2 = (0, 0) ∧ s.2.1 5 = (0, 1) ∧ s.2.1 4 = (0, 0) ∧ Chn (XW n) s.2.2 (s.2.1 3) l
  | 15 => ∃ i l, j = 7 + 8 * n + 7 * i ∧ i < n ∧ l.length = n - i ∧ s.2.1 2 = (0, 0) ∧ s.2.1 5 = (0, 1) ∧ s.2.1 4 = (0, 0) ∧ Chn (XW n) s.2.2 (s.2.1 3) l ∧ s.2.1 6 = (0, (i : Int))
  | 16 => ∃ i l, j = 8 + 8 * n + 7 * i ∧ i < n ∧ l.length = n - i ∧ s.2.1 2 = (0, 0) ∧ s.2.1 5 = (0, 1) ∧ s.2.1 4 = (0, 0) ∧ Chn (XW n) s.2.2 (s.2.1 3) l ∧ s.2.1 6 = (0, (i : Int))
  | 17 => ∃ i l, j = 9 + 8 * n + 7 * i ∧ i < n ∧ l.length = n - i - 1 ∧ s.2.1 2 = (0, 0) ∧ s.2.1 5 = (0, 1) ∧ s.2.1 4 = (0, 0) ∧ Chn (XW n) s.2.2 (s.2.1 3) l ∧ s.2.1 6 = (0, (i : Int))
  | 18 => ∃ i l, j = 10 + 8 * n + 7 * i ∧ i < n ∧ l.length = n - i - 1 ∧ s.2.1 2 = (0, 0) ∧ s.2.1 5 = (0, 1) ∧ s.2.1 4 = (0, 0) ∧ Chn (XW n) s.2.2 (s.2.1 3) l
  | _ => False

def wholeE (n j : Nat) : List Ev := if 7 + 8 * n ≤ j ∧ j < 7 + 15 * n ∧ (j - (7 + 8 * n)) % 7 = 0 then [(1, ((j - (7 + 8 * n)) / 7 : Nat))] else if j = 6 + 15 * n then [(2, 0)] else []

theorem wholeE_no {n j : Nat} (h : ¬ (7 + 8 * n ≤ j ∧ j < 7 + 15 * n ∧ (j - (7 + 8 * n)) % 7 = 0)) (h2 : j ≠ 6 + 15 * n) : wholeE n j = [] := by unfold wholeE; rw [if_neg h, if_neg h2]
theorem wholeE_at {n i : Nat} (h : i < n) : wholeE n (7 + 8 * n + 7 * i) = [(1, (i : Int))] := by
  unfold wholeE
  rw [if_pos (by omega), show (7 + 8 * n + 7 * i - (7 + 8 * n)) / 7 = i by omega]

theorem whole_start (n : Nat) (M : Nat → List V) : wholeI n 0 (0, fun _ => (0, 0), M) := ⟨rfl, rfl, rfl, rfl, rfl, rfl, rfl, rfl, rfl⟩

theorem eight {P : Nat → Prop} (h0 : P 0) (h1 : P 1) (h2 : P 2) (h3 : P 3) (h4 : P 4) (h5 : P 5) (h6 : P 6) (h7 : P 7) : ∀ i, i < 8 → P i
  | 0, _ => h0
  | 1, _ => h1
  | 2, _ => h2
  | 3, _ => h3
  | 4, _ => h4
  | 5, _ => h5
  | 6, _ => h6
  | 7, _ => h7
  | _ + 8, h => absurd h (by omega)

/-- A cell is free where a chain, and beside it one that leads nowhere, is all. -/
theorem whole_not {n c ph : Nat} {R : Nat → V} {M : Nat → List V} {l : List Nat} (hl : l.length + 1 < c) (r0 : R 0 = (0, 0)) (r1 : R 1 = (0, 0)) (r7 : R 7 = (0, 0)) (r2 : (R 2).1 = 0) (r5 : (R 5).1 = 0) (r6 : (R 6).1 = 0) (hc : Chn (XW n) M (R 3) l) (r4 : Junk M (R 4) ∨ R 4 = R 3) : ¬ Full 8 c (ph, R, M) := by
  rcases r4 with r4 | r4
  · refine not_full ((R 4).1 :: l |>.filter (fun y => y ≠ 0)) ?_ ?_ ?_
    · have := List.length_filter_le (fun y => decide (y ≠ 0)) ((R 4).1 :: l)
      simp only [List.length_cons] at this
      omega
    · refine eight ?_ ?_ ?_ ?_ ?_ ?_ ?_ ?_ <;> simp only [] <;> intro h
      · rw [r0] at h; simp at h
      · rw [r1] at h; simp at h
      · exact absurd r2 h
      · simp only [List.mem_filter, List.mem_cons, decide_eq_true_eq]; exact ⟨Or.inr (hc.head h), h⟩
      · simp only [List.mem_filter, List.mem_cons, decide_eq_true_eq]; exact ⟨by simp, h⟩
      · exact absurd r5 h
      · exact absurd r6 h
      · rw [r7] at h; simp at h
    · intro k hk v hv h
      simp only [List.mem_filter, List.mem_cons, decide_eq_true_eq] at hk ⊢
      obtain ⟨rfl | hk, hne⟩ := hk
      · exact absurd (r4 hne v hv) h
      · exact ⟨Or.inr (hc.closed (XW_num n) k hk v hv h), h⟩
  · refine not_full l (by omega) ?_ (hc.closed (XW_num n))
    refine eight ?_ ?_ ?_ ?_ ?_ ?_ ?_ ?_ <;> simp only [] <;> intro h
    · rw [r0] at h; simp at h
    · rw [r1] at h; simp at h
    · exact absurd r2 h
    · exact hc.head h
    · rw [r4] at h ⊢; exact hc.head h
    · exact absurd r5 h
    · exact absurd r6 h
    · rw [r7] at h; simp at h

theorem junk_new {M : Nat → List V} {p b : Nat} {v : V} (hv : v = (p, 0)) (h : M p = List.replicate b (0, 0)) : Junk M v := by
  intro _ u hu
  rw [hv] at hu
  simp only [h] at hu
  rw [List.eq_of_mem_replicate hu]

theorem whole_step (n c j : Nat) (s s' : St) (r : Nat) (ev : List Ev) (hn : 1 ≤ n) (hn2 : n ≤ 90) (hc0 : n + 2 ≤ c) (hj : j < 6 + 15 * n) (hI : wholeI n j s) (h : Step (wholeC n) 8 c s s' r ev) : r = 0 ∧ ev = wholeE n j ∧ wholeI n (j + 1) s' := by
  obtain ⟨nx, R, M⟩ := s
  obtain ⟨r0, r1, r7, hI⟩ := hI
  simp only at r0 r1 r7
  match nx, hI, h with
  | 0, hI, h =>
    obtain ⟨rfl, r2, r3, r4, r5, r6⟩ := hI
    obtain ⟨rfl, rfl, rfl⟩ := (show Does 8 c (0, 2, 0, n) (0, R, M) s' r ev from h)
    refine ⟨rfl, (wholeE_no (by omega) (by omega)).symm, r0, r1, r7, rfl, ?_, r3, r4, r5, r6⟩
    show (0, wide 0 n) = _
    unfold wide; rw [if_pos (by omega)]; simp
  | 1, hI, h =>
    obtain ⟨rfl, r2, r3, r4, r5, r6⟩ := hI
    obtain ⟨rfl, rfl, rfl⟩ := (show Does 8 c (0, 5, 0, 1) (1, R, M) s' r ev from h)
    refine ⟨rfl, (wholeE_no (by omega) (by omega)).symm, r0, r1, r7, 0, [], rfl, by omega, rfl, ?_, ?_, r6, r3, ?_⟩
    · show R 2 = _; simpa using r2
    · show (0, wide 0 1) = _; rfl
    · intro h
      have r4' : (R 4).1 = 0 := by rw [show R 4 = (0, 0) from r4]
      exact absurd r4' h
  | 2, hI, h =>
    obtain ⟨i, l, rfl, hi, hl, r2, r5, r6, hc, r4⟩ := hI
    simp only at r2 r5 r6 hc r4
    obtain ⟨rfl, rfl, rfl⟩ := (show Does 8 c (8, 2, 0, 10) (2, R, M) s' r ev from h)
    refine ⟨rfl, (wholeE_no (by omega) (by omega)).symm, r0, r1, r7, ?_⟩
    by_cases hin : i = n
    · subst hin
      have e : R 2 = (0, 0) := by rw [r2]; simp
      have hs : (if R 2 = (0, 0) then 256 * 0 + 10 else 2 + 1) = 10 := if_pos e
      simp only [hs]
      exact ⟨l, by omega, hl, e, r5, hc⟩
    · have e : ¬ R 2 = (0, 0) := by rw [r2]; simp; omega
      have hs : (if R 2 = (0, 0) then 256 * 0 + 10 else 2 + 1) = 3 := if_neg e
      simp only [hs]
      exact ⟨i, l, by omega, by omega, hl, r2, r5, r6, hc, r4⟩
  | 3, hI, h =>
    obtain ⟨i, l, rfl, hi, hl, r2, r5, r6, hc, r4⟩ := hI
    simp only at r2 r5 r6 hc r4
    have h' : Does 8 c (3, 2, 2, 5) (3, R, M) s' r ev := h
    simp only [Does] at h'
    rw [if_pos (by rw [r2, r5]; simp)] at h'
    obtain ⟨rfl, rfl, rfl⟩ := h'
    refine ⟨rfl, (wholeE_no (by omega) (by omega)).symm, r0, r1, r7, i, l, by omega, hi, hl, ?_, r5, r6, hc, r4⟩
    show (0, wrap ((R 2).2 - (R 5).2)) = _
    rw [r2, r5, wrap_in (by simp only; omega) (by simp only; omega)]
    simp only; congr 1; omega
  | 4, hI, h =>
    obtain ⟨i, l, rfl, hi, hl, r2, r5, r6, hc, r4⟩ := hI
    simp only at r2 r5 r6 hc r4
    rcases (show Does 8 c (9, 4, 2, 0) (4, R, M) s' r ev from h) with ⟨hF, _⟩ | ⟨rfl, rfl, p, M', p1, p2, p3, p4, p5, rfl⟩
    · exact absurd hF (whole_not (l := l) (by omega) r0 r1 r7 (by rw [r2]) (by rw [r5]) (by rw [r6]) hc (Or.inl r4))
    · have hre : ∀ x, x ∈ l → Reach 8 (4, R, M) x := hc.reach (fun h => reach_reg (s := (4, R, M)) 3 (by omega) h)
      exact ⟨rfl, (wholeE_no (by omega) (by omega)).symm, r0, r1, r7, i, l, p, by omega, hi, hl, r2, r5, r6, hc.kept (fun x hx => p4 x (hre x hx)), rfl, by omega, fun hx => p3 (hre p hx), p5⟩
  | 5, hI, h =>
    obtain ⟨i, l, p, rfl, hi, hl, r2, r5, r6, hc, r4, hp0, hp, hm⟩ := hI
    simp only at r2 r5 r6 hc r4 hm
    have h' : Does 8 c (11, 4, 7, 3) (5, R, M) s' r ev := h
    simp only [Does] at h'
    rw [if_pos (by rw [r4, r7]; simp only; rw [hm]; simp; omega)] at h'
    obtain ⟨rfl, rfl, rfl⟩ := h'
    rw [r4, r7]
    refine ⟨rfl, (wholeE_no (by omega) (by omega)).symm, r0, r1, r7, i, l, p, by omega, hi, hl, r2, r5, r6, hc.kept (fun x hx => lay_off _ _ _ _ (fun e => hp (by rw [show x = p from e] at hx; exact hx))), r4, hp0, hp, ?_⟩
    show lay M p _ p = _
    rw [lay_at]
    simp only [hm]; rfl
  | 6, hI, h =>
    obtain ⟨i, l, p, rfl, hi, hl, r2, r5, r6, hc, r4, hp0, hp, hm⟩ := hI
    simp only at r2 r5 r6 hc r4 hm
    have h' : Does 8 c (11, 4, 5, 2) (6, R, M) s' r ev := h
    simp only [Does] at h'
    rw [if_pos (by rw [r4, r5]; simp only; rw [hm]; simp; omega)] at h'
    obtain ⟨rfl, rfl, rfl⟩ := h'
    rw [r4, r5]
    refine ⟨rfl, (wholeE_no (by omega) (by omega)).symm, r0, r1, r7, i, p :: l, by omega, hi, by simp [hl], r2, r5, r6, r4, hp0, R 3, ?_, hc.kept (fun x hx => lay_off _ _ _ _ (fun e => hp (by rw [show x = p from e] at hx; exact hx)))⟩
    show lay M p _ p = _
    rw [lay_at]
    simp only [hm, r2, XW, hl]; rfl
  | 7, hI, h =>
    obtain ⟨i, l, rfl, hi, hl, r2, r5, r6, hc⟩ := hI
    simp only at r2 r5 r6 hc
    obtain ⟨rfl, rfl, rfl⟩ := (show Does 8 c (1, 3, 4, 0) (7, R, M) s' r ev from h)
    exact ⟨rfl, (wholeE_no (by omega) (by omega)).symm, r0, r1, r7, i, l, by omega, hi, hl, r2, r5, r6, hc, rfl⟩
  | 8, hI, h =>
    obtain ⟨i, l, rfl, hi, hl, r2, r5, r6, hc, r4⟩ := hI
    simp only at r2 r5 r6 hc r4
    rcases (show Does 8 c (9, 4, 8, 0) (8, R, M) s' r ev from h) with ⟨hF, _⟩ | ⟨rfl, rfl, p, M', p1, p2, p3, p4, p5, rfl⟩
    · exact absurd hF (whole_not (l := l) (by omega) r0 r1 r7 (by rw [r2]) (by rw [r5]) (by rw [r6]) hc (Or.inr r4))
    · have hre : ∀ x, x ∈ l → Reach 8 (8, R, M) x := hc.reach (fun h => reach_reg (s := (8, R, M)) 3 (by omega) h)
      exact ⟨rfl, (wholeE_no (by omega) (by omega)).symm, r0, r1, r7, i, l, by omega, hi, hl, r2, r5, r6, hc.kept (fun x hx => p4 x (hre x hx)), junk_new rfl p5⟩
  | 9, hI, h =>
    obtain ⟨i, l, rfl, hi, hl, r2, r5, r6, hc, r4⟩ := hI
    simp only at r2 r5 r6 hc r4
    obtain ⟨rfl, rfl, rfl⟩ := (show Does 8 c (7, 0, 0, 2) (9, R, M) s' r ev from h)
    exact ⟨rfl, (wholeE_no (by omega) (by omega)).symm, r0, r1, r7, i + 1, l, by omega, by omega, hl, by show R 2 = _; rw [r2]; congr 1; omega, r5, r6, hc, r4⟩
  | 10, hI, h =>
    obtain ⟨l, rfl, hl, r2, r5, hc⟩ := hI
    simp only at r2 r5 hc
    obtain ⟨rfl, rfl, rfl⟩ := (show Does 8 c (0, 4, 0, 0) (10, R, M) s' r ev from h)
    exact ⟨rfl, (wholeE_no (by omega) (by omega)).symm, r0, r1, r7, 0, l, by omega, by omega, by omega, r2, r5, rfl, hc⟩
  | 11, hI, h =>
    obtain ⟨i, l, rfl, hi, hl, r2, r5, r4, hc⟩ := hI
    simp only at r2 r5 r4 hc
    obtain ⟨rfl, rfl, rfl⟩ := (show Does 8 c (6, 6, 3, 4) (11, R, M) s' r ev from h)
    refine ⟨rfl, (wholeE_no (by omega) (by omega)).symm, r0, r1, r7, i, l, by omega, hi, hl, r2, r5, r4, hc, ?_⟩
    show (0, if R 3 = R 4 then (1 : Int) else 0) = _
    rw [r4]
    cases l with
    | nil =>
      have hin : i = n := by simp at hl; omega
      rw [if_pos (show R 3 = (0, 0) from hc), if_pos hin]
    | cons p t =>
      have hin : i ≠ n := by intro e; simp at hl; omega
      rw [if_neg (by rw [hc.1]; intro e; exact hc.2.1 (by injection e)), if_neg hin]
  | 12, hI, h =>
    obtain ⟨i, l, rfl, hi, hl, r2, r5, r4, hc, r6⟩ := hI
    simp only at r2 r5 r4 hc r6
    obtain ⟨rfl, rfl, rfl⟩ := (show Does 8 c (8, 6, 0, 14) (12, R, M) s' r ev from h)
    refine ⟨rfl, (wholeE_no (by omega) (by omega)).symm, r0, r1, r7, ?_⟩
    by_cases hin : i = n
    · rw [if_pos hin] at r6
      simp only [r6]
      rw [if_neg (by simp)]
      exact ⟨by omega, r4⟩
    · rw [if_neg hin] at r6
      simp only [r6]
      exact ⟨i, l, by omega, by omega, hl, r2, r5, r4, hc⟩
  | 13, hI, h =>
    obtain ⟨rfl, _⟩ := hI
    omega
  | 14, hI, h =>
    obtain ⟨i, l, rfl, hi, hl, r2, r5, r4, hc⟩ := hI
    simp only at r2 r5 r4 hc
    cases l with
    | nil => simp at hl; omega
    | cons p t =>
      obtain ⟨h3, hp0, v', hm, ht⟩ := hc
      simp at hl
      have h' : Does 8 c (10, 6, 3, 5) (14, R, M) s' r ev := h
      simp only [Does] at h'
      rw [if_pos (by rw [h3, r5]; simp only; rw [hm]; simp [XW]; omega)] at h'
      obtain ⟨rfl, rfl, rfl⟩ := h'
      refine ⟨rfl, (wholeE_no (by omega) (by omega)).symm, r0, r1, r7, i, p :: t, by omega, hi, by simp; omega, r2, r5, r4, ⟨h3, hp0, v', hm, ht⟩, ?_⟩
      show (M (R 3).1).getD (R 5).2.toNat (0, 0) = _
      rw [h3, r5]
      simp only [hm, XW]
      show ((0, (n : Int) - 1 - t.length) : V) = _
      congr 1; omega
  | 15, hI, h =>
    obtain ⟨i, l, rfl, hi, hl, r2, r5, r4, hc, r6⟩ := hI
    simp only at r2 r5 r4 hc r6
    have h' : Does 8 c (20, 6, 0, 0) (15, R, M) s' r ev := h
    simp only [Does] at h'
    rw [if_pos (by rw [r6])] at h'
    obtain ⟨rfl, rfl, rfl⟩ := h'
    exact ⟨rfl, by rw [wholeE_at hi, r6], r0, r1, r7, i, l, by omega, hi, hl, r2, r5, r4, hc, r6⟩
  | 16, hI, h =>
    obtain ⟨i, l, rfl, hi, hl, r2, r5, r4, hc, r6⟩ := hI
    simp only at r2 r5 r4 hc r6
    cases l with
    | nil => simp at hl; omega
    | cons p t =>
      obtain ⟨h3, hp0, v', hm, ht⟩ := hc
      simp at hl
      have h' : Does 8 c (10, 3, 3, 4) (16, R, M) s' r ev := h
      simp only [Does] at h'
      rw [if_pos (by rw [h3, r4]; simp only; rw [hm]; simp; omega)] at h'
      obtain ⟨rfl, rfl, rfl⟩ := h'
      refine ⟨rfl, (wholeE_no (by omega) (by omega)).symm, r0, r1, r7, i, t, by omega, hi, by omega, r2, r5, r4, ?_, r6⟩
      show Chn (XW n) M ((M (R 3).1).getD (R 4).2.toNat (0, 0)) t
      rw [h3, r4]
      simp only [hm]
      exact ht
  | 17, hI, h =>
    obtain ⟨i, l, rfl, hi, hl, r2, r5, r4, hc, r6⟩ := hI
    simp only at r2 r5 r4 hc r6
    rcases (show Does 8 c (9, 6, 1, 0) (17, R, M) s' r ev from h) with ⟨hF, _⟩ | ⟨rfl, rfl, p, M', p1, p2, p3, p4, p5, rfl⟩
    · exact absurd hF (whole_not (l := l) (by omega) r0 r1 r7 (by rw [r2]) (by rw [r5]) (by rw [r6]) hc (Or.inl (fun h => absurd (by rw [r4]) h)))
    · have hre : ∀ x, x ∈ l → Reach 8 (17, R, M) x := hc.reach (fun h => reach_reg (s := (17, R, M)) 3 (by omega) h)
      exact ⟨rfl, (wholeE_no (by omega) (by omega)).symm, r0, r1, r7, i, l, by omega, hi, hl, r2, r5, r4, hc.kept (fun x hx => p4 x (hre x hx))⟩
  | 18, hI, h =>
    obtain ⟨i, l, rfl, hi, hl, r2, r5, r4, hc⟩ := hI
    simp only at r2 r5 r4 hc
    obtain ⟨rfl, rfl, rfl⟩ := (show Does 8 c (7, 0, 0, 11) (18, R, M) s' r ev from h)
    exact ⟨rfl, (wholeE_no (by omega) (by omega)).symm, r0, r1, r7, i + 1, l, by omega, by omega, by omega, r2, r5, r4, hc⟩
  | _ + 19, hI, _ => exact absurd hI (by simp)

theorem whole_last (n c : Nat) (s s' : St) (r : Nat) (ev : List Ev) (hn : 1 ≤ n) (hI : wholeI n (6 + 15 * n) s) (h : Step (wholeC n) 8 c s s' r ev) : r = 1 ∧ ev = wholeE n (6 + 15 * n) := by
  obtain ⟨nx, R, M⟩ := s
  obtain ⟨r0, r1, r7, hI⟩ := hI
  match nx, hI, h with
  | 13, hI, h =>
    obtain ⟨_, r4⟩ := hI
    obtain ⟨rfl, rfl⟩ := (show Does 8 c (14, 4, 0, 0) (13, R, M) s' r ev from h)
    simp only at r4
    have e : wholeE n (6 + 15 * n) = [(2, 0)] := by unfold wholeE; rw [if_neg (by omega), if_pos rfl]
    refine ⟨rfl, ?_⟩
    show [(2, if (R 4).1 = 0 then (R 4).2 else 0)] = _
    rw [r4, e]
    rfl
  | 0, hI, h => obtain ⟨h, _⟩ := hI; omega
  | 1, hI, h => obtain ⟨h, _⟩ := hI; omega
  | 2, hI, h => obtain ⟨i, l, h, _⟩ := hI; omega
  | 3, hI, h => obtain ⟨i, l, h, _⟩ := hI; omega
  | 4, hI, h => obtain ⟨i, l, h, _⟩ := hI; omega
  | 5, hI, h => obtain ⟨i, l, p, h, _⟩ := hI; omega
  | 6, hI, h => obtain ⟨i, l, p, h, _⟩ := hI; omega
  | 7, hI, h => obtain ⟨i, l, h, _⟩ := hI; omega
  | 8, hI, h => obtain ⟨i, l, h, _⟩ := hI; omega
  | 9, hI, h => obtain ⟨i, l, h, _⟩ := hI; omega
  | 10, hI, h => obtain ⟨l, h, _⟩ := hI; omega
  | 11, hI, h => obtain ⟨i, l, h, _⟩ := hI; omega
  | 12, hI, h => obtain ⟨i, l, h, _⟩ := hI; omega
  | 14, hI, h => obtain ⟨i, l, h, h2, _⟩ := hI; omega
  | 15, hI, h => obtain ⟨i, l, h, h2, _⟩ := hI; omega
  | 16, hI, h => obtain ⟨i, l, h, h2, _⟩ := hI; omega
  | 17, hI, h => obtain ⟨i, l, h, h2, _⟩ := hI; omega
  | 18, hI, h => obtain ⟨i, l, h, h2, _⟩ := hI; omega
  | _ + 19, hI, _ => exact absurd hI (by simp)

end Go.Proofs.YtnjiinbhbjpfkaaGreatDoor.B

/-
  The law Whole answers true for every input, where Load, Turn and State keep to the interface.
-/
namespace Go.Proofs.YtnjiinbhbjpfkaaGreatDoor
open Go.RowKit

namespace B
/-- Numbers that are emitted one behind the other. -/
def seg : Nat → Nat → List Ev
  | _, 0 => []
  | a, k + 1 => (1, (a : Int)) :: seg (a + 1) k
theorem seg_len : ∀ k a, (seg a k).length = k
  | 0, _ => rfl
  | k + 1, a => by simp [seg, seg_len k]
theorem seg_at : ∀ k a i, i < k → (seg a k)[i]? = some (1, ((a + i : Nat) : Int))
  | 0, _, _, h => absurd h (by omega)
  | k + 1, a, 0, _ => rfl
  | k + 1, a, i + 1, h => by
    rw [seg, List.getElem?_cons_succ, seg_at k (a + 1) i (by omega), show a + 1 + i = a + (i + 1) by omega]
/-- How many numbers were emitted ahead of the instruction J. -/
def em (n J : Nat) : Nat := min n ((J - (8 * n + 1)) / 7)
theorem whole_evs (n : Nat) : ∀ m J, J + m ≤ 6 + 15 * n → em n J ≤ em n (J + m) ∧ evs (wholeE n) J m = seg (em n J) (em n (J + m) - em n J) := by
  intro m
  induction m with
  | zero => intro J _; exact ⟨Nat.le_refl _, by rw [Nat.add_zero, Nat.sub_self]; rfl⟩
  | succ m ih =>
    intro J hJ
    obtain ⟨h1, h2⟩ := ih (J + 1) (by omega)
    rw [show J + 1 + m = J + (m + 1) by omega] at h1 h2
    rw [evs, h2]
    by_cases hE : 7 + 8 * n ≤ J ∧ J < 7 + 15 * n ∧ (J - (7 + 8 * n)) % 7 = 0
    · have e1 : em n J = (J - (7 + 8 * n)) / 7 := by unfold em; omega
      have e2 : em n (J + 1) = em n J + 1 := by unfold em; omega
      have e3 : wholeE n J = [(1, (em n J : Int))] := by unfold wholeE; rw [if_pos hE, e1]
      refine ⟨by omega, ?_⟩
      rw [e3, e2, show em n (J + (m + 1)) - em n J = (em n (J + (m + 1)) - (em n J + 1)) + 1 by omega]
      rfl
    · have e2 : em n (J + 1) = em n J := by unfold em; omega
      have e3 : wholeE n J = [] := wholeE_no hE (by omega)
      rw [e2] at h1
      exact ⟨h1, by rw [e3, e2]; rfl⟩
theorem evs_add (E : Nat → List Ev) : ∀ m k J, evs E J (m + k) = evs E J m ++ evs E (J + m) k := by
  intro m
  induction m with
  | zero => intro k J; simp [evs]
  | succ m ih =>
    intro k J
    rw [show m + 1 + k = (m + k) + 1 by omega, evs, evs, ih, List.append_assoc, show J + 1 + m = J + (m + 1) by omega]
theorem em_end (n : Nat) : em n (6 + 15 * n) = n := by unfold em; omega

/-- A turn of the list's machine. -/
theorem whole_turn {n c q J : Nat} {s s' : St} {r : Nat} {ev : List Ev} (hn : 1 ≤ n) (hn2 : n ≤ 90) (hc : n + 2 ≤ c) (hJ : J ≤ 6 + 15 * n) (hI : wholeI n J s) (h : Runs (wholeC n) 8 c q s s' r ev) :
    (J + q ≤ 6 + 15 * n ∧ r = 0 ∧ wholeI n (J + q) s' ∧ em n J ≤ em n (J + q) ∧ ev = seg (em n J) (em n (J + q) - em n J)) ∨ (6 + 15 * n < J + q ∧ r = 1 ∧ em n J ≤ n ∧ ev = seg (em n J) (n - em n J) ++ [(2, 0)]) := by
  by_cases hq : J + q ≤ 6 + 15 * n
  · obtain ⟨rfl, rfl, h2⟩ := runs_on (I := wholeI n) (E := wholeE n) (B := 6 + 15 * n) (fun j s s' r ev hj => whole_step n c j s s' r ev hn hn2 hc hj) q J s s' r ev hq hI h
    obtain ⟨h3, h4⟩ := whole_evs n q J hq
    exact Or.inl ⟨hq, rfl, h2, h3, h4⟩
  · obtain ⟨rfl, rfl⟩ := runs_off (I := wholeI n) (E := wholeE n) (B := 6 + 15 * n) (R := 1) (fun j s s' r ev hj => whole_step n c j s s' r ev hn hn2 hc hj) (by omega) (fun s s' r ev => whole_last n c s s' r ev hn) q J s s' r ev hJ (by omega) hI h
    obtain ⟨h3, h4⟩ := whole_evs n (6 + 15 * n - J) J (by omega)
    rw [show J + (6 + 15 * n - J) = 6 + 15 * n by omega, em_end] at h3 h4
    refine Or.inr ⟨by omega, rfl, h3, ?_⟩
    rw [show 6 + 15 * n + 1 - J = (6 + 15 * n - J) + 1 by omega, evs_add, h4, show J + (6 + 15 * n - J) = 6 + 15 * n by omega]
    have e : wholeE n (6 + 15 * n) = [(2, 0)] := by unfold wholeE; rw [if_neg (by omega), if_pos rfl]
    simp only [evs, e, List.append_nil]
end B

theorem whole_turn_any {Mach : MachT} (hT : TurnOk Mach) (n c q mb J b : Nat) (F : Nat → Prop) (s : B.St) (w0 w : World) (hM : Mach w mb F (B.wholeC n) 8 c q s 0) (hn : 1 ≤ n) (hn2 : n ≤ 90) (hc : n + 2 ≤ c) (hJ : J ≤ 6 + 15 * n) (hI : B.wholeI n J s) (hB : Below b w0 w) (hF : ∀ k, F k → b ≤ k ∧ k < w.heap.size) (hb : b ≤ w.heap.size) :
    Calls Tryz.prog 24 #[P0 mb, .int .i64 0, .slice none 0 0] w fun e w' => ∃ (F' : Nat → Prop) (s' : B.St) (ev : List B.Ev) (ad : Option Addr) (cap k : Nat) (fin : Bool), e = .returned (.slice ad ev.length cap) ∧ ev.length ≤ maxLen ∧ Hid (Evs w' ad ev.length ev) ∧ Hid (Below b w0 w') ∧ Hid (∀ k, F' k → b ≤ k ∧ k < w'.heap.size) ∧
      Hid (fin = false → Mach w' mb F' (B.wholeC n) 8 c q s' 0 ∧ J + q ≤ 6 + 15 * n ∧ B.wholeI n (J + q) s' ∧ B.em n J + k = B.em n (J + q)) ∧ Hid (fin = true → B.em n J + k = n) ∧ Hid (∀ i, i < k → ev[i]? = some (1, ((B.em n J + i : Nat) : Int))) ∧ Hid (fin = true → ev[k]? = some (2, 0)) ∧ Hid (ev.length = k + (if fin = true then 1 else 0)) := by
  refine (hT (B.wholeC n) 8 c q mb F s w hM).mono ?_
  rintro e w' ⟨F', s', r', ev, ad, len, cap, rfl, hlm, hE, hO, hF', hR, hM'⟩
  obtain rfl := hE.1
  have hf2 : ∀ k, F' k → b ≤ k ∧ k < w'.heap.size := fun k hk => by
    rcases hF' k hk with h | h
    · have := hF k h; have := hO.2.2.2.1; omega
    · omega
  have hB2 := Only.below hB hO (fun k hk => (hF k hk).1) hb
  rcases B.whole_turn hn hn2 hc hJ hI hR with ⟨h1, rfl, h2, h3, rfl⟩ | ⟨h1, rfl, h3, rfl⟩
  · exact ⟨F', s', _, ad, cap, B.em n (J + q) - B.em n J, false, rfl, hlm, hE, hB2, hf2, fun _ => ⟨hM' (by omega), h1, h2, by omega⟩, fun h => (by cases h), fun i hi => B.seg_at _ _ i hi, fun h => (by cases h), by show _ = _; rw [B.seg_len]; rfl⟩
  · refine ⟨F', s', _, ad, cap, n - B.em n J, true, rfl, hlm, hE, hB2, hf2, fun h => (by cases h), fun _ => by omega, fun i hi => ?_, fun _ => ?_, by show _ = _; simp [B.seg_len]⟩
    · rw [List.getElem?_append_left (by rw [B.seg_len]; exact hi)]; exact B.seg_at _ _ i hi
    · rw [List.getElem?_append_right (by rw [B.seg_len]; exact Nat.le_refl _), B.seg_len, Nat.sub_self]; rfl

theorem okWhole (n : Nat) (h : n ≤ 255) : okCode 8 (B.wholeC n) := by
  refine ⟨by omega, by omega, by simp [B.wholeC], by simp [B.wholeC], ?_⟩
  simp [B.wholeC, okIn]; omega

set_option maxRecDepth 100000 in
set_option maxHeartbeats 2000000 in
theorem whole_any {Good : World → Prop} {Mach : MachT} (hI : Iface Good Mach) (x0 x1 x2 x3 : Int) (h0 : -9223372036854775808 ≤ x0 ∧ x0 ≤ 9223372036854775807) (h1 : -9223372036854775808 ≤ x1 ∧ x1 ≤ 9223372036854775807) (h2 : -9223372036854775808 ≤ x2 ∧ x2 ≤ 9223372036854775807) (h3 : -9223372036854775808 ≤ x3 ∧ x3 ≤ 9223372036854775807) (w : World) (hG : Good w) :
    Calls Tryz.prog 7 #[.int .i64 x0, .int .i64 x1, .int .i64 x2, .int .i64 x3] w fun e w' => e = .returned (.bool true) ∧ Below w.heap.size w w' := by
  have HI : Hid (Iface Good Mach) := hI
  obtain ⟨hL, hT, _, _, hK, hGd⟩ := hI
  have HK : Hid (KeepOk Mach) := hK
  have HL : Hid (LoadOk Good Mach) := hL
  have HT : Hid (TurnOk Mach) := hT
  have HGd : Hid (GoodOk Good) := hGd
  have HG : Hid (Good w) := hG
  clear hL hT hGd hG hK
  go_enter Tryz.func7, Tryz.ntmps7
  go_wp2_with fail
  refine (emits_any HI.out w HG.out).mono ?_
  rintro e w1 ⟨rfl, hB1⟩
  have KB1 : Hid (Below w.heap.size w w1) := hB1
  clear hB1
  go_wp2_with fail
  refine (pick_any x0 90 (by omega) (by omega) h0.1 h0.2 w1).mono ?_
  rintro e w1' ⟨rfl, rfl⟩
  have ha := pk_lt x0 90 (by omega)
  generalize pk x0 90 = a at *
  go_wp2_with fail
  obtain ⟨n, hn⟩ : ∃ n : Nat, 1 + (a : Int) = (n : Int) := ⟨1 + a, by omega⟩
  rw [hn]
  have hn1 : 1 ≤ n := by omega
  have hn2 : n ≤ 90 := by omega
  clear hn ha
  refine (pick_any x1 20 (by omega) (by omega) h1.1 h1.2 _).mono ?_
  rintro e w1'' ⟨rfl, rfl⟩
  have hb := pk_lt x1 20 (by omega)
  generalize pk x1 20 = b at *
  go_wp2_with fail
  obtain ⟨c, hc⟩ : ∃ c : Nat, (n : Int) + 2 + (b : Int) = (c : Int) := ⟨n + 2 + b, by omega⟩
  rw [hc]
  have hc1 : n + 2 ≤ c := by omega
  have hc2 : c ≤ 200 := by omega
  clear hc hb
  refine (pick_any x2 50 (by omega) (by omega) h2.1 h2.2 _).mono ?_
  rintro e w1'' ⟨rfl, rfl⟩
  have hb := pk_lt x2 50 (by omega)
  generalize pk x2 50 = d at *
  go_wp2_with fail
  obtain ⟨q, hq⟩ : ∃ q : Nat, 1 + (d : Int) = (q : Int) := ⟨1 + d, by omega⟩
  rw [hq]
  have hq1 : 1 ≤ q := by omega
  have hq2 : q ≤ 50 := by omega
  clear hq hb
  have hlt : ∀ y, y ∈ flat (B.wholeC n) → y < 256 := by simp [flat, B.wholeC]; omega
  refine (function_any 8 19 w1''.heap.size 19 37 76 (fun j => (flat (B.wholeC n)).getD j 0) _ (by omega) (by omega) (fun j _ => list_lt _ hlt j) ⟨_, heap_alloc_new _ _, rfl, fun j hj => full_list (flat (B.wholeC n)) j hj⟩ (by omega)).mono ?_
  rw [codeL_list (flat (B.wholeC n)) 19 rfl]
  rintro e w2 ⟨rfl, hB2⟩
  have KB2 : Hid (Below w.heap.size w w2) := (KB1.out.alloc KB1.out.size _).trans (hB2.mono (by have := KB1.out.size; simp; omega))
  have htx : ({ data := #[1] } : ByteArray) ++ txt (8 :: 19 :: flat (B.wholeC n)) = txt (1 :: 8 :: (B.wholeC n).length :: flat (B.wholeC n)) := by rw [txt_cons]; rfl
  have hts : (txt (8 :: 19 :: flat (B.wholeC n))).size = 78 := rfl
  clear hB2 KB1 hlt
  generalize txt (8 :: 19 :: flat (B.wholeC n)) = tx at *
  have HTX : Hid (({ data := #[1] } : ByteArray) ++ tx = txt (1 :: 8 :: (B.wholeC n).length :: flat (B.wholeC n))) := htx
  clear htx
  go_wp2_with fail
  refine (pick_any x3 50 (by omega) (by omega) h3.1 h3.2 _).mono ?_
  rintro e w2' ⟨rfl, rfl⟩
  have hb := pk_lt x3 50 (by omega)
  generalize pk x3 50 = e0 at *
  go_wp2_with fail
  obtain ⟨k, hk⟩ : ∃ k : Nat, 1 + (e0 : Int) = (k : Int) := ⟨1 + e0, by omega⟩
  rw [hk]
  have hk1 : 1 ≤ k := by omega
  have hk2 : k ≤ 50 := by omega
  clear hk hb
  generalize hty : ({ data := #[1] } : ByteArray) ++ tx = ty
  have HTY : ty = txt (1 :: 8 :: (B.wholeC n).length :: flat (B.wholeC n)) := hty.symm.trans HTX.out
  subst HTY
  clear hty HTX hts
  have hzw := KB2.out.size
  refine (HL.out (B.wholeC n) 8 c q k w2' (okWhole n (by omega)) (by omega) hc2 hq1 hq2 hk1 hk2 (HGd.out _ _ HG.out KB2.out)).mono ?_
  rintro e w3 ⟨mb, F, rfl, hB3, hF, hM⟩
  have KB3 : Hid (Below w.heap.size w w3) := KB2.out.trans (hB3.mono hzw)
  have KM3 : Hid (Mach w3 mb F (B.wholeC n) 8 c q (0, fun _ => (0, 0), fun _ => []) 0) := hM
  have KF3 : Hid (∀ k, F k → w.heap.size ≤ k ∧ k < w3.heap.size) := fun k hk => ⟨by have := hF k hk; omega, (hF k hk).2⟩
  have hz3 := hB3.size
  clear hB3 hM hF KB2
  generalize txt (1 :: 8 :: (B.wholeC n).length :: flat (B.wholeC n)) = ty
  go_wp2_with fail
  generalize hw4 : w3.alloc (.cells #[.int .i64 0, .int .i64 0] 42) = w4
  have KB4 : Hid (Below w.heap.size w w4) := by show Below _ _ _; rw [← hw4]; exact KB3.out.alloc (by omega) _
  have KM4 : Hid (Mach w4 mb F (B.wholeC n) 8 c q (0, fun _ => (0, 0), fun _ => []) 0) := by
    show Mach _ _ _ _ _ _ _ _ _
    rw [← hw4]
    exact HK.out _ _ _ _ _ _ _ _ _ _ KM3.out (fun k hk => Below.heap_alloc _ _ _ (KF3.out k hk).2)
  have hz4 : w4.heap.size = w3.heap.size + 1 := by rw [← hw4]; simp
  have KF4 : Hid (∀ k, F k → w.heap.size ≤ k ∧ k < w4.heap.size) := fun k hk => ⟨(KF3.out k hk).1, by have := (KF3.out k hk).2; omega⟩
  clear hw4 KB3 KM3 KF3 hz4 hz3 hzw
  obtain ⟨D, hD⟩ : ∃ D, D = 20 * n / q := ⟨_, rfl⟩
  have hD2 : 20 * n < (D + 1) * q := by rw [hD, Nat.mul_comm (20 * n / q + 1) q]; exact Nat.lt_mul_div_succ _ (by omega)
  have hD3 : D ≤ 1800 := by rw [hD]; exact Nat.le_trans (Nat.div_le_self _ _) (by omega)
  have hdv : (20 * (n : Int)).tdiv (q : Int) = (D : Int) := by rw [hD, Int.tdiv_eq_ediv_of_nonneg (by omega)]; simp
  have HD : Hid (20 * n < (D + 1) * q) := hD2
  clear hD hD2
  go_loopw [16, 17, 18] (fun next over i wr => ∃ (I : Nat) (F : Nat → Prop) (s : B.St) (m0 : Nat) (ov : Bool), i = .int .i64 I ∧ I ≤ D + 11 ∧ next = .int .i64 (m0 : Nat) ∧ m0 ≤ 90 ∧ over = .bool ov ∧ Hid (ov = false → m0 = B.em n (I * q) ∧ I * q ≤ 6 + 15 * n ∧ B.wholeI n (I * q) s ∧ Mach wr mb F (B.wholeC n) 8 c q s 0) ∧ Hid (ov = true → m0 = n) ∧ Hid (Below w.heap.size w wr) ∧ Hid (∀ k, F k → w.heap.size ≤ k ∧ k < wr.heap.size)) (fun _ _ i _ => D + 11 - (intOf i).toNat)
  case atStart => exact ⟨0, F, _, 0, false, rfl, by omega, rfl, by omega, rfl, fun _ => ⟨by unfold B.em; omega, by omega, by rw [Nat.zero_mul]; exact B.whole_start n _, KM4.out⟩, fun h => (by cases h), KB4, KF4⟩
  case round =>
    obtain ⟨I, F, s, m0, ov, rfl, hI, rfl, hm0, rfl, rN, rE, rB, rF⟩ := hrel
    clear KM4 KB4 KF4
    cases ov
    · obtain ⟨hm, hJ, hW, hMr⟩ := rN.out rfl
      have hlt : I ≤ D + 10 := by
        apply Classical.byContradiction
        intro h
        have h11 : I = D + 11 := by omega
        have e1 := HD.out
        rw [h11] at hJ
        have e2 : (D + 11) * q = (D + 1) * q + 10 * q := by rw [← Nat.add_mul]
        omega
      have hlti : (I : Int) ≤ (D : Int) + 10 := by omega
      have KM : Hid (Mach wr mb F (B.wholeC n) 8 c q s 0) := hMr
      have KW : Hid (B.wholeI n (I * q) s) := hW
      have KJ : Hid (I * q ≤ 6 + 15 * n ∧ m0 = B.em n (I * q)) := ⟨hJ, hm⟩
      clear hm hJ hW hMr rN rE
      have hzr : w.heap.size ≤ wr.heap.size := rB.out.size
      go_wp2_with fail
      refine (whole_turn_any HT.out n c q mb (I * q) w.heap.size F s w wr KM.out hn1 hn2 hc1 KJ.out.1 KW.out rB.out rF.out hzr).mono ?_
      rintro e w5 ⟨F5, s5, ev, ad, cap, k5, fin, rfl, hlm, kE, kB, kF, kM, kN, kA, kL, kH⟩
      have hlm2 : ev.length ≤ 9223372036854775807 := by unfold maxLen at hlm; omega
      have hk5 : m0 + k5 ≤ 90 := by
        have e1 := KJ.out.2
        cases fin
        · have := (kM.out rfl).2.2.2
          have : B.em n (I * q + q) ≤ n := by unfold B.em; omega
          omega
        · have := kN.out rfl
          omega
      clear hlm KM KW rB rF hzr
      go_wp2_with fail
      go_loopw [16, 17, 20] (fun next over j wr => ∃ (i m1 : Nat) (ov : Bool), j = .int .i64 i ∧ i ≤ ev.length ∧ next = .int .i64 (m1 : Nat) ∧ m1 ≤ 90 ∧ over = .bool ov ∧ Hid (m1 = m0 + min i k5) ∧ Hid (ov = decide (k5 < i)) ∧ wr = w5) (fun _ _ j _ => ev.length - (intOf j).toNat)
      case atStart => exact ⟨0, m0, false, rfl, by omega, rfl, hm0, rfl, by show _ = _; simp, by show _ = _; simp, rfl⟩
      case round =>
        obtain ⟨i, m1, ov, rfl, hi, rfl, hm1, rfl, rK, rO, rfl⟩ := hrel
        by_cases hil : i < ev.length
        · obtain ⟨g, rfl, hg, hcell⟩ := kE.out.cells (by intro e; rw [e] at hil; simp at hil)
          by_cases hik : i < k5
          · obtain ⟨c0, c1, c2⟩ := hcell i _ (kA.out i hik)
            have em1 : m1 = m0 + i := by have := rK.out; rw [Nat.min_eq_left (by omega)] at this; exact this
            rw [← KJ.out.2, ← em1] at c2
            have ho : ov = false := by have := rO.out; rw [this]; simp; omega
            subst ho
            have KC : Hid (m1 + 1 = m0 + min (i + 1) k5) := by show _ = _; rw [Nat.min_eq_left (by omega)]; omega
            have KD : Hid (false = decide (k5 < i + 1)) := by show _ = _; simp; omega
            have hm2 : m1 + 1 ≤ 90 := by omega
            clear hcell rK rO em1
            have c0 : wr.cell? ⟨g, i * 3, none⟩ = some (.int .i64 1) := c0
            go_wp2_with fail
            go_roundw
            case rel => exact ⟨i + 1, m1 + 1, false, by go_num, by omega, by go_num, hm2, rfl, KC, KD, trivial⟩
            case measure => simp [intOf]; omega
          · have hfin : fin = true := by
              cases fin
              · have hlen := kH.out
                simp at hlen; omega
              · rfl
            subst hfin
            have hlen := kH.out
            simp at hlen
            obtain rfl : i = k5 := by omega
            obtain ⟨c0, c1, c2⟩ := hcell i _ (kL.out rfl)
            have KC : Hid (m1 = m0 + min (i + 1) i) := by show _ = _; have := rK.out; rw [Nat.min_eq_left (Nat.le_refl _)] at this; rw [Nat.min_eq_right (by omega)]; exact this
            have KD : Hid (true = decide (i < i + 1)) := by show _ = _; simp
            clear hcell rK rO
            have c0 : wr.cell? ⟨g, i * 3, none⟩ = some (.int .i64 2) := c0
            have c2 : wr.cell? ⟨g, i * 3 + 2, none⟩ = some (.int .i64 0) := c2
            go_wp2_with fail
            go_roundw
            case rel => exact ⟨i + 1, m1, true, by go_num, by omega, rfl, hm1, rfl, KC, KD, trivial⟩
            case measure => simp [intOf]; omega
        · obtain rfl : i = ev.length := by omega
          have KX : Hid ((ov = false → m1 = B.em n ((I + 1) * q) ∧ (I + 1) * q ≤ 6 + 15 * n ∧ B.wholeI n ((I + 1) * q) s5 ∧ Mach wr mb F5 (B.wholeC n) 8 c q s5 0) ∧ (ov = true → m1 = n)) := by
            have e1 := rK.out
            have e2 := rO.out
            have e3 := KJ.out.2
            cases fin
            · have hl : ev.length = k5 := by simpa using kH.out
              obtain ⟨a1, a2, a3, a4⟩ := kM.out rfl
              rw [hl] at e1 e2
              have ho : ov = false := by rw [e2]; simp
              rw [Nat.min_eq_left (Nat.le_refl _)] at e1
              refine ⟨fun _ => ?_, fun h => by rw [ho] at h; cases h⟩
              rw [Nat.add_mul, Nat.one_mul]
              exact ⟨by omega, a2, a3, a1⟩
            · have hl : ev.length = k5 + 1 := by simpa using kH.out
              rw [hl] at e1 e2
              have ho : ov = true := by rw [e2]; simp
              rw [Nat.min_eq_right (by omega)] at e1
              refine ⟨fun h => (by rw [ho] at h; cases h), fun _ => ?_⟩
              have := kN.out rfl
              omega
          clear kE kN kM kA kL rK rO KJ kH
          go_wp2_with fail
          go_roundw
          case rel => exact ⟨I + 1, F5, s5, m1, ov, by go_num, by omega, rfl, hm1, rfl, KX.out.1, KX.out.2, kB, kF⟩
          case measure => simp [intOf]; omega
    · obtain rfl := rE.out rfl
      go_wp2_with fail
      all_goals
        go_ret
        exact ⟨rfl, rB.out⟩

end Go.Proofs.YtnjiinbhbjpfkaaGreatDoor

/-
  For every input the law Whole returns true, and its arguments read as they did, where Load, Turn and State keep to the interface. No condition on the input; the package-level table of the operands' letters is taken as its initialiser lays it.
-/
namespace Go.Proofs.YtnjiinbhbjpfkaaGreatDoor
open Go.ChangeShapes Go.WideShapes Go.ChangeAt Go.WideMaps Go.WideElems Go.RowKit Go.Joins

theorem whole_met (os : Os) (args : Array Value) : laidMetH Tryz.prog Rows.wholeRow.laid ((World.doorLaid Tryz.prog 400 os).forCall (fun _ _ => 0) ⟨#[], args, []⟩).memory :=
  laidMetH_of_parts3 (fuel := 8) (laidMet_of_run' 8 (by kernel_rfl) (by kernel_rfl)) (by kernel_rfl) (by kernel_rfl)

set_option maxRecDepth 100000 in
theorem whole_lifted {Mach : MachT} (hI : Iface Tab Mach) (os : Os) (started : os.Started) (H : Type) (enc : TypeId × Value → H) :
    ReturnsInHanded {} Tryz.checked os 7 .any (fun w args => (Rows.wholeSpec.pre enc Tryz.prog Tryz.f7 [] false w args ∧ laidMetH Tryz.prog Rows.wholeRow.laid w) ∧ sizedMet enc Tryz.prog Tryz.f7 (OpenSpec.ofChange Rows.wholeSpec) false w args)
      (Rows.wholeSpec.post enc Tryz.prog Tryz.f7 false true false false) := by
  refine returnsInHanded_of_change_and (C := Tryz.checked) (X := fun w _ => laidMetH Tryz.prog Rows.wholeRow.laid w) (fun _ _ _ hh h => h.of_heap hh) own started (by kernel_rfl) Tryz.func7
    (ChangeSpec.witness_shaped (enc := enc) (C := Tryz.checked) (os := os) (X := fun w _ => laidMetH Tryz.prog Rows.wholeRow.laid w) false (World.doorLaid Tryz.prog 400 os) #[.int .i64 0, .int .i64 0, .int .i64 0, .int .i64 0] 8 rfl (World.shaped_of_RefB (by kernel_rfl) (by kernel_rfl)) (by kernel_rfl) (by kernel_rfl) (by kernel_rfl) (whole_met os _)) ?_
  intro W base args ds gs before hval0 hW hcnd hsz0 hL _
  have hW' := hW
  obtain ⟨p, q, hA0, hV, rfl, hfz, hnd⟩ := hW
  have hA : DataW.TrodAll enc Tryz.prog W 0 (fun _ => true) true Tryz.f7.params.toList args.toList ds p := hA0
  rw [Tryz.params7] at hA
  obtain ⟨v0, v1, v2, v3, d0, d1, d2, d3, p0, p1, p2, p3, rfl, rfl, rfl, h0, h1, h2, h3⟩ := trodAll_four hA
  obtain ⟨rfl, rfl⟩ := trodVars_none hV
  have hT : Tab W := tab_of_laid hL
  have hval : ∀ (j : Nat) t v, Tryz.f7.params[j]? = some t → #[v0, v1, v2, v3][j]? = some v → Value.okWide Tryz.prog W .any base t v := hval0
  rw [Tryz.params7] at hval
  obtain ⟨c0, rfl, rfl, rfl, wc0⟩ := open_int Tryz.underlying3 (hval 0 3 v0 rfl rfl) h0
  obtain ⟨c1, rfl, rfl, rfl, wc1⟩ := open_int Tryz.underlying3 (hval 1 3 v1 rfl rfl) h1
  obtain ⟨c2, rfl, rfl, rfl, wc2⟩ := open_int Tryz.underlying3 (hval 2 3 v2 rfl rfl) h2
  obtain ⟨c3, rfl, rfl, rfl, wc3⟩ := open_int Tryz.underlying3 (hval 3 3 v3 rfl rfl) h3
  refine (whole_any hI c0 c1 c2 c3 (wf64 wc0) (wf64 wc1) (wf64 wc2) (wf64 wc3) W hT).mono fun e W' ⟨he, hB⟩ => ?_
  subst he
  refine ⟨_, rfl, [.lit (.int .i64 c0), .lit (.int .i64 c1), .lit (.int .i64 c2), .lit (.int .i64 c3)], [], _, [], [], [], hW', ?_, ?_, rfl, ?_, fun h => by cases h⟩
  · exact trodAll_mk1 (shut_bool Tryz.underlying4 _)
  · exact trodAll_mk4 (shut_int Tryz.underlying3 wc0) (shut_int Tryz.underlying3 wc1) (shut_int Tryz.underlying3 wc2) (shut_int Tryz.underlying3 wc3)
  · exact hB.frame _

theorem whole_said {Mach : MachT} (hI : Iface Tab Mach) : Rows.WholeSaid :=
  OpenClaim.holds_of_wide 7 Tryz.f7 rfl rfl rfl rfl rfl rfl rfl ⟨rfl, rfl, rfl, rfl, rfl⟩ rfl rfl rfl rfl rfl (by kernel_rfl) Tryz.func7 (by kernel_rfl)
    (of_decide_eq_true (by kernel_rfl)) (by unfold Func.isWrapper; first | (rw [if_pos (by decide +kernel)]; kernel_rfl) | (rw [if_neg (by decide +kernel)]; exact ⟨rfl, rfl⟩))
    (fun os started H enc _ => whole_lifted hI os started H enc)

/-- No parameter wants a stand-in; the program's own looks are off. -/
theorem whole_plain (f : FuncId) (fn : Func) (hf : Tryz.pinned.checked.prog.funcNamed Rows.wholeRow.func = some f) (hfn : Tryz.pinned.checked.prog.funcs[f]? = some fn) :
    false = Tryz.pinned.checked.prog.looks [] ∧ ∀ (j : Nat) t, fn.params[j]? = some t → Tryz.pinned.checked.prog.wantsStandIn t = false := by
  obtain rfl : f = 7 := Option.some.inj ((show Tryz.prog.funcNamed Rows.wholeRow.func = some 7 by kernel_rfl).symm.trans hf) |>.symm
  obtain rfl : fn = Tryz.f7 := (Option.some.inj (Tryz.func7.symm.trans hfn)).symm
  refine ⟨by kernel_rfl, fun j t ht => ?_⟩
  rw [Tryz.params7] at ht
  have hm : t ∈ [3, 3, 3, 3] := by simpa using Array.mem_of_getElem? ht
  have hall : ([3, 3, 3, 3].all fun u => !Tryz.prog.wantsStandIn u) = true := by kernel_rfl
  exact (show Tryz.prog.wantsStandIn t = false by simpa using List.all_eq_true.1 hall t hm)

theorem whole_card_of {Mach : MachT} (hI : Iface Tab Mach) : Rows.WholeCardSaid :=
  Claim7.holds_tied_plain_at .later [] _ _ _ _ (whole_said hI) (fun _ h => by cases h) (by kernel_rfl) (fun _ h => by cases h) whole_row_tie rfl ⟨rfl, rfl⟩ (by kernel_rfl) rfl whole_plain (by kernel_rfl)
end Go.Proofs.YtnjiinbhbjpfkaaGreatDoor

namespace Go.Proofs.YtnjiinbhbjpfkaaGreatDoor
theorem whole_card : Rows.WholeCardSaid := whole_card_of iface
end Go.Proofs.YtnjiinbhbjpfkaaGreatDoor
