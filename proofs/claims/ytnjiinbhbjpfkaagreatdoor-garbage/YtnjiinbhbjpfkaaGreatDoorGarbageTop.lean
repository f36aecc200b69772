/-
  Garbage: for every input cells that nobody keeps do not fill a machine that has one cell more than are kept; one that has just as many is spent at the next one, and not ahead of it. No condition but the card's own: the table of operands' letters holds what the program's text lays.
-/
import Derived.Test.YtnjiinbhbjpfkaaGreatDoorPartA
import Derived.Test.YtnjiinbhbjpfkaaGreatDoorLawsA
import Derived.Carry
import Derived.Test.YtnjiinbhbjpfkaaGreatDoorPartO
/-
  The program of the law Garbage on the machine of one task: with a place more than cells are kept it goes on without end; with just as many there is none free at the first instruction of the second round.
-/
namespace Go.Proofs.YtnjiinbhbjpfkaaGreatDoor.B

def garbC (k b : Nat) : List In := (List.range k).map (fun i => (9, 2 + i, b, 0)) ++ [(20, 0, 0, 0), (7, 0, 0, 0)]
theorem garb_cell (k b i : Nat) (h : i < k) : (garbC k b)[i]? = some (9, 2 + i, b, 0) := by
  unfold garbC
  rw [List.getElem?_append_left (by simpa using h)]
  simp [h]
theorem garb_emit (k b : Nat) : (garbC k b)[k]? = some (20, 0, 0, 0) := by
  unfold garbC
  rw [List.getElem?_append_right (by simp)]
  simp
theorem garb_jump (k b : Nat) : (garbC k b)[k + 1]? = some (7, 0, 0, 0) := by
  unfold garbC
  rw [List.getElem?_append_right (by simp)]
  simp

/-- Cells in registers, none of them with another in it; of the first round so many as are made, all different. -/
def garbI (k n j : Nat) (s : St) : Prop := ∃ i ph, j = (k + 2) * i + ph ∧ ph < k + 2 ∧ s.1 = ph ∧ (∀ x, x < 8 → (x < 2 ∨ k + 2 ≤ x) → s.2.1 x = (0, 0)) ∧
  (∀ x, x < k → (s.2.1 (2 + x)).2 = 0 ∧ ((s.2.1 (2 + x)).1 ≠ 0 → (s.2.1 (2 + x)).1 ≤ n ∧ ∀ v, v ∈ s.2.2 (s.2.1 (2 + x)).1 → v.1 = 0)) ∧
  (i = 0 → (∀ x, ph ≤ x → x < k → s.2.1 (2 + x) = (0, 0)) ∧ (∀ x, x < ph → x < k → (s.2.1 (2 + x)).1 ≠ 0) ∧ ∀ x y, x < y → y < ph → y < k → (s.2.1 (2 + x)).1 ≠ (s.2.1 (2 + y)).1) ∧
  (i ≠ 0 → (∀ x, x < k → (s.2.1 (2 + x)).1 ≠ 0) ∧ (i = 1 → ph = 0 → ∀ x y, x < y → y < k → (s.2.1 (2 + x)).1 ≠ (s.2.1 (2 + y)).1))

def garbE (k j : Nat) : List Ev := if j % (k + 2) = k then [(1, 0)] else []

theorem garb_start (k n : Nat) (M : Nat → List V) : garbI k n 0 (0, fun _ => (0, 0), M) :=
  ⟨0, 0, by simp, by omega, rfl, fun _ _ _ => rfl, fun _ _ => ⟨rfl, fun h => absurd rfl h⟩, fun _ => ⟨fun _ _ _ => rfl, fun _ h => by omega, fun _ _ _ h => by omega⟩, fun h => absurd rfl h⟩

/-- The cells in the first registers. -/
def regsL (R : Nat → V) (k : Nat) : List Nat := ((List.range k).map (fun x => (R (2 + x)).1)).filter (fun y => y ≠ 0)
theorem regsL_mem {R : Nat → V} {k y : Nat} : y ∈ regsL R k ↔ (∃ x, x < k ∧ (R (2 + x)).1 = y) ∧ y ≠ 0 := by simp [regsL]
theorem regsL_len (R : Nat → V) (k : Nat) : (regsL R k).length ≤ k := by
  have := List.length_filter_le (fun y => decide (y ≠ 0)) ((List.range k).map (fun x => (R (2 + x)).1))
  simpa [regsL] using this

theorem garb_not {k n m ph : Nat} {R : Nat → V} {M : Nat → List V} (hm : m < n) (h0 : ∀ x, x < 8 → (x < 2 ∨ k + 2 ≤ x) → R x = (0, 0)) (hz : ∀ x, m ≤ x → x < k → R (2 + x) = (0, 0)) (hmk : m ≤ k)
    (hc : ∀ x, x < k → (R (2 + x)).1 ≠ 0 → ∀ v, v ∈ M (R (2 + x)).1 → v.1 = 0) : ¬ Full 8 n (ph, R, M) := by
  refine not_full (regsL R m) (Nat.lt_of_le_of_lt (regsL_len R m) hm) ?_ ?_
  · intro i hi h
    by_cases hx : i < 2 ∨ k + 2 ≤ i
    · exact absurd (by rw [show (ph, R, M).2.1 i = (0, 0) from h0 i hi hx]) h
    · by_cases hy : m ≤ i - 2
      · exact absurd (by rw [show (ph, R, M).2.1 i = (0, 0) from (by have := hz (i - 2) hy (by omega); rwa [show 2 + (i - 2) = i by omega] at this)]) h
      · exact regsL_mem.2 ⟨⟨i - 2, by omega, by rw [show 2 + (i - 2) = i by omega]⟩, h⟩
  · intro y hy v hv h
    obtain ⟨⟨x, hx, rfl⟩, hne⟩ := regsL_mem.1 hy
    exact absurd (hc x (by omega) hne v hv) h

theorem garb_step (k b n j : Nat) (s s' : St) (r : Nat) (ev : List Ev) (hk : 1 ≤ k) (hk5 : k ≤ 5) (hj : k < n ∨ (k = n ∧ j < k + 2)) (hI : garbI k n j s) (h : Step (garbC k b) 8 n s s' r ev) : r = 0 ∧ ev = garbE k j ∧ garbI k n (j + 1) s' := by
  obtain ⟨i, ph, rfl, hph, h1, h0, hc, hi0, hi1⟩ := hI
  obtain ⟨nx, R, M⟩ := s
  simp only at h1 h0 hc hi0 hi1
  subst h1
  have hmod : ((k + 2) * i + nx) % (k + 2) = nx := by rw [Nat.mul_add_mod, Nat.mod_eq_of_lt hph]
  rcases (show nx < k ∨ nx = k ∨ nx = k + 1 by omega) with hlt | rfl | rfl
  · -- Cell
    unfold Step at h
    simp only [garb_cell k b nx hlt] at h
    have h' : Does 8 n (9, 2 + nx, b, 0) (nx, R, M) s' r ev := h
    have hnf : ¬ Full 8 n (nx, R, M) := by
      by_cases hi : i = 0
      · exact garb_not (m := nx) (by omega) h0 (hi0 hi).1 (by omega) (fun x hx hne => ((hc x hx).2 hne).2)
      · rcases hj with hj | ⟨_, hj⟩
        · exact garb_not (m := k) hj h0 (fun x h1 h2 => by omega) (Nat.le_refl _) (fun x hx hne => ((hc x hx).2 hne).2)
        · exfalso
          have := Nat.le_mul_of_pos_right (k + 2) (Nat.pos_of_ne_zero hi)
          omega
    rcases h' with ⟨hF, _⟩ | ⟨rfl, rfl, p, M', p1, p2, p3, p4, p5, rfl⟩
    · exact absurd hF hnf
    · have hre : ∀ x, x < k → (R (2 + x)).1 ≠ 0 → Reach 8 (nx, R, M) (R (2 + x)).1 := fun x hx hne => reach_reg (s := (nx, R, M)) (2 + x) (by omega) hne
      have hof : ∀ x, x ≠ nx → set R (2 + nx) (p, 0) (2 + x) = R (2 + x) := fun x hx => set_off _ _ _ _ (by omega)
      refine ⟨rfl, by unfold garbE; rw [hmod, if_neg (by omega)], i, nx + 1, rfl, by omega, rfl, ?_, ?_, ?_, ?_⟩
      · intro x hx hx2
        show set R (2 + nx) (p, 0) x = _
        rw [set_off _ _ _ _ (by omega)]; exact h0 x hx hx2
      · intro x hx
        show (set R (2 + nx) (p, 0) (2 + x)).2 = 0 ∧ ((set R (2 + nx) (p, 0) (2 + x)).1 ≠ 0 → (set R (2 + nx) (p, 0) (2 + x)).1 ≤ n ∧ ∀ v, v ∈ M' (set R (2 + nx) (p, 0) (2 + x)).1 → v.1 = 0)
        by_cases e : x = nx
        · subst e
          rw [set_at]
          refine ⟨rfl, fun _ => ⟨p2, fun v hv => ?_⟩⟩
          simp only [p5] at hv
          rw [List.eq_of_mem_replicate hv]
        · rw [hof x e]
          exact ⟨(hc x hx).1, fun hne => ⟨((hc x hx).2 hne).1, by rw [p4 _ (hre x hx hne)]; exact ((hc x hx).2 hne).2⟩⟩
      · intro hi
        obtain ⟨z1, z2, z3⟩ := hi0 hi
        refine ⟨fun x hx hx2 => ?_, fun x hx hx2 => ?_, fun x y hxy hy hy2 => ?_⟩
        · show set R (2 + nx) (p, 0) (2 + x) = _
          rw [hof x (by omega)]; exact z1 x (by omega) hx2
        · show (set R (2 + nx) (p, 0) (2 + x)).1 ≠ 0
          by_cases e : x = nx
          · subst e; rw [set_at]; simp only; omega
          · rw [hof x e]; exact z2 x (by omega) hx2
        · show (set R (2 + nx) (p, 0) (2 + x)).1 ≠ (set R (2 + nx) (p, 0) (2 + y)).1
          rw [hof x (by omega)]
          by_cases e : y = nx
          · subst e
            rw [set_at]
            intro e2
            exact p3 (by have := hre x (by omega) (z2 x (by omega) (by omega)); rwa [e2] at this)
          · rw [hof y e]; exact z3 x y hxy (by omega) hy2
      · intro hi
        refine ⟨fun x hx => ?_, fun _ h => by omega⟩
        show (set R (2 + nx) (p, 0) (2 + x)).1 ≠ 0
        by_cases e : x = nx
        · subst e; rw [set_at]; simp only; omega
        · rw [hof x e]; exact (hi1 hi).1 x hx
  · -- Emit
    unfold Step at h
    simp only [garb_emit nx b] at h
    have h' : Does 8 n (20, 0, 0, 0) (nx, R, M) s' r ev := h
    simp only [Does] at h'
    rw [if_pos (by rw [h0 0 (by omega) (by omega)])] at h'
    obtain ⟨rfl, rfl, rfl⟩ := h'
    refine ⟨rfl, by unfold garbE; rw [hmod, if_pos rfl, h0 0 (by omega) (by omega)], i, nx + 1, rfl, by omega, rfl, h0, hc, ?_, fun hi => ⟨(hi1 hi).1, fun _ h => by omega⟩⟩
    intro hi
    obtain ⟨z1, z2, z3⟩ := hi0 hi
    exact ⟨fun x hx hx2 => by omega, fun x _ hx2 => z2 x hx2 hx2, fun x y hxy _ hy2 => z3 x y hxy hy2 hy2⟩
  · -- Jump
    unfold Step at h
    simp only [garb_jump k b] at h
    have h' : Does 8 n (7, 0, 0, 0) (k + 1, R, M) s' r ev := h
    obtain ⟨rfl, rfl, rfl⟩ := h'
    refine ⟨rfl, by unfold garbE; rw [hmod, if_neg (by omega)], i + 1, 0, by rw [Nat.mul_add]; omega, by omega, rfl, h0, hc, fun h => by omega, fun _ => ⟨?_, ?_⟩⟩
    · intro x hx
      by_cases hi : i = 0
      · exact (hi0 hi).2.1 x (by omega) hx
      · exact (hi1 hi).1 x hx
    · intro hi _ x y hxy hy
      exact (hi0 (by omega)).2.2 x y hxy (by omega) hy

theorem garb_last (k b : Nat) (s s' : St) (r : Nat) (ev : List Ev) (hk : 1 ≤ k) (hk5 : k ≤ 5) (hI : garbI k k (k + 2) s) (h : Step (garbC k b) 8 k s s' r ev) : r = 2 ∧ ev = [(5, 0)] := by
  obtain ⟨i, ph, hj, hph, h1, h0, hc, hi0, hi1⟩ := hI
  obtain ⟨nx, R, M⟩ := s
  simp only at h1 h0 hc hi0 hi1
  subst h1
  have hi : i = 1 ∧ nx = 0 := by
    rcases (show i = 0 ∨ i = 1 ∨ 2 ≤ i by omega) with rfl | rfl | h2
    · omega
    · omega
    · have := Nat.mul_le_mul_left (k + 2) h2
      omega
  obtain ⟨rfl, rfl⟩ := hi
  obtain ⟨z1, z2⟩ := hi1 (by omega)
  unfold Step at h
  simp only [garb_cell k b 0 (by omega)] at h
  have h' : Does 8 k (9, 2 + 0, b, 0) (0, R, M) s' r ev := h
  have hnd : (regsL R k).Nodup ∧ (regsL R k).length = k := by
    have e : regsL R k = (List.range k).map (fun x => (R (2 + x)).1) := by
      unfold regsL
      rw [List.filter_eq_self]
      intro y hy
      obtain ⟨x, hx, rfl⟩ := List.mem_map.1 hy
      simpa using z1 x (by simpa using hx)
    rw [e]
    refine ⟨?_, by simp⟩
    rw [List.Nodup, List.pairwise_map]
    refine List.Pairwise.imp_of_mem ?_ (List.pairwise_lt_range (n := k))
    intro x y hx hy hxy
    exact z2 rfl rfl x y hxy (by simpa using hy)
  rcases h' with ⟨_, rfl, rfl⟩ | ⟨_, _, p, M', p1, p2, p3, _⟩
  · exact ⟨rfl, rfl⟩
  · have hp := all_in (regsL R k) k hnd.1 hnd.2 (fun x hx => by
      obtain ⟨⟨y, hy, rfl⟩, hne⟩ := regsL_mem.1 hx
      exact ⟨by omega, ((hc y hy).2 hne).1⟩) p p1 p2
    obtain ⟨⟨y, hy, rfl⟩, hne⟩ := regsL_mem.1 hp
    exact absurd (reach_reg (s := (0, R, M)) (2 + y) (by omega) hne) p3

end Go.Proofs.YtnjiinbhbjpfkaaGreatDoor.B

/-
  The law Garbage answers true for every input, where Load, Turn and State keep to the interface.
-/
namespace Go.Proofs.YtnjiinbhbjpfkaaGreatDoor
open Go.RowKit

namespace B
theorem garb_all (k : Nat) : ∀ (m J i : Nat) (x : Ev), (evs (garbE k) J m)[i]? = some x → x = (1, 0) := by
  intro m
  induction m with
  | zero => intro J i x h; simp [evs] at h
  | succ m ih =>
    intro J i x h
    rw [evs] at h
    have hE : garbE k J = [(1, 0)] ∨ garbE k J = [] := by unfold garbE; split <;> simp
    rcases hE with hE | hE
    · rw [hE] at h
      cases i with
      | zero => simp at h; exact h.symm
      | succ i => exact ih (J + 1) i x (by simpa using h)
    · rw [hE] at h
      exact ih (J + 1) i x (by simpa using h)
/-- A turn of the machine that has room. -/
theorem garb_turn {k b n q J : Nat} {s s' : St} {r : Nat} {ev : List Ev} (hk : 1 ≤ k) (hk5 : k ≤ 5) (hn : k < n) (hI : garbI k n J s) (h : Runs (garbC k b) 8 n q s s' r ev) :
    r = 0 ∧ garbI k n (J + q) s' ∧ ∀ (i : Nat) (x : Ev), ev[i]? = some x → x = (1, 0) := by
  obtain ⟨rfl, rfl, h2⟩ := runs_on (I := garbI k n) (E := garbE k) (B := J + q) (fun j s s' r ev _ => garb_step k b n j s s' r ev hk hk5 (Or.inl hn)) q J s s' r ev (Nat.le_refl _) hI h
  exact ⟨rfl, h2, garb_all k q J⟩
/-- The events of the machine that has none: one number, then none is free. -/
def garbE2 (k j : Nat) : List Ev := if j = k + 2 then [(5, 0)] else garbE k j
theorem garb2_evs (k : Nat) : ∀ m J, J + m ≤ k + 2 → evs (garbE2 k) J m = if J ≤ k ∧ k < J + m then [(1, 0)] else [] := by
  intro m
  induction m with
  | zero => intro J h; rw [if_neg (by omega)]; rfl
  | succ m ih =>
    intro J h
    rw [evs, ih (J + 1) (by omega)]
    unfold garbE2
    rw [if_neg (by omega)]
    unfold garbE
    rw [Nat.mod_eq_of_lt (show J < k + 2 by omega)]
    by_cases e : J = k
    · rw [if_pos e, if_neg (by omega), if_pos (by omega)]; rfl
    · rw [if_neg e]
      by_cases e2 : J ≤ k ∧ k < J + (m + 1)
      · rw [if_pos e2, if_pos (by omega)]; rfl
      · rw [if_neg e2, if_neg (by omega)]; rfl
theorem evs_last (E : Nat → List Ev) : ∀ m J, evs E J (m + 1) = evs E J m ++ E (J + m) := by
  intro m
  induction m with
  | zero => intro J; simp [evs]
  | succ m ih => intro J; rw [evs, ih (J + 1), evs, List.append_assoc, show J + 1 + m = J + (m + 1) by omega]
/-- A turn of the machine that has none. -/
theorem garb2_turn {k b q J : Nat} {s s' : St} {r : Nat} {ev : List Ev} (hk : 1 ≤ k) (hk5 : k ≤ 5) (hJ : J ≤ k + 2) (hI : garbI k k J s) (h : Runs (garbC k b) 8 k q s s' r ev) :
    (J + q ≤ k + 2 ∧ r = 0 ∧ garbI k k (J + q) s' ∧ ev = if J ≤ k ∧ k < J + q then [(1, 0)] else []) ∨ (k + 2 < J + q ∧ r = 2 ∧ ev = (if J ≤ k then [(1, 0)] else []) ++ [(5, 0)]) := by
  have hst : ∀ j s s' r ev, j < k + 2 → garbI k k j s → Step (garbC k b) 8 k s s' r ev → r = 0 ∧ ev = garbE2 k j ∧ garbI k k (j + 1) s' := fun j s s' r ev hj hi hs => by
    obtain ⟨a1, a2, a3⟩ := garb_step k b k j s s' r ev hk hk5 (Or.inr ⟨rfl, hj⟩) hi hs
    exact ⟨a1, by unfold garbE2; rw [if_neg (by omega)]; exact a2, a3⟩
  by_cases hq : J + q ≤ k + 2
  · obtain ⟨rfl, rfl, h2⟩ := runs_on (I := garbI k k) (E := garbE2 k) (B := k + 2) hst q J s s' r ev hq hI h
    exact Or.inl ⟨hq, rfl, h2, garb2_evs k q J hq⟩
  · obtain ⟨rfl, rfl⟩ := runs_off (I := garbI k k) (E := garbE2 k) (B := k + 2) (R := 2) hst (by omega) (fun s s' r ev hi hs => by
      obtain ⟨a1, a2⟩ := garb_last k b s s' r ev hk hk5 hi hs
      exact ⟨a1, by unfold garbE2; rw [if_pos rfl]; exact a2⟩) q J s s' r ev hJ (by omega) hI h
    refine Or.inr ⟨by omega, rfl, ?_⟩
    rw [show k + 2 + 1 - J = (k + 2 - J) + 1 by omega, evs_last, garb2_evs k (k + 2 - J) J (by omega), show J + (k + 2 - J) = k + 2 by omega]
    have e : garbE2 k (k + 2) = [(5, 0)] := by unfold garbE2; rw [if_pos rfl]
    rw [e]
    by_cases e2 : J ≤ k
    · rw [if_pos ⟨e2, by omega⟩, if_pos e2]
    · rw [if_neg (by omega), if_neg e2]
end B

/-- How the machine that has no room stands behind J instructions. -/
def garbS (k J r : Nat) (s : B.St) : Prop := (J ≤ k + 2 ∧ r = 0 ∧ B.garbI k k J s) ∨ (k + 2 < J ∧ r = 2)

theorem garb_turn_any {Mach : MachT} (hT : TurnOk Mach) (k b n q mb J : Nat) (F : Nat → Prop) (s : B.St) (w : World) (hM : Mach w mb F (B.garbC k b) 8 n q s 0) (hk : 1 ≤ k) (hk5 : k ≤ 5) (hn : k < n) (hI : B.garbI k n J s) :
    Calls Tryz.prog 24 #[P0 mb, .int .i64 0, .slice none 0 0] w fun e w' => ∃ (F' : Nat → Prop) (s' : B.St) (ev : List B.Ev) (ad : Option Addr) (cap : Nat), e = .returned (.slice ad ev.length cap) ∧ ev.length ≤ maxLen ∧ Hid (Evs w' ad ev.length ev) ∧ Hid (Only F w w') ∧ Hid (∀ k, F' k → F k ∨ (w.heap.size ≤ k ∧ k < w'.heap.size)) ∧ Hid (Mach w' mb F' (B.garbC k b) 8 n q s' 0) ∧ Hid (B.garbI k n (J + q) s') ∧ Hid (∀ (i : Nat) (x : B.Ev), ev[i]? = some x → x = (1, 0)) := by
  refine (hT (B.garbC k b) 8 n q mb F s w hM).mono ?_
  rintro e w' ⟨F', s', r', ev, ad, len, cap, rfl, hlm, hE, hO, hF', hR, hM'⟩
  obtain rfl := hE.1
  obtain ⟨rfl, h2, h3⟩ := B.garb_turn hk hk5 hn hI hR
  exact ⟨F', s', ev, ad, cap, rfl, hlm, hE, hO, hF', hM' (by omega), h2, h3⟩

theorem garb2_turn_any {Mach : MachT} (hT : TurnOk Mach) (hTo : TurnOff Mach) (k b q mb J r : Nat) (F : Nat → Prop) (s : B.St) (w : World) (hM : Mach w mb F (B.garbC k b) 8 k q s r) (hk : 1 ≤ k) (hk5 : k ≤ 5) (hS : garbS k J r s) :
    Calls Tryz.prog 24 #[P0 mb, .int .i64 0, .slice none 0 0] w fun e w' => ∃ (F' : Nat → Prop) (s' : B.St) (r' : Nat) (ev : List B.Ev) (ad : Option Addr) (cap a m : Nat), e = .returned (.slice ad ev.length cap) ∧ ev.length ≤ 2 ∧ Hid (Evs w' ad ev.length ev) ∧ Hid (Only F w w') ∧ Hid (∀ k, F' k → F k ∨ (w.heap.size ≤ k ∧ k < w'.heap.size)) ∧ Hid (Mach w' mb F' (B.garbC k b) 8 k q s' r') ∧ Hid (garbS k (J + q) r' s') ∧
      Hid (ev.length = a + m) ∧ Hid (∀ i, i < a → ev[i]? = some (1, 0)) ∧ Hid (m = 1 → ev[a]? = some (5, 0)) ∧ Hid (a ≤ 1 ∧ m ≤ 1 ∧ (if k < J then 1 else 0) + a = (if k < J + q then 1 else 0) ∧ (k + 2 < J → a = 0 ∧ m = 0) ∧ (m = 1 ↔ J ≤ k + 2 ∧ k + 2 < J + q)) := by
  rcases hS with ⟨hJ, rfl, hI⟩ | ⟨hJ, rfl⟩
  · refine (hT (B.garbC k b) 8 k q mb F s w hM).mono ?_
    rintro e w' ⟨F', s', r', ev, ad, len, cap, rfl, _, hE, hO, hF', hR, hM'⟩
    obtain rfl := hE.1
    rcases B.garb2_turn hk hk5 hJ hI hR with ⟨h1, rfl, h2, rfl⟩ | ⟨h1, rfl, rfl⟩
    · by_cases hc : J ≤ k ∧ k < J + q
      · simp only [if_pos hc] at hE ⊢
        exact ⟨F', s', 0, [(1, 0)], ad, cap, 1, 0, rfl, by decide, hE, hO, hF', hM' (by omega), Or.inl ⟨h1, rfl, h2⟩, rfl, fun i hi => (by obtain rfl : i = 0 := (by omega); rfl), fun h => (by cases h), ⟨by omega, by omega, by rw [if_neg (by omega), if_pos (by omega)], fun h => (by omega), by omega⟩⟩
      · simp only [if_neg hc] at hE ⊢
        refine ⟨F', s', 0, [], ad, cap, 0, 0, rfl, by decide, hE, hO, hF', hM' (by omega), Or.inl ⟨h1, rfl, h2⟩, rfl, fun i hi => absurd hi (by omega), fun h => (by cases h), ⟨by omega, by omega, ?_, fun h => (by omega), by omega⟩⟩
        by_cases e : k < J
        · rw [if_pos e, if_pos (by omega)]
        · rw [if_neg e, if_neg (by omega)]
    · by_cases hc : J ≤ k
      · simp only [if_pos hc] at hE ⊢
        exact ⟨F', s', 2, [(1, 0), (5, 0)], ad, cap, 1, 1, rfl, by decide, hE, hO, hF', hM' (by omega), Or.inr ⟨h1, rfl⟩, rfl, fun i hi => (by obtain rfl : i = 0 := (by omega); rfl), fun _ => rfl, ⟨by omega, by omega, by rw [if_neg (by omega), if_pos (by omega)], fun h => (by omega), by omega⟩⟩
      · simp only [if_neg hc] at hE ⊢
        exact ⟨F', s', 2, [(5, 0)], ad, cap, 0, 1, rfl, by decide, hE, hO, hF', hM' (by omega), Or.inr ⟨h1, rfl⟩, rfl, fun i hi => absurd hi (by omega), fun _ => rfl, ⟨by omega, by omega, by rw [if_pos (by omega), if_pos (by omega)], fun h => (by omega), by omega⟩⟩
  · refine (hTo (B.garbC k b) 8 k q mb F s 2 w (by omega) hM).mono ?_
    rintro e w' ⟨F', ad, cap, rfl, hO, hF', hM'⟩
    exact ⟨F', s, 2, [], ad, cap, 0, 0, rfl, by decide, ⟨rfl, fun h => absurd rfl h⟩, hO, hF', hM', Or.inr ⟨by omega, rfl⟩, rfl, fun i hi => absurd hi (by omega), fun h => (by cases h), ⟨by omega, by omega, by rw [if_pos (by omega), if_pos (by omega)], fun _ => ⟨rfl, rfl⟩, by omega⟩⟩

theorem okGarb (k b : Nat) (hk : 1 ≤ k) (hk5 : k ≤ 5) (hb : b ≤ 8) : okCode 8 (B.garbC k b) := by
  refine ⟨by omega, by omega, by simp [B.garbC], by simp [B.garbC]; omega, ?_⟩
  simp [B.garbC, okIn]
  omega

theorem Tryz.info37 : (Tryz.prog.info? 37).map (fun i => (i.zero, i.size, i.bytes)) = some (some (.agg #[.int .u8 0, .int .u8 0, .int .u8 0, .int .u8 0]), 4, 4) := by kernel_rfl
/-- The bytes of the first j instructions. -/
def garbL (b j : Nat) : List Nat := (List.range j).flatMap (fun i => [9, 2 + i, b, 0])
theorem garbL_succ (b j : Nat) : garbL b (j + 1) = garbL b j ++ [9, 2 + j, b, 0] := by unfold garbL; simp [List.range_succ]
theorem garbL_len (b : Nat) : ∀ j, (garbL b j).length = 4 * j
  | 0 => rfl
  | j + 1 => by rw [garbL_succ, List.length_append, garbL_len b j]; simp; omega
theorem garb_flat (k b : Nat) : flat (B.garbC k b) = garbL b k ++ [20, 0, 0, 0, 7, 0, 0, 0] := by
  simp [flat, B.garbC, garbL, List.flatMap_append, List.flatMap_map]
theorem garb_lt (k b : Nat) (hk : k ≤ 5) (hb : b ≤ 8) : ∀ y, y ∈ flat (B.garbC k b) → y < 256 := by
  intro y hy
  rw [garb_flat, List.mem_append] at hy
  rcases hy with hy | hy
  · unfold garbL at hy
    simp only [List.mem_flatMap, List.mem_range] at hy
    obtain ⟨i, hi, hy⟩ := hy
    simp at hy
    omega
  · simp at hy; omega
/-- What a row of bytes holds. -/
theorem own_full {w : World} {base e size g n cap : Nat} {l : List Nat} (h : w.ownsRow base e size (.slice (some ⟨g, 0, none⟩) n cap) n (u8s l)) : n ≤ cap ∧ ∃ m, Full w g e m l.length (fun j => .int .u8 (l.getD j 0 : Nat)) := by
  rcases h.2 with ⟨h, _⟩ | ⟨g', cap', cur, h1, _, h2, h3, _, h5, h6⟩
  · cases h
  · cases h1
    refine ⟨h3, cur.size, cur, h2, rfl, fun j hj => ?_⟩
    have e1 := full_list l j hj
    have e2 : (u8s l)[j]? = some (.int .u8 (l.getD j 0 : Nat)) := by simpa using e1
    rw [← h6, List.getElem?_take] at e2
    split at e2
    · simpa using e2
    · cases e2

set_option maxRecDepth 100000 in
set_option maxHeartbeats 2000000 in
theorem garbage_any {Good : World → Prop} {Mach : MachT} (hI : Iface Good Mach) (x0 x1 x2 x3 x4 x5 : Int) (h0 : -9223372036854775808 ≤ x0 ∧ x0 ≤ 9223372036854775807) (h1 : -9223372036854775808 ≤ x1 ∧ x1 ≤ 9223372036854775807) (h2 : -9223372036854775808 ≤ x2 ∧ x2 ≤ 9223372036854775807) (h3 : -9223372036854775808 ≤ x3 ∧ x3 ≤ 9223372036854775807) (h4 : -9223372036854775808 ≤ x4 ∧ x4 ≤ 9223372036854775807) (h5 : -9223372036854775808 ≤ x5 ∧ x5 ≤ 9223372036854775807) (w : World) (hG : Good w) :
    Calls Tryz.prog 5 #[.int .i64 x0, .int .i64 x1, .int .i64 x2, .int .i64 x3, .int .i64 x4, .int .i64 x5] w fun e w' => e = .returned (.bool true) ∧ Below w.heap.size w w' := by
  have HI : Hid (Iface Good Mach) := hI
  obtain ⟨hL, hT, hTo, _, hK, hGd⟩ := hI
  have HK : Hid (KeepOk Mach) := hK
  have HL : Hid (LoadOk Good Mach) := hL
  have HT : Hid (TurnOk Mach) := hT
  have HTo : Hid (TurnOff Mach) := hTo
  have HGd : Hid (GoodOk Good) := hGd
  have HG : Hid (Good w) := hG
  clear hL hT hGd hG hK hTo
  obtain ⟨i0, hi, hz0, hz1, hz2⟩ := info_parts Tryz.info37
  go_enter Tryz.func5, Tryz.ntmps5
  go_wp2_with fail
  refine (emits_any HI.out w HG.out).mono ?_
  rintro e w1 ⟨rfl, hB1⟩
  have KB1 : Hid (Below w.heap.size w w1) := hB1
  clear hB1
  go_wp2_with fail
  refine (pick_any x0 5 (by omega) (by omega) h0.1 h0.2 w1).mono ?_
  rintro e w1' ⟨rfl, rfl⟩
  have ha := pk_lt x0 5 (by omega)
  generalize pk x0 5 = a at *
  go_wp2_with fail
  obtain ⟨k, hk⟩ : ∃ k : Nat, 1 + (a : Int) = (k : Int) := ⟨1 + a, by omega⟩
  rw [hk]
  have hk1 : 1 ≤ k := by omega
  have hk5 : k ≤ 5 := by omega
  clear hk ha
  refine (pick_any x2 9 (by omega) (by omega) h2.1 h2.2 _).mono ?_
  rintro e w1'' ⟨rfl, rfl⟩
  have hb := pk_lt x2 9 (by omega)
  generalize pk x2 9 = b at *
  go_wp2_with fail
  have KO : Hid (w1''.ownsRow w.heap.size 37 4 (.slice none 0 0) 0 (u8s (garbL b 0))) := ⟨rfl, Or.inl ⟨rfl, rfl⟩⟩
  go_loopw [16, 17] (fun v i wr => ∃ (j : Nat) (ad : Option Addr) (cp : Nat), i = .int .i64 j ∧ j ≤ k ∧ v = .slice ad j cp ∧ Hid (wr.ownsRow w.heap.size 37 4 (.slice ad j cp) j (u8s (garbL b j))) ∧ Hid (Below w.heap.size w wr)) (fun _ i _ => k - (intOf i).toNat)
  case atStart => exact ⟨0, none, 0, rfl, by omega, rfl, KO, KB1⟩
  case round =>
    obtain ⟨j, ad, cp, rfl, hj, rfl, rO, rB⟩ := hrel
    clear KO KB1
    by_cases hlt : j < k
    · have hzr := rB.out.size
      go_wp2_with (at_builtin; refine wpList_append_own _ rfl (.tmp 46) (.tmp 52) 36 rfl w.heap.size 37 i0 _ 4 4 Tryz.underlying36 hi hz0 hz1 hz2 rfl (by decide) _ _ _ rfl (own_alloc rO.out _) ⟨wr.heap.size, 0, none⟩ 1 1 [.int .u8 9, .int .u8 (2 + j : Int), .int .u8 b, .int .u8 0] rfl rfl ?c1 ?c2 ?c3 ?c4 ?c5 ?_)
      case c1 => intro q u hq; match q, hq with | 0, hq => (simp at hq; subst hq; simp [Addr.add, go_sem]) | 1, hq => (simp at hq; subst hq; simp [Addr.add, go_sem]) | 2, hq => (simp at hq; subst hq; simp [Addr.add, go_sem]) | 3, hq => (simp at hq; subst hq; simp [Addr.add, go_sem])
      case c2 => simp [Value.oneCell']
      case c3 => unfold maxLen; omega
      case c4 => omega
      case c5 => simp; omega
      intro v' w6 hown hgrow _
      obtain ⟨g', cap', rfl⟩ := row_form hown (by omega)
      have KO6 : Hid (w6.ownsRow w.heap.size 37 4 (.slice (some ⟨g', 0, none⟩) (j + 1) cap') (j + 1) (u8s (garbL b (j + 1)))) := by
        show World.ownsRow _ _ _ _ _ _ _
        rw [garbL_succ]
        simpa [u8s] using hown
      have KB6 : Hid (Below w.heap.size w w6) := below_own (rB.out.alloc hzr _) hgrow (own_alloc rO.out _) (Nat.le_refl _)
      clear hown hgrow rO rB
      go_wp2_with fail
      go_roundw
      case rel => exact ⟨j + 1, _, _, by go_num, by omega, rfl, KO6, KB6⟩
      case measure => simp [intOf]; omega
    · obtain rfl : j = k := by omega
      have hzr := rB.out.size
      go_wp2_with (at_builtin; refine wpList_append_own _ rfl (.tmp 54) (.tmp 57) 36 rfl w.heap.size 37 i0 _ 4 4 Tryz.underlying36 hi hz0 hz1 hz2 rfl (by decide) _ _ _ rfl (own_alloc rO.out _) ⟨wr.heap.size, 0, none⟩ 2 2 [.int .u8 20, .int .u8 0, .int .u8 0, .int .u8 0, .int .u8 7, .int .u8 0, .int .u8 0, .int .u8 0] rfl rfl ?d1 ?d2 ?d3 ?d4 ?d5 ?_)
      case d1 => intro q u hq; match q, hq with | 0, hq => (simp at hq; subst hq; simp [Addr.add, go_sem]) | 1, hq => (simp at hq; subst hq; simp [Addr.add, go_sem]) | 2, hq => (simp at hq; subst hq; simp [Addr.add, go_sem]) | 3, hq => (simp at hq; subst hq; simp [Addr.add, go_sem]) | 4, hq => (simp at hq; subst hq; simp [Addr.add, go_sem]) | 5, hq => (simp at hq; subst hq; simp [Addr.add, go_sem]) | 6, hq => (simp at hq; subst hq; simp [Addr.add, go_sem]) | 7, hq => (simp at hq; subst hq; simp [Addr.add, go_sem])
      case d2 => simp [Value.oneCell']
      case d3 => unfold maxLen; omega
      case d4 => omega
      case d5 => simp; omega
      intro v' w6 hown hgrow _
      obtain ⟨g', cap', rfl⟩ := row_form hown (by omega)
      have KO6 : w6.ownsRow w.heap.size 37 4 (.slice (some ⟨g', 0, none⟩) (j + 2) cap') (j + 2) (u8s (flat (B.garbC j b))) := by
        rw [garb_flat]
        simpa [u8s] using hown
      have KB6 : Hid (Below w.heap.size w w6) := below_own (rB.out.alloc hzr _) hgrow (own_alloc rO.out _) (Nat.le_refl _)
      have hfl : (flat (B.garbC j b)).length = 4 * (j + 2) := by rw [garb_flat, List.length_append, garbL_len]; simp; omega
      obtain ⟨hcp, m6, hfull⟩ := own_full KO6
      rw [hfl] at hfull
      have KFu : Hid (Full w6 g' 37 m6 (4 * (j + 2)) (fun i => .int .u8 ((flat (B.garbC j b)).getD i 0 : Nat))) := hfull
      have KFl : Hid ((flat (B.garbC j b)).length = 4 * (j + 2)) := hfl
      clear hown hgrow rO rB KO6 hfull hfl i0 hi hz0 hz1 hz2
      go_wp2_with fail
      refine (function_any 8 (j + 2) g' cap' 37 m6 (fun i => (flat (B.garbC j b)).getD i 0) w6 (by omega) (by omega) (fun i _ => list_lt _ (garb_lt j b hk5 (by omega)) i) KFu.out hcp).mono ?_
      rw [codeL_list (flat (B.garbC j b)) (j + 2) KFl.out]
      rintro e w2 ⟨rfl, hB2⟩
      have KB2 : Hid (Below w.heap.size w w2) := KB6.out.trans (hB2.mono KB6.out.size)
      have hCl : (B.garbC j b).length = j + 2 := by simp [B.garbC]
      have htx : ({ data := #[1] } : ByteArray) ++ txt (8 :: (j + 2) :: flat (B.garbC j b)) = txt (1 :: 8 :: (B.garbC j b).length :: flat (B.garbC j b)) := by rw [txt_cons, hCl]
      have hts : (txt (8 :: (j + 2) :: flat (B.garbC j b))).size = 4 * (j + 2) + 2 := by
        show (List.map UInt8.ofNat _).toArray.size = _
        simp [KFl.out]
      clear hB2 KB6 KFu KFl hCl
      generalize txt (8 :: (j + 2) :: flat (B.garbC j b)) = tx at *
      have HTX : Hid (({ data := #[1] } : ByteArray) ++ tx = txt (1 :: 8 :: (B.garbC j b).length :: flat (B.garbC j b))) := htx
      clear htx
      go_wp2_with fail
      refine (pick_any x3 50 (by omega) (by omega) h3.1 h3.2 _).mono ?_
      rintro e w2' ⟨rfl, rfl⟩
      have hp3 := pk_lt x3 50 (by omega)
      generalize pk x3 50 = d3 at *
      go_wp2_with fail
      obtain ⟨q, hq⟩ : ∃ q : Nat, 1 + (d3 : Int) = (q : Int) := ⟨1 + d3, by omega⟩
      rw [hq]
      have hq1 : 1 ≤ q := by omega
      have hq2 : q ≤ 50 := by omega
      clear hq hp3
      refine (pick_any x4 50 (by omega) (by omega) h4.1 h4.2 _).mono ?_
      rintro e w2'' ⟨rfl, rfl⟩
      have hp4 := pk_lt x4 50 (by omega)
      generalize pk x4 50 = d4 at *
      go_wp2_with fail
      obtain ⟨wk, hwk⟩ : ∃ wk : Nat, 1 + (d4 : Int) = (wk : Int) := ⟨1 + d4, by omega⟩
      rw [hwk]
      have hwk1 : 1 ≤ wk := by omega
      have hwk2 : wk ≤ 50 := by omega
      clear hwk hp4
      refine (pick_any x1 3 (by omega) (by omega) h1.1 h1.2 _).mono ?_
      rintro e w2'' ⟨rfl, rfl⟩
      have hp1 := pk_lt x1 3 (by omega)
      generalize pk x1 3 = d1 at *
      go_wp2_with fail
      obtain ⟨n, hn⟩ : ∃ n : Nat, (j : Int) + 1 + (d1 : Int) = (n : Int) := ⟨j + 1 + d1, by omega⟩
      rw [hn]
      have hn1 : j < n := by omega
      have hn2 : n ≤ 200 := by omega
      clear hn hp1
      generalize hty : ({ data := #[1] } : ByteArray) ++ tx = ty
      have HTY : ty = txt (1 :: 8 :: (B.garbC j b).length :: flat (B.garbC j b)) := hty.symm.trans HTX.out
      clear hty HTX hts
      have KTY : Hid (ty = txt (1 :: 8 :: (B.garbC j b).length :: flat (B.garbC j b))) := HTY
      have hzw := KB2.out.size
      rw [HTY]
      refine (HL.out (B.garbC j b) 8 n q wk w2'' (okGarb j b hk1 hk5 (by omega)) (by omega) hn2 hq1 hq2 hwk1 hwk2 (HGd.out _ _ HG.out KB2.out)).mono ?_
      rw [← HTY]
      clear HTY
      rintro e w3 ⟨m1, F1, rfl, hB3, hF, hM⟩
      have KB3 : Hid (Below w.heap.size w w3) := KB2.out.trans (hB3.mono hzw)
      have KM3 : Hid (Mach w3 m1 F1 (B.garbC j b) 8 n q (0, fun _ => (0, 0), fun _ => []) 0) := hM
      have KF3 : Hid (∀ k, F1 k → w.heap.size ≤ k ∧ k < w3.heap.size) := fun k hk => ⟨by have := hF k hk; omega, (hF k hk).2⟩
      have hz3 := KB3.out.size
      clear hB3 hM hF KB2 hzw
      go_wp2_with fail
      generalize hw4 : w3.alloc (.cells #[.int .i64 0, .int .i64 0] 42) = w4
      have KB4 : Hid (Below w.heap.size w w4) := by show Below _ _ _; rw [← hw4]; exact KB3.out.alloc (by omega) _
      have KM4 : Hid (Mach w4 m1 F1 (B.garbC j b) 8 n q (0, fun _ => (0, 0), fun _ => []) 0) := by
        show Mach _ _ _ _ _ _ _ _ _
        rw [← hw4]
        exact HK.out _ _ _ _ _ _ _ _ _ _ KM3.out (fun k hk => Below.heap_alloc _ _ _ (KF3.out k hk).2)
      have hz4 : w4.heap.size = w3.heap.size + 1 := by rw [← hw4]; simp
      have KF4 : Hid (∀ k, F1 k → w.heap.size ≤ k ∧ k < w4.heap.size) := fun k hk => ⟨(KF3.out k hk).1, by have := (KF3.out k hk).2; omega⟩
      clear hw4 KB3 KM3 KF3
      rw [KTY.out]
      refine (HL.out (B.garbC j b) 8 j q wk w4 (okGarb j b hk1 hk5 (by omega)) hk1 (by omega) hq1 hq2 hwk1 hwk2 (HGd.out _ _ HG.out KB4.out)).mono ?_
      rw [← KTY.out]
      rintro e w5 ⟨m2, F2, rfl, hB5, hF, hM⟩
      have KB5 : Hid (Below w.heap.size w w5) := KB4.out.trans (hB5.mono (by omega))
      have hz5 := hB5.size
      have KM5 : Hid (Mach w5 m1 F1 (B.garbC j b) 8 n q (0, fun _ => (0, 0), fun _ => []) 0) := HK.out _ _ _ _ _ _ _ _ _ _ KM4.out (fun k hk => hB5.block k (KF4.out k hk).2)
      have KN5 : Hid (Mach w5 m2 F2 (B.garbC j b) 8 j q (0, fun _ => (0, 0), fun _ => []) 0) := hM
      have KF5 : Hid ((∀ k, F1 k → w.heap.size ≤ k ∧ k < w5.heap.size) ∧ (∀ k, F2 k → w.heap.size ≤ k ∧ k < w5.heap.size) ∧ ∀ k, F1 k → ¬ F2 k) :=
        ⟨fun k hk => ⟨(KF4.out k hk).1, by have := (KF4.out k hk).2; omega⟩, fun k hk => ⟨by have := (hF k hk).1; omega, (hF k hk).2⟩, fun k h1 h2 => by have := (KF4.out k h1).2; have := (hF k h2).1; omega⟩
      clear hB5 hM hF KB4 KM4 KF4 KTY
      go_wp2_with fail
      generalize hw6 : w5.alloc (.cells #[.int .i64 0, .int .i64 0] 42) = w6
      have KB6 : Hid (Below w.heap.size w w6) := by show Below _ _ _; rw [← hw6]; exact KB5.out.alloc (by omega) _
      have KM6 : Hid (Mach w6 m1 F1 (B.garbC j b) 8 n q (0, fun _ => (0, 0), fun _ => []) 0) := by
        show Mach _ _ _ _ _ _ _ _ _
        rw [← hw6]
        exact HK.out _ _ _ _ _ _ _ _ _ _ KM5.out (fun k hk => Below.heap_alloc _ _ _ (KF5.out.1 k hk).2)
      have KN6 : Hid (Mach w6 m2 F2 (B.garbC j b) 8 j q (0, fun _ => (0, 0), fun _ => []) 0) := by
        show Mach _ _ _ _ _ _ _ _ _
        rw [← hw6]
        exact HK.out _ _ _ _ _ _ _ _ _ _ KN5.out (fun k hk => Below.heap_alloc _ _ _ (KF5.out.2.1 k hk).2)
      have hz6 : w6.heap.size = w5.heap.size + 1 := by rw [← hw6]; simp
      have KF6 : Hid ((∀ k, F1 k → w.heap.size ≤ k ∧ k < w6.heap.size) ∧ (∀ k, F2 k → w.heap.size ≤ k ∧ k < w6.heap.size) ∧ ∀ k, F1 k → ¬ F2 k) :=
        ⟨fun k hk => ⟨(KF5.out.1 k hk).1, by have := (KF5.out.1 k hk).2; omega⟩, fun k hk => ⟨(KF5.out.2.1 k hk).1, by have := (KF5.out.2.1 k hk).2; omega⟩, KF5.out.2.2⟩
      clear hw6 KB5 KM5 KN5 KF5 hz3 hz4 hz5 hz6
      refine (pick_any x5 200 (by omega) (by omega) h5.1 h5.2 _).mono ?_
      rintro e w6' ⟨rfl, rfl⟩
      have hp5 := pk_lt x5 200 (by omega)
      generalize pk x5 200 = tt at *
      go_wp2_with fail
      go_loopw [25, 26, 28] (fun em sp i wr => ∃ (I : Nat) (F1 F2 : Nat → Prop) (s1 s2 : B.St) (r2 m0 : Nat) (sv : Bool), i = .int .i64 I ∧ I ≤ tt ∧ em = .int .i64 (m0 : Nat) ∧ m0 ≤ 1 ∧ sp = .bool sv ∧ Hid (Mach wr m1 F1 (B.garbC j b) 8 n q s1 0 ∧ B.garbI j n (I * q) s1) ∧ Hid (Mach wr m2 F2 (B.garbC j b) 8 j q s2 r2 ∧ garbS j (I * q) r2 s2) ∧ Hid (m0 = if j < I * q then 1 else 0) ∧ Hid (sv = decide (j + 2 < I * q)) ∧ Hid (Below w.heap.size w wr) ∧ Hid ((∀ k, F1 k → w.heap.size ≤ k ∧ k < wr.heap.size) ∧ (∀ k, F2 k → w.heap.size ≤ k ∧ k < wr.heap.size) ∧ ∀ k, F1 k → ¬ F2 k)) (fun _ _ i _ => tt - (intOf i).toNat)
      case atStart => exact ⟨0, F1, F2, _, _, 0, 0, false, rfl, by omega, rfl, by omega, rfl, ⟨KM6.out, by rw [Nat.zero_mul]; exact B.garb_start j n _⟩, ⟨KN6.out, Or.inl ⟨by omega, rfl, by rw [Nat.zero_mul]; exact B.garb_start j j _⟩⟩, by show _ = _; rw [if_neg (by omega)], by show _ = _; simp, KB6, KF6⟩
      case round =>
        obtain ⟨I, F1, F2, s1, s2, r2, m0, sv, rfl, hI, rfl, hm0, rfl, rM, rN, rE, rS, rB, rF⟩ := hrel
        clear KB6 KM6 KN6 KF6
        by_cases hlt : I < tt
        · have hzr := rB.out.size
          go_wp2_with fail
          refine (garb_turn_any HT.out j b n q m1 (I * q) F1 s1 wr rM.out.1 hk1 hk5 hn1 rM.out.2).mono ?_
          rintro e w7 ⟨G1, t1, ev, ad, cap, rfl, hlm, kE, kO, kF, kM, kI, kA⟩
          have hlm2 : ev.length ≤ 9223372036854775807 := by unfold maxLen at hlm; omega
          have KB7 : Hid (Below w.heap.size w w7) := Only.below rB.out kO.out (fun k hk => (rF.out.1 k hk).1) hzr
          have KN7 : Hid (Mach w7 m2 F2 (B.garbC j b) 8 j q s2 r2) := HK.out _ _ _ _ _ _ _ _ _ _ rN.out.1 (fun k hk => kO.out.2.2.2.2 k (rF.out.2.1 k hk).2 (fun h => rF.out.2.2 k h hk))
          have hz7 : wr.heap.size ≤ w7.heap.size := kO.out.2.2.2.1
          have KF7 : Hid ((∀ k, G1 k → w.heap.size ≤ k ∧ k < w7.heap.size) ∧ (∀ k, F2 k → w.heap.size ≤ k ∧ k < w7.heap.size) ∧ ∀ k, G1 k → ¬ F2 k) :=
            ⟨fun k hk => by
              rcases kF.out k hk with h | h
              · have := rF.out.1 k h; omega
              · omega, fun k hk => by have := rF.out.2.1 k hk; omega, fun k h1 h2 => by
              rcases kF.out k h1 with h | h
              · exact rF.out.2.2 k h h2
              · have := rF.out.2.1 k h2; omega⟩
          have KS2 : Hid (garbS j (I * q) r2 s2) := rN.out.2
          clear hlm rM rN rB rF kO kF hzr
          go_wp2_with fail
          go_loopw [30] (fun i wr => ∃ (x : Nat), i = .int .i64 x ∧ x ≤ ev.length ∧ wr = w7) (fun i _ => ev.length - (intOf i).toNat)
          case atStart => exact ⟨0, rfl, by omega, rfl⟩
          case round =>
            obtain ⟨x, rfl, hx, rfl⟩ := hrel
            by_cases hxl : x < ev.length
            · obtain ⟨g, rfl, hg, hcell⟩ := kE.out.cells (by intro e; rw [e] at hxl; simp at hxl)
              have hxe : ev[x]? = some (1, 0) := by
                have := kA.out x ev[x] (List.getElem?_eq_getElem hxl)
                rw [List.getElem?_eq_getElem hxl, this]
              obtain ⟨c0, c1, c2⟩ := hcell x _ hxe
              have c0 : wr.cell? ⟨g, x * 3, none⟩ = some (.int .i64 1) := c0
              have c2 : wr.cell? ⟨g, x * 3 + 2, none⟩ = some (.int .i64 0) := c2
              clear hcell hxe
              go_wp2_with fail
              go_roundw
              case rel => exact ⟨x + 1, by go_num, by omega, trivial⟩
              case measure => simp [intOf]; omega
            · clear kE kA
              have hzr : w.heap.size ≤ wr.heap.size := KB7.out.size
              go_wp2_with fail
              refine (garb2_turn_any HT.out HTo.out j b q m2 (I * q) r2 F2 s2 wr KN7.out hk1 hk5 KS2.out).mono ?_
              rintro e w8 ⟨G2, t2, r3, ev2, ad2, cap2, a2, b2, rfl, hl2, kE2, kO2, kF2, kM2, kS3, kL, kA2, kB2, kC⟩
              have KB8 : Hid (Below w.heap.size w w8) := Only.below KB7.out kO2.out (fun k hk => (KF7.out.2.1 k hk).1) hzr
              have KM8 : Hid (Mach w8 m1 G1 (B.garbC j b) 8 n q t1 0) := HK.out _ _ _ _ _ _ _ _ _ _ kM.out (fun k hk => kO2.out.2.2.2.2 k (KF7.out.1 k hk).2 (KF7.out.2.2 k hk))
              have hz8 : wr.heap.size ≤ w8.heap.size := kO2.out.2.2.2.1
              have KF8 : Hid ((∀ k, G1 k → w.heap.size ≤ k ∧ k < w8.heap.size) ∧ (∀ k, G2 k → w.heap.size ≤ k ∧ k < w8.heap.size) ∧ ∀ k, G1 k → ¬ G2 k) :=
                ⟨fun k hk => by have := KF7.out.1 k hk; omega, fun k hk => by
                  rcases kF2.out k hk with h | h
                  · have := KF7.out.2.1 k h; omega
                  · omega, fun k h1 h2 => by
                  rcases kF2.out k h2 with h | h
                  · exact KF7.out.2.2 k h1 h
                  · have := KF7.out.1 k h1; omega⟩
              have hsum : m0 + a2 ≤ 1 := by
                have e1 := rE.out
                have e2 := kC.out.2.2.1
                rw [← e1] at e2
                rw [e2]
                split <;> omega
              clear KB7 KN7 KF7 kM kO2 kF2 hzr KS2
              go_wp2_with fail
              go_loopw [25, 26, 32] (fun em sp i wr => ∃ (y mv : Nat) (sw : Bool), i = .int .i64 y ∧ y ≤ ev2.length ∧ em = .int .i64 (mv : Nat) ∧ mv ≤ 1 ∧ sp = .bool sw ∧ Hid (mv = m0 + min y a2) ∧ Hid (sw = (sv || decide (a2 < y))) ∧ wr = w8) (fun _ _ i _ => ev2.length - (intOf i).toNat)
              case atStart => exact ⟨0, m0, sv, rfl, by omega, rfl, hm0, rfl, by show _ = _; simp, by show _ = _; simp, rfl⟩
              case round =>
                obtain ⟨y, mv, sw, rfl, hy, rfl, hmv, rfl, rK, rW, rfl⟩ := hrel
                by_cases hyl : y < ev2.length
                · obtain ⟨g, rfl, hg, hcell⟩ := kE2.out.cells (by intro e; rw [e] at hyl; simp at hyl)
                  have hsv : sv = false := by
                    have e1 := rS.out
                    rw [e1]
                    simp only [decide_eq_false_iff_not]
                    intro h
                    have := kC.out.2.2.2.1 h
                    have := kL.out
                    omega
                  subst hsv
                  by_cases hya : y < a2
                  · obtain ⟨c0, c1, c2⟩ := hcell y _ (kA2.out y hya)
                    have c0 : wr.cell? ⟨g, y * 3, none⟩ = some (.int .i64 1) := c0
                    have c2 : wr.cell? ⟨g, y * 3 + 2, none⟩ = some (.int .i64 0) := c2
                    have em1 : mv = m0 + y := by have := rK.out; rw [Nat.min_eq_left (by omega)] at this; exact this
                    have hsw : sw = false := by have := rW.out; rw [this]; simp; omega
                    subst hsw
                    have KC : Hid (mv + 1 = m0 + min (y + 1) a2) := by show _ = _; rw [Nat.min_eq_left (by omega)]; omega
                    have KD : Hid (false = (false || decide (a2 < y + 1))) := by show _ = _; simp; omega
                    have hm2 : mv + 1 ≤ 1 := by omega
                    clear hcell rK rW em1 kC
                    go_wp2_with fail
                    go_roundw
                    case rel => exact ⟨y + 1, mv + 1, false, by go_num, by omega, by go_num, hm2, rfl, KC, KD, trivial⟩
                    case measure => simp [intOf]; omega
                  · have hb2 : b2 = 1 ∧ y = a2 := by have := kL.out; have := kC.out.2.1; omega
                    obtain ⟨rfl, rfl⟩ := hb2
                    obtain ⟨c0, c1, c2⟩ := hcell y _ (kB2.out rfl)
                    have c0 : wr.cell? ⟨g, y * 3, none⟩ = some (.int .i64 5) := c0
                    have c2 : wr.cell? ⟨g, y * 3 + 2, none⟩ = some (.int .i64 0) := c2
                    have hsw : sw = false := by have := rW.out; rw [this]; simp
                    subst hsw
                    have KC : Hid (mv = m0 + min (y + 1) y) := by show _ = _; have := rK.out; rw [Nat.min_eq_left (Nat.le_refl _)] at this; rw [Nat.min_eq_right (by omega)]; exact this
                    have KD : Hid (true = (false || decide (y < y + 1))) := by show _ = _; simp
                    clear hcell rK rW kC
                    go_wp2_with fail
                    go_roundw
                    case rel => exact ⟨y + 1, mv, true, by go_num, by omega, rfl, hmv, rfl, KC, KD, trivial⟩
                    case measure => simp [intOf]; omega
                · obtain rfl : y = ev2.length := by omega
                  have KE9 : Hid (mv = if j < (I + 1) * q then 1 else 0) := by
                    show _ = _
                    have e1 := rK.out
                    have e2 := rE.out
                    have e3 := kC.out.2.2.1
                    rw [kL.out, Nat.min_eq_right (by omega)] at e1
                    rw [← e2] at e3
                    rw [Nat.add_mul, Nat.one_mul]
                    omega
                  have KS9 : Hid (sw = decide (j + 2 < (I + 1) * q)) := by
                    show _ = _
                    have e1 := rW.out
                    have e2 := rS.out
                    have e3 := kC.out.2.2.2.2
                    have e4 := kC.out.2.1
                    rw [e1, e2, kL.out, Nat.add_mul, Nat.one_mul]
                    rw [← Bool.decide_or, decide_eq_decide]
                    omega
                  have KI9 : Hid (Mach wr m1 G1 (B.garbC j b) 8 n q t1 0 ∧ B.garbI j n ((I + 1) * q) t1) := ⟨KM8.out, by rw [Nat.add_mul, Nat.one_mul]; exact kI.out⟩
                  have KN9 : Hid (Mach wr m2 G2 (B.garbC j b) 8 j q t2 r3 ∧ garbS j ((I + 1) * q) r3 t2) := ⟨kM2.out, by rw [Nat.add_mul, Nat.one_mul]; exact kS3.out⟩
                  clear rK rW rE rS kC kL kA2 kB2 kE2 KM8 kI kM2 kS3
                  go_wp2_with fail
                  go_roundw
                  case rel => exact ⟨I + 1, G1, G2, t1, t2, r3, mv, sw, by go_num, by omega, rfl, hmv, rfl, KI9, KN9, KE9, KS9, KB8, KF8⟩
                  case measure => simp [intOf]; omega
        · obtain rfl : I = tt := by omega
          have hP1 : (I : Int) * (q : Int) ≤ 10000 := by
            have : I * q ≤ 200 * 50 := Nat.mul_le_mul (by omega) hq2
            have e : ((I * q : Nat) : Int) = (I : Int) * (q : Int) := by simp
            omega
          have hP0 : 0 ≤ (I : Int) * (q : Int) := by
            have e : ((I * q : Nat) : Int) = (I : Int) * (q : Int) := by simp
            omega
          by_cases hov : j + 2 < I * q
          · have hs1 : sv = true := by rw [rS.out]; simp; exact hov
            have hm1 : m0 = 1 := by have := rE.out; rw [if_pos (by omega)] at this; exact this
            subst hs1 hm1
            have hP2 : (j : Int) + 3 ≤ (I : Int) * (q : Int) := by
              have e : ((I * q : Nat) : Int) = (I : Int) * (q : Int) := by simp
              omega
            clear rS rE hov
            go_wp2_with fail
            go_ret
            exact ⟨rfl, rB.out⟩
          · have hs1 : sv = false := by rw [rS.out]; simp; omega
            subst hs1
            have hP2 : ¬ (j : Int) + 3 ≤ (I : Int) * (q : Int) := by
              have e : ((I * q : Nat) : Int) = (I : Int) * (q : Int) := by simp
              omega
            clear rS rE hov
            go_wp2_with fail
            go_ret
            exact ⟨rfl, rB.out⟩

end Go.Proofs.YtnjiinbhbjpfkaaGreatDoor

/-
  For every input the law Garbage returns true, and its arguments read as they did, where Load, Turn and State keep to the interface. No condition on the input; the package-level table of the operands' letters is taken as its initialiser lays it.
-/
namespace Go.Proofs.YtnjiinbhbjpfkaaGreatDoor
open Go.ChangeShapes Go.WideShapes Go.ChangeAt Go.WideMaps Go.WideElems Go.RowKit Go.Joins

theorem trodAll_six {H : Type} {enc : TypeId × Value → H} {P : Program} {w : World} {base : Nat} {spare : Nat → Bool} {held : Bool} {t : TypeId} {args : Array Value} {ds : List (DataW H)} {ps : List MemPlace} (h : DataW.TrodAll enc P w base spare held [t, t, t, t, t, t] args.toList ds ps) :
    ∃ v0 v1 v2 v3 v4 v5 d0 d1 d2 d3 d4 d5 p0 p1 p2 p3 p4 p5, args = #[v0, v1, v2, v3, v4, v5] ∧ ds = [d0, d1, d2, d3, d4, d5] ∧ ps = p0 ++ (p1 ++ (p2 ++ (p3 ++ (p4 ++ p5)))) ∧ DataW.Trod enc P w base spare held t v0 d0 p0 ∧ DataW.Trod enc P w base spare held t v1 d1 p1 ∧ DataW.Trod enc P w base spare held t v2 d2 p2 ∧ DataW.Trod enc P w base spare held t v3 d3 p3 ∧ DataW.Trod enc P w base spare held t v4 d4 p4 ∧ DataW.Trod enc P w base spare held t v5 d5 p5 := by
  obtain ⟨v0, r0, d0, e0, p0, q0, hargs, rfl, rfl, h0, k0⟩ := trodAll_cons h
  obtain ⟨v1, r1, d1, e1, p1, q1, rfl, rfl, rfl, h1, k1⟩ := trodAll_cons k0
  obtain ⟨v2, r2, d2, e2, p2, q2, rfl, rfl, rfl, h2, k2⟩ := trodAll_cons k1
  obtain ⟨v3, r3, d3, e3, p3, q3, rfl, rfl, rfl, h3, k3⟩ := trodAll_cons k2
  obtain ⟨v4, r4, d4, e4, p4, q4, rfl, rfl, rfl, h4, k4⟩ := trodAll_cons k3
  obtain ⟨v5, r5, d5, e5, p5, q5, rfl, rfl, rfl, h5, k5⟩ := trodAll_cons k4
  obtain ⟨rfl, rfl, rfl⟩ := trodAll_nil k5
  exact ⟨v0, v1, v2, v3, v4, v5, d0, d1, d2, d3, d4, d5, p0, p1, p2, p3, p4, p5, by cases args; simp_all, rfl, by simp, h0, h1, h2, h3, h4, h5⟩

theorem garbage_met (os : Os) (args : Array Value) : laidMetH Tryz.prog Rows.garbageRow.laid ((World.doorLaid Tryz.prog 400 os).forCall (fun _ _ => 0) ⟨#[], args, []⟩).memory :=
  laidMetH_of_parts3 (fuel := 8) (laidMet_of_run' 8 (by kernel_rfl) (by kernel_rfl)) (by kernel_rfl) (by kernel_rfl)

set_option maxRecDepth 100000 in
theorem garbage_lifted {Mach : MachT} (hI : Iface Tab Mach) (os : Os) (started : os.Started) (H : Type) (enc : TypeId × Value → H) :
    ReturnsInHanded {} Tryz.checked os 5 .any (fun w args => (Rows.garbageSpec.pre enc Tryz.prog Tryz.f5 [] false w args ∧ laidMetH Tryz.prog Rows.garbageRow.laid w) ∧ sizedMet enc Tryz.prog Tryz.f5 (OpenSpec.ofChange Rows.garbageSpec) false w args)
      (Rows.garbageSpec.post enc Tryz.prog Tryz.f5 false true false false) := by
  refine returnsInHanded_of_change_and (C := Tryz.checked) (X := fun w _ => laidMetH Tryz.prog Rows.garbageRow.laid w) (fun _ _ _ hh h => h.of_heap hh) own started (by kernel_rfl) Tryz.func5
    (ChangeSpec.witness_shaped (enc := enc) (C := Tryz.checked) (os := os) (X := fun w _ => laidMetH Tryz.prog Rows.garbageRow.laid w) false (World.doorLaid Tryz.prog 400 os) #[.int .i64 0, .int .i64 0, .int .i64 0, .int .i64 0, .int .i64 0, .int .i64 0] 8 rfl (World.shaped_of_RefB (by kernel_rfl) (by kernel_rfl)) (by kernel_rfl) (by kernel_rfl) (by kernel_rfl) (garbage_met os _)) ?_
  intro W base args ds gs before hval0 hW hcnd hsz0 hL _
  have hW' := hW
  obtain ⟨p, q, hA0, hV, rfl, hfz, hnd⟩ := hW
  have hA : DataW.TrodAll enc Tryz.prog W 0 (fun _ => true) true Tryz.f5.params.toList args.toList ds p := hA0
  rw [Tryz.params5] at hA
  obtain ⟨v0, v1, v2, v3, v4, v5, d0, d1, d2, d3, d4, d5, p0, p1, p2, p3, p4, p5, rfl, rfl, rfl, h0, h1, h2, h3, h4, h5⟩ := trodAll_six hA
  obtain ⟨rfl, rfl⟩ := trodVars_none hV
  have hT : Tab W := tab_of_laid hL
  have hval : ∀ (j : Nat) t v, Tryz.f5.params[j]? = some t → #[v0, v1, v2, v3, v4, v5][j]? = some v → Value.okWide Tryz.prog W .any base t v := hval0
  rw [Tryz.params5] at hval
  obtain ⟨c0, rfl, rfl, rfl, wc0⟩ := open_int Tryz.underlying3 (hval 0 3 v0 rfl rfl) h0
  obtain ⟨c1, rfl, rfl, rfl, wc1⟩ := open_int Tryz.underlying3 (hval 1 3 v1 rfl rfl) h1
  obtain ⟨c2, rfl, rfl, rfl, wc2⟩ := open_int Tryz.underlying3 (hval 2 3 v2 rfl rfl) h2
  obtain ⟨c3, rfl, rfl, rfl, wc3⟩ := open_int Tryz.underlying3 (hval 3 3 v3 rfl rfl) h3
  obtain ⟨c4, rfl, rfl, rfl, wc4⟩ := open_int Tryz.underlying3 (hval 4 3 v4 rfl rfl) h4
  obtain ⟨c5, rfl, rfl, rfl, wc5⟩ := open_int Tryz.underlying3 (hval 5 3 v5 rfl rfl) h5
  refine (garbage_any hI c0 c1 c2 c3 c4 c5 (wf64 wc0) (wf64 wc1) (wf64 wc2) (wf64 wc3) (wf64 wc4) (wf64 wc5) W hT).mono fun e W' ⟨he, hB⟩ => ?_
  subst he
  refine ⟨_, rfl, [.lit (.int .i64 c0), .lit (.int .i64 c1), .lit (.int .i64 c2), .lit (.int .i64 c3), .lit (.int .i64 c4), .lit (.int .i64 c5)], [], _, [], [], [], hW', ?_, ?_, rfl, ?_, fun h => by cases h⟩
  · exact trodAll_mk1 (shut_bool Tryz.underlying4 _)
  · exact ⟨[], [], shut_int Tryz.underlying3 wc0, ⟨[], [], shut_int Tryz.underlying3 wc1, trodAll_mk4 (shut_int Tryz.underlying3 wc2) (shut_int Tryz.underlying3 wc3) (shut_int Tryz.underlying3 wc4) (shut_int Tryz.underlying3 wc5), rfl⟩, rfl⟩
  · exact hB.frame _

theorem garbage_said {Mach : MachT} (hI : Iface Tab Mach) : Rows.GarbageSaid :=
  OpenClaim.holds_of_wide 5 Tryz.f5 rfl rfl rfl rfl rfl rfl rfl ⟨rfl, rfl, rfl, rfl, rfl⟩ rfl rfl rfl rfl rfl (by kernel_rfl) Tryz.func5 (by kernel_rfl)
    (of_decide_eq_true (by kernel_rfl)) (by unfold Func.isWrapper; first | (rw [if_pos (by decide +kernel)]; kernel_rfl) | (rw [if_neg (by decide +kernel)]; exact ⟨rfl, rfl⟩))
    (fun os started H enc _ => garbage_lifted hI os started H enc)

/-- No parameter wants a stand-in; the program's own looks are off. -/
theorem garbage_plain (f : FuncId) (fn : Func) (hf : Tryz.pinned.checked.prog.funcNamed Rows.garbageRow.func = some f) (hfn : Tryz.pinned.checked.prog.funcs[f]? = some fn) :
    false = Tryz.pinned.checked.prog.looks [] ∧ ∀ (j : Nat) t, fn.params[j]? = some t → Tryz.pinned.checked.prog.wantsStandIn t = false := by
  obtain rfl : f = 5 := Option.some.inj ((show Tryz.prog.funcNamed Rows.garbageRow.func = some 5 by kernel_rfl).symm.trans hf) |>.symm
  obtain rfl : fn = Tryz.f5 := (Option.some.inj (Tryz.func5.symm.trans hfn)).symm
  refine ⟨by kernel_rfl, fun j t ht => ?_⟩
  rw [Tryz.params5] at ht
  have hm : t ∈ [3, 3, 3, 3, 3, 3] := by simpa using Array.mem_of_getElem? ht
  have hall : ([3, 3, 3, 3, 3, 3].all fun u => !Tryz.prog.wantsStandIn u) = true := by kernel_rfl
  exact (show Tryz.prog.wantsStandIn t = false by simpa using List.all_eq_true.1 hall t hm)

theorem garbage_card_of {Mach : MachT} (hI : Iface Tab Mach) : Rows.GarbageCardSaid :=
  Claim7.holds_tied_plain_at .later [] _ _ _ _ (garbage_said hI) (fun _ h => by cases h) (by kernel_rfl) (fun _ h => by cases h) garbage_row_tie rfl ⟨rfl, rfl⟩ (by kernel_rfl) rfl garbage_plain (by kernel_rfl)
end Go.Proofs.YtnjiinbhbjpfkaaGreatDoor

namespace Go.Proofs.YtnjiinbhbjpfkaaGreatDoor
theorem garbage_card : Rows.GarbageCardSaid := garbage_card_of iface
end Go.Proofs.YtnjiinbhbjpfkaaGreatDoor
