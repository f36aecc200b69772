/-
  How a collector goes through what can be reached: marks, a stack of places that are marked and not gone through, cycles. Nothing of the program is imported here.
-/
import Derived.Test.YtnjiinbhbjpfkaaGreatDoorGateB
import Derived.Deep.AppendSrc
namespace Go.Proofs.YtnjiinbhbjpfkaaGreatDoor.B
structure Cy where
  m : Nat → Bool
  st : List Nat
  nx : Nat
structure Kd where
  on : Nat → Bool
  cy : Option Cy
  un : Nat
  fo : Nat
  cc : Nat
def kd0 : Kd := ⟨fun _ => false, none, 0, 0, 0⟩
def Vok (on : Nat → Bool) (n : Nat) (v : V) : Prop := v.1 = 0 ∨ (1 ≤ v.1 ∧ v.1 ≤ n ∧ on v.1 = true ∧ v.2 = 0)
def mark (m : Nat → Bool) (p : Nat) : Nat → Bool := fun k => if k = p then true else m k
theorem mark_at (m : Nat → Bool) (p : Nat) : mark m p p = true := if_pos rfl
theorem mark_off (m : Nat → Bool) (p k : Nat) (h : k ≠ p) : mark m p k = m k := if_neg h
theorem mark_up {m : Nat → Bool} {k : Nat} (p : Nat) (h : m k = true) : mark m p k = true := by unfold mark; split <;> simp [h]
def free (m : Nat → Bool) (p : Nat) : Nat → Bool := fun k => if k = p then false else m k
theorem free_at (m : Nat → Bool) (p : Nat) : free m p p = false := if_pos rfl
theorem free_off (m : Nat → Bool) (p k : Nat) (h : k ≠ p) : free m p k = m k := if_neg h
theorem free_dn {m : Nat → Bool} {p k : Nat} (h : free m p k = true) : m k = true := by unfold free at h; split at h <;> simp_all
def cnt (m : Nat → Bool) : Nat → Nat
  | 0 => 0
  | n + 1 => cnt m n + if m (n + 1) = true then 0 else 1
theorem cnt_mark_off (m : Nat → Bool) (p : Nat) : ∀ n, n < p → cnt (mark m p) n = cnt m n
  | 0, _ => rfl
  | n + 1, h => by rw [cnt, cnt, cnt_mark_off m p n (by omega), mark_off m p _ (by omega)]
theorem cnt_mark (m : Nat → Bool) (p : Nat) (hp : 1 ≤ p) (hm : m p = false) : ∀ n, p ≤ n → cnt (mark m p) n + 1 = cnt m n
  | 0, h => by omega
  | n + 1, h => by
    by_cases e : p = n + 1
    · subst e
      rw [cnt, cnt, mark_at, hm, cnt_mark_off m (n + 1) n (by omega)]
      simp
    · rw [cnt, cnt, mark_off m p _ (by omega)]
      have := cnt_mark m p hp hm n (by omega)
      omega
theorem cnt_all : ∀ n, cnt (fun _ => false) n = n
  | 0 => rfl
  | n + 1 => by rw [cnt, cnt_all n]; simp
def seen (m : Nat → Bool) (st : List Nat) (v : V) : (Nat → Bool) × List Nat := if v.1 ≠ 0 ∧ m v.1 = false then (mark m v.1, st ++ [v.1]) else (m, st)
def seenL (m : Nat → Bool) (st : List Nat) : List V → (Nat → Bool) × List Nat
  | [] => (m, st)
  | v :: r => seenL (seen m st v).1 (seen m st v).2 r
theorem seenL_snoc (v : V) : ∀ (l : List V) (m : Nat → Bool) (st : List Nat), seenL m st (l ++ [v]) = seen (seenL m st l).1 (seenL m st l).2 v
  | [], _, _ => rfl
  | u :: l, m, st => by rw [List.cons_append, seenL, seenL_snoc v l]; rfl
def regs (R : Nat → V) (nr : Nat) : List V := (List.range nr).map R
theorem regs_succ (R : Nat → V) (j : Nat) : regs R (j + 1) = regs R j ++ [R j] := by simp [regs, List.range_succ]
theorem regs_mem {R : Nat → V} {nr : Nat} {v : V} : v ∈ regs R nr ↔ ∃ i, i < nr ∧ R i = v := by simp [regs]
theorem seen_sum {m : Nat → Bool} {st : List Nat} {v : V} {n : Nat} (hv : v.1 ≠ 0 → v.1 ≤ n) : (seen m st v).2.length + cnt (seen m st v).1 n = st.length + cnt m n := by
  unfold seen
  split
  · rename_i h
    have := cnt_mark m v.1 (by omega) h.2 n (hv h.1)
    simp; omega
  · rfl
theorem seenL_sum {n : Nat} : ∀ (l : List V) (m : Nat → Bool) (st : List Nat), (∀ v, v ∈ l → v.1 ≠ 0 → v.1 ≤ n) → (seenL m st l).2.length + cnt (seenL m st l).1 n = st.length + cnt m n
  | [], _, _, _ => rfl
  | v :: l, m, st, h => by
    rw [seenL, seenL_sum l _ _ (fun u hu => h u (List.mem_cons_of_mem _ hu))]
    exact seen_sum (h v (List.mem_cons_self ..))
theorem seen_up {m : Nat → Bool} {st : List Nat} {v : V} {k : Nat} (h : m k = true) : (seen m st v).1 k = true := by
  unfold seen; split
  · exact mark_up _ h
  · exact h
theorem seen_st {m : Nat → Bool} {st : List Nat} {v : V} {k : Nat} (h : k ∈ st) : k ∈ (seen m st v).2 := by
  unfold seen; split
  · simp [h]
  · exact h
theorem seen_at {m : Nat → Bool} {st : List Nat} {v : V} (h : v.1 ≠ 0) : (seen m st v).1 v.1 = true := by
  unfold seen; split
  · exact mark_at _ _
  · rename_i c
    cases hm : m v.1
    · exact absurd ⟨h, hm⟩ c
    · exact hm
theorem seen_new {m : Nat → Bool} {st : List Nat} {v : V} {k : Nat} (h : (seen m st v).1 k = true) (h0 : m k = false) : k ∈ (seen m st v).2 ∧ k = v.1 ∧ v.1 ≠ 0 := by
  unfold seen at *
  split at h
  · rename_i c
    rw [if_pos c]
    by_cases e : k = v.1
    · exact ⟨by simp [e], e, c.1⟩
    · simp only [mark_off m v.1 k e, h0] at h; cases h
  · have h' : m k = true := h
    rw [h0] at h'; cases h'
def Cov (m : Nat → Bool) (st : List Nat) (rest : List V) (M : Nat → List V) (p : Nat) : Prop :=
  ∀ S : Nat → Prop, (∀ k, m k = true → S k) → (∀ k, k ∈ st → ∀ v, v ∈ M k → v.1 ≠ 0 → S v.1) → (∀ v, v ∈ rest → v.1 ≠ 0 → S v.1) → (∀ k, m k = false → S k → ∀ v, v ∈ M k → v.1 ≠ 0 → S v.1) → S p
theorem cov_seen {m : Nat → Bool} {st : List Nat} {v : V} {rest : List V} {M : Nat → List V} {p : Nat} (h : Cov m st (v :: rest) M p) : Cov (seen m st v).1 (seen m st v).2 rest M p := by
  intro S h1 h2 h3 h4
  refine h S (fun k hk => h1 k (seen_up hk)) (fun k hk => h2 k (seen_st hk)) (fun u hu h0 => ?_) (fun k hk hS u hu h0 => ?_)
  · rcases List.mem_cons.1 hu with rfl | hu
    · exact h1 _ (seen_at h0)
    · exact h3 u hu h0
  · cases hm : (seen m st v).1 k
    · exact h4 k hm hS u hu h0
    · exact h2 k (seen_new hm hk).1 u hu h0
theorem cov_seenL {M : Nat → List V} {p : Nat} : ∀ (l : List V) (m : Nat → Bool) (st : List Nat), Cov m st l M p → Cov (seenL m st l).1 (seenL m st l).2 [] M p
  | [], _, _, h => h
  | _ :: l, _, _, h => cov_seenL l _ _ (cov_seen h)
theorem cov_pop {m : Nat → Bool} {st : List Nat} {q : Nat} {M : Nat → List V} {p : Nat} (h : Cov m (st ++ [q]) [] M p) : Cov m st (M q) M p := by
  intro S h1 h2 h3 h4
  refine h S h1 (fun k hk v hv h0 => ?_) (fun v hv => by simp at hv) h4
  rcases List.mem_append.1 hk with hk | hk
  · exact h2 k hk v hv h0
  · rw [List.mem_singleton.1 hk] at hv; exact h3 v hv h0
theorem cov_reach {nr : Nat} {s : St} {p : Nat} (h : Reach nr s p) : Cov (fun _ => false) [] (regs s.2.1 nr) s.2.2 p := by
  intro S _ _ h3 h4
  exact h S (fun i hi h0 => h3 _ (regs_mem.2 ⟨i, hi, rfl⟩) h0) (fun k hk => h4 k rfl hk)
theorem cov_end {m : Nat → Bool} {M : Nat → List V} {p : Nat} (h : Cov m [] [] M p) : m p = true :=
  h (fun k => m k = true) (fun _ h => h) (fun k hk => by simp at hk) (fun v hv => by simp at hv) (fun k h1 h2 => by rw [h1] at h2; cases h2)
theorem mem_of_set {l : List V} {i : Nat} {v u : V} (h : u ∈ l) : u ∈ l.set i v ∨ u = l.getD i (0, 0) := by
  obtain ⟨j, hj, rfl⟩ := List.getElem_of_mem h
  by_cases e : i = j
  · right; subst e; rw [List.getD_eq_getElem?_getD, List.getElem?_eq_getElem hj]; rfl
  · left
    have : (l.set i v)[j]? = some l[j] := by rw [List.getElem?_set, if_neg e, List.getElem?_eq_getElem hj]
    exact List.mem_of_getElem? this
theorem cov_put {m : Nat → Bool} {st : List Nat} {M : Nat → List V} {p : Nat} (a i : Nat) (v : V) (h : Cov m st [] M p) :
    Cov (seen m st ((M a).getD i (0, 0))).1 (seen m st ((M a).getD i (0, 0))).2 [] (lay M a ((M a).set i v)) p := by
  intro S h1 h2 _ h4
  have hu : ∀ k u, u ∈ M k → u ∈ lay M a ((M a).set i v) k ∨ u = (M a).getD i (0, 0) := by
    intro k u hu
    by_cases e : k = a
    · subst e; rw [lay_at]; exact mem_of_set hu
    · rw [lay_off _ _ _ _ e]; exact Or.inl hu
  refine h S (fun k hk => h1 k (seen_up hk)) (fun k hk u hm h0 => ?_) (fun v hv => by simp at hv) (fun k hk hS u hm h0 => ?_)
  · rcases hu k u hm with h | h
    · exact h2 k (seen_st hk) u h h0
    · subst h; exact h1 _ (seen_at h0)
  · rcases hu k u hm with h | h
    · cases hc : (seen m st ((M a).getD i (0, 0))).1 k
      · exact h4 k hc hS u h h0
      · exact h2 k (seen_new hc hk).1 u h h0
    · subst h; exact h1 _ (seen_at h0)
structure Snap (on : Nat → Bool) (n : Nat) (M : Nat → List V) (c : Cy) (T : Nat → Prop) : Prop where
  ha : ∀ p, T p → 1 ≤ p ∧ p ≤ n ∧ on p = true
  hb : ∀ p, T p → ∀ v, v ∈ M p → Vok on n v ∧ (v.1 ≠ 0 → T v.1)
  hc : ∀ p, c.m p = true → T p
  hd : ∀ p, p ∈ c.st → c.m p = true
  he : c.st.Nodup
  hf : ∀ p, T p → Cov c.m c.st [] M p
  hg : 0 < c.nx → c.st = []
  hh : c.nx ≤ n
  hi : ∀ p, 1 ≤ p → p ≤ c.nx → on p = true → c.m p = true
theorem seen_pre {m : Nat → Bool} {st : List Nat} {v : V} {T : Nat → Prop} (hc : ∀ p, m p = true → T p) (hd : ∀ p, p ∈ st → m p = true) (he : st.Nodup) (hv : v.1 ≠ 0 → T v.1) :
    (∀ p, (seen m st v).1 p = true → T p) ∧ (∀ p, p ∈ (seen m st v).2 → (seen m st v).1 p = true) ∧ (seen m st v).2.Nodup := by
  refine ⟨fun p hp => ?_, fun p hp => ?_, ?_⟩
  · cases h : m p
    · obtain ⟨_, rfl, h0⟩ := seen_new hp h; exact hv h0
    · exact hc p h
  · unfold seen at hp ⊢
    split at hp
    · rename_i c
      rw [if_pos c]
      rcases List.mem_append.1 hp with hp | hp
      · exact mark_up _ (hd p hp)
      · rw [List.mem_singleton.1 hp]; exact mark_at _ _
    · rename_i c
      rw [if_neg c]; exact hd p hp
  · unfold seen
    split
    · rename_i c
      rw [List.nodup_append]
      refine ⟨he, by simp, fun a ha b hb => ?_⟩
      rw [List.mem_singleton.1 hb]
      rintro rfl
      have := hd _ ha
      rw [c.2] at this; cases this
    · exact he
theorem seenL_pre {T : Nat → Prop} : ∀ (l : List V) (m : Nat → Bool) (st : List Nat), (∀ p, m p = true → T p) → (∀ p, p ∈ st → m p = true) → st.Nodup → (∀ v, v ∈ l → v.1 ≠ 0 → T v.1) →
    (∀ p, (seenL m st l).1 p = true → T p) ∧ (∀ p, p ∈ (seenL m st l).2 → (seenL m st l).1 p = true) ∧ (seenL m st l).2.Nodup
  | [], _, _, h1, h2, h3, _ => ⟨h1, h2, h3⟩
  | v :: l, m, st, h1, h2, h3, h4 => by
    obtain ⟨a, b, c⟩ := seen_pre h1 h2 h3 (h4 v (List.mem_cons_self ..))
    exact seenL_pre l _ _ a b c (fun u hu => h4 u (List.mem_cons_of_mem _ hu))
theorem seenL_up : ∀ (l : List V) {m : Nat → Bool} {st : List Nat} {k : Nat}, m k = true → (seenL m st l).1 k = true
  | [], _, _, _, h => h
  | _ :: l, _, _, _, h => seenL_up l (seen_up h)
def thru (M : Nat → List V) (c : Cy) (st : List Nat) (p : Nat) : Cy := ⟨(seenL c.m st (M p)).1, (seenL c.m st (M p)).2, c.nx⟩
def look (c : Cy) : Cy := ⟨c.m, c.st, c.nx + 1⟩
def swept (on : Nat → Bool) (c : Cy) : Nat → Bool := if c.m (c.nx + 1) = true then on else free on (c.nx + 1)
theorem swept_dn {on : Nat → Bool} {c : Cy} {p : Nat} (h : swept on c p = true) : on p = true := by
  unfold swept at h; split at h
  · exact h
  · exact free_dn h
theorem swept_m {on : Nat → Bool} {c : Cy} {p : Nat} (h : c.m p = true) : swept on c p = on p := by
  unfold swept; split
  · rfl
  · rename_i h'
    refine free_off _ _ _ ?_
    rintro rfl
    exact h' h
theorem swept_at {on : Nat → Bool} {c : Cy} (h : swept on c (c.nx + 1) = true) : c.m (c.nx + 1) = true := by
  unfold swept at h; split at h
  · assumption
  · rw [free_at] at h; cases h
section
variable {on : Nat → Bool} {n : Nat} {M : Nat → List V} {c : Cy} {T : Nat → Prop}
theorem Snap.len (h : Snap on n M c T) : c.st.length ≤ n := by
  have := len_le c.st ((List.range n).map (· + 1)) h.he (fun x hx => by
    rw [upto_mem]
    have := h.ha x (h.hc x (h.hd x hx))
    exact ⟨this.1, this.2.1⟩)
  simpa using this
theorem mem_cnt (m : Nat → Bool) : ∀ n, (((List.range n).map (· + 1)).filter m).length + cnt m n = n
  | 0 => rfl
  | n + 1 => by
    have := mem_cnt m n
    rw [List.range_succ, List.map_append, List.filter_append, List.length_append, cnt]
    cases h : m (n + 1) <;> simp [h] <;> omega
theorem Snap.sum (h : Snap on n M c T) : c.st.length + cnt c.m n ≤ n := by
  have h1 := len_le c.st (((List.range n).map (· + 1)).filter c.m) h.he (fun x hx => by
    rw [List.mem_filter, upto_mem]
    have := h.ha x (h.hc x (h.hd x hx))
    exact ⟨⟨this.1, this.2.1⟩, h.hd x hx⟩)
  have := mem_cnt c.m n
  omega
theorem Snap.thru {st : List Nat} {p : Nat} (h : Snap on n M c T) (hs : c.st = st ++ [p]) : Snap on n M (thru M c st p) T := by
  have hp : c.m p = true := h.hd p (by rw [hs]; simp)
  have hn := h.he
  rw [hs, List.nodup_append] at hn
  obtain ⟨a, b, d⟩ := seenL_pre (T := T) (M p) c.m st h.hc (fun k hk => h.hd k (by rw [hs]; simp [hk])) hn.1 (fun v hv h0 => (h.hb p (h.hc p hp) v hv).2 h0)
  refine ⟨h.ha, h.hb, a, b, d, fun k hk => ?_, fun h0 => ?_, h.hh, fun k h1 h2 h3 => ?_⟩
  · have := h.hf k hk
    rw [hs] at this
    exact cov_seenL (M p) c.m st (cov_pop this)
  · have := h.hg h0
    rw [hs] at this
    simp at this
  · have := h.hi k h1 h2 h3
    exact seenL_up _ this
theorem Snap.look (h : Snap on n M c T) (hs : c.st = []) (hn : c.nx < n) : Snap (swept on c) n M (look c) T := by
  have hT : ∀ p, T p → c.m p = true := fun p hp => by
    have := h.hf p hp
    rw [hs] at this
    exact cov_end this
  have hv : ∀ v, Vok on n v → (v.1 ≠ 0 → T v.1) → Vok (swept on c) n v := by
    rintro v (h1 | ⟨h1, h2, h3, h4⟩) h5
    · exact Or.inl h1
    · exact Or.inr ⟨h1, h2, by rw [swept_m (hT _ (h5 (by omega)))]; exact h3, h4⟩
  refine ⟨fun p hp => ?_, fun p hp v hm => ?_, h.hc, h.hd, h.he, h.hf, fun _ => hs, hn, fun p h1 h2 h3 => ?_⟩
  · obtain ⟨a, b, d⟩ := h.ha p hp
    exact ⟨a, b, by rw [swept_m (hT p hp)]; exact d⟩
  · have := h.hb p hp v hm
    exact ⟨hv v this.1 this.2, this.2⟩
  · by_cases e : p = c.nx + 1
    · subst e; exact swept_at h3
    · have h2' : p ≤ c.nx + 1 := h2
      exact h.hi p h1 (by omega) (swept_dn h3)
theorem Snap.last (h : Snap on n M c T) (hs : c.st = []) (p : Nat) : c.m p = true ↔ T p :=
  ⟨h.hc p, fun hp => by have := h.hf p hp; rw [hs] at this; exact cov_end this⟩
end
def begun (R : Nat → V) (nr : Nat) : Cy := ⟨(seenL (fun _ => false) [] (regs R nr)).1, (seenL (fun _ => false) [] (regs R nr)).2, 0⟩
structure Held (kd : Kd) (nr n : Nat) (s : St) : Prop where
  h1 : ∀ i, i < nr → Vok kd.on n (s.2.1 i)
  h2 : ∀ p, Reach nr s p → ∀ v, v ∈ s.2.2 p → Vok kd.on n v
  h3 : ∀ c, kd.cy = some c → c.nx < n ∧ ∃ T, (∀ p, Reach nr s p → T p) ∧ Snap kd.on n s.2.2 c T
theorem reach_kd {kd : Kd} {nr n : Nat} {s : St} (h : Held kd nr n s) {p : Nat} (hp : Reach nr s p) : kd.on p = true ∧ 1 ≤ p ∧ p ≤ n := by
  have := hp (fun p => Reach nr s p ∧ kd.on p = true ∧ 1 ≤ p ∧ p ≤ n) (fun i hi h0 => ?_) (fun k hk v hv h0 => ?_)
  · exact this.2
  · rcases h.h1 i hi with h1 | ⟨h1, h2, h3, _⟩
    · exact absurd h1 h0
    · exact ⟨reach_reg i hi h0, h3, h1, h2⟩
  · rcases h.h2 k hk.1 v hv with h1 | ⟨h1, h2, h3, _⟩
    · exact absurd h1 h0
    · exact ⟨reach_slot hk.1 hv h0, h3, h1, h2⟩
theorem snap_begun {kd : Kd} {nr n : Nat} {s : St} (h : Held kd nr n s) : Snap kd.on n s.2.2 (begun s.2.1 nr) (Reach nr s) := by
  obtain ⟨a, b, d⟩ := seenL_pre (T := Reach nr s) (regs s.2.1 nr) (fun _ => false) [] (fun p h => by cases h) (fun p h => by simp at h) (by simp) (fun v hv h0 => by
    obtain ⟨i, hi, rfl⟩ := regs_mem.1 hv
    exact reach_reg i hi h0)
  refine ⟨fun p hp => ?_, fun p hp v hv => ⟨h.h2 p hp v hv, fun h0 => reach_slot hp hv h0⟩, a, b, d, fun p hp => cov_seenL _ _ _ (cov_reach hp), fun h0 => absurd h0 (Nat.lt_irrefl 0), Nat.zero_le _, fun p h1 h2 => by have h2' : p ≤ 0 := h2; omega⟩
  have := reach_kd h hp
  exact ⟨this.2.1, this.2.2, this.1⟩
end Go.Proofs.YtnjiinbhbjpfkaaGreatDoor.B
namespace Go.Proofs.YtnjiinbhbjpfkaaGreatDoor.B
theorem Vok.up {on on' : Nat → Bool} {n : Nat} {v : V} (h : Vok on n v) (hu : ∀ k, on k = true → on' k = true) : Vok on' n v := by
  rcases h with h | ⟨h1, h2, h3, h4⟩
  · exact Or.inl h
  · exact Or.inr ⟨h1, h2, hu _ h3, h4⟩
theorem held_sub {kd : Kd} {nr nr' n : Nat} {s s' : St} (h : Held kd nr n s) (hM : s'.2.2 = s.2.2) (hr : ∀ p, Reach nr' s' p → Reach nr s p) (hv : ∀ i, i < nr' → Vok kd.on n (s'.2.1 i)) : Held kd nr' n s' :=
  ⟨hv, fun p hp v hm => h.h2 p (hr p hp) v (by rw [← hM]; exact hm), fun c hc => by
    obtain ⟨h1, T, h2, h3⟩ := h.h3 c hc
    exact ⟨h1, T, fun p hp => h2 p (hr p hp), by rw [hM]; exact h3⟩⟩
theorem held_get {kd : Kd} {nr n : Nat} {s : St} (h : Held kd nr n s) {p : Nat} (hp : Reach nr s p) (i : Nat) : Vok kd.on n ((s.2.2 p).getD i (0, 0)) ∧ (((s.2.2 p).getD i (0, 0)).1 ≠ 0 → Reach nr s ((s.2.2 p).getD i (0, 0)).1) := by
  by_cases hi : i < (s.2.2 p).length
  · rw [List.getD_eq_getElem?_getD, List.getElem?_eq_getElem hi]
    exact ⟨h.h2 p hp _ (List.getElem_mem hi), fun h0 => reach_slot hp (List.getElem_mem hi) h0⟩
  · rw [List.getD_eq_getElem?_getD, List.getElem?_eq_none (by omega)]
    exact ⟨Or.inl rfl, fun h => absurd rfl h⟩
def told (kd : Kd) (v : V) : Kd := { kd with cy := kd.cy.map (fun c => ⟨(seen c.m c.st v).1, (seen c.m c.st v).2, c.nx⟩) }
def laid (kd : Kd) (p : Nat) : Kd := { kd with on := mark kd.on p, cy := kd.cy.map (fun c => ⟨mark c.m p, c.st, c.nx⟩) }
theorem reach_put {nr : Nat} {s : St} {x p i : Nat} {v : V} (hp : Reach nr s p) (hv : v.1 ≠ 0 → Reach nr s v.1) {k : Nat} (hk : Reach nr (x, s.2.1, lay s.2.2 p ((s.2.2 p).set i v)) k) : Reach nr s k := by
  refine hk (Reach nr s) (fun i hi h0 => reach_reg i hi h0) (fun j hj u hu h0 => ?_)
  by_cases e : j = p
  · subst e
    simp only [lay_at] at hu
    rcases List.mem_or_eq_of_mem_set hu with hu | rfl
    · exact reach_slot hj hu h0
    · exact hv h0
  · simp only [lay_off _ _ _ _ e] at hu
    exact reach_slot hj hu h0
theorem held_put {kd : Kd} {nr n : Nat} {s : St} (h : Held kd nr n s) (x p i : Nat) (v : V) (hp : Reach nr s p) (hv : Vok kd.on n v) (hr : v.1 ≠ 0 → Reach nr s v.1) :
    Held (told kd ((s.2.2 p).getD i (0, 0))) nr n (x, s.2.1, lay s.2.2 p ((s.2.2 p).set i v)) := by
  refine ⟨h.h1, fun k hk u hu => ?_, fun c hc => ?_⟩
  · have hk' := reach_put hp hr hk
    by_cases e : k = p
    · subst e
      simp only [lay_at] at hu
      rcases List.mem_or_eq_of_mem_set hu with hu | rfl
      · exact h.h2 k hk' u hu
      · exact hv
    · simp only [lay_off _ _ _ _ e] at hu
      exact h.h2 k hk' u hu
  · have hc' : kd.cy.map (fun c : Cy => (⟨(seen c.m c.st ((s.2.2 p).getD i (0, 0))).1, (seen c.m c.st ((s.2.2 p).getD i (0, 0))).2, c.nx⟩ : Cy)) = some c := hc
    rw [Option.map_eq_some_iff] at hc'
    obtain ⟨c0, hc0, rfl⟩ := hc'
    obtain ⟨hx, T, hT, hs⟩ := h.h3 c0 hc0
    have hpT := hT p hp
    obtain ⟨a, b, d⟩ := seen_pre (v := (s.2.2 p).getD i (0, 0)) hs.hc hs.hd hs.he (fun h0 => hT _ ((held_get h hp i).2 h0))
    refine ⟨hx, T, fun k hk => hT k (reach_put hp hr hk), hs.ha, fun k hk u hu => ?_, a, b, d, fun k hk => cov_put p i v (hs.hf k hk), fun h0 => ?_, hs.hh, fun k h1 h2 h3 => seen_up (hs.hi k h1 h2 h3)⟩
    · by_cases e : k = p
      · subst e
        simp only [lay_at] at hu
        rcases List.mem_or_eq_of_mem_set hu with hu | rfl
        · exact hs.hb k hk u hu
        · exact ⟨hv, fun h0 => hT _ (hr h0)⟩
      · simp only [lay_off _ _ _ _ e] at hu
        exact hs.hb k hk u hu
    · have hst := hs.hg h0
      show (seen c0.m c0.st ((s.2.2 p).getD i (0, 0))).2 = []
      unfold seen
      split
      · rename_i hn
        have := (hs.last hst _).2 (hT _ ((held_get h hp i).2 hn.1))
        rw [hn.2] at this; cases this
      · exact hst
theorem held_force {kd : Kd} {on : Nat → Bool} {nr n : Nat} {s : St} (h : Held kd nr n s) (hm : ∀ p, Reach nr s p → on p = true) : Held ⟨on, none, kd.un, kd.fo + 1, kd.cc⟩ nr n s := by
  have key : ∀ v, Vok kd.on n v → (v.1 ≠ 0 → Reach nr s v.1) → Vok on n v := by
    intro v hv hr
    rcases hv with h | ⟨h1, h2, h3, h4⟩
    · exact Or.inl h
    · exact Or.inr ⟨h1, h2, hm _ (hr (by omega)), h4⟩
  exact ⟨fun i hi => key _ (h.h1 i hi) (fun h0 => reach_reg i hi h0), fun k hk u hu => key _ (h.h2 k hk u hu) (fun h0 => reach_slot hk hu h0), fun c hc => by cases hc⟩
def unit (M : Nat → List V) (on : Nat → Bool) (c : Cy) : (Nat → Bool) × Cy :=
  match c.st.getLast? with
  | some p => (on, thru M c c.st.dropLast p)
  | none => (swept on c, look c)
theorem unit_thru {M : Nat → List V} {on : Nat → Bool} {c : Cy} {st : List Nat} {p : Nat} (h : c.st = st ++ [p]) : unit M on c = (on, thru M c st p) := by
  unfold unit; rw [h]; simp
theorem unit_look {M : Nat → List V} {on : Nat → Bool} {c : Cy} (h : c.st = []) : unit M on c = (swept on c, look c) := by
  unfold unit; rw [h]; rfl
def units (M : Nat → List V) (n : Nat) : Nat → Kd → Kd
  | 0, kd => kd
  | u + 1, kd =>
    match kd.cy with
    | none => kd
    | some c => units M n u (if (unit M kd.on c).2.nx = n then ⟨(unit M kd.on c).1, none, kd.un + 1, kd.fo, kd.cc + 1⟩ else ⟨(unit M kd.on c).1, some (unit M kd.on c).2, kd.un + 1, kd.fo, kd.cc⟩)
def work (R : Nat → V) (nr : Nat) (M : Nat → List V) (n u : Nat) (kd : Kd) : Kd :=
  units M n u (match kd.cy with | none => { kd with cy := some (begun R nr) } | some _ => kd)
theorem snap_unit {on : Nat → Bool} {n : Nat} {M : Nat → List V} {c : Cy} {T : Nat → Prop} (h : Snap on n M c T) (hx : c.nx < n) : Snap (unit M on c).1 n M (unit M on c).2 T := by
  rcases List.eq_nil_or_concat c.st with hs | ⟨st, p, hs⟩
  · rw [unit_look hs]; exact h.look hs hx
  · rw [List.concat_eq_append] at hs
    rw [unit_thru hs]; exact h.thru hs
theorem unit_dn {on : Nat → Bool} {M : Nat → List V} {c : Cy} {p : Nat} (h : (unit M on c).1 p = true) : on p = true := by
  rcases List.eq_nil_or_concat c.st with hs | ⟨st, q, hs⟩
  · rw [unit_look hs] at h; exact swept_dn h
  · rw [List.concat_eq_append] at hs
    rw [unit_thru hs] at h; exact h
theorem held_on {kd kd' : Kd} {nr n : Nat} {s : St} {T : Nat → Prop} (h : Held kd nr n s) (hT : ∀ p, Reach nr s p → T p) (ho : ∀ p, T p → kd'.on p = true) (hc : ∀ c, kd'.cy = some c → c.nx < n ∧ Snap kd'.on n s.2.2 c T) : Held kd' nr n s := by
  have key : ∀ v, Vok kd.on n v → (v.1 ≠ 0 → Reach nr s v.1) → Vok kd'.on n v := by
    intro v hv hr
    rcases hv with h | ⟨h1, h2, h3, h4⟩
    · exact Or.inl h
    · exact Or.inr ⟨h1, h2, ho _ (hT _ (hr (by omega))), h4⟩
  exact ⟨fun i hi => key _ (h.h1 i hi) (fun h0 => reach_reg i hi h0), fun k hk u hu => key _ (h.h2 k hk u hu) (fun h0 => reach_slot hk hu h0), fun c h => ⟨(hc c h).1, T, hT, (hc c h).2⟩⟩
theorem held_begun {kd : Kd} {nr n : Nat} {s : St} (h : Held kd nr n s) (hn : 1 ≤ n) : Held { kd with cy := some (begun s.2.1 nr) } nr n s :=
  held_on (T := Reach nr s) h (fun _ h => h) (fun _ h' => (reach_kd h h').1) (fun c hc => by
    have : begun s.2.1 nr = c := by injection hc
    subst this
    exact ⟨hn, snap_begun (kd := kd) h⟩)
def stepK (M : Nat → List V) (n : Nat) (kd : Kd) (c : Cy) : Kd := if (unit M kd.on c).2.nx = n then ⟨(unit M kd.on c).1, none, kd.un + 1, kd.fo, kd.cc + 1⟩ else ⟨(unit M kd.on c).1, some (unit M kd.on c).2, kd.un + 1, kd.fo, kd.cc⟩
theorem held_step {kd : Kd} {nr n : Nat} {s : St} {c : Cy} (h : Held kd nr n s) (hc : kd.cy = some c) : Held (stepK s.2.2 n kd c) nr n s := by
  obtain ⟨hx, T, hT, hs⟩ := h.h3 c hc
  have hs' := snap_unit hs hx
  unfold stepK
  split
  · exact held_on (T := T) h hT (fun p hp => (hs'.ha p hp).2.2) (fun c hc => by cases hc)
  · rename_i hne
    refine held_on (T := T) h hT (fun p hp => (hs'.ha p hp).2.2) (fun c' hc' => ?_)
    have : (unit s.2.2 kd.on c).2 = c' := by injection hc'
    subst this
    exact ⟨Nat.lt_of_le_of_ne hs'.hh hne, hs'⟩
theorem units_succ {M : Nat → List V} {n u : Nat} {kd : Kd} {c : Cy} (h : kd.cy = some c) : units M n (u + 1) kd = units M n u (stepK M n kd c) := by
  rw [units, h]; rfl
theorem units_none {M : Nat → List V} {n u : Nat} {kd : Kd} (h : kd.cy = none) : units M n u kd = kd := by
  cases u with
  | zero => rfl
  | succ u => rw [units, h]
end Go.Proofs.YtnjiinbhbjpfkaaGreatDoor.B
namespace Go.Proofs.YtnjiinbhbjpfkaaGreatDoor
open Go.RowKit
def Qrow (w : World) (e : TypeId) (v : Value) (xs : List Value) : Prop :=
  (v = .slice none 0 0 ∧ xs = []) ∨
  ∃ g off cap n P, v = .slice (some ⟨g, off, none⟩) xs.length cap ∧ xs.length ≤ cap ∧ cap ≤ maxLen ∧ off + cap ≤ n ∧ Full w g e n (off + xs.length) P ∧ ∀ j u, xs[j]? = some u → P (off + j) = u
theorem Qrow.lt {w : World} {e : TypeId} {v : Value} {xs : List Value} (h : Qrow w e v xs) : ∀ k, v.ownBlock = some k → k < w.heap.size := by
  intro k hk
  rcases h with ⟨rfl, _⟩ | ⟨g, off, cap, n, P, rfl, _, _, _, hF, _⟩
  · simp [Value.ownBlock] at hk
  · simp [Value.ownBlock] at hk; subst hk; exact hF.lt
theorem Qrow.block {w w' : World} {e : TypeId} {v : Value} {xs : List Value} (h : Qrow w e v xs) (hb : ∀ k, v.ownBlock = some k → w'.heap[k]? = w.heap[k]?) : Qrow w' e v xs := by
  rcases h with h | ⟨g, off, cap, n, P, rfl, h1, h2, h3, hF, hP⟩
  · exact Or.inl h
  · exact Or.inr ⟨g, off, cap, n, P, rfl, h1, h2, h3, hF.block (hb g rfl), hP⟩
theorem Qrow.nil (w : World) (e : TypeId) : Qrow w e (.slice none 0 0) [] := Or.inl ⟨rfl, rfl⟩
theorem Qrow.pop {w : World} {e : TypeId} {ad : Option Addr} {cap : Nat} {xs : List Value} {x : Value} (h : Qrow w e (.slice ad (xs.length + 1) cap) (xs ++ [x])) :
    ∃ g off, ad = some ⟨g, off, none⟩ ∧ g < w.heap.size ∧ xs.length + 1 ≤ cap ∧ w.cell? ⟨g, off + xs.length, none⟩ = some x ∧ Qrow w e (.slice ad xs.length cap) xs := by
  rcases h with ⟨_, h⟩ | ⟨g, off, cap', n, P, h, h1, h2, h3, hF, hP⟩
  · simp at h
  · injection h with a b c
    subst a c
    simp only [List.length_append, List.length_singleton] at h1 hF
    refine ⟨g, off, rfl, hF.lt, h1, ?_, Or.inr ⟨g, off, cap, n, P, rfl, by omega, h2, h3, ?_, fun j u hu => hP j u ?_⟩⟩
    · rw [hF.cell (off + xs.length) (by omega), hP xs.length x (by simp)]
    · obtain ⟨cur, f1, f2, f3⟩ := hF
      exact ⟨cur, f1, f2, fun j hj => f3 j (by omega)⟩
    · have hj : j < xs.length := by
        rcases Nat.lt_or_ge j xs.length with hlt | hge
        · exact hlt
        · rw [List.getElem?_eq_none hge] at hu; cases hu
      rw [List.getElem?_append_left hj]; exact hu
theorem Qrow.ty {w : World} {e : TypeId} {v : Value} {xs : List Value} (h : Qrow w e v xs) (k : Nat) (hk : v.ownBlock = some k) : ∃ cur, w.heap[k]? = some (.cells cur e (0, 0)) := by
  rcases h with ⟨rfl, _⟩ | ⟨g, off, cap, n, P, rfl, _, _, _, ⟨cur, h1, _⟩, _⟩
  · simp [Value.ownBlock] at hk
  · simp [Value.ownBlock] at hk; subst hk; exact ⟨cur, h1⟩
theorem run_append_q {P : Program} (w : World) (t ty e : TypeId) (i : TypeInfo) (z : Value) (bytes : Nat) (ht : P.underlying t = some (.slice e)) (hi : P.info? e = some i) (hz : i.zero = some z)
    (hsize : i.size = 1) (hby : i.bytes = bytes) (hzs : z.cells.size = 1) (v : Value) (xs : List Value) (hq : Qrow w e v xs) (ad : Addr) (c : Nat) (y : Value) (hy : w.cell? ad = some y) (h1 : y.oneCell' = true)
    (hm : xs.length + 1 ≤ maxLen) (hbytes : (xs.length + 1) * bytes ≤ 140737488355328) :
    ∃ g off cap w', (Builtin.append_ #[t, t] ty #[v, .slice (some ad) 1 c]).run P w = .ok (.slice (some ⟨g, off, none⟩) (xs.length + 1) cap) w' ∧ Qrow w' e (.slice (some ⟨g, off, none⟩) (xs.length + 1) cap) (xs ++ [y]) ∧ w.grownBy w' v.ownBlock ∧ (v.ownBlock = some g ∨ g = w.heap.size) := by
  have hnews : ∀ j u, [y][j]? = some u → w.cell? (ad.add j) = some u := by
    intro j u hu
    match j, hu with
    | 0, hu => simp at hu; subst hu; simpa [Addr.add] using hy
  have hs : Src P i.size t (.slice (some ad) 1 c) 1 [y] w := Src.ofSlice w ht ad 1 c [y] (by rw [hsize]; rfl) hnews (by intro u hu; simp at hu; subst hu; exact h1)
  have hsm : ((xs.length + 1 : Nat) : Int) ≤ 9223372036854775807 := by unfold maxLen at hm; omega
  have grown : ∀ (b : Option Addr) (old : Nat), v = .slice b xs.length old → old < xs.length + 1 → (∀ j u, xs[j]? = some u → ∃ a, b = some a ∧ w.cell? (a.add j) = some u) → ∃ g off cap w', (Builtin.append_ #[t, t] ty #[v, .slice (some ad) 1 c]).run P w = .ok (.slice (some ⟨g, off, none⟩) (xs.length + 1) cap) w' ∧ Qrow w' e (.slice (some ⟨g, off, none⟩) (xs.length + 1) cap) (xs ++ [y]) ∧ w.grownBy w' v.ownBlock ∧ (v.ownBlock = some g ∨ g = w.heap.size) := by
    intro b old hv ho hc
    subst hv
    have hold : (Builtin.firstCells i.size xs.length (.slice b xs.length old)).run P w.drew = .ok xs.toArray w.drew := by
      match b, hc with
      | none, hc =>
        have hx : xs = [] := by
          cases xs with
          | nil => rfl
          | cons a l => obtain ⟨_, h, _⟩ := hc 0 a rfl; cases h
        subst hx
        exact run_firstCells_none w.drew i.size 0 0 old
      | some a, hc => exact run_firstCells_some w.drew i.size xs.length a xs.length old xs (by rw [hsize, Nat.mul_one]) (fun j u hu => by obtain ⟨a', h, h2⟩ := hc j u hu; cases h; simpa using h2)
    have hr := run_append_grow_src (P := P) w t t ty e i z ht hi hz b xs.length old xs hold _ 1 [y] hs ho hsm (by rw [hby]; exact growslice_fits ho hbytes)
    have hge := grownCap_ge w (xs.length + 1) old e
    have hcm := grownCap_le_maxLen w (xs.length + 1) old e hm
    refine ⟨_, _, _, _, hr, Or.inr ⟨w.heap.size, 0, _, grownCap w (xs.length + 1) old e, fun j => (xs ++ [y]).getD j y, by simp, by simpa using hge, hcm, by omega, ⟨_, heap_alloc_new w.drew _, ?_, fun j hj => ?_⟩, fun j u hu => ?_⟩, ⟨rfl, rfl, rfl, by simp, fun k hk _ => Go.heap_alloc_old w.drew _ hk⟩, Or.inr rfl⟩
    · simp only [Array.size_append, List.size_toArray, size_zeroCells, hzs, List.length_append, List.length_cons, List.length_nil]
      omega
    · have hj2 : j < (xs ++ [y]).length := by simpa using hj
      rw [Array.getElem?_append_left (by simpa using hj2), List.getElem?_toArray, List.getElem?_eq_getElem hj2]
      show _ = some ((xs ++ [y]).getD j y)
      rw [List.getD_eq_getElem?_getD, List.getElem?_eq_getElem hj2]; rfl
    · show (xs ++ [y]).getD (0 + j) y = u
      rw [Nat.zero_add, List.getD_eq_getElem?_getD, hu]; rfl
  rcases hq with ⟨rfl, rfl⟩ | ⟨g, off, cap, n, Q, rfl, hlc, hcm, hn, hF, hP⟩
  · exact grown none 0 rfl (by omega) (fun j u hu => by simp at hu)
  · by_cases hroom : xs.length + 1 ≤ cap
    · have hk : off + xs.length < n := by omega
      have hF2 := (hF.congr (Q := upd Q (off + xs.length) y) (fun j hj => (upd_off _ _ _ _ (by omega)).symm)).set hk
      rw [upd_at] at hF2
      obtain ⟨cur, hh, hcs, _⟩ := hF
      have hr := run_append_room_src (P := P) w t t ty e i ht hi g off xs.length cap _ 1 [y] hs hroom (by
        intro j hj
        simp at hj; subst hj
        rw [hsize, Nat.mul_one, Nat.add_zero]
        simp [World.cell?, hh, hcs, hk]) (by
        intro j hj
        simp at hj; subst hj
        simp [World.frozen?, hh])
      rw [hsize, Nat.mul_one] at hr
      refine ⟨g, off, cap, _, hr, Or.inr ⟨g, off, cap, n, upd Q (off + xs.length) y, by simp, by simpa using hroom, hcm, hn, ?_, fun j u hu => ?_⟩, ?_, Or.inl rfl⟩
      · rw [List.length_append]
        exact hF2
      · by_cases hj : j < xs.length
        · rw [List.getElem?_append_left hj] at hu
          rw [upd_off _ _ _ _ (by omega)]
          exact hP j u hu
        · rw [List.getElem?_append_right (by omega)] at hu
          have : j = xs.length := by
            rcases Nat.lt_or_ge (j - xs.length) 1 with h | h
            · omega
            · rw [List.getElem?_eq_none (by simpa using h)] at hu; cases hu
          subst this
          simp at hu
          rw [upd_at]; exact hu
      · exact grown_setCell (a := ⟨g, off + xs.length, none⟩) (grown_refl _ _) (Or.inl rfl) y
    · refine grown (some ⟨g, off, none⟩) cap rfl (by omega) (fun j u hu => ⟨_, rfl, ?_⟩)
      have hj : j < xs.length := by
        rcases Nat.lt_or_ge j xs.length with hlt | hge
        · exact hlt
        · rw [List.getElem?_eq_none hge] at hu; cases hu
      have := hF.cell (off + j) (by omega)
      rw [hP j u hu] at this
      rw [Addr.add_lit]; exact this
theorem wp_append_q {P : Program} (w : World) {o : Oper} {a : Act} {K : Act → World → Prop} {Q : Exit → Act → World → Prop} (s x : Operand) (t : TypeId)
    (ho : o.op = .call { callee := .builtin .append, args := #[s, x], argTypes := #[t, t] })
    (e : TypeId) (i : TypeInfo) (z : Value) (bytes : Nat) (ht : P.underlying t = some (.slice e)) (hi : P.info? e = some i) (hz : i.zero = some z) (hsize : i.size = 1) (hby : i.bytes = bytes) (hzs : z.cells.size = 1)
    (v : Value) (xs : List Value) (hs : a.eval s = v) (hq : Qrow w e v xs) (ad : Addr) (c : Nat) (y : Value) (hx : a.eval x = .slice (some ad) 1 c) (hy : w.cell? ad = some y) (h1 : y.oneCell' = true)
    (hm : xs.length + 1 ≤ maxLen) (hbytes : (xs.length + 1) * bytes ≤ 140737488355328)
    (h : ∀ g off cap w', Qrow w' e (.slice (some ⟨g, off, none⟩) (xs.length + 1) cap) (xs ++ [y]) → w.grownBy w' v.ownBlock → (v.ownBlock = some g ∨ g = w.heap.size) → K (a.put o.dst (.slice (some ⟨g, off, none⟩) (xs.length + 1) cap)) w') : o.wp P a w K Q := by
  obtain ⟨g, off, cap, w', hr, h2, h3, h4⟩ := run_append_q (P := P) w t o.type e i z bytes ht hi hz hsize hby hzs v xs hq ad c y hy h1 hm hbytes
  unfold Oper.wp execOp
  simp only [ho, resolve, invoke, builtin, Sem.run_bind, Sem.run_pure, Result.andThen_ok, List.map_toArray, List.map_cons, List.map_nil, hs, hx, hr]
  exact h g off cap w' h2 h3 h4
theorem step_append_q {P : Program} (w : World) {ops : Array Oper} {o : Oper} {a : Act} {K : Act → World → Prop} {Q : Exit → Act → World → Prop} {E : Prop} (hgd : o.guard = none) (s x : Operand) (t : TypeId)
    (ho : o.op = .call { callee := .builtin .append, args := #[s, x], argTypes := #[t, t] })
    (e : TypeId) (i : TypeInfo) (z : Value) (bytes : Nat) (ht : P.underlying t = some (.slice e)) (hi : P.info? e = some i) (hz : i.zero = some z) (hsize : i.size = 1) (hby : i.bytes = bytes) (hzs : z.cells.size = 1)
    (v : Value) (xs : List Value) (hs : a.eval s = v) (hq : Qrow w e v xs) (ad : Addr) (c : Nat) (y : Value) (hx : a.eval x = .slice (some ad) 1 c) (hy : w.cell? ad = some y) (h1 : y.oneCell' = true)
    (hm : xs.length + 1 ≤ maxLen) (hbytes : (xs.length + 1) * bytes ≤ 140737488355328)
    (h : ∀ g off cap w', Qrow w' e (.slice (some ⟨g, off, none⟩) (xs.length + 1) cap) (xs ++ [y]) → w.grownBy w' v.ownBlock → (v.ownBlock = some g ∨ g = w.heap.size) → K (a.put o.dst (.slice (some ⟨g, off, none⟩) (xs.length + 1) cap)) w') :
    if Region.wanted o (yielded ops a.tmps) = true then Oper.wp P o a w K Q else E := by
  have hw : Region.wanted o (yielded ops a.tmps) = true := by simp [Region.wanted, hgd]
  rw [if_pos hw]
  exact wp_append_q w s x t ho e i z bytes ht hi hz hsize hby hzs v xs hs hq ad c y hx hy h1 hm hbytes h
def kdV (k : Bool) : Value := .int .u8 (if k = true then 1 else 0)
def slV (k : Bool) (vb ln : Nat) : Value := if k = true then .slice (some ⟨vb, 0, none⟩) ln ln else .slice none 0 0
def plcP (kd : Nat → Bool) (vb : Nat → Nat) (M : Nat → List B.V) : Nat → Value := fun j =>
  if j % 3 = 0 then kdV (kd (j / 3 + 1)) else if j % 3 = 1 then .int .i64 0 else slV (kd (j / 3 + 1)) (vb (j / 3 + 1)) (M (j / 3 + 1)).length
abbrev slots (M : Nat → List B.V) (p : Nat) : Nat → B.V := fun i => (M p).getD i (0, 0)
structure Plc (w : World) (pb n : Nat) (on : Nat → Bool) (f : Nat → Nat) (M : Nat → List B.V) : Prop where
  p : Full w pb 228 (n * 3) (n * 3) (plcP on f M)
  s : ∀ p, 1 ≤ p → p ≤ n → on p = true → Full w (f p) 149 ((M p).length * 2) ((M p).length * 2) (regP (slots M p))
  i : ∀ p q, 1 ≤ p → p ≤ n → 1 ≤ q → q ≤ n → on p = true → on q = true → f p = f q → p = q
  l : ∀ p, on p = true → (M p).length ≤ 8
theorem Plc.block {w w' : World} {pb n : Nat} {on : Nat → Bool} {f : Nat → Nat} {M : Nat → List B.V} (h : Plc w pb n on f M) (h1 : w'.heap[pb]? = w.heap[pb]?) (h2 : ∀ p, 1 ≤ p → p ≤ n → on p = true → w'.heap[f p]? = w.heap[f p]?) : Plc w' pb n on f M :=
  ⟨h.p.block h1, fun p a b c => (h.s p a b c).block (h2 p a b c), h.i, h.l⟩
def stL (st : List Nat) : List Value := st.map (fun p => .int .i64 ((p - 1 : Nat) : Int))
theorem stL_len (st : List Nat) : (stL st).length = st.length := by simp [stL]
theorem stL_app (a b : List Nat) : stL (a ++ b) = stL a ++ stL b := by simp [stL]
structure Cym (w : World) (cb rd sb n : Nat) (ad : Option Addr) (cap : Nat) (c : B.Cy) : Prop where
  b : w.heap[cb]? = some (.cells #[P0 sb, .slice (some ⟨rd, 0, none⟩) n n, .slice ad c.st.length cap, .int .i64 c.nx] 275 (0, 0))
  r : Full w rd 4 n n (fun j => .bool (c.m (j + 1)))
  q : Qrow w 3 (.slice ad c.st.length cap) (stL c.st)
def adB (ad : Option Addr) : Option Nat := ad.map (·.block)
theorem own_adB (ad : Option Addr) (n c : Nat) : (Value.slice ad n c).ownBlock = adB ad := by cases ad <;> rfl
def CyB (cb rd : Nat) (ad : Option Addr) (k : Nat) : Prop := k = cb ∨ k = rd ∨ adB ad = some k
theorem Cym.block {w w' : World} {cb rd sb n : Nat} {ad : Option Addr} {cap : Nat} {c : B.Cy} (h : Cym w cb rd sb n ad cap c) (hk : ∀ k, CyB cb rd ad k → w'.heap[k]? = w.heap[k]?) : Cym w' cb rd sb n ad cap c :=
  ⟨(hk cb (Or.inl rfl)).trans h.b, h.r.block (hk rd (Or.inr (Or.inl rfl))), h.q.block (fun k e => hk k (Or.inr (Or.inr (by rw [← own_adB ad c.st.length cap]; exact e))))⟩
theorem Cym.lt {w : World} {cb rd sb n : Nat} {ad : Option Addr} {cap : Nat} {c : B.Cy} (h : Cym w cb rd sb n ad cap c) (k : Nat) (hk : CyB cb rd ad k) : k < w.heap.size := by
  rcases hk with rfl | rfl | hk
  · exact heap_lt h.b
  · exact h.r.lt
  · exact h.q.lt k (by rw [own_adB]; exact hk)
theorem Cym.ty {w : World} {cb rd sb n : Nat} {ad : Option Addr} {cap : Nat} {c : B.Cy} (h : Cym w cb rd sb n ad cap c) (k : Nat) (hk : CyB cb rd ad k) : ∃ cur T, w.heap[k]? = some (.cells cur T (0, 0)) ∧ (T = 275 ∨ T = 4 ∨ T = 3) := by
  rcases hk with rfl | rfl | hk
  · exact ⟨_, _, h.b, Or.inl rfl⟩
  · obtain ⟨cur, h1, _⟩ := h.r; exact ⟨_, _, h1, Or.inr (Or.inl rfl)⟩
  · obtain ⟨cur, h1⟩ := h.q.ty k (by rw [own_adB]; exact hk); exact ⟨_, _, h1, Or.inr (Or.inr rfl)⟩
theorem Cym.kept {w w' : World} {cb rd sb n : Nat} {ad : Option Addr} {cap : Nat} {c : B.Cy} (h : Cym w cb rd sb n ad cap c) (hg : w.grownBy w' none) : Cym w' cb rd sb n ad cap c :=
  h.block (fun k hk => hg.block k (h.lt k hk) (by intro e; cases e))
structure Vs where
  f : Nat → Nat
  cb : Nat
  rd : Nat
  ad : Option Addr
  cap : Nat
def vs0 : Vs := ⟨fun _ => 0, 0, 0, none, 0⟩
def cyV (kd : B.Kd) (vb : Vs) : Value := if kd.cy.isSome = true then P0 vb.cb else .pointer none
structure Str (w : World) (sb pb eb n : Nat) (kd : B.Kd) (vb : Vs) (M : Nat → List B.V) : Prop where
  b : w.heap[sb]? = some (.cells #[.slice (some ⟨pb, 0, none⟩) n n, .func (.func 59) #[P0 eb] #[], cyV kd vb, .int .i64 (wrap64 (kd.un : Int)), .int .i64 (wrap64 (kd.fo : Int)), .int .i64 (wrap64 (kd.cc : Int))] 207 (0, 0))
  p : Plc w pb n kd.on vb.f M
  c : ∀ c, kd.cy = some c → Cym w vb.cb vb.rd sb n vb.ad vb.cap c
def Own (n : Nat) (kd : B.Kd) (vb : Vs) (k : Nat) : Prop := (∃ p, 1 ≤ p ∧ p ≤ n ∧ kd.on p = true ∧ vb.f p = k) ∨ (kd.cy.isSome = true ∧ CyB vb.cb vb.rd vb.ad k)
theorem Str.block {w w' : World} {sb pb eb n : Nat} {kd : B.Kd} {vb : Vs} {M : Nat → List B.V} (h : Str w sb pb eb n kd vb M) (h1 : w'.heap[sb]? = w.heap[sb]?) (h2 : w'.heap[pb]? = w.heap[pb]?) (h3 : ∀ k, Own n kd vb k → w'.heap[k]? = w.heap[k]?) : Str w' sb pb eb n kd vb M :=
  ⟨h1.trans h.b, h.p.block h2 (fun p a b c => h3 _ (Or.inl ⟨p, a, b, c, rfl⟩)), fun c hc => (h.c c hc).block (fun k hk => h3 k (Or.inr ⟨by rw [hc]; rfl, hk⟩))⟩
theorem cells_ne {w : World} {a b : Nat} {x y : Array Value} {S T : TypeId} {f g : Nat × Nat} (h1 : w.heap[a]? = some (.cells x S f)) (h2 : w.heap[b]? = some (.cells y T g)) (h : S ≠ T) : a ≠ b := by
  rintro rfl
  rw [h1] at h2; injection h2 with h2; injection h2 with _ h2 _; exact h h2
set_option maxRecDepth 100000 in
theorem cellOf_none (sb : Nat) (x : Int) (w : World) : Calls Tryz.prog 202 #[P0 sb, vA (0, x)] w fun e w' => e = .returned (.agg #[.int .u8 0, .int .i64 0, .slice none 0 0]) ∧ w.grownBy w' none := by
  have hi := isCell_any (0, x)
  simp only [ne_eq, not_true, decide_false] at hi
  have HI := hid hi
  clear hi
  go_enter Tryz.func202, Tryz.ntmps202
  go_wp2_with fail
  refine (HI.out _).mono ?_
  rintro e w1 ⟨rfl, hg⟩
  have hz := hg.size
  simp at hz
  have hx : w1.heap[w.heap.size + 1]? = some (.cells #[.int .u8 0, .int .i64 0, .slice none 0 0] 228 (0, 0)) := by
    refine (hg.block _ (by simp) (by intro e; cases e)).trans ?_
    have := heap_alloc_new (w.alloc (.cells #[.int .i64 ((0 : Nat) : Int), .int .i64 x] 149)) (.cells #[.int .u8 0, .int .i64 0, .slice none 0 0] 228)
    simpa using this
  have KG := hid (grown_trans (grown_alloc (World.grownBy_alloc w _ none) _) hg)
  have r0 : w1.cell? ⟨w.heap.size + 1, 0, none⟩ = some (.int .u8 0) := by simp [World.cell?, hx]
  have r1 : w1.cell? ⟨w.heap.size + 1, 1, none⟩ = some (.int .i64 0) := by simp [World.cell?, hx]
  have r2 : w1.cell? ⟨w.heap.size + 1, 2, none⟩ = some (.slice none 0 0) := by simp [World.cell?, hx]
  have t0 : w1.frozen? ⟨w.heap.size + 1, 0, none⟩ = false := by simp [World.frozen?, hx]
  have t1 : w1.frozen? ⟨w.heap.size + 1, 1, none⟩ = false := by simp [World.frozen?, hx]
  have t2 : w1.frozen? ⟨w.heap.size + 1, 2, none⟩ = false := by simp [World.frozen?, hx]
  have lx := heap_lt hx
  clear hg hx hz
  go_wp2_with fail
  refine bodyPost_ret (v := .agg #[.int .u8 0, .int .i64 0, .slice none 0 0]) (by simp [results, Tryz.results202, go_sem, r0, r1, r2]) rfl ⟨rfl, ?_⟩
  repeat (first | exact KG.out | refine grown_drew ?_ | refine grown_alloc ?_ _ | refine grown_setCell ?_ (Or.inr (by simp)) _)
end Go.Proofs.YtnjiinbhbjpfkaaGreatDoor
namespace Go.Proofs.YtnjiinbhbjpfkaaGreatDoor.F
open Go.RowKit
structure Fb where
  b : Nat → Nat
  k : Nat → Nat
def kdN (k : Bool) (t : Nat) : Nat := if k = true then (if t = 0 then 1 else 2) else 0
def kdV (k : Bool) (t : Nat) : Value := .int .u8 (kdN k t)
def fnN (k : Bool) (t : Nat) : Nat := if k = true then t - 1 else 0
def plcP (kd : Nat → Bool) (vb : Fb) (M : Nat → List B.V) : Nat → Value := fun j =>
  if j % 3 = 0 then kdV (kd (j / 3 + 1)) (vb.k (j / 3 + 1)) else if j % 3 = 1 then .int .i64 (fnN (kd (j / 3 + 1)) (vb.k (j / 3 + 1)) : Nat) else slV (kd (j / 3 + 1)) (vb.b (j / 3 + 1)) (M (j / 3 + 1)).length
theorem plc_0 (kd : Nat → Bool) (vb : Fb) (M : Nat → List B.V) (k : Nat) : plcP kd vb M (k * 3) = kdV (kd (k + 1)) (vb.k (k + 1)) := by
  unfold plcP; rw [if_pos (by omega), show k * 3 / 3 = k by omega]
theorem plc_1 (kd : Nat → Bool) (vb : Fb) (M : Nat → List B.V) (k : Nat) : plcP kd vb M (k * 3 + 1) = .int .i64 (fnN (kd (k + 1)) (vb.k (k + 1)) : Nat) := by
  unfold plcP; rw [if_neg (by omega), if_pos (by omega), show (k * 3 + 1) / 3 = k by omega]
theorem plc_2 (kd : Nat → Bool) (vb : Fb) (M : Nat → List B.V) (k : Nat) : plcP kd vb M (k * 3 + 2) = slV (kd (k + 1)) (vb.b (k + 1)) (M (k + 1)).length := by
  unfold plcP; rw [if_neg (by omega), if_neg (by omega), show (k * 3 + 2) / 3 = k by omega]
structure Plc (w : World) (pb n : Nat) (on : Nat → Bool) (f : Fb) (M : Nat → List B.V) : Prop where
  p : Full w pb 228 (n * 3) (n * 3) (plcP on f M)
  s : ∀ p, 1 ≤ p → p ≤ n → on p = true → Full w (f.b p) 149 ((M p).length * 2) ((M p).length * 2) (regP (slots M p))
  i : ∀ p q, 1 ≤ p → p ≤ n → 1 ≤ q → q ≤ n → on p = true → on q = true → f.b p = f.b q → p = q
  l : ∀ p, on p = true → (M p).length ≤ 8
  k : ∀ p, on p = true → f.k p ≠ 0 → (M p).length = 1
theorem Plc.block {w w' : World} {pb n : Nat} {on : Nat → Bool} {f : Fb} {M : Nat → List B.V} (h : Plc w pb n on f M) (h1 : w'.heap[pb]? = w.heap[pb]?) (h2 : ∀ p, 1 ≤ p → p ≤ n → on p = true → w'.heap[f.b p]? = w.heap[f.b p]?) : Plc w' pb n on f M :=
  ⟨h.p.block h1, fun p a b c => (h.s p a b c).block (h2 p a b c), h.i, h.l, h.k⟩
theorem Plc.kept {w w' : World} {pb n : Nat} {on : Nat → Bool} {f : Fb} {M : Nat → List B.V} (h : Plc w pb n on f M) (hg : w.grownBy w' none) : Plc w' pb n on f M :=
  h.block (hg.block pb h.p.lt (by intro e; cases e)) (fun p a b c => hg.block _ (h.s p a b c).lt (by intro e; cases e))
structure Vs where
  f : Fb
  cb : Nat
  rd : Nat
  ad : Option Addr
  cap : Nat
def vs0 : Vs := ⟨⟨fun _ => 0, fun _ => 0⟩, 0, 0, none, 0⟩
def cyV (kd : B.Kd) (vb : Vs) : Value := if kd.cy.isSome = true then P0 vb.cb else .pointer none
structure Str (w : World) (sb pb eb n : Nat) (kd : B.Kd) (vb : Vs) (M : Nat → List B.V) : Prop where
  b : w.heap[sb]? = some (.cells #[.slice (some ⟨pb, 0, none⟩) n n, .func (.func 59) #[P0 eb] #[], cyV kd vb, .int .i64 (wrap64 (kd.un : Int)), .int .i64 (wrap64 (kd.fo : Int)), .int .i64 (wrap64 (kd.cc : Int))] 207 (0, 0))
  p : Plc w pb n kd.on vb.f M
  c : ∀ c, kd.cy = some c → Cym w vb.cb vb.rd sb n vb.ad vb.cap c
def Own (n : Nat) (kd : B.Kd) (vb : Vs) (k : Nat) : Prop := (∃ p, 1 ≤ p ∧ p ≤ n ∧ kd.on p = true ∧ vb.f.b p = k) ∨ (kd.cy.isSome = true ∧ CyB vb.cb vb.rd vb.ad k)
theorem Str.block {w w' : World} {sb pb eb n : Nat} {kd : B.Kd} {vb : Vs} {M : Nat → List B.V} (h : Str w sb pb eb n kd vb M) (h1 : w'.heap[sb]? = w.heap[sb]?) (h2 : w'.heap[pb]? = w.heap[pb]?) (h3 : ∀ k, Own n kd vb k → w'.heap[k]? = w.heap[k]?) : Str w' sb pb eb n kd vb M :=
  ⟨h1.trans h.b, h.p.block h2 (fun p a b c => h3 _ (Or.inl ⟨p, a, b, c, rfl⟩)), fun c hc => (h.c c hc).block (fun k hk => h3 k (Or.inr ⟨by rw [hc]; rfl, hk⟩))⟩
theorem Str.lt {w : World} {sb pb eb n : Nat} {kd : B.Kd} {vb : Vs} {M : Nat → List B.V} (h : Str w sb pb eb n kd vb M) (k : Nat) (hk : Own n kd vb k) : k < w.heap.size := by
  rcases hk with ⟨p, a, b, c, rfl⟩ | ⟨hc, hk⟩
  · exact (h.p.s p a b c).lt
  · obtain ⟨c, hc⟩ := Option.isSome_iff_exists.1 hc
    exact (h.c c hc).lt k hk
theorem Str.kept {w w' : World} {sb pb eb n : Nat} {kd : B.Kd} {vb : Vs} {M : Nat → List B.V} (h : Str w sb pb eb n kd vb M) (hg : w.grownBy w' none) : Str w' sb pb eb n kd vb M :=
  h.block (hg.block sb (heap_lt h.b) (by intro e; cases e)) (hg.block pb h.p.p.lt (by intro e; cases e)) (fun k hk => hg.block k (h.lt k hk) (by intro e; cases e))
theorem Str.ty {w : World} {sb pb eb n : Nat} {kd : B.Kd} {vb : Vs} {M : Nat → List B.V} (h : Str w sb pb eb n kd vb M) (k : Nat) (hk : Own n kd vb k) : ∃ cur T, w.heap[k]? = some (.cells cur T (0, 0)) ∧ (T = 149 ∨ T = 275 ∨ T = 4 ∨ T = 3) := by
  rcases hk with ⟨p, a, b, c, rfl⟩ | ⟨hc, hk⟩
  · obtain ⟨cur, h1, _⟩ := h.p.s p a b c; exact ⟨_, _, h1, Or.inl rfl⟩
  · obtain ⟨c, hc⟩ := Option.isSome_iff_exists.1 hc
    obtain ⟨cur, T, h1, h2⟩ := (h.c c hc).ty k hk
    exact ⟨cur, T, h1, Or.inr h2⟩
theorem kdN_no (k : Bool) (t : Nat) : ((kdN k t : Int) == 0) = !k := by
  unfold kdN
  cases k
  · rfl
  · by_cases h : t = 0
    · simp [h]
    · simp [h]
set_option maxRecDepth 100000 in
theorem isFree_any (k : Bool) (t : Nat) (c1 : Int) (v : Value) (w : World) : Calls Tryz.prog 140 #[.agg #[kdV k t, .int .i64 c1, v]] w fun e w' => e = .returned (.bool (!k)) ∧ w.grownBy w' none := by
  have h := kdN_no k t
  show Calls Tryz.prog 140 #[.agg #[.int .u8 (kdN k t : Nat), .int .i64 c1, v]] w _
  generalize kdN k t = y at *
  rw [← h]
  clear h
  go_enter Tryz.func140, Tryz.ntmps140
  go_wp2_with fail
  go_ret
  exact ⟨rfl, World.grownBy_alloc _ _ _⟩
end Go.Proofs.YtnjiinbhbjpfkaaGreatDoor.F
