/-
  The machine's parts one by one; a line and a task change.
-/
import Derived.Test.YtnjiinbhbjpfkaaGreatDoorGateF
namespace Go.Proofs.YtnjiinbhbjpfkaaGreatDoor.F
open Go.RowKit
def rowx (x : Nat) : Prop := 2 ≤ x ∧ x ≤ 12 ∧ x ≠ 11
theorem vld_t {s : Pl} {x t : Nat} (hx : x = 5 ∨ x = 11 ∨ x = 12 ∨ x = 15 ∨ x = 16) (ht : isT s t) : vld s x t 0 = true := by
  unfold vld
  rw [if_neg (by omega), if_neg (by omega), if_pos hx]
  simp [ht.1, ht.2]
theorem vld_0 {s : Pl} {x : Nat} (hx : x ≤ 1 ∨ x = 2 ∨ x = 3 ∨ (6 ≤ x ∧ x ≤ 9) ∨ x = 18) : vld s x 0 0 = true := by
  unfold vld
  rw [if_pos hx]; rfl
theorem vld_4 {s : Pl} {x k : Nat} (hx : x = 4 ∨ x = 10) (hk : k < 4) : vld s x k 0 = true := by
  unfold vld
  rw [if_neg (by omega), if_pos hx]; simp [hk]
theorem vld_f {s : Pl} {x t i : Nat} (hx : x = 13 ∨ x = 14) (ht : isT s t) (hi : i < (s.T t).fr.length) : vld s x t i = true := by
  unfold vld
  rw [if_neg (by omega), if_neg (by omega), if_neg (by omega), if_neg (by omega), if_pos hx]
  simp [ht.1, ht.2, hi]
theorem vld_17 {s : Pl} {t : Nat} (ht : isT s t) (hl : (s.T t).lf.isSome = true) : vld s 17 t 0 = true := by
  unfold vld
  rw [if_neg (by omega), if_neg (by omega), if_neg (by omega), if_pos rfl]
  simp [ht.1, ht.2, hl]
theorem ob_v {p : Prm} {s : Pl} {g : Geo} {x y z : Nat} (h : vld s x y z = true) : ob p s g x y z = obk p s g x y z := if_pos h
theorem ob_n {p : Prm} {s : Pl} {g : Geo} {x y z : Nat} (h : ¬ vld s x y z = true) : ob p s g x y z = .nil := if_neg h
theorem obk_row {p : Prm} {s : Pl} {g : Geo} {x y z : Nat} (hx : rowx x) : obk p s g x y z = .row (rty x) (rsz x) (g.ro x y).1 (rlen s x y) (g.ro x y).2 (rcon s g x y) := by
  obtain ⟨h1, h2, h3⟩ := hx
  unfold obk
  rw [if_neg (by omega), if_neg (by omega), if_neg (by omega), if_neg (by omega), if_neg (by omega), if_neg (by omega), if_neg (by omega), if_neg (by omega), if_neg (by omega)]
theorem obk_out {p : Prm} {s : Pl} {g : Geo} {x y z : Nat} (hx : 18 < x) : ob p s g x y z = .nil := by
  refine ob_n ?_
  unfold vld
  rw [if_neg (by omega), if_neg (by omega), if_neg (by omega), if_neg (by omega), if_neg (by omega)]
  simp
section
variable {p : Prm} {s : Pl} {g : Geo} {w : World} (h : Rep p s g w)
include h
theorem Rep.E : Full w p.eb 144 44 44 (engE p s g) := h.o 0 0 0
theorem Rep.S : Str w p.sb p.pb p.eb p.n s.kd (vsOf s g) s.M := h.o 1 0 0
theorem Rep.X : ∀ k, p.fx k → k < w.heap.size ∧ w.heap[k]? = p.fc k := h.o 18 0 0
theorem Rep.row {x y : Nat} (hx : rowx x) (hv : vld s x y 0 = true) : w.ownsRow 0 (rty x) (rsz x) (sl s g x y) (rlen s x y) (rcon s g x y) := by
  have := h.o x y 0
  rw [ob_v hv, obk_row hx] at this
  exact this
theorem Rep.tk {t : Nat} (ht : isT s t) : Full w (g.tb t) 160 7 7 (tskE p s g t) := by
  have := h.o 11 t 0
  rw [ob_v (vld_t (by omega) ht)] at this
  exact this
theorem Rep.fr {t i : Nat} (ht : isT s t) (hi : i < (s.T t).fr.length) : w.heap[g.fb t i]? = some (frO p g t i (frAt s t i)) := by
  have := h.o 13 t i
  rw [ob_v (vld_f (by omega) ht hi)] at this
  exact this
theorem Rep.rg {t i : Nat} (ht : isT s t) (hi : i < (s.T t).fr.length) : Full w (g.rb t i) 149 (p.rg (frAt s t i).f * 2) (p.rg (frAt s t i).f * 2) (regP (frAt s t i).R) := by
  have := h.o 14 t i
  rw [ob_v (vld_f (by omega) ht hi)] at this
  exact this
theorem Rep.xe {t : Nat} (ht : isT s t) : w.heap[g.xe t]? = some (.cells #[P0 p.eb] 95 (0, 0)) := by
  have := h.o 15 t 0
  rw [ob_v (vld_t (by omega) ht)] at this
  exact this
theorem Rep.xt {t : Nat} (ht : isT s t) : w.heap[g.xt t]? = some (.cells #[P0 (g.tb t)] 155 (0, 0)) := by
  have := h.o 16 t 0
  rw [ob_v (vld_t (by omega) ht)] at this
  exact this
theorem Rep.sx {t : Nat} (ht : isT s t) {k : Nat × Nat × Nat × Nat} (hl : (s.T t).lf = some k) : w.heap[g.sx t]? = some (stpB k.1 k.2.1 k.2.2.1 k.2.2.2 (g.fb t ((s.T t).fr.length - 1)) (g.tb t) p.eb) := by
  have := h.o 17 t 0
  rw [ob_v (vld_17 ht (by rw [hl]; rfl))] at this
  have h2 : w.heap[g.sx t]? = some (sxO p s g t) := this
  unfold sxO at h2
  rw [hl] at h2
  exact h2
theorem Rep.ne {x y z x' y' z' k k' : Nat} (hk : (ob p s g x y z).bs k) (hk' : (ob p s g x' y' z').bs k') (hn : ¬ (x = x' ∧ y = y' ∧ z = z')) : k ≠ k' := by
  rintro rfl
  exact hn (h.i _ _ _ _ _ _ k hk hk')
theorem Rep.tb_inj {t u : Nat} (ht : isT s t) (hu : isT s u) (he : g.tb t = g.tb u) : t = u := by
  have a : (ob p s g 11 t 0).bs (g.tb t) := by rw [ob_v (vld_t (by omega) ht)]; exact rfl
  have b : (ob p s g 11 u 0).bs (g.tb t) := by rw [ob_v (vld_t (by omega) hu)]; exact he
  exact (h.i _ _ _ _ _ _ _ a b).2.1
end
theorem bs_tk (p : Prm) {s : Pl} (g : Geo) {t : Nat} (ht : isT s t) (k : Nat) : (ob p s g 11 t 0).bs k = (k = g.tb t) := by rw [ob_v (vld_t (by omega) ht)]; rfl
theorem bs_row (p : Prm) {s : Pl} (g : Geo) {x y : Nat} (hx : rowx x) (hv : vld s x y 0 = true) (k : Nat) : (ob p s g x y 0).bs k = (adB (g.ro x y).1 = some k) := by rw [ob_v hv, obk_row hx]; rfl
theorem vld_le {s : Pl} {x y z : Nat} (h : vld s x y z = true) : x ≤ 18 := by
  rcases Nat.lt_or_ge 18 x with h1 | h1
  · have hf : vld s x y z = false := by
      unfold vld
      rw [if_neg (by omega), if_neg (by omega), if_neg (by omega), if_neg (by omega), if_neg (by omega)]
    rw [hf] at h; cases h
  · exact h1
theorem vld_i0 {s : Pl} {x y z : Nat} (h : vld s x y z = true) (hx : x ≤ 1 ∨ x = 2 ∨ x = 3 ∨ (6 ≤ x ∧ x ≤ 9) ∨ x = 18) : y = 0 ∧ z = 0 := by
  unfold vld at h
  rw [if_pos hx] at h
  simpa using h
theorem vld_it {s : Pl} {x y z : Nat} (h : vld s x y z = true) (hx : x = 5 ∨ x = 11 ∨ x = 12 ∨ x = 15 ∨ x = 16) : isT s y ∧ z = 0 := by
  unfold vld at h
  rw [if_neg (by omega), if_neg (by omega), if_pos hx] at h
  have := of_decide_eq_true h
  exact ⟨⟨this.1, this.2.1⟩, this.2.2⟩
theorem vld_i4 {s : Pl} {x y z : Nat} (h : vld s x y z = true) (hx : x = 4 ∨ x = 10) : y < 4 ∧ z = 0 := by
  unfold vld at h
  rw [if_neg (by omega), if_pos hx] at h
  exact of_decide_eq_true h
theorem vld_i17 {s : Pl} {y z : Nat} (h : vld s 17 y z = true) : isT s y ∧ z = 0 ∧ (s.T y).lf.isSome = true := by
  unfold vld at h
  rw [if_neg (by omega), if_neg (by omega), if_neg (by omega), if_pos rfl, Bool.and_eq_true] at h
  have := of_decide_eq_true h.1
  exact ⟨⟨this.1, this.2.1⟩, this.2.2, h.2⟩
theorem vld_if {s : Pl} {x y z : Nat} (h : vld s x y z = true) (hx : x = 13 ∨ x = 14) : isT s y ∧ z < (s.T y).fr.length := by
  unfold vld at h
  rw [if_neg (by omega), if_neg (by omega), if_neg (by omega), if_neg (by omega), if_pos hx] at h
  have := of_decide_eq_true h
  exact ⟨⟨this.1, this.2.1⟩, this.2.2⟩
theorem vld_ir {s : Pl} {x y z : Nat} (h : vld s x y z = true) (hx : rowx x) : z = 0 := by
  obtain ⟨h1, h2, h3⟩ := hx
  by_cases a : x = 4 ∨ x = 10
  · exact (vld_i4 h a).2
  · by_cases b : x = 5 ∨ x = 12
    · exact (vld_it h (by omega)).2
    · exact (vld_i0 h (by omega)).2
theorem vld_eq {s s' : Pl} {x y z : Nat} (hn : s'.nt = s.nt) (hf : (s'.T y).fr.length = (s.T y).fr.length) (hl : x = 17 → z = 0 → (s'.T y).lf.isSome = (s.T y).lf.isSome) : vld s' x y z = vld s x y z := by
  unfold vld
  rw [hn, hf]
  by_cases h : x = 17
  · by_cases hz : z = 0
    · rw [hl h hz]
    · have : ¬ (1 ≤ y ∧ y ≤ s.nt ∧ z = 0) := fun e => hz e.2.2
      simp [this]
  · simp [h]
theorem ob_eq {p : Prm} {s s' : Pl} {g g' : Geo} {x y z : Nat} (hv : vld s' x y z = vld s x y z) (hk : vld s x y z = true → obk p s' g' x y z = obk p s g x y z) : ob p s' g' x y z = ob p s g x y z := by
  unfold ob
  rw [hv]
  by_cases hV : vld s x y z = true
  · rw [if_pos hV, if_pos hV, hk hV]
  · rw [if_neg hV, if_neg hV]
theorem obk_eq {p : Prm} {s s' : Pl} {g g' : Geo} {x y z : Nat} (hV : vld s x y z = true)
    (h0 : x = 0 → engE p s' g' = engE p s g) (h1 : x = 1 → s'.kd = s.kd ∧ vsOf s' g' = vsOf s g ∧ s'.M = s.M) (h11 : x = 11 → g'.tb y = g.tb y ∧ tskE p s' g' y = tskE p s g y)
    (h13 : x = 13 → g'.fb y z = g.fb y z ∧ frO p g' y z (frAt s' y z) = frO p g y z (frAt s y z)) (h14 : x = 14 → g'.rb y z = g.rb y z ∧ frAt s' y z = frAt s y z)
    (h15 : x = 15 → g'.xe y = g.xe y) (h16 : x = 16 → g'.xt y = g.xt y ∧ g'.tb y = g.tb y) (h17 : x = 17 → g'.sx y = g.sx y ∧ sxO p s' g' y = sxO p s g y)
    (hr : rowx x → g'.ro x y = g.ro x y ∧ rlen s' x y = rlen s x y ∧ rcon s' g' x y = rcon s g x y) : obk p s' g' x y z = obk p s g x y z := by
  have hle := vld_le hV
  by_cases hx : rowx x
  · obtain ⟨a, b, c⟩ := hr hx
    rw [obk_row hx, obk_row hx, a, b, c]
  · have hc : x = 0 ∨ x = 1 ∨ x = 11 ∨ x = 13 ∨ x = 14 ∨ x = 15 ∨ x = 16 ∨ x = 17 ∨ x = 18 := by unfold rowx at hx; omega
    rcases hc with rfl | rfl | rfl | rfl | rfl | rfl | rfl | rfl | rfl
    · show Ob.full p.eb 144 44 (engE p s' g') = Ob.full p.eb 144 44 (engE p s g)
      rw [h0 rfl]
    · obtain ⟨a, b, c⟩ := h1 rfl
      show Ob.str p.sb p.pb p.eb p.n s'.kd (vsOf s' g') s'.M = Ob.str p.sb p.pb p.eb p.n s.kd (vsOf s g) s.M
      rw [a, b, c]
    · obtain ⟨a, b⟩ := h11 rfl
      show Ob.full (g'.tb y) 160 7 (tskE p s' g' y) = Ob.full (g.tb y) 160 7 (tskE p s g y)
      rw [a, b]
    · obtain ⟨a, b⟩ := h13 rfl
      show Ob.one (g'.fb y z) (frO p g' y z (frAt s' y z)) = Ob.one (g.fb y z) (frO p g y z (frAt s y z))
      rw [a, b]
    · obtain ⟨a, b⟩ := h14 rfl
      show Ob.full (g'.rb y z) 149 (p.rg (frAt s' y z).f * 2) (regP (frAt s' y z).R) = Ob.full (g.rb y z) 149 (p.rg (frAt s y z).f * 2) (regP (frAt s y z).R)
      rw [a, b]
    · show Ob.one (g'.xe y) _ = Ob.one (g.xe y) _
      rw [h15 rfl]
    · obtain ⟨a, b⟩ := h16 rfl
      show Ob.one (g'.xt y) (.cells #[P0 (g'.tb y)] 155 (0, 0)) = Ob.one (g.xt y) (.cells #[P0 (g.tb y)] 155 (0, 0))
      rw [a, b]
    · obtain ⟨a, b⟩ := h17 rfl
      show Ob.one (g'.sx y) (sxO p s' g' y) = Ob.one (g.sx y) (sxO p s g y)
      rw [a, b]
    · rfl
def engJ (v : Nat × Nat) : Nat := if v.1 = 6 then 29 else if v.1 = 7 then 30 else if v.1 = 8 then 31 else if v.1 = 2 then 32 else if v.1 = 3 then 33 else if v.1 = 9 then 43 else if v.1 = 10 then 34 + 2 * v.2 else 35 + 2 * v.2
theorem engJ_I (j : Nat) (h1 : j < 44) (h3 : 29 ≤ j) (h4 : j ≠ 42) : engJ (engI j) = j := by
  unfold engI
  split
  · subst j; rfl
  · split
    · subst j; rfl
    · split
      · subst j; rfl
      · split
        · subst j; rfl
        · split
          · subst j; rfl
          · split
            · subst j; rfl
            · split
              · show 34 + 2 * ((j - 34) / 2) = j
                omega
              · show 35 + 2 * ((j - 34) / 2) = j
                omega
theorem engI_inj (j : Nat) (h1 : j < 44) (j' : Nat) (h2 : j' < 44) (h3 : 29 ≤ j) (h4 : j ≠ 42) (h5 : 29 ≤ j') (h6 : j' ≠ 42) (h : engI j = engI j') : j = j' := by
  rw [← engJ_I j h1 h3 h4, h, engJ_I j' h2 h5 h6]
theorem engI_not (j : Nat) : rowx (engI j).1 ∧ (engI j).1 ≠ 5 ∧ (engI j).1 ≠ 12 ∧ ((engI j).1 = 4 ∨ (engI j).1 = 10 ∨ (engI j).2 = 0) := by
  unfold engI rowx
  refine ⟨⟨?_, ?_, ?_⟩, ?_, ?_, ?_⟩ <;> (repeat' split) <;> simp
theorem engE_row {p : Prm} {s s' : Pl} {g g' : Geo} {x y j0 : Nat} (h0 : engI j0 = (x, y)) (hj0 : 29 ≤ j0 ∧ j0 < 44 ∧ j0 ≠ 42) (hs : ∀ a b, ¬ (a = x ∧ b = y) → rowx a → a ≠ 5 → a ≠ 12 → (a = 4 ∨ a = 10 ∨ b = 0) → sl s' g' a b = sl s g a b) (hc : s'.clk = s.clk) (hp : s'.sp = s.sp) (j : Nat) (hj : j < 44) :
    upd (engE p s g) j0 (sl s' g' x y) j = engE p s' g' j := by
  by_cases e : j = j0
  · subst e
    rw [upd_at]
    unfold engE
    rw [if_neg (by omega), if_neg (by omega), if_neg (by omega), h0]
  · rw [upd_off _ _ _ _ e]
    unfold engE
    by_cases e1 : j < 28
    · rw [if_pos e1, if_pos e1]
    · rw [if_neg e1, if_neg e1]
      by_cases e2 : j = 28
      · rw [if_pos e2, if_pos e2, hc]
      · rw [if_neg e2, if_neg e2]
        by_cases e3 : j = 42
        · rw [if_pos e3, if_pos e3, hp]
        · rw [if_neg e3, if_neg e3]
          have hn := engI_not j
          exact (hs _ _ (fun hh => e (engI_inj j hj j0 hj0.2.1 (by omega) e3 hj0.1 hj0.2.2 (by rw [h0]; exact Prod.ext hh.1 hh.2))) hn.1 hn.2.1 hn.2.2.1 hn.2.2.2).symm
theorem engE_same {p : Prm} {s s' : Pl} {g g' : Geo} (hs : ∀ a b, rowx a → a ≠ 5 → a ≠ 12 → (a = 4 ∨ a = 10 ∨ b = 0) → sl s' g' a b = sl s g a b) (hc : s'.clk = s.clk) (hp : s'.sp = s.sp) : engE p s' g' = engE p s g := by
  funext j
  have hn := engI_not j
  unfold engE
  rw [hc, hp, hs _ _ hn.1 hn.2.1 hn.2.2.1 hn.2.2.2]
def lnok (s : Pl) (x y : Nat) : Prop := (x = 2 ∧ y = 0) ∨ (x = 3 ∧ y = 0) ∨ (x = 4 ∧ y < 4) ∨ (x = 5 ∧ isT s y)
def lnT (x : Nat) : TypeId := if x = 5 then 160 else 144
def lnN (x : Nat) : Nat := if x = 5 then 7 else 44
def lnE (p : Prm) (s : Pl) (g : Geo) (x y : Nat) : Nat → Value := if x = 5 then tskE p s g y else engE p s g
theorem lnok_le {s : Pl} {x y : Nat} (h : lnok s x y) : 2 ≤ x ∧ x ≤ 5 := by
  rcases h with ⟨rfl, rfl⟩ | ⟨rfl, rfl⟩ | ⟨rfl, h⟩ | ⟨rfl, h⟩ <;> omega
theorem lnok_t {s : Pl} {x y : Nat} (h : lnok s x y) (h5 : x = 5) : isT s y := by
  rcases h with ⟨rfl, rfl⟩ | ⟨rfl, rfl⟩ | ⟨rfl, h⟩ | ⟨rfl, h⟩
  · cases h5
  · cases h5
  · cases h5
  · exact h
theorem lnok_row {s : Pl} {x y : Nat} (h : lnok s x y) : rowx x := by have := lnok_le h; unfold rowx; omega
theorem lnok_v {s : Pl} {x y : Nat} (h : lnok s x y) : vld s x y 0 = true := by
  rcases h with ⟨rfl, rfl⟩ | ⟨rfl, rfl⟩ | ⟨rfl, h⟩ | ⟨rfl, h⟩
  · exact vld_0 (by omega)
  · exact vld_0 (by omega)
  · exact vld_4 (by omega) h
  · exact vld_t (by omega) h
theorem lnok_rty {s : Pl} {x y : Nat} (h : lnok s x y) : rty x = 155 ∧ rsz x = 1 := by
  unfold rty rsz
  rcases h with ⟨rfl, rfl⟩ | ⟨rfl, rfl⟩ | ⟨rfl, h⟩ | ⟨rfl, h⟩ <;> exact ⟨rfl, rfl⟩
theorem lnok_len {s : Pl} (s' : Pl) {x y : Nat} (h : lnok s x y) : rlen s' x y = (s'.q x y).length := by
  unfold rlen
  have := lnok_le h
  rw [if_neg (by omega), if_neg (by omega), if_neg (by omega), if_neg (by omega), if_neg (by omega), if_neg (by omega)]
theorem lnok_con {s : Pl} (s' : Pl) (g : Geo) {x y : Nat} (h : lnok s x y) : rcon s' g x y = ((s'.q x y).map g.tb).map P0 := by
  unfold rcon
  have := lnok_le h
  rw [if_neg (by omega), if_neg (by omega), if_neg (by omega), if_neg (by omega), if_neg (by omega), if_neg (by omega)]
theorem lnok_eng {s : Pl} {x y : Nat} (h : lnok s x y) (h5 : x ≠ 5) : engI (lnO x y) = (x, y) ∧ 29 ≤ lnO x y ∧ lnO x y < 44 ∧ lnO x y ≠ 42 := by
  rcases h with ⟨rfl, rfl⟩ | ⟨rfl, rfl⟩ | ⟨rfl, h⟩ | ⟨rfl, h⟩
  · decide
  · decide
  · have : y = 0 ∨ y = 1 ∨ y = 2 ∨ y = 3 := by omega
    rcases this with rfl | rfl | rfl | rfl <;> decide
  · exact absurd rfl h5
theorem Rep.ln {p : Prm} {s : Pl} {g : Geo} {w : World} (h : Rep p s g w) {x y : Nat} (hl : lnok s x y) (hn : (s.q x y).length ≤ 1000000000) :
    Ln w (lnB p g x y) (lnO x y) (lnT x) (lnN x) (lnE p s g x y) (g.ro x y).1 (s.q x y).length (g.ro x y).2 ((s.q x y).map g.tb) := by
  have hr := h.row (lnok_row hl) (lnok_v hl)
  unfold sl at hr
  rw [(lnok_rty hl).1, (lnok_rty hl).2, lnok_len s hl, lnok_con s g hl] at hr
  unfold lnB lnT lnN lnE
  by_cases h5 : x = 5
  · rw [if_pos h5, if_pos h5, if_pos h5, if_pos h5]
    subst h5
    have ht : isT s y := lnok_t hl rfl
    refine ⟨h.tk ht, by show 6 < 7; decide, ?_, hr, hn⟩
    show sl s g 5 y = _
    unfold sl
    rw [lnok_len s hl]
  · rw [if_neg h5, if_neg h5, if_neg h5, if_neg h5]
    obtain ⟨a, b, c, d⟩ := lnok_eng hl h5
    refine ⟨h.E, by omega, ?_, hr, hn⟩
    unfold engE
    rw [if_neg (by omega), if_neg (by omega), if_neg (by omega), a]
    unfold sl
    rw [lnok_len s hl]
def Pl.setT (s : Pl) (t : Nat) (v : Tsk) : Pl := { s with T := fun i => if i = t then v else s.T i }
def Pl.setQ (s : Pl) (x y : Nat) (l : List Nat) : Pl := { s with q := fun a b => if a = x ∧ b = y then l else s.q a b }
def Geo.at (g : Geo) (x y : Nat) (r : Option Addr × Nat) : Geo := { g with ro := fun a b => if a = x ∧ b = y then r else g.ro a b }
theorem setT_at (s : Pl) (t : Nat) (v : Tsk) : (s.setT t v).T t = v := if_pos rfl
theorem setT_off (s : Pl) {t u : Nat} (v : Tsk) (h : u ≠ t) : (s.setT t v).T u = s.T u := if_neg h
theorem setQ_at (s : Pl) (x y : Nat) (l : List Nat) : (s.setQ x y l).q x y = l := if_pos ⟨rfl, rfl⟩
theorem setQ_off (s : Pl) {x y a b : Nat} (l : List Nat) (h : ¬ (a = x ∧ b = y)) : (s.setQ x y l).q a b = s.q a b := if_neg h
theorem at_at (g : Geo) (x y : Nat) (r : Option Addr × Nat) : (g.at x y r).ro x y = r := if_pos ⟨rfl, rfl⟩
theorem at_off (g : Geo) {x y a b : Nat} (r : Option Addr × Nat) (h : ¬ (a = x ∧ b = y)) : (g.at x y r).ro a b = g.ro a b := if_neg h
theorem rlen_eq {s s' : Pl} {x y : Nat} (h1 : s'.lv = s.lv) (h2 : s'.out = s.out) (h3 : s'.kp = s.kp) (h4 : s'.ev = s.ev) (h5 : s'.byt = s.byt) (h6 : (s'.T y).fr.length = (s.T y).fr.length) (h7 : s'.q x y = s.q x y) : rlen s' x y = rlen s x y := by
  unfold rlen; rw [h1, h2, h3, h4, h5, h6, h7]
theorem rcon_eq {s s' : Pl} {g g' : Geo} {x y : Nat} (ht : g'.tb = g.tb) (hf : g'.fb = g.fb) (h1 : s'.lv = s.lv) (h2 : s'.out = s.out) (h3 : s'.kp = s.kp) (h4 : s'.ev = s.ev) (h5 : s'.byt = s.byt) (h6 : (s'.T y).fr.length = (s.T y).fr.length) (h7 : s'.q x y = s.q x y) : rcon s' g' x y = rcon s g x y := by
  unfold rcon; rw [h1, h2, h3, h4, h5, h6, h7, ht, hf]
theorem Rep.line {p : Prm} {s : Pl} {g : Geo} {w w' : World} {x y t : Nat} {l : List Nat} {v : Tsk} {r : Option Addr × Nat} (h : Rep p s g w) (hl : lnok s x y) (ht : isT s t) (hfr : v.fr = (s.T t).fr) (hlf : v.lf = none ∨ v.lf = (s.T t).lf) (hxt : ¬ (x = 5 ∧ y = t))
    (hH : Full w' (lnB p g x y) (lnT x) (lnN x) (lnN x) (upd (lnE p s g x y) (lnO x y) (.slice r.1 l.length r.2))) (hR : w'.ownsRow 0 155 1 (.slice r.1 l.length r.2) l.length ((l.map g.tb).map P0))
    (hT : Full w' (g.tb t) 160 7 7 (tskE p ((s.setQ x y l).setT t v) (g.at x y r) t)) (hO : Only (fun k => k = lnB p g x y ∨ k = g.tb t ∨ adB (g.ro x y).1 = some k) w w') (hB : ∀ k, adB r.1 = some k → adB (g.ro x y).1 = some k ∨ w.heap.size ≤ k) :
    Tr p s g w ((s.setQ x y l).setT t v) (g.at x y r) w' := by
  have hfr' : ∀ u, (((s.setQ x y l).setT t v).T u).fr = (s.T u).fr := fun u => by
    by_cases e : u = t
    · subst e; rw [setT_at]; exact hfr
    · rw [setT_off _ _ e]; rfl
  have hq' : ∀ a b, ¬ (a = x ∧ b = y) → ((s.setQ x y l).setT t v).q a b = s.q a b := fun a b e => setQ_off s l e
  have hsl : ∀ a b, ¬ (a = x ∧ b = y) → sl ((s.setQ x y l).setT t v) (g.at x y r) a b = sl s g a b := fun a b e => by
    unfold sl
    rw [at_off g r e, rlen_eq (s := s) (s' := (s.setQ x y l).setT t v) rfl rfl rfl rfl rfl (by rw [hfr']) (hq' a b e)]
  have hrx := lnok_row hl
  have hrv := lnok_v hl
  have hslx : sl ((s.setQ x y l).setT t v) (g.at x y r) x y = .slice r.1 l.length r.2 := by
    unfold sl
    rw [at_at, lnok_len _ hl]
    show Value.slice r.1 ((s.setQ x y l).q x y).length r.2 = _
    rw [setQ_at]
  refine h.to (fun a b c => (a = x ∧ b = y ∧ c = 0) ∨ (a = 11 ∧ b = t ∧ c = 0) ∨ (x = 5 ∧ a = 11 ∧ b = y ∧ c = 0) ∨ (x ≠ 5 ∧ a = 0 ∧ b = 0 ∧ c = 0) ∨ (a = 17 ∧ b = t ∧ c = 0 ∧ v.lf = none)) (fun _ => (x, y, 0)) (hO.mono (fun k hk _ => ?_)) (fun a b c hC => ?_) (fun a b c hC => ?_) (fun a b c k hC hk => ?_)
  · rcases hk with rfl | rfl | hk
    · unfold lnB
      by_cases h5 : x = 5
      · rw [if_pos h5]
        refine ⟨11, y, 0, Or.inr (Or.inr (Or.inl ⟨h5, rfl, rfl, rfl⟩)), ?_⟩
        have hy : isT s y := lnok_t hl h5
        rw [bs_tk p g hy]
      · rw [if_neg h5]
        exact ⟨0, 0, 0, Or.inr (Or.inr (Or.inr (Or.inl ⟨h5, rfl, rfl, rfl⟩))), rfl⟩
    · refine ⟨11, t, 0, Or.inr (Or.inl ⟨rfl, rfl, rfl⟩), ?_⟩
      rw [bs_tk p g ht]
    · refine ⟨x, y, 0, Or.inl ⟨rfl, rfl, rfl⟩, ?_⟩
      rw [bs_row p g hrx hrv]; exact hk
  · have hlf' : a = 17 → c = 0 → (((s.setQ x y l).setT t v).T b).lf = (s.T b).lf := fun ea ec => by
      by_cases e : b = t
      · subst e
        rw [setT_at]
        rcases hlf with h0 | h0
        · exact absurd (Or.inr (Or.inr (Or.inr (Or.inr ⟨ea, rfl, ec, h0⟩)))) hC
        · exact h0
      · rw [setT_off _ _ e]; rfl
    refine ob_eq (vld_eq rfl (by rw [hfr']) (fun ea ec => by rw [hlf' ea ec])) (fun hV => obk_eq hV ?_ (fun _ => ⟨rfl, rfl, rfl⟩) ?_ ?_ ?_ (fun _ => rfl) (fun _ => ⟨rfl, rfl⟩) ?_ ?_)
    · intro ea
      obtain ⟨eb, ec⟩ := vld_i0 hV (by omega)
      have h5 : x = 5 := Classical.byContradiction fun h5 => hC (Or.inr (Or.inr (Or.inr (Or.inl ⟨h5, ea, eb, ec⟩))))
      exact engE_same (fun a' b' _ e _ _ => hsl a' b' (fun hh => e (hh.1.trans h5))) rfl rfl
    · intro ea
      obtain ⟨hb, ec⟩ := vld_it hV (by omega)
      have e1 : b ≠ t := fun e => hC (Or.inr (Or.inl ⟨ea, e, ec⟩))
      have e2 : ¬ (5 = x ∧ b = y) := fun e => hC (Or.inr (Or.inr (Or.inl ⟨e.1.symm, ea, e.2, ec⟩)))
      refine ⟨rfl, ?_⟩
      funext j
      unfold tskE
      rw [hsl 12 b (fun e => by have := lnok_le hl; omega), hsl 5 b e2, setT_off _ _ e1]
      rfl
    · intro ea
      refine ⟨rfl, ?_⟩
      unfold frAt
      rw [hfr']; rfl
    · intro ea
      refine ⟨rfl, ?_⟩
      unfold frAt
      rw [hfr']
    · intro ea
      subst ea
      obtain ⟨hb, ec, _⟩ := vld_i17 hV
      refine ⟨rfl, ?_⟩
      unfold sxO
      rw [hlf' rfl ec, hfr']
      rfl
    · intro hx
      have ec := vld_ir hV hx
      have e : ¬ (a = x ∧ b = y) := fun e => hC (Or.inl ⟨e.1, e.2, ec⟩)
      exact ⟨at_off g r e, rlen_eq (s := s) (s' := (s.setQ x y l).setT t v) rfl rfl rfl rfl rfl (by rw [hfr']) (hq' a b e), rcon_eq (s := s) (s' := (s.setQ x y l).setT t v) rfl rfl rfl rfl rfl rfl rfl (by rw [hfr']) (hq' a b e)⟩
  · rcases hC with ⟨rfl, rfl, rfl⟩ | ⟨rfl, rfl, rfl⟩ | ⟨h5, rfl, rfl, rfl⟩ | ⟨h5, rfl, rfl, rfl⟩ | ⟨rfl, rfl, rfl, hn⟩
    · have hv' : vld ((s.setQ a b l).setT t v) a b 0 = true := lnok_v (s := (s.setQ a b l).setT t v) hl
      rw [ob_v hv', obk_row hrx]
      show w'.ownsRow 0 (rty a) (rsz a) (sl ((s.setQ a b l).setT t v) (g.at a b r) a b) (rlen ((s.setQ a b l).setT t v) a b) (rcon ((s.setQ a b l).setT t v) (g.at a b r) a b)
      rw [hslx, (lnok_rty hl).1, (lnok_rty hl).2, lnok_len _ hl, lnok_con _ _ hl]
      show w'.ownsRow 0 155 1 _ ((s.setQ a b l).q a b).length ((((s.setQ a b l).q a b).map g.tb).map P0)
      rw [setQ_at]
      exact hR
    · have hv' : vld ((s.setQ x y l).setT b v) 11 b 0 = true := vld_t (by omega) ht
      rw [ob_v hv']
      exact hT
    · have hb : isT s b := lnok_t hl h5
      have hv' : vld ((s.setQ x b l).setT t v) 11 b 0 = true := vld_t (by omega) hb
      rw [ob_v hv']
      have e1 : b ≠ t := fun e => hxt ⟨h5, e⟩
      have hH' : Full w' (g.tb b) 160 7 7 (upd (tskE p s g b) 6 (.slice r.1 l.length r.2)) := by
        have := hH
        unfold lnB lnT lnN lnE lnO at this
        simp only [if_pos h5] at this
        exact this
      refine hH'.congr (fun j hj => ?_)
      by_cases ej : j = 6
      · subst ej
        rw [upd_at, ← hslx, h5]
        rfl
      · rw [upd_off _ _ _ _ ej]
        unfold tskE
        rw [hsl 12 b (fun e => by have := lnok_le hl; omega), setT_off _ _ e1]
        by_cases j0 : j = 0
        · simp only [if_pos j0]
        · by_cases j1 : j = 1
          · simp only [if_neg j0, if_pos j1]
          · by_cases j2 : j = 2
            · simp only [if_neg j0, if_neg j1, if_pos j2]; rfl
            · by_cases j3 : j = 3
              · simp only [if_neg j0, if_neg j1, if_neg j2, if_pos j3]; rfl
              · by_cases j4 : j = 4
                · simp only [if_neg j0, if_neg j1, if_neg j2, if_neg j3, if_pos j4]; rfl
                · by_cases j5 : j = 5
                  · simp only [if_neg j0, if_neg j1, if_neg j2, if_neg j3, if_neg j4, if_pos j5]; rfl
                  · omega
    · have hH' : Full w' p.eb 144 44 44 (upd (engE p s g) (lnO x y) (.slice r.1 l.length r.2)) := by
        have := hH
        unfold lnB lnT lnN lnE at this
        simp only [if_neg h5] at this
        exact this
      refine Full.congr hH' (fun j hj => ?_)
      rw [← hslx]
      exact engE_row (lnok_eng hl h5).1 (lnok_eng hl h5).2 (fun a b e _ _ _ _ => hsl a b e) rfl rfl j hj
    · rw [ob_n (fun hV => by
        have := (vld_i17 hV).2.2
        rw [setT_at, hn] at this
        cases this)]
      exact trivial
  · rcases hC with ⟨rfl, rfl, rfl⟩ | ⟨rfl, rfl, rfl⟩ | ⟨h5, rfl, rfl, rfl⟩ | ⟨h5, rfl, rfl, rfl⟩ | ⟨rfl, rfl, rfl, hn⟩
    · have hv' : vld ((s.setQ a b l).setT t v) a b 0 = true := lnok_v (s := (s.setQ a b l).setT t v) hl
      rw [bs_row p _ hrx hv', at_at] at hk
      rw [bs_row p g hrx hrv]
      exact (hB k hk).imp id (fun h => ⟨h, rfl⟩)
    · rw [bs_tk p _ (show isT ((s.setQ x y l).setT b v) b from ht)] at hk
      rw [bs_tk p g ht]
      exact Or.inl hk
    · have hb : isT s b := lnok_t hl h5
      rw [bs_tk p _ (show isT ((s.setQ x b l).setT t v) b from hb)] at hk
      rw [bs_tk p g hb]
      exact Or.inl hk
    · exact Or.inl hk
    · rw [ob_n (fun hV => by
        have := (vld_i17 hV).2.2
        rw [setT_at, hn] at this
        cases this)] at hk
      exact hk.elim
theorem nodup_len : ∀ (n : Nat) (l : List Nat), l.Nodup → (∀ t, t ∈ l → 1 ≤ t ∧ t ≤ n) → l.length ≤ n
  | 0, [], _, _ => Nat.le_refl _
  | 0, a :: l, _, h => by have := h a (by simp); omega
  | n + 1, l, hd, h => by
    have h1 := nodup_len n (l.erase (n + 1)) (hd.erase _) (fun t ht => by
      have h1 := hd.mem_erase_iff.1 ht
      have h2 := h t h1.2
      have h3 := h1.1
      omega)
    have h2 : l.length ≤ (l.erase (n + 1)).length + 1 := by
      rw [List.length_erase]; split <;> omega
    omega
theorem erase_map {f : Nat → Nat} {a : Nat} : ∀ (l : List Nat), (∀ b, b ∈ l → f b = f a → b = a) → (l.map f).erase (f a) = (l.erase a).map f
  | [], _ => rfl
  | b :: l, h => by
    rw [List.map_cons, List.erase_cons, List.erase_cons]
    by_cases e : b = a
    · subst e; simp
    · have e1 : (b == a) = false := by simpa using e
      have e2 : (f b == f a) = false := by
        rw [beq_eq_false_iff_ne]
        exact fun e' => e (h b (by simp) e')
      rw [e1, e2]
      simp [erase_map l (fun c hc => h c (by simp [hc]))]
structure LW (s : Pl) : Prop where
  a : ∀ t, isT s t → ∀ x y, (s.T t).wh = some (x, y) → lnok s x y ∧ t ∈ s.q x y ∧ ¬ (x = 5 ∧ y = t)
  b : ∀ x y, lnok s x y → ∀ t, t ∈ s.q x y → isT s t ∧ (s.T t).wh = some (x, y)
  c : ∀ x y, lnok s x y → (s.q x y).Nodup
  d : s.nt ≤ 500000000
theorem LW.len {s : Pl} (h : LW s) {x y : Nat} (hl : lnok s x y) : (s.q x y).length ≤ 500000000 := Nat.le_trans (nodup_len s.nt _ (h.c x y hl) (fun t ht => (h.b x y hl t ht).1)) h.d
def Tsk.off (v : Tsk) : Tsk := { v with wh := none, lf := none }
def Tsk.to (v : Tsk) (x y : Nat) : Tsk := { v with run := false, wh := some (x, y) }
def Pl.out1 (s : Pl) (t : Nat) : Pl := match (s.T t).wh with
  | none => s
  | some (x, y) => (s.setQ x y ((s.q x y).erase t)).setT t (s.T t).off
theorem at_self (g : Geo) (x y : Nat) : g.at x y (g.ro x y) = g := by
  unfold Geo.at
  have : (fun a b => if a = x ∧ b = y then g.ro x y else g.ro a b) = g.ro := by
    funext a b
    by_cases e : a = x ∧ b = y
    · rw [if_pos e, e.1, e.2]
    · rw [if_neg e]
  rw [this]
theorem tskE_line {p : Prm} {s : Pl} {g : Geo} {x y t : Nat} {l : List Nat} {v : Tsk} {r : Option Addr × Nat} (hl : lnok s x y) (hfr : v.fr = (s.T t).fr) (hxt : ¬ (x = 5 ∧ y = t)) (P : Nat → Value) (h0 : P 0 = tskE p s g t 0) (h1 : P 1 = tskE p s g t 1) (h2 : P 2 = .bool v.run) (h3 : P 3 = whV p g v.wh) (h4 : P 4 = lfV g t v.lf) (h5 : P 5 = .int .i64 v.till) (h6 : P 6 = tskE p s g t 6) (j : Nat) (hj : j < 7) : P j = tskE p ((s.setQ x y l).setT t v) (g.at x y r) t j := by
  have hle := lnok_le hl
  have hsl : ∀ a, ¬ (a = x ∧ t = y) → sl ((s.setQ x y l).setT t v) (g.at x y r) a t = sl s g a t := fun a e => by
    unfold sl
    rw [at_off g r e, rlen_eq (s := s) (s' := (s.setQ x y l).setT t v) rfl rfl rfl rfl rfl (by rw [setT_at, hfr]) (setQ_off s l e)]
  have hc : j = 0 ∨ j = 1 ∨ j = 2 ∨ j = 3 ∨ j = 4 ∨ j = 5 ∨ j = 6 := by omega
  rcases hc with rfl | rfl | rfl | rfl | rfl | rfl | rfl
  · exact h0
  · rw [h1]; exact (hsl 12 (fun e => by omega)).symm
  · rw [h2]; show _ = Value.bool _; rw [setT_at]
  · rw [h3]; show _ = whV p (g.at x y r) _; rw [setT_at]; rfl
  · rw [h4]; show _ = lfV (g.at x y r) t _; rw [setT_at]; rfl
  · rw [h5]; show _ = Value.int .i64 _; rw [setT_at]
  · rw [h6]; exact (hsl 5 (fun e => hxt ⟨e.1.symm, e.2.symm⟩)).symm
theorem stepOutR {p : Prm} {s : Pl} {g : Geo} {w : World} {t : Nat} (h : Rep p s g w) (hW : LW s) (ht : isT s t) :
    Calls Tryz.prog 133 #[P0 (g.tb t)] w fun e w' => e = .returned (.tuple #[]) ∧ Tr p s g w (s.out1 t) g w' := by
  have hT := h.tk ht
  unfold Pl.out1
  cases hwh : (s.T t).wh with
  | none =>
    refine (stepOut_none (g.tb t) w ?_).mono ?_
    · rw [hT.cell 3 (by omega)]
      show some (whV p g (s.T t).wh) = _
      rw [hwh]; rfl
    · rintro e w' ⟨rfl, rfl⟩
      exact ⟨rfl, Tr.refl h⟩
  | some xy =>
    obtain ⟨x, y⟩ := xy
    obtain ⟨hl, hm, hxt⟩ := hW.a t ht x y hwh
    have hlen := hW.len hl
    have hL := h.ln hl (by omega)
    have hpos : (s.q x y).length ≠ 0 := by
      intro e
      rw [List.length_eq_zero_iff] at e
      rw [e] at hm; cases hm
    obtain ⟨gb, cap, hgb⟩ := row_form hL.row hpos
    injection hgb with hg1 _ hg2
    have hLx := hL
    rw [hg1, hg2] at hL
    have hB : Full w (lnB p g x y) (lnT x) (lnN x) (lnN x) (lnE p s g x y) := hL.hE
    have hty : lnT x ≠ 155 := by unfold lnT; split <;> decide
    have nb : lnB p g x y ≠ g.tb t := by
      unfold lnB
      by_cases h5 : x = 5
      · rw [if_pos h5]
        exact fun e => hxt ⟨h5, h.tb_inj (lnok_t hl h5) ht e⟩
      · rw [if_neg h5]
        exact h.E.ne hT (by decide)
    have hT3 : tskE p s g t 3 = Pt (lnB p g x y) (lnO x y) := by
      show whV p g (s.T t).wh = _
      rw [hwh]; rfl
    refine (stepOutL (lnB p g x y) (lnO x y) gb cap (s.q x y).length (g.tb t) (lnN x) (lnT x) (lnE p s g x y) (tskE p s g t) ((s.q x y).map g.tb) w hL hT hT3 (List.mem_map_of_mem hm) (fun z hz => ?_) nb (own_ne hL.row hB hty gb rfl) (own_ne hL.row hT (by decide) gb rfl)).mono ?_
    · obtain ⟨u, hu, rfl⟩ := List.mem_map.1 hz
      exact (h.tk (hW.b x y hl u hu).1).blk
    rintro e w' ⟨rfl, hL', hT', hO'⟩
    have hle : ((s.q x y).erase t).length = (s.q x y).length - 1 := List.length_erase_of_mem hm
    have he : ((s.q x y).map g.tb).erase (g.tb t) = ((s.q x y).erase t).map g.tb := erase_map _ (fun b hb e => h.tb_inj (hW.b x y hl b hb).1 ht e)
    have hro : g.ro x y = (some ⟨gb, 0, none⟩, cap) := Prod.ext hg1 hg2
    have key := h.line (l := (s.q x y).erase t) (v := (s.T t).off) (r := g.ro x y) hl ht rfl (Or.inl rfl) hxt (w' := w') ?_ ?_ ?_ ?_ (fun k hk => Or.inl hk)
    · rw [at_self] at key
      exact ⟨rfl, key⟩
    · rw [hle, hro]; exact hL'.hE
    · rw [hle, hro]
      have := hL'.row
      rw [he] at this
      exact this
    · refine hT'.congr (fun j hj => tskE_line (v := (s.T t).off) hl rfl hxt _ ?_ ?_ ?_ ?_ ?_ ?_ ?_ j hj) <;> rfl
    · refine hO'.mono (fun k hk _ => ?_)
      rcases hk with h1 | h1 | h1
      · exact Or.inl h1
      · exact Or.inr (Or.inl h1)
      · refine Or.inr (Or.inr ?_)
        rw [hro, h1]; rfl
def Pl.join1 (s : Pl) (x y t : Nat) : Pl := ((s.out1 t).setQ x y ((s.out1 t).q x y ++ [t])).setT t (((s.out1 t).T t).to x y)
theorem out1_fr (s : Pl) (t u : Nat) : ((s.out1 t).T u).fr = (s.T u).fr := by
  unfold Pl.out1
  split
  · rfl
  · by_cases e : u = t
    · subst e; rw [setT_at]; rfl
    · rw [setT_off _ _ e]; rfl
theorem out1_nt (s : Pl) (t : Nat) : (s.out1 t).nt = s.nt := by unfold Pl.out1; split <;> rfl
theorem out1_q (s : Pl) {t x y : Nat} (h : (s.T t).wh ≠ some (x, y)) : (s.out1 t).q x y = s.q x y := by
  unfold Pl.out1
  split
  · rfl
  · rename_i a b e
    exact setQ_off s _ (fun e' => h (by rw [e, e'.1, e'.2]))
theorem isT_nt {s s' : Pl} (h : s'.nt = s.nt) {t : Nat} : isT s' t ↔ isT s t := by unfold isT; rw [h]
theorem lnok_nt {s s' : Pl} (h : s'.nt = s.nt) {x y : Nat} : lnok s' x y ↔ lnok s x y := by unfold lnok; rw [isT_nt h]
theorem joinR {p : Prm} {s : Pl} {g : Geo} {w : World} {x y t : Nat} (h : Rep p s g w) (hW : LW s) (hl : lnok s x y) (ht : isT s t) (hxt : ¬ (x = 5 ∧ y = t)) (hne : (s.T t).wh ≠ some (x, y)) :
    Calls Tryz.prog 110 #[Pt (lnB p g x y) (lnO x y), P0 (g.tb t)] w fun e w' => e = .returned (.tuple #[]) ∧ ∃ r, Tr p s g w (s.join1 x y t) (g.at x y r) w' := by
  have hlen := hW.len hl
  have hL := h.ln hl (by omega)
  have hT := h.tk ht
  have hB : Full w (lnB p g x y) (lnT x) (lnN x) (lnN x) (lnE p s g x y) := hL.hE
  have hty : lnT x ≠ 155 := by unfold lnT; split <;> decide
  have nb : lnB p g x y ≠ g.tb t := by
    unfold lnB
    by_cases h5 : x = 5
    · rw [if_pos h5]
      exact fun e => hxt ⟨h5, h.tb_inj (lnok_t hl h5) ht e⟩
    · rw [if_neg h5]
      exact h.E.ne hT (by decide)
  have hc : w.cell? ⟨lnB p g x y, lnO x y, none⟩ = some (.slice (g.ro x y).1 (s.q x y).length (g.ro x y).2) := by
    rw [hL.hE.cell _ hL.ho, hL.e]
  have hn1 := out1_nt s t
  have hl1 : lnok (s.out1 t) x y := (lnok_nt hn1).2 hl
  have ht1 : isT (s.out1 t) t := (isT_nt hn1).2 ht
  have hq1 := out1_q s hne
  refine (joinL (lnB p g x y) (lnO x y) (g.ro x y).2 (s.q x y).length (g.tb t) (lnN x) (lnT x) (g.ro x y).1 (lnE p (s.out1 t) g x y) (tskE p (s.out1 t) g t) ((s.q x y).map g.tb) (fun w1 => Tr p s g w (s.out1 t) g w1) w nb (fun k hk => ⟨own_ne hL.row hB hty k hk, own_ne hL.row hT (by decide) k hk⟩) (by omega) hc ?_).mono ?_
  · refine (stepOutR h hW ht).mono ?_
    rintro e w1 ⟨rfl, h1⟩
    have hL1 := h1.r.ln hl1 (by rw [hq1]; omega)
    rw [hq1] at hL1
    exact ⟨rfl, hL1, h1.r.tk ht1, h1⟩
  · rintro e w' ⟨rfl, w1, h1, gb, c', hL', hT', hO', hB'⟩
    refine ⟨rfl, (some ⟨gb, 0, none⟩, c'), h1.trans (h1.r.line hl1 ht1 rfl (Or.inr rfl) hxt ?_ ?_ ?_ ?_ ?_)⟩
    · rw [hq1, List.length_append]
      exact hL'.hE
    · rw [hq1, List.length_append]
      have := hL'.row
      rw [List.map_append]
      exact this
    · refine hT'.congr (fun j hj => tskE_line (v := ((s.out1 t).T t).to x y) hl1 rfl hxt _ ?_ ?_ ?_ ?_ ?_ ?_ ?_ j hj) <;> rfl
    · refine hO'.mono (fun k hk _ => ?_)
      rw [own_adB] at hk
      exact hk
    · intro k hk
      have e : gb = k := by injection hk
      subst e
      rw [own_adB] at hB'
      exact hB'
theorem Rep.engrow2 {p : Prm} {s s' : Pl} {g : Geo} {w w' : World} {x y x2 y2 j0 : Nat} {r : Option Addr × Nat} (h : Rep p s g w) (hx : 6 ≤ x ∧ x ≤ 10) (hv : vld s x y 0 = true) (hx2 : 6 ≤ x2 ∧ x2 ≤ 10) (hv2 : vld s x2 y2 0 = true) (hj : engI j0 = (x, y) ∧ 29 ≤ j0 ∧ j0 < 44 ∧ j0 ≠ 42)
    (e1 : s'.nt = s.nt) (e2 : s'.T = s.T) (e4 : s'.kd = s.kd) (e5 : s'.M = s.M) (e6 : s'.ck = s.ck) (e7 : s'.clk = s.clk) (e8 : s'.sp = s.sp)
    (hrl : ∀ a b, rowx a → (a = 4 ∨ a = 5 ∨ a = 10 ∨ a = 12 ∨ b = 0) → ¬ (a = x ∧ b = y) → rlen s' a b = rlen s a b ∧ (¬ (a = x2 ∧ b = y2) → rcon s' g a b = rcon s g a b))
    (hH : Full w' p.eb 144 44 44 (upd (engE p s g) j0 (.slice r.1 (rlen s' x y) r.2))) (hR : w'.ownsRow 0 (rty x) (rsz x) (.slice r.1 (rlen s' x y) r.2) (rlen s' x y) (rcon s' g x y))
    (hR2 : ¬ (x2 = x ∧ y2 = y) → w'.ownsRow 0 (rty x2) (rsz x2) (sl s g x2 y2) (rlen s x2 y2) (rcon s' g x2 y2))
    (hO : Only (fun k => k = p.eb ∨ adB (g.ro x y).1 = some k ∨ adB (g.ro x2 y2).1 = some k) w w') (hB : ∀ k, adB r.1 = some k → adB (g.ro x y).1 = some k ∨ w.heap.size ≤ k) : Tr p s g w s' (g.at x y r) w' := by
  have hrx : rowx x := by unfold rowx; omega
  have hrx2 : rowx x2 := by unfold rowx; omega
  have hsl : ∀ a b, rowx a → (a = 4 ∨ a = 5 ∨ a = 10 ∨ a = 12 ∨ b = 0) → ¬ (a = x ∧ b = y) → sl s' (g.at x y r) a b = sl s g a b := fun a b ha hb e => by
    unfold sl
    rw [at_off g r e, (hrl a b ha hb e).1]
  have hbz : ∀ a b, vld s a b 0 = true → rowx a → a = 4 ∨ a = 5 ∨ a = 10 ∨ a = 12 ∨ b = 0 := fun a b hV ha => by
    by_cases h4 : a = 4 ∨ a = 5 ∨ a = 10 ∨ a = 12
    · omega
    · have := (vld_i0 hV (by unfold rowx at ha; omega)).1
      omega
  have hslx : sl s' (g.at x y r) x y = .slice r.1 (rlen s' x y) r.2 := by unfold sl; rw [at_at]
  have hvv : ∀ a b c, vld s' a b c = vld s a b c := fun a b c => vld_eq e1 (by rw [e2]) (fun _ _ => by rw [e2])
  have hrc : ∀ a b, rcon s' (g.at x y r) a b = rcon s' g a b := fun _ _ => rfl
  refine h.to (fun a b c => (a = x ∧ b = y ∧ c = 0) ∨ (a = 0 ∧ b = 0 ∧ c = 0) ∨ (a = x2 ∧ b = y2 ∧ c = 0)) (fun _ => (x, y, 0)) (hO.mono (fun k hk _ => ?_)) (fun a b c hC => ?_) (fun a b c hC => ?_) (fun a b c k hC hk => ?_)
  · rcases hk with rfl | hk | hk
    · exact ⟨0, 0, 0, Or.inr (Or.inl ⟨rfl, rfl, rfl⟩), rfl⟩
    · refine ⟨x, y, 0, Or.inl ⟨rfl, rfl, rfl⟩, ?_⟩
      rw [bs_row p g hrx hv]; exact hk
    · refine ⟨x2, y2, 0, Or.inr (Or.inr ⟨rfl, rfl, rfl⟩), ?_⟩
      rw [bs_row p g hrx2 hv2]; exact hk
  · refine ob_eq (hvv a b c) (fun hV => obk_eq hV ?_ (fun _ => ⟨e4, ?_, e5⟩) ?_ ?_ ?_ (fun _ => rfl) (fun _ => ⟨rfl, rfl⟩) ?_ ?_)
    · intro ea
      exact absurd (Or.inr (Or.inl ⟨ea, vld_i0 hV (by omega)⟩)) hC
    · unfold vsOf; rw [e6]; rfl
    · intro ea
      refine ⟨rfl, ?_⟩
      funext j
      unfold tskE
      rw [hsl 12 b (by unfold rowx; omega) (by omega) (fun e => by omega), hsl 5 b (by unfold rowx; omega) (by omega) (fun e => by omega), e2]
      rfl
    · intro ea
      refine ⟨rfl, ?_⟩
      unfold frAt; rw [e2]; rfl
    · intro ea
      refine ⟨rfl, ?_⟩
      unfold frAt; rw [e2]
    · intro ea
      refine ⟨rfl, ?_⟩
      unfold sxO; rw [e2]; rfl
    · intro ha
      have ec := vld_ir hV ha
      subst ec
      have e : ¬ (a = x ∧ b = y) := fun e => hC (Or.inl ⟨e.1, e.2, rfl⟩)
      have e' : ¬ (a = x2 ∧ b = y2) := fun e => hC (Or.inr (Or.inr ⟨e.1, e.2, rfl⟩))
      have hb := hbz a b hV ha
      refine ⟨at_off g r e, (hrl a b ha hb e).1, ?_⟩
      rw [hrc]; exact (hrl a b ha hb e).2 e'
  · by_cases e0 : a = x ∧ b = y ∧ c = 0
    · obtain ⟨rfl, rfl, rfl⟩ := e0
      rw [ob_v (by rw [hvv]; exact hv), obk_row hrx]
      show w'.ownsRow 0 (rty a) (rsz a) (sl s' (g.at a b r) a b) (rlen s' a b) (rcon s' (g.at a b r) a b)
      rw [hslx, hrc]
      exact hR
    · rcases hC with hC | ⟨rfl, rfl, rfl⟩ | ⟨rfl, rfl, rfl⟩
      · exact absurd hC e0
      · refine Full.congr hH (fun j hj' => ?_)
        rw [← hslx]
        exact engE_row hj.1 hj.2 (fun a' b' e ha _ _ hb => hsl a' b' ha (by omega) e) e7 e8 j hj'
      · have e : ¬ (a = x ∧ b = y) := fun e => e0 ⟨e.1, e.2, rfl⟩
        rw [ob_v (by rw [hvv]; exact hv2), obk_row hrx2]
        show w'.ownsRow 0 (rty a) (rsz a) (sl s' (g.at x y r) a b) (rlen s' a b) (rcon s' (g.at x y r) a b)
        have hb := hbz a b hv2 hrx2
        rw [hsl a b hrx2 hb e, (hrl a b hrx2 hb e).1, hrc]
        exact hR2 e
  · by_cases e0 : a = x ∧ b = y ∧ c = 0
    · obtain ⟨rfl, rfl, rfl⟩ := e0
      rw [bs_row p _ hrx (by rw [hvv]; exact hv), at_at] at hk
      rw [bs_row p g hrx hv]
      exact (hB k hk).imp id (fun h => ⟨h, rfl⟩)
    · rcases hC with hC | ⟨rfl, rfl, rfl⟩ | ⟨rfl, rfl, rfl⟩
      · exact absurd hC e0
      · exact Or.inl hk
      · have e : ¬ (a = x ∧ b = y) := fun e => e0 ⟨e.1, e.2, rfl⟩
        rw [bs_row p _ hrx2 (by rw [hvv]; exact hv2), at_off g r e] at hk
        rw [bs_row p g hrx2 hv2]
        exact Or.inl hk
theorem Rep.engrow {p : Prm} {s s' : Pl} {g : Geo} {w w' : World} {x y j0 : Nat} {r : Option Addr × Nat} (h : Rep p s g w) (hx : 6 ≤ x ∧ x ≤ 10) (hv : vld s x y 0 = true) (hj : engI j0 = (x, y) ∧ 29 ≤ j0 ∧ j0 < 44 ∧ j0 ≠ 42)
    (e1 : s'.nt = s.nt) (e2 : s'.T = s.T) (e4 : s'.kd = s.kd) (e5 : s'.M = s.M) (e6 : s'.ck = s.ck) (e7 : s'.clk = s.clk) (e8 : s'.sp = s.sp)
    (hrl : ∀ a b, rowx a → (a = 4 ∨ a = 5 ∨ a = 10 ∨ a = 12 ∨ b = 0) → ¬ (a = x ∧ b = y) → rlen s' a b = rlen s a b ∧ rcon s' g a b = rcon s g a b)
    (hH : Full w' p.eb 144 44 44 (upd (engE p s g) j0 (.slice r.1 (rlen s' x y) r.2))) (hR : w'.ownsRow 0 (rty x) (rsz x) (.slice r.1 (rlen s' x y) r.2) (rlen s' x y) (rcon s' g x y))
    (hO : Only (fun k => k = p.eb ∨ adB (g.ro x y).1 = some k) w w') (hB : ∀ k, adB r.1 = some k → adB (g.ro x y).1 = some k ∨ w.heap.size ≤ k) : Tr p s g w s' (g.at x y r) w' :=
  h.engrow2 hx hv hx hv hj e1 e2 e4 e5 e6 e7 e8 (fun a b c d e => ⟨(hrl a b c d e).1, fun _ => (hrl a b c d e).2⟩) hH hR (fun e => absurd ⟨rfl, rfl⟩ e) (hO.mono (fun _ hk _ => hk.imp id Or.inl)) hB
theorem Rep.eng0 {p : Prm} {s s' : Pl} {g : Geo} {w w' : World} (h : Rep p s g w) (e1 : s'.nt = s.nt) (e2 : s'.T = s.T) (e4 : s'.kd = s.kd) (e5 : s'.M = s.M) (e6 : s'.ck = s.ck)
    (hrl : ∀ a b, rlen s' a b = rlen s a b ∧ rcon s' g a b = rcon s g a b) (hH : Full w' p.eb 144 44 44 (engE p s' g)) (hO : Only (fun k => k = p.eb) w w') : Tr p s g w s' g w' := by
  have hsl : ∀ a b, sl s' g a b = sl s g a b := fun a b => by
    unfold sl
    rw [(hrl a b).1]
  refine h.to (fun a b c => a = 0 ∧ b = 0 ∧ c = 0) (fun _ => (0, 0, 0)) (hO.mono (fun k hk _ => ⟨0, 0, 0, ⟨rfl, rfl, rfl⟩, hk⟩)) (fun a b c hC => ?_) (fun a b c hC => ?_) (fun a b c k hC hk => ?_)
  · refine ob_eq (vld_eq e1 (by rw [e2]) (fun _ _ => by rw [e2])) (fun hV => obk_eq hV ?_ (fun _ => ⟨e4, ?_, e5⟩) ?_ ?_ ?_ (fun _ => rfl) (fun _ => ⟨rfl, rfl⟩) ?_ (fun _ => ⟨rfl, hrl a b⟩))
    · intro ea
      exact absurd ⟨ea, vld_i0 hV (by omega)⟩ hC
    · unfold vsOf; rw [e6]
    · intro ea
      refine ⟨rfl, ?_⟩
      funext j
      unfold tskE
      rw [hsl, hsl, e2]
    · intro ea
      refine ⟨rfl, ?_⟩
      unfold frAt; rw [e2]
    · intro ea
      refine ⟨rfl, ?_⟩
      unfold frAt; rw [e2]
    · intro ea
      refine ⟨rfl, ?_⟩
      unfold sxO; rw [e2]
  · obtain ⟨rfl, rfl, rfl⟩ := hC
    exact hH
  · obtain ⟨rfl, rfl, rfl⟩ := hC
    exact Or.inl hk
theorem Rep.flag {p : Prm} {s : Pl} {g : Geo} {w w' : World} {t : Nat} {v : Tsk} (h : Rep p s g w) (ht : isT s t) (hfr : v.fr = (s.T t).fr) (hlf : v.lf = (s.T t).lf) (hT : Full w' (g.tb t) 160 7 7 (tskE p (s.setT t v) g t)) (hO : Only (fun k => k = g.tb t) w w') : Tr p s g w (s.setT t v) g w' := by
  have hfr' : ∀ u, ((s.setT t v).T u).fr = (s.T u).fr := fun u => by
    by_cases e : u = t
    · subst e; rw [setT_at]; exact hfr
    · rw [setT_off _ _ e]
  have hlf' : ∀ u, ((s.setT t v).T u).lf = (s.T u).lf := fun u => by
    by_cases e : u = t
    · subst e; rw [setT_at]; exact hlf
    · rw [setT_off _ _ e]
  have hrl : ∀ a b, rlen (s.setT t v) a b = rlen s a b := fun a b => rlen_eq rfl rfl rfl rfl rfl (by rw [hfr']) rfl
  have hsl : ∀ a b, sl (s.setT t v) g a b = sl s g a b := fun a b => by
    unfold sl
    rw [hrl]
  refine h.to (fun a b c => a = 11 ∧ b = t ∧ c = 0) (fun _ => (0, 0, 0)) (hO.mono (fun k hk _ => ⟨11, t, 0, ⟨rfl, rfl, rfl⟩, by rw [bs_tk p g ht]; exact hk⟩)) (fun a b c hC => ?_) (fun a b c hC => ?_) (fun a b c k hC hk => ?_)
  · refine ob_eq (vld_eq rfl (by rw [hfr']) (fun _ _ => by rw [hlf'])) (fun hV => obk_eq hV (fun _ => engE_same (fun a b _ _ _ _ => hsl a b) rfl rfl) (fun _ => ⟨rfl, rfl, rfl⟩) ?_ ?_ ?_ (fun _ => rfl) (fun _ => ⟨rfl, rfl⟩) ?_ (fun _ => ⟨rfl, hrl a b, rcon_eq rfl rfl rfl rfl rfl rfl rfl (by rw [hfr']) rfl⟩))
    · intro ea
      have e1 : b ≠ t := fun e => hC ⟨ea, e, (vld_it hV (by omega)).2⟩
      refine ⟨rfl, ?_⟩
      funext j
      unfold tskE
      rw [hsl, hsl, setT_off _ _ e1]
    · intro ea
      refine ⟨rfl, ?_⟩
      unfold frAt; rw [hfr']
    · intro ea
      refine ⟨rfl, ?_⟩
      unfold frAt; rw [hfr']
    · intro ea
      refine ⟨rfl, ?_⟩
      unfold sxO; rw [hfr', hlf']
  · obtain ⟨rfl, rfl, rfl⟩ := hC
    rw [ob_v (show vld (s.setT b v) 11 b 0 = true from vld_t (by omega) ht)]
    exact hT
  · obtain ⟨rfl, rfl, rfl⟩ := hC
    rw [bs_tk p g (show isT (s.setT b v) b from ht)] at hk
    rw [bs_tk p g ht]
    exact Or.inl hk
def Pl.setF (s : Pl) (t i : Nat) (f : Frm) : Pl := s.setT t { s.T t with fr := (s.T t).fr.set i f }
theorem setF_at (s : Pl) {t i : Nat} (f : Frm) (hi : i < (s.T t).fr.length) : frAt (s.setF t i f) t i = f := by
  unfold frAt Pl.setF
  rw [setT_at, List.getD_eq_getElem?_getD, List.getElem?_set, if_pos rfl, if_pos hi]; rfl
theorem setF_off (s : Pl) {t i u j : Nat} (f : Frm) (h : ¬ (u = t ∧ j = i)) : frAt (s.setF t i f) u j = frAt s u j := by
  unfold frAt Pl.setF
  by_cases e : u = t
  · subst e
    have e2 : ¬ i = j := fun e => h ⟨rfl, e.symm⟩
    rw [setT_at, List.getD_eq_getElem?_getD, List.getElem?_set, if_neg e2, List.getD_eq_getElem?_getD]
  · rw [setT_off _ _ e]
theorem Rep.frm {p : Prm} {s : Pl} {g : Geo} {w w' : World} {t i : Nat} {f : Frm} (h : Rep p s g w) (ht : isT s t) (hi : i < (s.T t).fr.length) (hF : w'.heap[g.fb t i]? = some (frO p g t i f)) (hR : Full w' (g.rb t i) 149 (p.rg f.f * 2) (p.rg f.f * 2) (regP f.R)) (hO : Only (fun k => k = g.fb t i ∨ k = g.rb t i) w w') : Tr p s g w (s.setF t i f) g w' := by
  have hfr' : ∀ u, ((s.setF t i f).T u).fr.length = (s.T u).fr.length := fun u => by
    unfold Pl.setF
    by_cases e : u = t
    · subst e; rw [setT_at]; exact List.length_set
    · rw [setT_off _ _ e]
  have hlf' : ∀ u, ((s.setF t i f).T u).lf = (s.T u).lf := fun u => by
    unfold Pl.setF
    by_cases e : u = t
    · subst e; rw [setT_at]
    · rw [setT_off _ _ e]
  have hrl : ∀ a b, rlen (s.setF t i f) a b = rlen s a b := fun a b => rlen_eq rfl rfl rfl rfl rfl (hfr' b) rfl
  have hsl : ∀ a b, sl (s.setF t i f) g a b = sl s g a b := fun a b => by
    unfold sl
    rw [hrl]
  have hv : ∀ a b c, vld (s.setF t i f) a b c = vld s a b c := fun a b c => vld_eq rfl (hfr' b) (fun _ _ => by rw [hlf'])
  refine h.to (fun a b c => (a = 13 ∨ a = 14) ∧ b = t ∧ c = i) (fun _ => (0, 0, 0)) (hO.mono (fun k hk _ => ?_)) (fun a b c hC => ?_) (fun a b c hC => ?_) (fun a b c k hC hk => ?_)
  · rcases hk with hk | hk
    · refine ⟨13, t, i, ⟨Or.inl rfl, rfl, rfl⟩, ?_⟩
      rw [ob_v (vld_f (by omega) ht hi)]; exact hk
    · refine ⟨14, t, i, ⟨Or.inr rfl, rfl, rfl⟩, ?_⟩
      rw [ob_v (vld_f (by omega) ht hi)]; exact hk
  · refine ob_eq (hv a b c) (fun hV => obk_eq hV (fun _ => engE_same (fun a b _ _ _ _ => hsl a b) rfl rfl) (fun _ => ⟨rfl, rfl, rfl⟩) ?_ ?_ ?_ (fun _ => rfl) (fun _ => ⟨rfl, rfl⟩) ?_ (fun _ => ⟨rfl, hrl a b, rcon_eq rfl rfl rfl rfl rfl rfl rfl (hfr' b) rfl⟩))
    · intro ea
      refine ⟨rfl, ?_⟩
      funext j
      unfold tskE
      rw [hsl, hsl, hlf']
      unfold Pl.setF
      by_cases e : b = t
      · subst e; rw [setT_at]
      · rw [setT_off _ _ e]
    · intro ea
      refine ⟨rfl, ?_⟩
      rw [setF_off s f (fun e => hC ⟨Or.inl ea, e.1, e.2⟩)]
    · intro ea
      refine ⟨rfl, ?_⟩
      rw [setF_off s f (fun e => hC ⟨Or.inr ea, e.1, e.2⟩)]
    · intro ea
      refine ⟨rfl, ?_⟩
      unfold sxO; rw [hfr', hlf']
  · obtain ⟨hab, rfl, rfl⟩ := hC
    rcases hab with rfl | rfl
    · rw [ob_v (by rw [hv]; exact vld_f (by omega) ht hi)]
      show w'.heap[g.fb b c]? = some (frO p g b c (frAt (s.setF b c f) b c))
      rw [setF_at s f hi]; exact hF
    · rw [ob_v (by rw [hv]; exact vld_f (by omega) ht hi)]
      show Full w' (g.rb b c) 149 (p.rg (frAt (s.setF b c f) b c).f * 2) (p.rg (frAt (s.setF b c f) b c).f * 2) (regP (frAt (s.setF b c f) b c).R)
      rw [setF_at s f hi]; exact hR
  · obtain ⟨hab, rfl, rfl⟩ := hC
    refine Or.inl ?_
    have hV : vld s a b c = true := vld_f hab ht hi
    rw [ob_v (by rw [hv]; exact hV)] at hk
    rw [ob_v hV]
    rcases hab with rfl | rfl
    · exact hk
    · exact hk
theorem Rep.sto {p : Prm} {s s' : Pl} {g : Geo} {w w' : World} {vb : Vs} (h : Rep p s g w) (e1 : s'.nt = s.nt) (e2 : s'.T = s.T) (e3 : s'.q = s.q) (e7 : s'.clk = s.clk) (e8 : s'.sp = s.sp) (f1 : s'.lv = s.lv) (f2 : s'.out = s.out) (f3 : s'.kp = s.kp) (f4 : s'.ev = s.ev) (f5 : s'.byt = s.byt) (f6 : s'.ck = vb.f.k)
    (hS : Str w' p.sb p.pb p.eb p.n s'.kd vb s'.M) (hO : Only (Sbk p.sb p.pb p.n s.kd (vsOf s g)) w w') (hG : Grew p.n s.kd (vsOf s g) s'.kd vb w.heap.size) : Tr p s g w s' { g with vf := vb.f.b, cb := vb.cb, rd := vb.rd, ad := vb.ad, cap := vb.cap } w' := by
  have hrl : ∀ a b, rlen s' a b = rlen s a b := fun a b => rlen_eq f1 f2 f3 f4 f5 (by rw [e2]) (by rw [e3])
  have hvs : vsOf s' { g with vf := vb.f.b, cb := vb.cb, rd := vb.rd, ad := vb.ad, cap := vb.cap } = vb := by unfold vsOf; rw [f6]
  have hsl : ∀ a b, sl s' { g with vf := vb.f.b, cb := vb.cb, rd := vb.rd, ad := vb.ad, cap := vb.cap } a b = sl s g a b := fun a b => by
    unfold sl
    rw [hrl]
  refine h.to (fun a b c => a = 1 ∧ b = 0 ∧ c = 0) (fun _ => (1, 0, 0)) (hO.mono (fun k hk _ => ⟨1, 0, 0, ⟨rfl, rfl, rfl⟩, hk⟩)) (fun a b c hC => ?_) (fun a b c hC => ?_) (fun a b c k hC hk => ?_)
  · refine ob_eq (vld_eq e1 (by rw [e2]) (fun _ _ => by rw [e2])) (fun hV => obk_eq hV (fun _ => engE_same (fun a b _ _ _ _ => hsl a b) e7 e8) ?_ ?_ ?_ ?_ (fun _ => rfl) (fun _ => ⟨rfl, rfl⟩) ?_ (fun _ => ⟨rfl, hrl a b, rcon_eq rfl rfl f1 f2 f3 f4 f5 (by rw [e2]) (by rw [e3])⟩))
    · intro ea
      exact absurd ⟨ea, vld_i0 hV (by omega)⟩ hC
    · intro ea
      refine ⟨rfl, ?_⟩
      funext j
      unfold tskE
      rw [hsl, hsl, e2]
      rfl
    · intro ea
      refine ⟨rfl, ?_⟩
      unfold frAt; rw [e2]; rfl
    · intro ea
      refine ⟨rfl, ?_⟩
      unfold frAt; rw [e2]
    · intro ea
      refine ⟨rfl, ?_⟩
      unfold sxO; rw [e2]
  · obtain ⟨rfl, rfl, rfl⟩ := hC
    show Str w' p.sb p.pb p.eb p.n s'.kd (vsOf s' { g with vf := vb.f.b, cb := vb.cb, rd := vb.rd, ad := vb.ad, cap := vb.cap }) s'.M
    rw [hvs]; exact hS
  · obtain ⟨rfl, rfl, rfl⟩ := hC
    have hk' : Sbk p.sb p.pb p.n s'.kd (vsOf s' { g with vf := vb.f.b, cb := vb.cb, rd := vb.rd, ad := vb.ad, cap := vb.cap }) k := hk
    rw [hvs] at hk'
    rcases hk' with h1 | h1 | h1
    · exact Or.inl (Or.inl h1)
    · exact Or.inl (Or.inr (Or.inl h1))
    · exact (hG k h1).imp (fun h => Or.inr (Or.inr h)) (fun h => ⟨h, rfl⟩)
end Go.Proofs.YtnjiinbhbjpfkaaGreatDoor.F
