/-
  What is always so stays so (plain): registers, lines, ends.
-/
import Derived.Test.YtnjiinbhbjpfkaaGreatDoorGateQ
namespace Go.Proofs.YtnjiinbhbjpfkaaGreatDoor.F
open Go.RowKit
theorem OkX.roots {p : Prm} {s s' : Pl} {X : Nat → Prop} (h : OkX p s X) (hk : s'.kd = s.kd) (hM : s'.M = s.M) (hr : ∀ v, Root p s' v → PGot p s v) : B.HeldL s'.kd p.n (rootsL p s') s'.M := by
  rw [hk, hM]
  exact B.heldL_sub h.hl (fun v hv => hr v (mem_rootsL.1 hv))
theorem FW.set {p : Prm} {l : List Frm} (h : FW p l) {i : Nat} {f : Frm} (hi : i < l.length) (hf : f.f = (l.getD i fr0).f) (hb : f.bk = (l.getD i fr0).bk) (hn : f.nx ≤ p.len f.f) : FW p (l.set i f) := by
  have hg : ∀ j, (l.set i f).getD j fr0 = if j = i then f else l.getD j fr0 := fun j => by
    by_cases e : j = i
    · subst e
      rw [if_pos rfl, List.getD_eq_getElem?_getD, List.getElem?_set_self hi]; rfl
    · rw [if_neg e, List.getD_eq_getElem?_getD, List.getElem?_set_ne (fun e' => e e'.symm), ← List.getD_eq_getElem?_getD]
  have hff : ∀ j, ((l.set i f).getD j fr0).f = (l.getD j fr0).f := fun j => by
    rw [hg]
    by_cases e : j = i
    · rw [if_pos e, hf, e]
    · rw [if_neg e]
  have hbb : ∀ j, ((l.set i f).getD j fr0).bk = (l.getD j fr0).bk := fun j => by
    rw [hg]
    by_cases e : j = i
    · rw [if_pos e, hb, e]
    · rw [if_neg e]
  refine ⟨fun e => h.n1 ?_, by rw [List.length_set]; exact h.n2, fun j hj => ?_, fun j hj => ?_⟩
  · have : (l.set i f).length = 0 := by rw [e]; rfl
    rw [List.length_set] at this
    exact List.length_eq_zero_iff.1 this
  · rw [List.length_set] at hj
    refine ⟨by rw [hff]; exact (h.f j hj).1, ?_⟩
    rw [hff, hg]
    by_cases e : j = i
    · rw [if_pos e, e, ← hf]; exact hn
    · rw [if_neg e]; exact (h.f j hj).2
  · rw [List.length_set] at hj
    rw [hff, hbb]
    exact h.b j hj
theorem OkX.setF {p : Prm} {s : Pl} {X : Nat → Prop} (h : OkX p s X) {t i : Nat} {f : Frm} (hi : i < (s.T t).fr.length) (hf : f.f = (frAt s t i).f) (hb : f.bk = (frAt s t i).bk) (hn : f.nx ≤ p.len f.f) (hR : ∀ a, a < p.rg f.f → PGot p s (f.R a)) : OkX p (s.setF t i f) X := by
  have hw := fun u => setF_wh s t i u f
  have hff : ∀ u j, (frAt (s.setF t i f) u j).f = (frAt s u j).f := fun u j => by
    by_cases e : u = t ∧ j = i
    · obtain ⟨rfl, rfl⟩ := e
      rw [setF_at s f hi, hf]
    · rw [setF_off s f e]
  have hne : ∀ u, (s.T u).fr ≠ [] → ((s.setF t i f).T u).fr ≠ [] := fun u h0 e => h0 (by
    have := (hw u).2.2.2.2
    rw [e] at this
    exact List.length_eq_zero_iff.1 this.symm)
  refine ⟨h.lw.setF t i f, fun u hu x y hx hxy => ?_, h.nd, h.lt, h.ql, fun u hu hl => ?_, fun u hu hr => ?_, h.ol, h.ok, h.kn, h.kz, fun u hu hX => ?_, h.roots rfl rfl ?_, h.fc, h.bt, h.c0, h.c1⟩
  · rw [(hw u).1] at hx
    obtain ⟨k, k1, k2, k3⟩ := h.ww u hu x y hx hxy
    refine ⟨k, by rw [(hw u).2.1]; exact k1, hne u k2, ?_⟩
    rw [(hw u).2.2.2.2, hff]; exact k3
  · rw [(hw u).2.1] at hl
    rw [(hw u).1]
    exact h.lf u hu hl
  · rw [(hw u).2.2.1] at hr
    rw [(hw u).1]
    exact h.rn u hu hr
  · have := h.fw u hu hX
    by_cases e : u = t
    · subst e
      unfold Pl.setF
      rw [setT_at]
      exact this.set hi hf hb hn
    · rw [setF_T s f e]; exact this
  · rintro v (⟨u, j, a, hu, hj, ha, e⟩ | hv)
    · rw [(hw u).2.2.2.2] at hj
      rw [hff] at ha
      by_cases e2 : u = t ∧ j = i
      · obtain ⟨rfl, rfl⟩ := e2
        rw [setF_at s f hi] at e
        rw [← e]
        exact hR a (by rw [hf]; exact ha)
      · rw [setF_off s f e2] at e
        exact PGot.root (Or.inl ⟨u, j, a, hu, hj, ha, e⟩)
    · exact PGot.root (Or.inr hv)
theorem OkX.reg {p : Prm} {s : Pl} {X : Nat → Prop} (h : OkX p s X) {t i : Nat} (hlv : t ∈ s.lv) (hX : X t) (hi : i < (s.T t).fr.length) (a : Nat) {v : B.V} (hv : PGot p s v) : OkX p (s.setF t i ((frAt s t i).set a v)) X := by
  refine h.setF hi rfl rfl ((h.fw t hlv hX).f i hi).2 (fun b hb => ?_)
  show PGot p s (B.set (frAt s t i).R a v b)
  by_cases e : b = a
  · subst e; rw [B.set_at]; exact hv
  · rw [B.set_off _ _ _ _ e]
    exact PGot.root (Or.inl ⟨t, i, b, hlv, hi, hb, rfl⟩)
theorem OkX.line {p : Prm} {s s' : Pl} {X : Nat → Prop} (h : OkX p s X) {t : Nat} (htl : t ∈ s.lv) (hn : s'.nt = s.nt) (hlw : LW s') (hT : ∀ u, u ≠ t → s'.T u = s.T u) (hfr : (s'.T t).fr = (s.T t).fr) (hq : ∀ x y, lnok s x y → ∀ a, a ∈ s'.q x y → a ∈ s.q x y ∨ a = t)
    (hst : s'.lv = s.lv ∧ s'.out = s.out ∧ s'.kp = s.kp ∧ s'.byt = s.byt ∧ s'.clk = s.clk ∧ s'.kd = s.kd ∧ s'.M = s.M ∧ s'.ck = s.ck)
    (hw : ∀ x y, (s'.T t).wh = some (x, y) → (x = 4 ∨ x = 5) → ∃ k, (s'.T t).lf = some k ∧ (s.T t).fr ≠ [] ∧ k.2.1 < p.rg (frAt s t ((s.T t).fr.length - 1)).f)
    (hlf : (s'.T t).lf ≠ none → ∃ x y, (s'.T t).wh = some (x, y) ∧ (x = 4 ∨ x = 5)) (hrn : (s'.T t).run = true → (s'.T t).wh = none) : OkX p s' X := by
  obtain ⟨f1, f2, f3, f4, f5, f6, f7, f8⟩ := hst
  have hfr' : ∀ u, (s'.T u).fr = (s.T u).fr := fun u => by
    by_cases e : u = t
    · rw [e]; exact hfr
    · rw [hT u e]
  have hff : ∀ u j, frAt s' u j = frAt s u j := fun u j => frAt_fr (hfr' u)
  refine ⟨hlw, fun u hu x y hx hxy => ?_, by rw [f1]; exact h.nd, fun u hu => (isT_nt hn).2 (h.lt u (by rw [← f1]; exact hu)), fun x y hl a ha => ?_, fun u hu hl => ?_, fun u hu hr => ?_, by rw [f2, hn]; exact h.ol, by rw [f2, f3]; exact h.ok, by rw [f3]; exact h.kn, by rw [f3]; exact h.kz, fun u hu hX => ?_, h.roots f6 f7 ?_, by rw [f6, f8]; exact h.fc, by rw [f4]; exact h.bt, by rw [f5]; exact h.c0, by rw [f5]; exact h.c1⟩
  · rw [hfr' u, hff]
    by_cases e : u = t
    · subst e; exact hw x y hx hxy
    · rw [hT u e] at hx ⊢
      exact h.ww u ((isT_nt hn).1 hu) x y hx hxy
  · rw [f1]
    rcases hq x y ((lnok_nt hn).1 hl) a ha with h1 | h1
    · exact h.ql x y ((lnok_nt hn).1 hl) a h1
    · rw [h1]; exact htl
  · by_cases e : u = t
    · subst e; exact hlf hl
    · rw [hT u e] at hl ⊢
      exact h.lf u ((isT_nt hn).1 hu) hl
  · rw [f1]
    by_cases e : u = t
    · subst e; exact ⟨hrn hr, htl⟩
    · rw [hT u e] at hr ⊢
      exact h.rn u ((isT_nt hn).1 hu) hr
  · rw [hfr']; exact h.fw u (by rw [← f1]; exact hu) hX
  · rintro v (⟨u, j, a, hu, hj, ha, e⟩ | hv)
    · rw [hff] at ha e
      rw [hfr'] at hj
      rw [f1] at hu
      exact PGot.root (Or.inl ⟨u, j, a, hu, hj, ha, e⟩)
    · rw [f3] at hv
      exact PGot.root (Or.inr hv)
theorem out1_lf {p : Prm} {s : Pl} {X : Nat → Prop} (h : OkX p s X) {t : Nat} (ht : isT s t) : ((s.out1 t).T t).lf = none := by
  cases hw : (s.T t).wh with
  | none =>
    rw [out1_none hw]
    cases hl : (s.T t).lf with
    | none => rfl
    | some k =>
      obtain ⟨x, y, e, _⟩ := h.lf t ht (by rw [hl]; simp)
      rw [hw] at e; cases e
  | some xy => rw [out1_some (x := xy.1) (y := xy.2) hw, setT_at]; rfl
theorem out1_mem {s : Pl} {t x y a : Nat} (h : a ∈ (s.out1 t).q x y) : a ∈ s.q x y := by
  cases hw : (s.T t).wh with
  | none => rw [out1_none hw] at h; exact h
  | some xy =>
    rw [out1_some (x := xy.1) (y := xy.2) hw] at h
    have h' : a ∈ (s.setQ xy.1 xy.2 ((s.q xy.1 xy.2).erase t)).q x y := h
    by_cases e : x = xy.1 ∧ y = xy.2
    · obtain ⟨rfl, rfl⟩ := e
      rw [setQ_at] at h'
      exact List.mem_of_mem_erase h'
    · rw [setQ_off _ _ e] at h'
      exact h'
theorem out1_st (s : Pl) (t : Nat) : (s.out1 t).lv = s.lv ∧ (s.out1 t).out = s.out ∧ (s.out1 t).kp = s.kp ∧ (s.out1 t).byt = s.byt ∧ (s.out1 t).clk = s.clk ∧ (s.out1 t).kd = s.kd ∧ (s.out1 t).M = s.M ∧ (s.out1 t).ck = s.ck := by
  obtain ⟨k1, k2, k3, k4, k5, k6, k7, k8, k9, k10⟩ := out1_lv s t
  exact ⟨k1, k2, k3, k5, k7, k8, k9, k10⟩
theorem OkX.into {p : Prm} {s : Pl} {X : Nat → Prop} (h : OkX p s X) {x y t : Nat} {l : List Nat} (htl : t ∈ s.lv) (hl : lnok s x y) (hx : x = 2 ∨ x = 3) (hd : l.Nodup) (hm : ∀ u, u ∈ l ↔ (u ∈ (s.out1 t).q x y ∨ u = t)) : OkX p (s.into x y t l) X := by
  have ht := h.lt t htl
  have hTt : (s.into x y t l).T t = ((s.out1 t).T t).to x y := setT_at _ _ _
  refine h.line htl (out1_nt s t) (h.lw.into ht hl (by omega) hd hm) (fun u e => (setT_off _ _ e).trans (out1_T s e)) ?_ (fun a b hab c hc => ?_) (out1_st s t) (fun a b hab h45 => ?_) (fun hl' => ?_) (fun hr => ?_)
  · rw [hTt]; exact out1_fr s t t
  · have hc' : c ∈ ((s.out1 t).setQ x y l).q a b := hc
    by_cases e : a = x ∧ b = y
    · obtain ⟨rfl, rfl⟩ := e
      rw [setQ_at] at hc'
      rcases (hm c).1 hc' with h1 | h1
      · exact Or.inl (out1_mem h1)
      · exact Or.inr h1
    · rw [setQ_off _ _ e] at hc'
      exact Or.inl (out1_mem hc')
  · rw [hTt] at hab
    injection hab with hab
    injection hab with h1 _
    omega
  · rw [hTt] at hl'
    exact absurd (out1_lf h ht) hl'
  · rw [hTt] at hr; cases hr
theorem OkX.join1 {p : Prm} {s : Pl} {X : Nat → Prop} (h : OkX p s X) {t : Nat} (htl : t ∈ s.lv) : OkX p (s.join1 2 0 t) X := by
  have ht := h.lt t htl
  have h1 := h.lw.out1 ht
  have hl : lnok s 2 0 := Or.inl ⟨rfl, rfl⟩
  have hl1 := (lnok_nt (out1_nt s t)).2 hl
  exact h.into htl hl (Or.inl rfl) (nodup_snoc (h1.c 2 0 hl1) (h1.out hl1 (by rw [out1_wh]; intro e; cases e))) (fun u => by simp)
theorem OkX.wait {p : Prm} {s : Pl} {X : Nat → Prop} (h : OkX p s X) {x y t : Nat} {k : Nat × Nat × Nat × Nat} (htl : t ∈ s.lv) (hX : X t) (hl : lnok s x y) (hx : x = 4 ∨ x = 5) (hxt : ¬ (x = 5 ∧ y = t)) (hk : k.2.1 < p.rg (frAt s t (topN s t)).f) : OkX p (s.wait x y t k) X := by
  have ht := h.lt t htl
  have hTt : (s.wait x y t k).T t = (((s.out1 t).T t).to x y).lft k := by
    show ((s.join1 x y t).setT t _).T t = _
    rw [setT_at, join1_at]
  have hwh : ∀ u, ((s.wait x y t k).T u).wh = ((s.join1 x y t).T u).wh := fun u => by
    by_cases e : u = t
    · subst e; rw [hTt, join1_at]; rfl
    · show (((s.join1 x y t).setT t _).T u).wh = _
      rw [setT_off _ _ e]
  refine h.line htl (out1_nt s t) ((h.lw.join1 ht hl hxt).same rfl rfl hwh) (fun u e => (setT_off _ _ e).trans (join1_T s e)) ?_ (fun a b hab c hc => ?_) (out1_st s t) (fun a b hab h45 => ⟨k, by rw [hTt]; rfl, (h.fw t htl hX).n1, hk⟩) (fun _ => ⟨x, y, by rw [hTt]; rfl, hx⟩) (fun hr => ?_)
  · rw [hTt]; exact out1_fr s t t
  · have hc' : c ∈ ((s.out1 t).setQ x y ((s.out1 t).q x y ++ [t])).q a b := hc
    by_cases e : a = x ∧ b = y
    · obtain ⟨rfl, rfl⟩ := e
      rw [setQ_at] at hc'
      rcases List.mem_append.1 hc' with h1 | h1
      · exact Or.inl (out1_mem h1)
      · exact Or.inr (by simpa using h1)
    · rw [setQ_off _ _ e] at hc'
      exact Or.inl (out1_mem hc')
  · rw [hTt] at hr; cases hr
def Pl.start (s : Pl) (t : Nat) : Pl := (s.out1 t).setT t { (s.out1 t).T t with run := true }
theorem OkX.start {p : Prm} {s : Pl} {X : Nat → Prop} (h : OkX p s X) {t : Nat} (htl : t ∈ s.lv) : OkX p (s.start t) X := by
  have ht := h.lt t htl
  have hTt : (s.start t).T t = { (s.out1 t).T t with run := true } := setT_at _ _ _
  have hwh : ∀ u, ((s.start t).T u).wh = ((s.out1 t).T u).wh := fun u => by
    by_cases e : u = t
    · subst e; rw [hTt]
    · show (((s.out1 t).setT t _).T u).wh = _
      rw [setT_off _ _ e]
  refine h.line htl (out1_nt s t) ((h.lw.out1 ht).same rfl rfl hwh) (fun u e => (setT_off _ _ e).trans (out1_T s e)) (by rw [hTt]; exact out1_fr s t t) (fun a b _ c hc => Or.inl (out1_mem (s := s) (t := t) hc)) (out1_st s t) (fun a b hab _ => ?_) (fun hl' => ?_) (fun _ => ?_)
  · rw [hwh, out1_wh] at hab; cases hab
  · rw [hTt] at hl'; exact absurd (out1_lf h ht) hl'
  · rw [hwh, out1_wh]
theorem OkX.woke {p : Prm} {s : Pl} {X : Nat → Prop} (h : OkX p s X) {t : Nat} (ht : isT s t) (hX : t ∈ s.lv → X t) {v : B.V} (hv : PGot p s v) : OkX p (s.woke t v) X := by
  unfold Pl.woke
  split
  · exact h
  · rename_i k hk
    obtain ⟨x, y, hw, _⟩ := h.lf t ht (by rw [hk]; simp)
    obtain ⟨hl, hm, _⟩ := h.lw.a t ht x y hw
    have htl := h.ql x y hl t hm
    have hi : topN s t < (s.T t).fr.length := by
      have := (h.fw t htl (hX htl)).n1
      have : (s.T t).fr.length ≠ 0 := fun e => this (List.length_eq_zero_iff.1 e)
      unfold topN; omega
    exact (h.reg htl (hX htl) hi k.2.1 hv).join1 htl
theorem keptL_mem {kp : List B.V} {v u : B.V} (h : u ∈ keptL kp v) : u ∈ kp ∨ (u = v ∧ v.1 ≠ 0) := by
  unfold keptL at h
  split at h
  · rename_i c
    rcases List.mem_append.1 h with h | h
    · exact Or.inl h
    · exact Or.inr ⟨by simpa using h, c.1⟩
  · exact Or.inl h
theorem keptL_old {kp : List B.V} {v u : B.V} (h : u ∈ kp) : u ∈ keptL kp v := by
  unfold keptL
  split
  · simp [h]
  · exact h
theorem keptL_self {kp : List B.V} {v : B.V} (h : v.1 ≠ 0) : v ∈ keptL kp v := by
  unfold keptL
  split
  · simp
  · rename_i c
    exact Classical.byContradiction fun h' => c ⟨h, h'⟩
theorem keptL_nd {kp : List B.V} {v : B.V} (h : kp.Nodup) : (keptL kp v).Nodup := by
  unfold keptL
  split
  · rename_i c
    rw [List.nodup_append]
    refine ⟨h, by simp, fun a ha b hb => ?_⟩
    simp at hb
    subst hb
    exact fun e => c.2 (e ▸ ha)
  · exact h
theorem gone_fr (s : Pl) (t : Nat) (v : B.V) (kind : Nat) (x : Int) (u : Nat) : ((s.gone t v kind x).T u).fr = (s.T u).fr := by
  by_cases e : u = t
  · subst e
    show (((s.out1 u).setT u ((s.out1 u).T u).stop).T u).fr = _
    rw [setT_at]
    exact out1_fr s u u
  · rw [gone_T s v kind x e]
theorem gone_st (s : Pl) (t : Nat) (v : B.V) (kind : Nat) (x : Int) : (s.gone t v kind x).lv = s.lv.erase t ∧ (s.gone t v kind x).out = s.out.set (t - 1) v ∧ (s.gone t v kind x).kp = keptL s.kp v ∧ (s.gone t v kind x).byt = s.byt ∧ (s.gone t v kind x).clk = s.clk ∧ (s.gone t v kind x).kd = s.kd ∧ (s.gone t v kind x).M = s.M ∧ (s.gone t v kind x).ck = s.ck ∧ (s.gone t v kind x).ev = s.ev ++ [(kind, t, x)] ∧ (s.gone t v kind x).q = (s.out1 t).q := by
  obtain ⟨k1, k2, k3, k4, k5, k6, k7, k8, k9, k10⟩ := out1_lv s t
  refine ⟨rfl, ?_, ?_, k5, k7, k8, k9, k10, ?_, rfl⟩
  · show (s.out1 t).out.set (t - 1) v = _
    rw [k2]
  · show keptL (s.out1 t).kp v = _
    rw [k3]
  · show (s.out1 t).ev ++ [(kind, t, x)] = _
    rw [k4]
theorem OkX.gone {p : Prm} {s : Pl} {X Y : Nat → Prop} (h : OkX p s X) {t : Nat} (htl : t ∈ s.lv) {v : B.V} (hv : PGot p s v) (kind : Nat) (x : Int) (hY : ∀ u, u ≠ t → Y u → X u) : OkX p (s.gone t v kind x) Y := by
  have ht := h.lt t htl
  have hn := gone_nt s t v kind x
  obtain ⟨f1, f2, f3, f4, f5, f6, f7, f8, _, f10⟩ := gone_st s t v kind x
  have hff : ∀ u j, frAt (s.gone t v kind x) u j = frAt s u j := fun u j => frAt_fr (gone_fr s t v kind x u)
  have hTt : (s.gone t v kind x).T t = ((s.out1 t).T t).stop := setT_at _ _ _
  have hlw := h.lw.gone ht v kind x
  refine ⟨hlw, h.ww.gone v kind x, by rw [f1]; exact h.nd.erase _, fun u hu => (isT_nt hn).2 (h.lt u (List.mem_of_mem_erase (by rw [← f1]; exact hu))), fun a b hl c hc => ?_, fun u hu hl => ?_, fun u hu hr => ?_, by rw [f2, List.length_set, hn]; exact h.ol, fun u hu => ?_, by rw [f3]; exact keptL_nd h.kn, fun u hu => ?_, fun u hu hy => ?_, h.roots f6 f7 ?_, by rw [f6, f8]; exact h.fc, by rw [f4]; exact h.bt, by rw [f5]; exact h.c0, by rw [f5]; exact h.c1⟩
  · have hb := hlw.b a b hl c hc
    have e : c ≠ t := fun e => by
      have h2 := hb.2
      rw [e, gone_wh, out1_wh] at h2
      cases h2
    rw [f1, h.nd.mem_erase_iff]
    rw [f10] at hc
    exact ⟨e, h.ql a b ((lnok_nt hn).1 hl) c (out1_mem hc)⟩
  · by_cases e : u = t
    · subst e
      rw [hTt] at hl
      exact absurd (out1_lf h ht) hl
    · rw [gone_T s v kind x e] at hl ⊢
      exact h.lf u ((isT_nt hn).1 hu) hl
  · by_cases e : u = t
    · subst e
      rw [hTt] at hr; cases hr
    · rw [gone_T s v kind x e] at hr ⊢
      have := h.rn u ((isT_nt hn).1 hu) hr
      exact ⟨this.1, by rw [f1, h.nd.mem_erase_iff]; exact ⟨e, this.2⟩⟩
  · rw [f2] at hu
    rw [f3]
    rcases List.mem_or_eq_of_mem_set hu with h1 | h1
    · exact (h.ok u h1).imp id keptL_old
    · subst h1
      by_cases e : u.1 = 0
      · exact Or.inl e
      · exact Or.inr (keptL_self e)
  · rw [f3] at hu
    rcases keptL_mem hu with h1 | h1
    · exact h.kz u h1
    · rw [h1.1]; exact h1.2
  · rw [f1, h.nd.mem_erase_iff] at hu
    rw [gone_fr]
    exact h.fw u hu.2 (hY u hu.1 hy)
  · rintro u (⟨c, j, a, hc, hj, ha, e⟩ | hu)
    · rw [hff] at ha e
      rw [gone_fr] at hj
      rw [f1] at hc
      exact PGot.root (Or.inl ⟨c, j, a, List.mem_of_mem_erase hc, hj, ha, e⟩)
    · rw [f3] at hu
      rcases keptL_mem hu with h1 | h1
      · exact PGot.root (Or.inr h1)
      · rw [h1.1]; exact hv
theorem join1_st (s : Pl) (x y t : Nat) : (s.join1 x y t).lv = s.lv ∧ (s.join1 x y t).out = s.out ∧ (s.join1 x y t).kp = s.kp ∧ (s.join1 x y t).byt = s.byt ∧ (s.join1 x y t).clk = s.clk ∧ (s.join1 x y t).kd = s.kd ∧ (s.join1 x y t).M = s.M ∧ (s.join1 x y t).ck = s.ck ∧ (s.join1 x y t).ev = s.ev ∧ (s.join1 x y t).sp = s.sp := by
  obtain ⟨k1, k2, k3, k4, k5, k6, k7, k8, k9, k10⟩ := out1_lv s t
  exact ⟨k1, k2, k3, k5, k7, k8, k9, k10, k4, k6⟩
theorem woke_st (s : Pl) (t : Nat) (v : B.V) : (s.woke t v).lv = s.lv ∧ (s.woke t v).out = s.out ∧ (s.woke t v).kp = s.kp ∧ (s.woke t v).byt = s.byt ∧ (s.woke t v).clk = s.clk ∧ (s.woke t v).kd = s.kd ∧ (s.woke t v).M = s.M ∧ (s.woke t v).ck = s.ck ∧ (s.woke t v).ev = s.ev ∧ (s.woke t v).sp = s.sp := by
  unfold Pl.woke
  split
  · exact ⟨rfl, rfl, rfl, rfl, rfl, rfl, rfl, rfl, rfl, rfl⟩
  · exact join1_st _ 2 0 t
theorem wokeAll_st (v : B.V) : ∀ (l : List Nat) (s : Pl), (s.wokeAll v l).lv = s.lv ∧ (s.wokeAll v l).kp = s.kp ∧ (s.wokeAll v l).ev = s.ev ∧ (s.wokeAll v l).nt = s.nt ∧ (s.wokeAll v l).sp = s.sp
  | [], _ => ⟨rfl, rfl, rfl, rfl, rfl⟩
  | t :: l, s => by
    obtain ⟨a1, a2, a3, a4, a5⟩ := wokeAll_st v l (s.woke t v)
    obtain ⟨b1, _, b3, _, _, _, _, _, b9, b10⟩ := woke_st s t v
    exact ⟨a1.trans b1, a2.trans b3, a3.trans b9, a4.trans (woke_nt s t v), a5.trans b10⟩
theorem OkX.wokeAll {p : Prm} {X : Nat → Prop} {v : B.V} : ∀ (l : List Nat) {s : Pl}, OkX p s X → (∀ u, u ∈ l → isT s u) → (∀ u, u ∈ s.lv → X u) → (v.1 = 0 ∨ v ∈ s.kp) → OkX p (s.wokeAll v l) X
  | [], _, h, _, _, _ => h
  | t :: l, s, h, hl, hX, hv => by
    obtain ⟨b1, _, b3, _⟩ := woke_st s t v
    refine OkX.wokeAll l (h.woke (hl t (by simp)) (hX t) (hv.elim (fun e => Or.inl e) (fun e => PGot.root (Or.inr e)))) (fun u hu => (isT_nt (woke_nt s t v)).2 (hl u (by simp [hu]))) (fun u hu => hX u (by rw [← b1]; exact hu)) (by rw [b3]; exact hv)
theorem OkX.leave {p : Prm} {s : Pl} {X : Nat → Prop} (h : OkX p s X) {t : Nat} (htl : t ∈ s.lv) (hX : ∀ u, u ≠ t → X u) {v : B.V} (hv : PGot p s v) (kind : Nat) (x : Int) : Ok p (s.leave t v kind x) := by
  have ht := h.lt t htl
  have hn := gone_nt s t v kind x
  have hg : Ok p (s.gone t v kind x) := h.gone htl hv kind x (fun u hu _ => hX u hu)
  refine hg.wokeAll _ (fun u hu => (isT_nt hn).2 (h.lw.b 5 t (Or.inr (Or.inr (Or.inr ⟨rfl, ht⟩))) u hu).1) (fun _ _ => trivial) ?_
  rw [(gone_st s t v kind x).2.2.1]
  by_cases e : v.1 = 0
  · exact Or.inl e
  · exact Or.inr (keptL_self e)
theorem leave_st (s : Pl) (t : Nat) (v : B.V) (kind : Nat) (x : Int) : (s.leave t v kind x).lv = s.lv.erase t ∧ (s.leave t v kind x).ev = s.ev ++ [(kind, t, x)] ∧ (s.leave t v kind x).nt = s.nt := by
  obtain ⟨a1, _, a3, a4, _⟩ := wokeAll_st v (s.q 5 t) (s.gone t v kind x)
  obtain ⟨f1, _, _, _, _, _, _, _, f9, _⟩ := gone_st s t v kind x
  exact ⟨a1.trans f1, a3.trans f9, a4.trans (gone_nt s t v kind x)⟩
theorem getD_snoc (l : List Frm) (f : Frm) (i : Nat) : (l ++ [f]).getD i fr0 = if i = l.length then f else l.getD i fr0 := by
  rw [List.getD_eq_getElem?_getD, List.getD_eq_getElem?_getD]
  by_cases e : i = l.length
  · subst e; simp
  · rw [if_neg e]
    rcases Nat.lt_or_ge i l.length with h | h
    · rw [List.getElem?_append_left h]
    · rw [List.getElem?_eq_none (by simp; omega), List.getElem?_eq_none (by omega)]
theorem FW.push {p : Prm} {l : List Frm} {f : Frm} (h : l = [] ∨ FW p l) (hl : l.length < 20) (hf : f.f < p.nf) (hn : f.nx ≤ p.len f.f) (hb : l ≠ [] → f.bk.2.1 < p.rg (l.getD (l.length - 1) fr0).f) : FW p (l ++ [f]) := by
  have hW : ∀ i, i < l.length → FW p l := fun i hi => h.resolve_left (fun e => by rw [e] at hi; exact absurd hi (Nat.not_lt_zero _))
  refine ⟨by simp, by rw [List.length_append]; simp; omega, fun i hi => ?_, fun i hi => ?_⟩
  · rw [List.length_append, List.length_singleton] at hi
    rw [getD_snoc]
    by_cases e : i = l.length
    · rw [if_pos e]; exact ⟨hf, hn⟩
    · rw [if_neg e]; exact (hW i (by omega)).f i (by omega)
  · rw [List.length_append, List.length_singleton] at hi
    rw [getD_snoc, getD_snoc]
    rw [if_neg (show ¬ i = l.length by omega)]
    by_cases e : i + 1 = l.length
    · rw [if_pos e]
      have : i = l.length - 1 := by omega
      rw [this]
      exact hb (fun e' => by rw [e'] at e; cases e)
    · rw [if_neg e]
      exact (hW i (by omega)).b i (by omega)
theorem push_fr (s : Pl) (t : Nat) (f : Frm) : ((s.push t f).T t).fr = (s.T t).fr ++ [f] := by unfold Pl.push; rw [setT_at]; rfl
theorem push_off_T (s : Pl) {t u : Nat} (f : Frm) (h : u ≠ t) : (s.push t f).T u = s.T u := setT_off _ _ h
theorem push_run (s : Pl) (t : Nat) (f : Frm) (u : Nat) : ((s.push t f).T u).run = (s.T u).run := by
  unfold Pl.push
  by_cases e : u = t
  · subst e; rw [setT_at]; rfl
  · rw [setT_off _ _ e]
theorem OkX.push {p : Prm} {s : Pl} {X Y : Nat → Prop} (h : OkX p s X) {t : Nat} {f : Frm} (hw : (s.T t).wh = none) (hl : (s.T t).fr.length < 20) (hF : (s.T t).fr = [] ∨ FW p (s.T t).fr) (hf : f.f < p.nf) (hn : f.nx ≤ p.len f.f) (hb : (s.T t).fr ≠ [] → f.bk.2.1 < p.rg (frAt s t (topN s t)).f) (hR : ∀ a, a < p.rg f.f → PGot p s (f.R a)) (hY : ∀ u, u ≠ t → Y u → X u) : OkX p (s.push t f) Y := by
  have hwh := fun u => push_wh s t f u
  have hne : ∀ u, u ≠ t → (s.push t f).T u = s.T u := fun u e => push_off_T s f e
  refine ⟨h.lw.push t f, fun u hu x y hx hxy => ?_, h.nd, h.lt, h.ql, fun u hu hl => ?_, fun u hu hr => ?_, h.ol, h.ok, h.kn, h.kz, fun u hu hy => ?_, h.roots rfl rfl ?_, h.fc, h.bt, h.c0, h.c1⟩
  · rw [(hwh u).1] at hx
    have e : u ≠ t := fun e => by rw [e, hw] at hx; cases hx
    obtain ⟨k, k1, k2, k3⟩ := h.ww u hu x y hx hxy
    rw [hne u e, frAt_fr (s := s) (by rw [hne u e])]
    exact ⟨k, k1, k2, k3⟩
  · rw [(hwh u).2] at hl
    rw [(hwh u).1]
    exact h.lf u hu hl
  · rw [push_run] at hr
    rw [(hwh u).1]
    exact h.rn u hu hr
  · by_cases e : u = t
    · subst e
      rw [push_fr]
      exact FW.push hF hl hf hn hb
    · rw [hne u e]; exact h.fw u hu (hY u e hy)
  · rintro v (⟨u, j, a, hu, hj, ha, e⟩ | hv)
    · by_cases e1 : u = t
      · subst e1
        rw [push_fr, List.length_append, List.length_singleton] at hj
        by_cases e2 : j = (s.T u).fr.length
        · subst e2
          rw [push_at] at ha e
          rw [← e]; exact hR a ha
        · rw [push_old s f (fun _ => by omega)] at ha e
          exact PGot.root (Or.inl ⟨u, j, a, hu, by omega, ha, e⟩)
      · rw [push_old s f (fun e' => absurd e' e1)] at ha e
        rw [hne u e1] at hj
        exact PGot.root (Or.inl ⟨u, j, a, hu, hj, ha, e⟩)
    · exact PGot.root (Or.inr hv)
theorem FW.pop {p : Prm} {l : List Frm} (h : FW p l) (hl : 2 ≤ l.length) : FW p l.dropLast := by
  have hg : ∀ i, i + 1 < l.length → l.dropLast.getD i fr0 = l.getD i fr0 := fun i hi => by
    rw [List.getD_eq_getElem?_getD, List.getD_eq_getElem?_getD, List.getElem?_dropLast, if_pos (by omega)]
  have hd : l.dropLast.length = l.length - 1 := List.length_dropLast
  refine ⟨fun e => ?_, by have := h.n2; omega, fun i hi => ?_, fun i hi => ?_⟩
  · rw [e] at hd; simp at hd; omega
  · rw [hg i (by omega)]; exact h.f i (by omega)
  · rw [hg i (by omega), hg (i + 1) (by omega)]; exact h.b i (by omega)
theorem pop_off_T (s : Pl) {t u : Nat} (h : u ≠ t) : (s.pop t).T u = s.T u := setT_off _ _ h
theorem pop_fr (s : Pl) (t : Nat) : ((s.pop t).T t).fr = (s.T t).fr.dropLast := by unfold Pl.pop; rw [setT_at]; rfl
theorem pop_run (s : Pl) (t u : Nat) : ((s.pop t).T u).run = (s.T u).run := by
  unfold Pl.pop
  by_cases e : u = t
  · subst e; rw [setT_at]; rfl
  · rw [setT_off _ _ e]
theorem OkX.pop {p : Prm} {s : Pl} {X Y : Nat → Prop} (h : OkX p s X) {t : Nat} (hw : (s.T t).wh = none) (hY : ∀ u, Y u → X u ∧ (u ≠ t ∨ 2 ≤ (s.T t).fr.length)) : OkX p (s.pop t) Y := by
  have hwh := fun u => pop_wh s t u
  refine ⟨h.lw.pop t, h.ww.pop hw, h.nd, h.lt, h.ql, fun u hu hl => ?_, fun u hu hr => ?_, h.ol, h.ok, h.kn, h.kz, fun u hu hy => ?_, h.roots rfl rfl ?_, h.fc, h.bt, h.c0, h.c1⟩
  · rw [(hwh u).2] at hl
    rw [(hwh u).1]
    exact h.lf u hu hl
  · rw [pop_run] at hr
    rw [(hwh u).1]
    exact h.rn u hu hr
  · obtain ⟨k1, k2⟩ := hY u hy
    have := h.fw u hu k1
    by_cases e : u = t
    · subst e
      rw [pop_fr]
      exact this.pop (k2.resolve_left (fun h => h rfl))
    · rw [pop_off_T s e]; exact this
  · rintro v (⟨u, j, a, hu, hj, ha, e⟩ | hv)
    · by_cases e1 : u = t
      · subst e1
        rw [pop_len] at hj
        rw [pop_old s (fun _ => by omega)] at ha e
        exact PGot.root (Or.inl ⟨u, j, a, hu, by omega, ha, e⟩)
      · rw [pop_old s (fun e' => absurd e' e1)] at ha e
        rw [pop_off_T s e1] at hj
        exact PGot.root (Or.inl ⟨u, j, a, hu, hj, ha, e⟩)
    · exact PGot.root (Or.inr hv)
theorem pop_gone {s : Pl} {t : Nat} (hw : (s.T t).wh = none) (v : B.V) (kind : Nat) (x : Int) : (s.pop t).gone t v kind x = (s.gone t v kind x).pop t := by
  have hw' : ((s.pop t).T t).wh = none := by rw [(pop_wh s t t).1]; exact hw
  have hT : ((s.pop t).gone t v kind x).T = ((s.gone t v kind x).pop t).T := by
    funext i
    by_cases e : i = t
    · subst e
      have e1 : ((s.pop i).gone i v kind x).T i = ((s.pop i).T i).stop := by
        show (((s.pop i).out1 i).setT i (((s.pop i).out1 i).T i).stop).T i = _
        rw [setT_at, out1_none hw']
      have e2 : (s.gone i v kind x).T i = (s.T i).stop := by
        show ((s.out1 i).setT i ((s.out1 i).T i).stop).T i = _
        rw [setT_at, out1_none hw]
      rw [e1]
      show _ = ((s.gone i v kind x).setT i _).T i
      rw [setT_at, e2]
      show ((s.setT i _).T i).stop = _
      rw [setT_at]
      rfl
    · rw [gone_T _ v kind x e, pop_off_T s e, pop_off_T _ e, gone_T s v kind x e]
  have hr : ∀ a b : Pl, a.nt = b.nt → a.T = b.T → a.q = b.q → a.lv = b.lv → a.out = b.out → a.kp = b.kp → a.ev = b.ev → a.byt = b.byt → a.sp = b.sp → a.clk = b.clk → a.kd = b.kd → a.M = b.M → a.ck = b.ck → a = b := by
    rintro ⟨⟩ ⟨⟩
    simp only
    rintro rfl rfl rfl rfl rfl rfl rfl rfl rfl rfl rfl rfl rfl
    rfl
  have ho : (s.pop t).out1 t = s.pop t := out1_none hw'
  have ho2 : s.out1 t = s := out1_none hw
  refine hr _ _ ?_ hT ?_ rfl ?_ ?_ ?_ ?_ ?_ ?_ ?_ ?_ ?_
  · rw [gone_nt]; show s.nt = (s.gone t v kind x).nt; rw [gone_nt]
  · show ((s.pop t).out1 t).q = (s.out1 t).q; rw [ho, ho2]; rfl
  · show ((s.pop t).out1 t).out.set (t - 1) v = (s.out1 t).out.set (t - 1) v; rw [ho, ho2]; rfl
  · show keptL ((s.pop t).out1 t).kp v = keptL (s.out1 t).kp v; rw [ho, ho2]; rfl
  · show ((s.pop t).out1 t).ev ++ _ = (s.out1 t).ev ++ _; rw [ho, ho2]; rfl
  · show ((s.pop t).out1 t).byt = (s.out1 t).byt; rw [ho, ho2]; rfl
  · show ((s.pop t).out1 t).sp = (s.out1 t).sp; rw [ho, ho2]; rfl
  · show ((s.pop t).out1 t).clk = (s.out1 t).clk; rw [ho, ho2]; rfl
  · show ((s.pop t).out1 t).kd = (s.out1 t).kd; rw [ho, ho2]; rfl
  · show ((s.pop t).out1 t).M = (s.out1 t).M; rw [ho, ho2]; rfl
  · show ((s.pop t).out1 t).ck = (s.out1 t).ck; rw [ho, ho2]; rfl
theorem Pl.ext' {a b : Pl} (h1 : a.nt = b.nt) (h2 : a.T = b.T) (h3 : a.q = b.q) (h4 : a.lv = b.lv) (h5 : a.out = b.out) (h6 : a.kp = b.kp) (h7 : a.ev = b.ev) (h8 : a.byt = b.byt) (h9 : a.sp = b.sp) (h10 : a.clk = b.clk) (h11 : a.kd = b.kd) (h12 : a.M = b.M) (h13 : a.ck = b.ck) : a = b := by
  obtain ⟨⟩ := a
  obtain ⟨⟩ := b
  simp only at h1 h2 h3 h4 h5 h6 h7 h8 h9 h10 h11 h12 h13
  subst h1 h2 h3 h4 h5 h6 h7 h8 h9 h10 h11 h12 h13
  rfl
theorem set_dropLast (l : List Frm) (i : Nat) (f : Frm) (hi : i + 1 < l.length) : (l.set i f).dropLast = l.dropLast.set i f := by
  apply List.ext_getElem?
  intro j
  rw [List.getElem?_dropLast, List.length_set]
  by_cases e : j = i
  · subst e
    rw [if_pos (by omega), List.getElem?_set_self (by omega), List.getElem?_set_self (by rw [List.length_dropLast]; omega)]
  · rw [List.getElem?_set_ne (fun h => e h.symm), List.getElem?_set_ne (fun h => e h.symm), List.getElem?_dropLast]
theorem pop_setF {s : Pl} {t i : Nat} {f : Frm} (hi : i + 1 < (s.T t).fr.length) : (s.pop t).setF t i f = (s.setF t i f).pop t := by
  refine Pl.ext' rfl ?_ rfl rfl rfl rfl rfl rfl rfl rfl rfl rfl rfl
  funext u
  by_cases e : u = t
  · subst e
    unfold Pl.setF Pl.pop
    rw [setT_at, setT_at, setT_at, setT_at]
    unfold Tsk.frs
    simp only [set_dropLast _ _ _ hi]
  · rw [setF_T _ _ e, pop_off_T _ e, pop_off_T _ e, setF_T _ _ e]
theorem OkX.back {p : Prm} {s : Pl} (h : Ok p s) {t : Nat} (htl : t ∈ s.lv) (hw : (s.T t).wh = none) {v : B.V} (hv : PGot p s v) : Ok p (s.back t v) := by
  have ht := h.lt t htl
  have hF := h.fw t htl trivial
  unfold Pl.back
  by_cases e : topN s t = 0
  · rw [if_pos e]
    unfold Pl.leave
    rw [pop_gone hw]
    have hg : Ok p (s.gone t v 2 v.2) := h.gone htl hv 2 v.2 (fun _ _ h => h)
    have hgl := (gone_st s t v 2 v.2).1
    have hnm : t ∉ (s.gone t v 2 v.2).lv := by rw [hgl, h.nd.mem_erase_iff]; exact fun h => h.1 rfl
    have hp : OkX p ((s.gone t v 2 v.2).pop t) (fun u => u ≠ t) := hg.pop (by rw [gone_wh, out1_wh]) (fun u hu => ⟨trivial, Or.inl hu⟩)
    have hp2 : Ok p ((s.gone t v 2 v.2).pop t) := hp.weak (fun u hu _ e => hnm (e ▸ hu))
    refine hp2.wokeAll _ (fun u hu => ?_) (fun _ _ => trivial) ?_
    · exact (isT_nt (gone_nt s t v 2 v.2)).2 (h.lw.b 5 t (Or.inr (Or.inr (Or.inr ⟨rfl, ht⟩))) u hu).1
    · show v.1 = 0 ∨ v ∈ (s.gone t v 2 v.2).kp
      rw [(gone_st s t v 2 v.2).2.2.1]
      by_cases e : v.1 = 0
      · exact Or.inl e
      · exact Or.inr (keptL_self e)
  · rw [if_neg e]
    have hl : 2 ≤ (s.T t).fr.length := by unfold topN at e; omega
    rw [pop_setF (by unfold topN; omega)]
    refine (h.reg htl trivial (by unfold topN; omega) _ hv).pop (by rw [(setF_wh s t _ t _).1]; exact hw) (fun u _ => ⟨trivial, Or.inr ?_⟩)
    rw [(setF_wh s t _ t _).2.2.2.2]; exact hl
theorem back_st (s : Pl) (t : Nat) (v : B.V) : (topN s t = 0 → (s.back t v).lv = s.lv.erase t ∧ (s.back t v).ev = s.ev ++ [(2, t, v.2)] ∧ (s.back t v).nt = s.nt) ∧ (topN s t ≠ 0 → (s.back t v).lv = s.lv ∧ (s.back t v).ev = s.ev ∧ (s.back t v).nt = s.nt ∧ (s.back t v).q = s.q) := by
  unfold Pl.back
  constructor
  · intro e
    rw [if_pos e]
    exact leave_st (s.pop t) t v 2 v.2
  · intro e
    rw [if_neg e]
    exact ⟨rfl, rfl, rfl, rfl⟩
theorem PGot.mono {p : Prm} {s s' : Pl} (hM : s'.M = s.M) (hr : ∀ v, Root p s v → Root p s' v) {v : B.V} (h : PGot p s v) : PGot p s' v := by
  have hs : ∀ u, u ∈ rootsL p s → B.Got (rootsL p s') s'.M u := fun u hu => B.Got.mem (mem_rootsL.2 (hr u (mem_rootsL.1 hu)))
  unfold PGot
  rcases h with h | h | ⟨k, hk, h⟩
  · exact Or.inl h
  · exact hs v h
  · refine Or.inr (Or.inr ⟨k, ?_, by rw [hM]; exact h⟩)
    rw [hM] at hs ⊢
    exact B.rchL_sub hs hk
theorem OkX.more {p : Prm} {s : Pl} (h : Ok p s) (hn : s.nt + 1 ≤ 500000000) : OkX p s.more (fun u => u ≠ s.nt + 1) := by
  have hT : ∀ u, u ≠ s.nt + 1 → s.more.T u = s.T u := fun u e => new_T s e
  have hT1 : s.more.T (s.nt + 1) = tsk0 := new_T1 s
  have hnl : s.nt + 1 ∉ s.lv := fun hm => by have := (h.lt _ hm).2; omega
  have hne : ∀ u, isT s u → u ≠ s.nt + 1 := fun u hu e => by have := hu.2; omega
  have hff : ∀ u j, u ≠ s.nt + 1 → frAt s.more u j = frAt s u j := fun u j e => frAt_fr (by rw [hT u e])
  refine ⟨h.lw.more hn, fun u hu x y hx hxy => ?_, ?_, fun u hu => ?_, fun x y hl a ha => ?_, fun u hu hl => ?_, fun u hu hr => ?_, ?_, fun v hv => ?_, h.kn, h.kz, fun u hu hX => ?_, h.roots rfl rfl ?_, h.fc, h.bt, h.c0, h.c1⟩
  · rcases more_isT.1 hu with h1 | h1
    · rw [hT u (hne u h1)] at hx ⊢
      rw [hff u _ (hne u h1)]
      exact h.ww u h1 x y hx hxy
    · rw [h1, hT1] at hx; cases hx
  · exact nodup_snoc h.nd hnl
  · rcases List.mem_append.1 (show u ∈ s.lv ++ [s.nt + 1] from hu) with h1 | h1
    · exact more_isT.2 (Or.inl (h.lt u h1))
    · exact more_isT.2 (Or.inr (by simpa using h1))
  · show a ∈ s.lv ++ [s.nt + 1]
    rcases more_lnok.1 hl with h1 | ⟨rfl, rfl⟩
    · have hq : s.more.q x y = s.q x y := new_q s (fun e => by
        have := lnok_t h1 e.1
        exact hne _ this e.2)
      rw [hq] at ha
      exact List.mem_append_left _ (h.ql x y h1 a ha)
    · have hq : s.more.q 5 (s.nt + 1) = [] := new_q5 s
      rw [hq] at ha; cases ha
  · rcases more_isT.1 hu with h1 | h1
    · rw [hT u (hne u h1)] at hl ⊢
      exact h.lf u h1 hl
    · rw [h1, hT1] at hl; exact absurd rfl hl
  · rcases more_isT.1 hu with h1 | h1
    · rw [hT u (hne u h1)] at hr ⊢
      have := h.rn u h1 hr
      exact ⟨this.1, List.mem_append_left _ this.2⟩
    · rw [h1, hT1] at hr; cases hr
  · show (s.out ++ [(0, 0)]).length = s.nt + 1
    rw [List.length_append, h.ol]; rfl
  · rcases List.mem_append.1 (show v ∈ s.out ++ [(0, 0)] from hv) with h1 | h1
    · exact h.ok v h1
    · left
      rw [List.mem_singleton.1 h1]
  · rcases List.mem_append.1 (show u ∈ s.lv ++ [s.nt + 1] from hu) with h1 | h1
    · rw [hT u hX]; exact h.fw u h1 trivial
    · exact absurd (by simpa using h1) hX
  · rintro v (⟨u, j, a, hu, hj, ha, e⟩ | hv)
    · by_cases e1 : u = s.nt + 1
      · rw [e1, hT1] at hj; exact absurd hj (Nat.not_lt_zero _)
      · rw [hff u j e1] at ha e
        rw [hT u e1] at hj
        rcases List.mem_append.1 (show u ∈ s.lv ++ [s.nt + 1] from hu) with h1 | h1
        · exact PGot.root (Or.inl ⟨u, j, a, h1, hj, ha, e⟩)
        · exact absurd (by simpa using h1) e1
    · exact PGot.root (Or.inr hv)
theorem more_got {p : Prm} {s : Pl} (h : Ok p s) {v : B.V} (hv : PGot p s v) : PGot p s.more v := by
  refine PGot.mono (s := s) (s' := s.more) rfl (fun u hu => ?_) hv
  rcases hu with ⟨c, j, a, hc, hj, ha, e⟩ | hu
  · have hne : c ≠ s.nt + 1 := fun e => by have := (h.lt c hc).2; omega
    have hT : s.more.T c = s.T c := new_T s hne
    refine Or.inl ⟨c, j, a, List.mem_append_left _ hc, by rw [hT]; exact hj, ?_, ?_⟩
    · rw [frAt_fr (s := s) (by rw [hT])]; exact ha
    · rw [frAt_fr (s := s) (by rw [hT])]; exact e
  · exact Or.inr hu
theorem reg0_got {p : Prm} {s : Pl} {u v : B.V} (hu : PGot p s u) (hv : PGot p s v) (a : Nat) : PGot p s (reg0 u v a) := by
  unfold reg0
  split
  · exact hu
  · split
    · exact hv
    · exact PGot.num 0
theorem OkX.born {p : Prm} {s : Pl} (h : Ok p s) (hn : s.nt + 1 ≤ 500000000) {f : Nat} {u v : B.V} (hf : f < p.nf) (hu : PGot p s u) (hv : PGot p s v) : Ok p (s.born f u v) := by
  have hT1 : s.more.T (s.nt + 1) = tsk0 := new_T1 s
  have h1 : Ok p (s.more.push (s.nt + 1) ⟨f, 0, reg0 u v, (0, 0, 0, 0)⟩) := (h.more hn).push (by rw [hT1]; rfl) (by rw [hT1]; decide) (Or.inl (by rw [hT1]; rfl)) hf (Nat.zero_le _) (fun e => absurd (by rw [hT1]; rfl) e) (fun a _ => reg0_got (more_got h hu) (more_got h hv) a) (fun _ e _ => e)
  exact h1.join1 (show s.nt + 1 ∈ s.lv ++ [s.nt + 1] by simp)
theorem born_st (s : Pl) (f : Nat) (u v : B.V) : (s.born f u v).lv = s.lv ++ [s.nt + 1] ∧ (s.born f u v).ev = s.ev ∧ (s.born f u v).kp = s.kp ∧ (s.born f u v).M = s.M := by
  obtain ⟨k1, _, k3, _, _, _, k7, _, k9, _⟩ := join1_st (s.more.push (s.nt + 1) ⟨f, 0, reg0 u v, (0, 0, 0, 0)⟩) 2 0 (s.nt + 1)
  exact ⟨k1, k9, k3, k7⟩
def Pl.putS (s : Pl) (a i : Nat) (v : B.V) : Pl := { s with kd := B.told s.kd ((s.M a).getD i (0, 0)), M := B.lay s.M a ((s.M a).set i v) }
theorem OkX.putS {p : Prm} {s : Pl} {X : Nat → Prop} (h : OkX p s X) {a i : Nat} {v : B.V} (ha : B.RchL (rootsL p s) s.M a) (hv : PGot p s v) : OkX p (s.putS a i v) X :=
  { lw := h.lw.same rfl rfl (fun _ => rfl), ww := h.ww, nd := h.nd, lt := h.lt, ql := h.ql, lf := h.lf, rn := h.rn, ol := h.ol, ok := h.ok, kn := h.kn, kz := h.kz, fw := h.fw, hl := B.heldL_put h.hl i ha hv, fc := h.fc, bt := h.bt, c0 := h.c0, c1 := h.c1 }
def Pl.newS (s : Pl) (kd1 : B.Kd) (c ty : Nat) (l : List B.V) : Pl := { s with kd := B.laid kd1 c, M := B.lay s.M c l, ck := fun k => if k = c then ty else s.ck k }
theorem OkX.newS {p : Prm} {s : Pl} (h : Ok p s) {t a c ty : Nat} {kd1 : B.Kd} {l : List B.V} (htl : t ∈ s.lv) (hk : B.HeldL kd1 p.n (rootsL p s) s.M) (hs : ∀ k, 1 ≤ k → k ≤ p.n → kd1.on k = true → s.kd.on k = true) (h1 : 1 ≤ c) (h2 : c ≤ p.n) (h3 : kd1.on c = false) (hty : ty ≤ p.nf) (hl : ∀ v, v ∈ l → PGot p s v) :
    Ok p ((s.newS kd1 c ty l).setF t (topN s t) ((frAt s t (topN s t)).set a (c, 0))) := by
  have hF := h.fw t htl trivial
  have hi : topN s t < (s.T t).fr.length := by
    have : (s.T t).fr.length ≠ 0 := fun e => hF.n1 (List.length_eq_zero_iff.1 e)
    unfold topN; omega
  have hw := fun u => setF_wh s t (topN s t) u ((frAt s t (topN s t)).set a (c, 0))
  have hff : ∀ u j, (frAt (s.setF t (topN s t) ((frAt s t (topN s t)).set a (c, 0))) u j).f = (frAt s u j).f := fun u j => by
    by_cases e : u = t ∧ j = topN s t
    · obtain ⟨rfl, rfl⟩ := e
      rw [setF_at s _ hi]; rfl
    · rw [setF_off s _ e]
  have hne : ∀ u, (s.T u).fr ≠ [] → ((s.setF t (topN s t) ((frAt s t (topN s t)).set a (c, 0))).T u).fr ≠ [] := fun u h0 e => h0 (by
    have := (hw u).2.2.2.2
    rw [e] at this
    exact List.length_eq_zero_iff.1 this.symm)
  refine { lw := (h.lw.setF t (topN s t) ((frAt s t (topN s t)).set a (c, 0))).same rfl rfl (fun _ => rfl), ww := ?_, nd := h.nd, lt := h.lt, ql := h.ql, lf := ?_, rn := ?_, ol := h.ol, ok := h.ok, kn := h.kn, kz := h.kz, fw := ?_, hl := ?_, fc := ?_, bt := h.bt, c0 := h.c0, c1 := h.c1 }
  · intro u hu x y hx hxy
    have hx' : (s.T u).wh = some (x, y) := (hw u).1.symm.trans hx
    obtain ⟨k, k1, k2, k3⟩ := h.ww u hu x y hx' hxy
    refine ⟨k, (hw u).2.1.trans k1, hne u k2, ?_⟩
    show k.2.1 < p.rg (frAt (s.setF t (topN s t) ((frAt s t (topN s t)).set a (c, 0))) u (((s.setF t (topN s t) ((frAt s t (topN s t)).set a (c, 0))).T u).fr.length - 1)).f
    rw [(hw u).2.2.2.2, hff]; exact k3
  · intro u hu hl'
    have hl2 : (s.T u).lf ≠ none := fun e => hl' ((hw u).2.1.trans e)
    obtain ⟨x, y, e, e2⟩ := h.lf u hu hl2
    exact ⟨x, y, (hw u).1.trans e, e2⟩
  · intro u hu hr
    have := h.rn u hu ((hw u).2.2.1.symm.trans hr)
    exact ⟨(hw u).1.trans this.1, this.2⟩
  · intro u hu _
    have := h.fw u hu trivial
    show FW p ((s.setF t (topN s t) ((frAt s t (topN s t)).set a (c, 0))).T u).fr
    by_cases e : u = t
    · subst e
      unfold Pl.setF
      rw [setT_at]
      exact this.set hi rfl rfl (this.f _ hi).2
    · rw [setF_T s _ e]; exact this
  · refine B.heldL_new (L := rootsL p s) hk h1 h2 h3 hl (fun v hv => ?_)
    rcases mem_rootsL.1 hv with ⟨u, j, b, hu, hj, hb, e⟩ | hv
    · have hj' : j < (s.T u).fr.length := (hw u).2.2.2.2 ▸ hj
      have hb' : b < p.rg (frAt s u j).f := (hff u j) ▸ hb
      have e' : (frAt (s.setF t (topN s t) ((frAt s t (topN s t)).set a (c, 0))) u j).R b = v := e
      by_cases e2 : u = t ∧ j = topN s t
      · obtain ⟨rfl, rfl⟩ := e2
        rw [setF_at s _ hi] at e'
        have e3 : B.set (frAt s u (topN s u)).R a (c, 0) b = v := e'
        by_cases e4 : b = a
        · subst e4
          rw [B.set_at] at e3
          exact Or.inl e3.symm
        · rw [B.set_off _ _ _ _ e4] at e3
          exact Or.inr (PGot.root (Or.inl ⟨u, _, b, hu, hj', hb', e3⟩))
      · rw [setF_off s _ e2] at e'
        exact Or.inr (PGot.root (Or.inl ⟨u, j, b, hu, hj', hb', e'⟩))
    · exact Or.inr (PGot.root (Or.inr hv))
  · intro k k1 k2 hon
    show (if k = c then ty else s.ck k) ≤ p.nf
    by_cases e : k = c
    · rw [if_pos e]; exact hty
    · rw [if_neg e]
      have hon' : B.mark kd1.on c k = true := hon
      rw [B.mark_off _ _ _ e] at hon'
      exact h.fc k k1 k2 (hs k k1 k2 hon')
def Pl.kdS (s : Pl) (kd : B.Kd) : Pl := { s with kd := kd }
theorem OkX.kdS {p : Prm} {s : Pl} {X : Nat → Prop} (h : OkX p s X) {kd : B.Kd} (hk : B.HeldL kd p.n (rootsL p s) s.M) (hs : ∀ k, 1 ≤ k → k ≤ p.n → kd.on k = true → s.kd.on k = true) : OkX p (s.kdS kd) X :=
  { lw := h.lw.same rfl rfl (fun _ => rfl), ww := h.ww, nd := h.nd, lt := h.lt, ql := h.ql, lf := h.lf, rn := h.rn, ol := h.ol, ok := h.ok, kn := h.kn, kz := h.kz, fw := h.fw, hl := hk, fc := fun k k1 k2 k3 => h.fc k k1 k2 (hs k k1 k2 k3), bt := h.bt, c0 := h.c0, c1 := h.c1 }
theorem OkX.stop {p : Prm} {s : Pl} {X : Nat → Prop} (h : OkX p s X) {t : Nat} (htl : t ∈ s.lv) : OkX p (s.setT t (s.T t).stop) X := by
  have ht := h.lt t htl
  have hTt : (s.setT t (s.T t).stop).T t = (s.T t).stop := setT_at _ _ _
  have hwh : ∀ u, ((s.setT t (s.T t).stop).T u).wh = (s.T u).wh := fun u => by
    by_cases e : u = t
    · subst e; rw [hTt]; rfl
    · rw [setT_off _ _ e]
  refine h.line htl rfl (h.lw.same rfl rfl hwh) (fun u e => setT_off _ _ e) (by rw [hTt]; rfl) (fun _ _ _ _ h => Or.inl h) ⟨rfl, rfl, rfl, rfl, rfl, rfl, rfl, rfl⟩ (fun x y hx hxy => ?_) (fun hl => ?_) (fun hr => ?_)
  · rw [hwh] at hx
    obtain ⟨k, k1, k2, k3⟩ := h.ww t ht x y hx hxy
    exact ⟨k, by rw [hTt]; exact k1, k2, k3⟩
  · rw [hTt] at hl
    obtain ⟨x, y, e, e2⟩ := h.lf t ht hl
    exact ⟨x, y, by rw [hwh]; exact e, e2⟩
  · rw [hTt] at hr; cases hr
def Pl.spend (s : Pl) (t : Nat) : Pl := { s.setT t (s.T t).stop with sp := true, ev := s.ev ++ [(5, t, 0)] }
theorem OkX.spend {p : Prm} {s : Pl} {X : Nat → Prop} (h : OkX p s X) {t : Nat} (htl : t ∈ s.lv) : OkX p (s.spend t) X := (h.stop htl).same rfl rfl rfl rfl rfl rfl rfl rfl rfl rfl rfl
theorem OkX.told {p : Prm} {s : Pl} {X : Nat → Prop} (h : OkX p s X) (kind t : Nat) (x : Int) : OkX p (s.told kind t x) X := h.same rfl rfl rfl rfl rfl rfl rfl rfl rfl rfl rfl
theorem OkX.setB {p : Prm} {s : Pl} {X : Nat → Prop} (h : OkX p s X) (k : Nat) (l : List Nat) (hl : l.length ≤ 1000 ∧ ∀ x, x ∈ l → x < 256) : OkX p (s.setB k l) X :=
  { lw := h.lw.same rfl rfl (fun _ => rfl), ww := h.ww, nd := h.nd, lt := h.lt, ql := h.ql, lf := h.lf, rn := h.rn, ol := h.ol, ok := h.ok, kn := h.kn, kz := h.kz, fw := h.fw, hl := h.hl, fc := h.fc, bt := fun i => by
      show ((if i = k then l else s.byt i)).length ≤ 1000 ∧ ∀ x, x ∈ (if i = k then l else s.byt i) → x < 256
      by_cases e : i = k
      · rw [if_pos e]; exact hl
      · rw [if_neg e]; exact h.bt i, c0 := h.c0, c1 := h.c1 }
def goneL (l : List Evt) : List Nat := (l.filter (fun e => e.1 == 2 || e.1 == 3 || e.1 == 4)).map (·.2.1)
def chk (t : Nat) (gone : List Nat) : List Evt → Prop
  | [] => True
  | e :: l => e.2.1 ∉ gone ∧ (e.1 ≠ 4 → e.2.1 = t) ∧ chk t (gone ++ goneL [e]) l
theorem goneL_app (l m : List Evt) : goneL (l ++ m) = goneL l ++ goneL m := by unfold goneL; simp
theorem chk_app {t : Nat} : ∀ (l m : List Evt) (gone : List Nat), chk t gone l → chk t (gone ++ goneL l) m → chk t gone (l ++ m)
  | [], m, gone, _, h => by
    have : gone ++ goneL [] = gone := by unfold goneL; simp
    rw [this] at h; exact h
  | e :: l, m, gone, h1, h2 => by
    refine ⟨h1.1, h1.2.1, chk_app l m _ h1.2.2 ?_⟩
    rw [List.append_assoc, ← goneL_app]; exact h2
def noC (l : List Evt) : Prop := ∀ e, e ∈ l → e.1 ≠ 4
def Gn (s : Pl) (gone : List Nat) : Prop := ∀ u, u ∈ gone → isT s u ∧ u ∉ s.lv
def Go (t c : Nat) (s s' : Pl) : Prop := ∃ l, s'.ev = s.ev ++ l ∧ l.length ≤ c ∧ (s.nt ≤ s'.nt ∧ s'.nt ≤ s.nt + c) ∧ (∀ gone, Gn s gone → chk t gone l ∧ Gn s' (gone ++ goneL l)) ∧ (noC l → ∃ m, s'.q 2 0 = s.q 2 0 ++ m)
theorem Go.trans {t c d : Nat} {s s' s'' : Pl} (h : Go t c s s') (h' : Go t d s' s'') : Go t (c + d) s s'' := by
  obtain ⟨l, a1, a2, a3, a4, a5⟩ := h
  obtain ⟨m, b1, b2, b3, b4, b5⟩ := h'
  refine ⟨l ++ m, by rw [b1, a1, List.append_assoc], by rw [List.length_append]; omega, by omega, fun gone hg => ?_, fun hn => ?_⟩
  · obtain ⟨k1, k2⟩ := a4 gone hg
    obtain ⟨k3, k4⟩ := b4 _ k2
    exact ⟨chk_app l m gone k1 k3, by rw [goneL_app, ← List.append_assoc]; exact k4⟩
  · obtain ⟨x, hx⟩ := a5 (fun e he => hn e (List.mem_append_left _ he))
    obtain ⟨y, hy⟩ := b5 (fun e he => hn e (List.mem_append_right _ he))
    exact ⟨x ++ y, by rw [hy, hx, List.append_assoc]⟩
theorem Go.mono {t c d : Nat} {s s' : Pl} (h : Go t c s s') (hc : c ≤ d) : Go t d s s' := by
  obtain ⟨l, a1, a2, a3, a4⟩ := h
  exact ⟨l, a1, by omega, by omega, a4⟩
theorem Go.quiet {t : Nat} {s s' : Pl} (he : s'.ev = s.ev) (hl : s'.lv = s.lv) (hn : s'.nt = s.nt) (hq : ∃ m, s'.q 2 0 = s.q 2 0 ++ m) : Go t 0 s s' := by
  refine ⟨[], by rw [he, List.append_nil], Nat.le_refl _, by omega, fun gone hg => ⟨trivial, fun u hu => ?_⟩, fun _ => hq⟩
  have hu' : u ∈ gone := by
    unfold goneL at hu
    simpa using hu
  exact ⟨(isT_nt hn).2 (hg u hu').1, by rw [hl]; exact (hg u hu').2⟩
theorem Go.same {t : Nat} {s s' : Pl} (he : s'.ev = s.ev) (hl : s'.lv = s.lv) (hn : s'.nt = s.nt) (hq : s'.q 2 0 = s.q 2 0) : Go t 0 s s' := Go.quiet he hl hn ⟨[], by rw [hq, List.append_nil]⟩
theorem Go.tells {t : Nat} {s s' : Pl} {k : Nat} {x : Int} (hk : k = 1 ∨ k = 5) (htl : t ∈ s.lv) (he : s'.ev = s.ev ++ [(k, t, x)]) (hl : s'.lv = s.lv) (hn : s'.nt = s.nt) (hq : s'.q 2 0 = s.q 2 0) : Go t 1 s s' := by
  have hgn : goneL [(k, t, x)] = [] := by rcases hk with rfl | rfl <;> rfl
  refine ⟨[(k, t, x)], he, Nat.le_refl _, by omega, fun gone hg => ⟨⟨fun hm => (hg t hm).2 htl, fun _ => rfl, trivial⟩, fun u hu => ?_⟩, fun _ => ⟨[], by rw [hq, List.append_nil]⟩⟩
  rw [hgn, List.append_nil] at hu
  exact ⟨(isT_nt hn).2 (hg u hu).1, by rw [hl]; exact (hg u hu).2⟩
theorem Go.ends {t u : Nat} {s s' : Pl} {k : Nat} {x : Int} (hk : (k = 2 ∧ u = t) ∨ (k = 3 ∧ u = t) ∨ k = 4) (hul : u ∈ s.lv) (hu : isT s u) (hnd : s.lv.Nodup) (he : s'.ev = s.ev ++ [(k, u, x)]) (hl : s'.lv = s.lv.erase u) (hn : s'.nt = s.nt) (hq : k ≠ 4 → ∃ m, s'.q 2 0 = s.q 2 0 ++ m) : Go t 1 s s' := by
  have hgn : goneL [(k, u, x)] = [u] := by rcases hk with ⟨rfl, _⟩ | ⟨rfl, _⟩ | rfl <;> rfl
  refine ⟨[(k, u, x)], he, Nat.le_refl _, by omega, fun gone hg => ⟨⟨fun hm => (hg u hm).2 hul, fun h4 => ?_, trivial⟩, fun a ha => ?_⟩, fun hc => hq (hc (k, u, x) (by simp))⟩
  · rcases hk with h | h | h
    · exact h.2
    · exact h.2
    · exact absurd h h4
  · rw [hgn] at ha
    rcases List.mem_append.1 ha with h1 | h1
    · refine ⟨(isT_nt hn).2 (hg a h1).1, fun hm => (hg a h1).2 ?_⟩
      rw [hl] at hm
      exact List.mem_of_mem_erase hm
    · have e : a = u := by simpa using h1
      refine ⟨(isT_nt hn).2 (e ▸ hu), fun hm => ?_⟩
      rw [hl, hnd.mem_erase_iff] at hm
      exact hm.1 e
theorem Go.born {t : Nat} {s s' : Pl} (he : s'.ev = s.ev) (hl : s'.lv = s.lv ++ [s.nt + 1]) (hn : s'.nt = s.nt + 1) (hq : ∃ m, s'.q 2 0 = s.q 2 0 ++ m) : Go t 1 s s' := by
  refine ⟨[], by rw [he, List.append_nil], Nat.zero_le _, by omega, fun gone hg => ⟨trivial, fun u hu => ?_⟩, fun _ => hq⟩
  have hu' : u ∈ gone := by
    unfold goneL at hu
    simpa using hu
  have := (hg u hu').1
  refine ⟨⟨this.1, by have := this.2; omega⟩, fun hm => ?_⟩
  rw [hl] at hm
  rcases List.mem_append.1 hm with h1 | h1
  · exact (hg u hu').2 h1
  · have e : u = s.nt + 1 := by simpa using h1
    have := this.2
    omega
theorem join1_q2 {s : Pl} {t : Nat} (hw : (s.T t).wh ≠ some (2, 0)) : (s.join1 2 0 t).q 2 0 = s.q 2 0 ++ [t] := by
  show ((s.out1 t).setQ 2 0 ((s.out1 t).q 2 0 ++ [t])).q 2 0 = _
  rw [setQ_at, out1_q s hw]
theorem join1_qo {s : Pl} {x y t a b : Nat} (hw : (s.T t).wh ≠ some (a, b)) (h : ¬ (a = x ∧ b = y)) : (s.join1 x y t).q a b = s.q a b := by
  show ((s.out1 t).setQ x y _).q a b = _
  rw [setQ_off _ _ h, out1_q s hw]
theorem woke_q2 {p : Prm} {s : Pl} {X : Nat → Prop} (h : OkX p s X) {t : Nat} (ht : isT s t) (v : B.V) : ∃ m, (s.woke t v).q 2 0 = s.q 2 0 ++ m := by
  unfold Pl.woke
  split
  · exact ⟨[], by rw [List.append_nil]⟩
  · rename_i k hk
    obtain ⟨x, y, hw, hx⟩ := h.lf t ht (by rw [hk]; simp)
    refine ⟨[t], join1_q2 ?_⟩
    rw [(setF_wh s t _ t _).1, hw]
    intro e
    injection e with e
    injection e with e _
    omega
theorem wokeAll_q2 {p : Prm} {X : Nat → Prop} {v : B.V} : ∀ (l : List Nat) {s : Pl}, OkX p s X → (∀ u, u ∈ l → isT s u) → (∀ u, u ∈ s.lv → X u) → (v.1 = 0 ∨ v ∈ s.kp) → ∃ m, (s.wokeAll v l).q 2 0 = s.q 2 0 ++ m
  | [], s, _, _, _, _ => ⟨[], by rw [List.append_nil]; rfl⟩
  | t :: l, s, h, hl, hX, hv => by
    obtain ⟨b1, _, b3, _⟩ := woke_st s t v
    obtain ⟨m, hm⟩ := woke_q2 h (hl t (by simp)) v
    obtain ⟨m', hm'⟩ := wokeAll_q2 l (h.woke (hl t (by simp)) (hX t) (hv.elim (fun e => Or.inl e) (fun e => PGot.root (Or.inr e)))) (fun u hu => (isT_nt (woke_nt s t v)).2 (hl u (by simp [hu]))) (fun u hu => hX u (by rw [← b1]; exact hu)) (by rw [b3]; exact hv)
    exact ⟨m ++ m', by show ((s.woke t v).wokeAll v l).q 2 0 = _; rw [hm', hm, List.append_assoc]⟩
theorem leave_q2 {p : Prm} {s : Pl} {X : Nat → Prop} (h : OkX p s X) {t : Nat} (htl : t ∈ s.lv) (hX : ∀ u, u ≠ t → X u) (hw : (s.T t).wh = none) {v : B.V} (hv : PGot p s v) (kind : Nat) (x : Int) : ∃ m, (s.leave t v kind x).q 2 0 = s.q 2 0 ++ m := by
  have ht := h.lt t htl
  have hn := gone_nt s t v kind x
  have hg : Ok p (s.gone t v kind x) := h.gone htl hv kind x (fun u hu _ => hX u hu)
  obtain ⟨m, hm⟩ := wokeAll_q2 (v := v) (s.q 5 t) hg (fun u hu => (isT_nt hn).2 (h.lw.b 5 t (Or.inr (Or.inr (Or.inr ⟨rfl, ht⟩))) u hu).1) (fun _ _ => trivial) (by
    rw [(gone_st s t v kind x).2.2.1]
    by_cases e : v.1 = 0
    · exact Or.inl e
    · exact Or.inr (keptL_self e))
  refine ⟨m, ?_⟩
  show ((s.gone t v kind x).wokeAll v (s.q 5 t)).q 2 0 = _
  rw [hm, (gone_st s t v kind x).2.2.2.2.2.2.2.2.2, out1_none hw]
theorem back_q2 {p : Prm} {s : Pl} (h : Ok p s) {t : Nat} (htl : t ∈ s.lv) (hw : (s.T t).wh = none) {v : B.V} (hv : PGot p s v) : ∃ m, (s.back t v).q 2 0 = s.q 2 0 ++ m := by
  by_cases e : topN s t = 0
  · unfold Pl.back
    rw [if_pos e]
    unfold Pl.leave
    rw [pop_gone hw]
    have ht := h.lt t htl
    have hg : Ok p (s.gone t v 2 v.2) := h.gone htl hv 2 v.2 (fun _ _ h => h)
    have hgl := (gone_st s t v 2 v.2).1
    have hnm : t ∉ (s.gone t v 2 v.2).lv := by rw [hgl, h.nd.mem_erase_iff]; exact fun h => h.1 rfl
    have hp : OkX p ((s.gone t v 2 v.2).pop t) (fun u => u ≠ t) := hg.pop (by rw [gone_wh, out1_wh]) (fun u hu => ⟨trivial, Or.inl hu⟩)
    have hp2 : Ok p ((s.gone t v 2 v.2).pop t) := hp.weak (fun u hu _ e => hnm (e ▸ hu))
    obtain ⟨m, hm⟩ := wokeAll_q2 (v := v) ((s.pop t).q 5 t) hp2 (fun u hu => (isT_nt (gone_nt s t v 2 v.2)).2 (h.lw.b 5 t (Or.inr (Or.inr (Or.inr ⟨rfl, ht⟩))) u hu).1) (fun _ _ => trivial) (by
      show v.1 = 0 ∨ v ∈ (s.gone t v 2 v.2).kp
      rw [(gone_st s t v 2 v.2).2.2.1]
      by_cases e : v.1 = 0
      · exact Or.inl e
      · exact Or.inr (keptL_self e))
    refine ⟨m, hm.trans ?_⟩
    show (s.gone t v 2 v.2).q 2 0 ++ m = _
    rw [(gone_st s t v 2 v.2).2.2.2.2.2.2.2.2.2, out1_none hw]
  · exact ⟨[], by rw [((back_st s t v).2 e).2.2.2, List.append_nil]⟩
theorem Go.back {p : Prm} {s : Pl} (h : Ok p s) {t : Nat} (htl : t ∈ s.lv) (hw : (s.T t).wh = none) {v : B.V} (hv : PGot p s v) : Go t 1 s (s.back t v) := by
  by_cases e : topN s t = 0
  · obtain ⟨k1, k2, k3⟩ := (back_st s t v).1 e
    exact Go.ends (Or.inl ⟨rfl, rfl⟩) htl (h.lt t htl) h.nd k2 k1 k3 (fun _ => back_q2 h htl hw hv)
  · obtain ⟨k1, k2, k3, _⟩ := (back_st s t v).2 e
    exact (Go.quiet k2 k1 k3 (back_q2 h htl hw hv)).mono (by omega)
end Go.Proofs.YtnjiinbhbjpfkaaGreatDoor.F
namespace Go.Proofs.YtnjiinbhbjpfkaaGreatDoor
open Go.RowKit
set_option maxRecDepth 100000 in
theorem at_any (k : Nat) (hk : k ≤ 200) (w : World) : Calls Tryz.prog 220 #[.int .i64 k] w fun e w' => e = .returned (vA (k + 1, 0)) ∧ w.grownBy w' none := by
  have hwr : IntKind.i64.wrap ((k : Int) + 1) = ((k : Int) + 1) := by simp [IntKind.wrap, IntKind.bits, IntKind.signed]; omega
  have hwr2 : wrap64 ((k : Int) + 1) = ((k : Int) + 1) := IntWalk.wrap64_in _ ⟨by omega, by omega⟩
  go_enter Tryz.func220, Tryz.ntmps220
  go_wp2_with fail
  refine bodyPost_ret (v := vA (k + 1, 0)) (by simp [results, Tryz.results220, go_sem]) rfl ⟨rfl, ?_⟩
  repeat (first | exact grown_refl _ _ | refine grown_drew ?_ | refine grown_alloc ?_ _ | refine grown_setCell ?_ (Or.inr (by simp)) _)
end Go.Proofs.YtnjiinbhbjpfkaaGreatDoor
