/-
  The machine: a function is entered; it ends; a task that waits leaves something behind; a new task.
-/
import Derived.Test.YtnjiinbhbjpfkaaGreatDoorGateG
namespace Go.Proofs.YtnjiinbhbjpfkaaGreatDoor.F
open Go.RowKit
theorem rlen_12 (s : Pl) (t : Nat) : rlen s 12 t = (s.T t).fr.length := rfl
theorem rcon_12 (s : Pl) (g : Geo) (t : Nat) : rcon s g 12 t = ((List.range (s.T t).fr.length).map (g.fb t)).map P0 := rfl
def Tsk.frs (v : Tsk) (l : List Frm) : Tsk := { v with fr := l }
def Pl.push (s : Pl) (t : Nat) (f : Frm) : Pl := s.setT t ((s.T t).frs ((s.T t).fr ++ [f]))
def Geo.push (g : Geo) (t m fb rb : Nat) (r : Option Addr × Nat) : Geo := { g.at 12 t r with fb := fun a b => if a = t ∧ b = m then fb else g.fb a b, rb := fun a b => if a = t ∧ b = m then rb else g.rb a b }
theorem push_fb (g : Geo) (t m fb rb : Nat) (r : Option Addr × Nat) : (g.push t m fb rb r).fb t m = fb ∧ (g.push t m fb rb r).rb t m = rb := ⟨if_pos ⟨rfl, rfl⟩, if_pos ⟨rfl, rfl⟩⟩
theorem push_off (g : Geo) {t m fb rb : Nat} {r : Option Addr × Nat} {a b : Nat} (h : ¬ (a = t ∧ b = m)) : (g.push t m fb rb r).fb a b = g.fb a b ∧ (g.push t m fb rb r).rb a b = g.rb a b := ⟨if_neg h, if_neg h⟩
theorem push_at (s : Pl) (t : Nat) (f : Frm) : frAt (s.push t f) t (s.T t).fr.length = f := by
  unfold frAt Pl.push
  rw [setT_at]
  show ((s.T t).fr ++ [f]).getD _ _ = f
  simp
theorem push_old (s : Pl) {t u i : Nat} (f : Frm) (h : u = t → i < (s.T t).fr.length) : frAt (s.push t f) u i = frAt s u i := by
  unfold frAt Pl.push
  by_cases e : u = t
  · subst e
    rw [setT_at]
    show ((s.T u).fr ++ [f]).getD _ _ = _
    rw [List.getD_eq_getElem?_getD, List.getElem?_append_left (h rfl), List.getD_eq_getElem?_getD]
  · rw [setT_off _ _ e]
theorem Rep.push {p : Prm} {s : Pl} {g : Geo} {w w' : World} {t fb rb : Nat} {f : Frm} {r : Option Addr × Nat} (h : Rep p s g w) (ht : isT s t) (hlf : (s.T t).lf = none)
    (hT : Full w' (g.tb t) 160 7 7 (upd (tskE p s g t) 1 (.slice r.1 ((s.T t).fr.length + 1) r.2))) (hK : w'.ownsRow 0 184 1 (.slice r.1 ((s.T t).fr.length + 1) r.2) ((s.T t).fr.length + 1) (((List.range (s.T t).fr.length).map (g.fb t)).map P0 ++ [P0 fb]))
    (hF : w'.heap[fb]? = some (frmB (p.cb f.f) (p.len f.f) f.nx rb (p.rg f.f) (bkV p g t (s.T t).fr.length f.bk))) (hR : Full w' rb 149 (p.rg f.f * 2) (p.rg f.f * 2) (regP f.R)) (hO : Only (fun k => k = g.tb t ∨ adB (g.ro 12 t).1 = some k) w w')
    (n1 : w.heap.size ≤ fb) (n2 : w.heap.size ≤ rb) (hB : ∀ k, adB r.1 = some k → adB (g.ro 12 t).1 = some k ∨ w.heap.size ≤ k) : Tr p s g w (s.push t f) (g.push t (s.T t).fr.length fb rb r) w' := by
  generalize hm : (s.T t).fr.length = m at *
  have hlen : ∀ u, u ≠ t → (s.push t f).T u = s.T u := fun u e => setT_off _ _ e
  have hT' : (s.push t f).T t = (s.T t).frs ((s.T t).fr ++ [f]) := setT_at _ _ _
  have hlt : ((s.push t f).T t).fr.length = m + 1 := by rw [hT']; show ((s.T t).fr ++ [f]).length = _; rw [List.length_append, hm]; rfl
  have hro : ∀ a b, ¬ (a = 12 ∧ b = t) → (g.push t m fb rb r).ro a b = g.ro a b := fun a b e => at_off g r e
  have hrot : (g.push t m fb rb r).ro 12 t = r := at_at g 12 t r
  have hrl : ∀ a b, ¬ (a = 12 ∧ b = t) → rlen (s.push t f) a b = rlen s a b := fun a b e => by
    by_cases eb : b = t
    · have ea : a ≠ 12 := fun ea => e ⟨ea, eb⟩
      unfold rlen
      simp only [if_neg ea]
      rfl
    · exact rlen_eq rfl rfl rfl rfl rfl (by rw [hlen b eb]) rfl
  have hfb : ∀ a b, ¬ (a = t ∧ b = m) → (g.push t m fb rb r).fb a b = g.fb a b := fun a b e => (push_off g e).1
  have hrc : ∀ a b, ¬ (a = 12 ∧ b = t) → rcon (s.push t f) (g.push t m fb rb r) a b = rcon s g a b := fun a b e => by
    by_cases ea : a = 12
    · subst ea
      have eb : b ≠ t := fun eb => e ⟨rfl, eb⟩
      rw [rcon_12, rcon_12, hlen b eb]
      have : (g.push t m fb rb r).fb b = g.fb b := funext fun i => hfb b i (fun e => eb e.1)
      rw [this]
    · unfold rcon
      simp only [if_neg ea]
      rfl
  have hsl : ∀ a b, ¬ (a = 12 ∧ b = t) → sl (s.push t f) (g.push t m fb rb r) a b = sl s g a b := fun a b e => by
    unfold sl
    rw [hro a b e, hrl a b e]
  have hslx : sl (s.push t f) (g.push t m fb rb r) 12 t = .slice r.1 (m + 1) r.2 := by
    unfold sl
    rw [hrot, rlen_12, hlt]
  have hne1 : ∀ k, adB r.1 = some k → k ≠ fb ∧ k ≠ rb := fun k hk => by
    obtain ⟨_, _, cu, h1⟩ := own_ty hK k (by rw [own_adB]; exact hk)
    refine ⟨cells_ne h1 hF (by decide), ?_⟩
    obtain ⟨cu', h2, _⟩ := hR
    exact cells_ne h1 h2 (by decide)
  have hne2 : rb ≠ fb := by
    obtain ⟨cu', h2, _⟩ := hR
    exact cells_ne h2 hF (by decide)
  have hv0 : ∀ a b c, ¬ ((a = 13 ∨ a = 14) ∧ b = t ∧ c = m) → vld (s.push t f) a b c = vld s a b c := fun a b c e => by
    by_cases eb : b = t
    · by_cases ea : a = 13 ∨ a = 14
      · have ec : c ≠ m := fun ec => e ⟨ea, eb, ec⟩
        unfold vld
        rw [if_neg (by omega), if_neg (by omega), if_neg (by omega), if_neg (by omega), if_pos ea, if_neg (by omega), if_neg (by omega), if_neg (by omega), if_neg (by omega), if_pos ea]
        have e1 : ((s.push t f).T b).fr.length = m + 1 := by rw [eb]; exact hlt
        have e2 : (s.T b).fr.length = m := by rw [eb]; exact hm
        rw [e1, e2]
        have hnt : (s.push t f).nt = s.nt := rfl
        rw [hnt]
        by_cases hc : c < m
        · have : c < m + 1 := by omega
          simp [hc, this]
        · have : ¬ c < m + 1 := by omega
          simp [hc, this]
      · unfold vld
        have hnt : (s.push t f).nt = s.nt := rfl
        rw [hnt, if_neg ea]
        by_cases e17 : a = 17
        · have : ((s.push t f).T b).lf = (s.T b).lf := by rw [eb, hT']; rfl
          rw [this, if_neg ea]
        · simp only [if_neg e17, if_neg ea]
    · exact vld_eq rfl (by rw [hlen b eb]) (fun _ _ => by rw [hlen b eb])
  refine h.to (fun a b c => (a = 11 ∧ b = t ∧ c = 0) ∨ (a = 12 ∧ b = t ∧ c = 0) ∨ ((a = 13 ∨ a = 14) ∧ b = t ∧ c = m)) (fun k => if k = fb then (13, t, m) else if k = rb then (14, t, m) else (12, t, 0)) (hO.mono (fun k hk _ => ?_)) (fun a b c hC => ?_) (fun a b c hC => ?_) (fun a b c k hC hk => ?_)
  · rcases hk with hk | hk
    · exact ⟨11, t, 0, Or.inl ⟨rfl, rfl, rfl⟩, by rw [bs_tk p g ht]; exact hk⟩
    · exact ⟨12, t, 0, Or.inr (Or.inl ⟨rfl, rfl, rfl⟩), by rw [bs_row p g (by unfold rowx; omega) (vld_t (by omega) ht)]; exact hk⟩
  · refine ob_eq (hv0 a b c (fun e => hC (Or.inr (Or.inr e)))) (fun hV => obk_eq hV (fun _ => engE_same (fun a b _ _ e _ => hsl a b (fun hh => e hh.1)) rfl rfl) (fun _ => ⟨rfl, rfl, rfl⟩) ?_ ?_ ?_ (fun _ => rfl) (fun _ => ⟨rfl, rfl⟩) ?_ ?_)
    · intro ea
      have eb : b ≠ t := fun e => hC (Or.inl ⟨ea, e, (vld_it hV (by omega)).2⟩)
      refine ⟨rfl, ?_⟩
      funext j
      unfold tskE
      rw [hsl 12 b (fun e => eb e.2), hsl 5 b (fun e => by omega), hlen b eb]
      rfl
    · intro ea
      subst ea
      obtain ⟨hb, hc⟩ := vld_if hV (by omega)
      have e0 : ¬ (b = t ∧ c = m) := fun e => hC (Or.inr (Or.inr ⟨Or.inl rfl, e.1, e.2⟩))
      refine ⟨hfb b c e0, ?_⟩
      rw [push_old s f (fun e => by subst e; exact hc)]
      unfold frO bkV
      have e1 : (g.push t m fb rb r).rb b c = g.rb b c := (push_off g e0).2
      have e2 : (g.push t m fb rb r).fb b (c - 1) = g.fb b (c - 1) := hfb b (c - 1) (fun e => by
        have h1 : (s.T b).fr.length = m := by rw [e.1]; exact hm
        omega)
      rw [e1, e2]
      rfl
    · intro ea
      subst ea
      obtain ⟨hb, hc⟩ := vld_if hV (by omega)
      have e0 : ¬ (b = t ∧ c = m) := fun e => hC (Or.inr (Or.inr ⟨Or.inr rfl, e.1, e.2⟩))
      exact ⟨(push_off g e0).2, push_old s f (fun e => by subst e; exact hc)⟩
    · intro ea
      subst ea
      have hl := (vld_i17 hV).2.2
      have eb : b ≠ t := fun e => by rw [e, hlf] at hl; cases hl
      refine ⟨rfl, ?_⟩
      unfold sxO
      rw [hlen b eb, hfb b _ (fun e => eb e.1)]
      rfl
    · intro ha
      have e : ¬ (a = 12 ∧ b = t) := fun e => hC (Or.inr (Or.inl ⟨e.1, e.2, vld_ir hV ha⟩))
      exact ⟨hro a b e, hrl a b e, hrc a b e⟩
  · rcases hC with ⟨rfl, rfl, rfl⟩ | ⟨rfl, rfl, rfl⟩ | ⟨hab, rfl, rfl⟩
    · rw [ob_v (show vld (s.push b f) 11 b 0 = true from vld_t (by omega) ht)]
      refine Full.congr hT (fun j hj => ?_)
      have hc : j = 0 ∨ j = 1 ∨ j = 2 ∨ j = 3 ∨ j = 4 ∨ j = 5 ∨ j = 6 := by omega
      rcases hc with rfl | rfl | rfl | rfl | rfl | rfl | rfl
      · rfl
      · exact hslx.symm
      · show Value.bool (s.T b).run = Value.bool ((s.push b f).T b).run
        rw [hT']; rfl
      · show whV p g (s.T b).wh = whV p (g.push b m fb rb r) ((s.push b f).T b).wh
        rw [hT']; rfl
      · show lfV g b (s.T b).lf = lfV (g.push b m fb rb r) b ((s.push b f).T b).lf
        rw [hT']; rfl
      · show Value.int .i64 (s.T b).till = Value.int .i64 ((s.push b f).T b).till
        rw [hT']; rfl
      · exact (hsl 5 b (fun e => by omega)).symm
    · rw [ob_v (show vld (s.push b f) 12 b 0 = true from vld_t (by omega) ht), obk_row (by unfold rowx; omega)]
      show w'.ownsRow 0 184 1 (sl (s.push b f) (g.push b m fb rb r) 12 b) (rlen (s.push b f) 12 b) (rcon (s.push b f) (g.push b m fb rb r) 12 b)
      rw [hslx, rlen_12, rcon_12, hlt, List.range_succ, List.map_append, List.map_append]
      have e1 : (List.range m).map ((g.push b m fb rb r).fb b) = (List.range m).map (g.fb b) := List.map_congr_left (fun i hi => hfb b i (fun e => by have := List.mem_range.1 hi; omega))
      have e2 : ([m].map ((g.push b m fb rb r).fb b)).map P0 = [P0 fb] := by show [P0 ((g.push b m fb rb r).fb b m)] = _; rw [(push_fb g b m fb rb r).1]
      rw [e1, e2]
      exact hK
    · have hv' : vld (s.push b f) a b c = true := vld_f hab ht (by rw [hlt]; omega)
      rw [ob_v hv']
      have hat : frAt (s.push b f) b c = f := by rw [← hm]; exact push_at s b f
      rcases hab with rfl | rfl
      · show w'.heap[(g.push b c fb rb r).fb b c]? = some (frO p (g.push b c fb rb r) b c (frAt (s.push b f) b c))
        rw [hat, (push_fb g b c fb rb r).1]
        unfold frO
        rw [(push_fb g b c fb rb r).2]
        have : bkV p (g.push b c fb rb r) b c f.bk = bkV p g b c f.bk := by
          unfold bkV
          by_cases h0 : c = 0
          · rw [if_pos h0, if_pos h0]; rfl
          · rw [if_neg h0, if_neg h0, hfb b (c - 1) (fun e => by omega)]; rfl
        rw [this]
        exact hF
      · show Full w' ((g.push b c fb rb r).rb b c) 149 (p.rg (frAt (s.push b f) b c).f * 2) (p.rg (frAt (s.push b f) b c).f * 2) (regP (frAt (s.push b f) b c).R)
        rw [hat, (push_fb g b c fb rb r).2]
        exact hR
  · rcases hC with ⟨rfl, rfl, rfl⟩ | ⟨rfl, rfl, rfl⟩ | ⟨hab, rfl, rfl⟩
    · rw [bs_tk p _ (show isT (s.push b f) b from ht)] at hk
      rw [bs_tk p g ht]
      exact Or.inl hk
    · rw [bs_row p _ (by unfold rowx; omega) (show vld (s.push b f) 12 b 0 = true from vld_t (by omega) ht), hrot] at hk
      rw [bs_row p g (by unfold rowx; omega) (vld_t (by omega) ht)]
      refine (hB k hk).imp id (fun h => ⟨h, ?_⟩)
      rw [if_neg (hne1 k hk).1, if_neg (hne1 k hk).2]
    · have hv' : vld (s.push b f) a b c = true := vld_f hab ht (by rw [hlt]; omega)
      rw [ob_v hv'] at hk
      rcases hab with rfl | rfl
      · have hk' : k = (g.push b c fb rb r).fb b c := hk
        rw [(push_fb g b c fb rb r).1] at hk'
        subst hk'
        exact Or.inr ⟨n1, if_pos rfl⟩
      · have hk' : k = (g.push b c fb rb r).rb b c := hk
        rw [(push_fb g b c fb rb r).2] at hk'
        subst hk'
        exact Or.inr ⟨n2, by rw [if_neg hne2, if_pos rfl]⟩
def Pl.pop (s : Pl) (t : Nat) : Pl := s.setT t ((s.T t).frs (s.T t).fr.dropLast)
theorem pop_old (s : Pl) {t u i : Nat} (h : u = t → i + 1 < (s.T t).fr.length) : frAt (s.pop t) u i = frAt s u i := by
  unfold frAt Pl.pop
  by_cases e : u = t
  · subst e
    rw [setT_at]
    show (s.T u).fr.dropLast.getD _ _ = _
    have := h rfl
    rw [List.getD_eq_getElem?_getD, List.getElem?_dropLast, if_pos (by omega), List.getD_eq_getElem?_getD]
  · rw [setT_off _ _ e]
theorem Rep.pop {p : Prm} {s : Pl} {g : Geo} {w w' : World} {t m : Nat} (h : Rep p s g w) (ht : isT s t) (hlf : (s.T t).lf = none) (hm : (s.T t).fr.length = m + 1)
    (hT : Full w' (g.tb t) 160 7 7 (upd (tskE p s g t) 1 (.slice (g.ro 12 t).1 m (g.ro 12 t).2))) (hK : w'.ownsRow 0 184 1 (.slice (g.ro 12 t).1 m (g.ro 12 t).2) m (((List.range m).map (g.fb t)).map P0)) (hO : Only (fun k => k = g.tb t ∨ adB (g.ro 12 t).1 = some k) w w') : Tr p s g w (s.pop t) g w' := by
  have hlen : ∀ u, u ≠ t → (s.pop t).T u = s.T u := fun u e => setT_off _ _ e
  have hT' : (s.pop t).T t = (s.T t).frs (s.T t).fr.dropLast := setT_at _ _ _
  have hlt : ((s.pop t).T t).fr.length = m := by rw [hT']; show (s.T t).fr.dropLast.length = _; rw [List.length_dropLast, hm]; rfl
  have hrl : ∀ a b, ¬ (a = 12 ∧ b = t) → rlen (s.pop t) a b = rlen s a b := fun a b e => by
    by_cases eb : b = t
    · have ea : a ≠ 12 := fun ea => e ⟨ea, eb⟩
      unfold rlen
      simp only [if_neg ea]
      rfl
    · exact rlen_eq rfl rfl rfl rfl rfl (by rw [hlen b eb]) rfl
  have hrc : ∀ a b, ¬ (a = 12 ∧ b = t) → rcon (s.pop t) g a b = rcon s g a b := fun a b e => by
    by_cases ea : a = 12
    · subst ea
      have eb : b ≠ t := fun eb => e ⟨rfl, eb⟩
      rw [rcon_12, rcon_12, hlen b eb]
    · unfold rcon
      simp only [if_neg ea]
      rfl
  have hsl : ∀ a b, ¬ (a = 12 ∧ b = t) → sl (s.pop t) g a b = sl s g a b := fun a b e => by
    unfold sl
    rw [hrl a b e]
  have hslx : sl (s.pop t) g 12 t = .slice (g.ro 12 t).1 m (g.ro 12 t).2 := by
    unfold sl
    rw [rlen_12, hlt]
  have hv0 : ∀ a b c, ¬ ((a = 13 ∨ a = 14) ∧ b = t ∧ c = m) → vld (s.pop t) a b c = vld s a b c := fun a b c e => by
    by_cases eb : b = t
    · by_cases ea : a = 13 ∨ a = 14
      · have ec : c ≠ m := fun ec => e ⟨ea, eb, ec⟩
        unfold vld
        rw [if_neg (by omega), if_neg (by omega), if_neg (by omega), if_neg (by omega), if_pos ea, if_neg (by omega), if_neg (by omega), if_neg (by omega), if_neg (by omega), if_pos ea]
        have e1 : ((s.pop t).T b).fr.length = m := by rw [eb]; exact hlt
        have e2 : (s.T b).fr.length = m + 1 := by rw [eb]; exact hm
        rw [e1, e2]
        have hnt : (s.pop t).nt = s.nt := rfl
        rw [hnt]
        by_cases hc : c < m
        · have : c < m + 1 := by omega
          simp [hc, this]
        · have : ¬ c < m + 1 := by omega
          simp [hc, this]
      · unfold vld
        have hnt : (s.pop t).nt = s.nt := rfl
        rw [hnt, if_neg ea]
        by_cases e17 : a = 17
        · have : ((s.pop t).T b).lf = (s.T b).lf := by rw [eb, hT']; rfl
          rw [this, if_neg ea]
        · simp only [if_neg e17, if_neg ea]
    · exact vld_eq rfl (by rw [hlen b eb]) (fun _ _ => by rw [hlen b eb])
  have hvn : ∀ a, a = 13 ∨ a = 14 → ¬ vld (s.pop t) a t m = true := fun a ha hV => by
    have := (vld_if hV ha).2
    omega
  refine h.to (fun a b c => (a = 11 ∧ b = t ∧ c = 0) ∨ (a = 12 ∧ b = t ∧ c = 0) ∨ ((a = 13 ∨ a = 14) ∧ b = t ∧ c = m)) (fun _ => (0, 0, 0)) (hO.mono (fun k hk _ => ?_)) (fun a b c hC => ?_) (fun a b c hC => ?_) (fun a b c k hC hk => ?_)
  · rcases hk with hk | hk
    · exact ⟨11, t, 0, Or.inl ⟨rfl, rfl, rfl⟩, by rw [bs_tk p g ht]; exact hk⟩
    · exact ⟨12, t, 0, Or.inr (Or.inl ⟨rfl, rfl, rfl⟩), by rw [bs_row p g (by unfold rowx; omega) (vld_t (by omega) ht)]; exact hk⟩
  · refine ob_eq (hv0 a b c (fun e => hC (Or.inr (Or.inr e)))) (fun hV => obk_eq hV (fun _ => engE_same (fun a b _ _ e _ => hsl a b (fun hh => e hh.1)) rfl rfl) (fun _ => ⟨rfl, rfl, rfl⟩) ?_ ?_ ?_ (fun _ => rfl) (fun _ => ⟨rfl, rfl⟩) ?_ ?_)
    · intro ea
      have eb : b ≠ t := fun e => hC (Or.inl ⟨ea, e, (vld_it hV (by omega)).2⟩)
      refine ⟨rfl, ?_⟩
      funext j
      unfold tskE
      rw [hsl 12 b (fun e => eb e.2), hsl 5 b (fun e => by omega), hlen b eb]
    · intro ea
      subst ea
      obtain ⟨hb, hc⟩ := vld_if hV (by omega)
      refine ⟨rfl, ?_⟩
      rw [pop_old s (fun e => by
        subst e
        have : c ≠ m := fun e => hC (Or.inr (Or.inr ⟨Or.inl rfl, rfl, e⟩))
        omega)]
    · intro ea
      subst ea
      obtain ⟨hb, hc⟩ := vld_if hV (by omega)
      exact ⟨rfl, pop_old s (fun e => by
        subst e
        have : c ≠ m := fun e => hC (Or.inr (Or.inr ⟨Or.inr rfl, rfl, e⟩))
        omega)⟩
    · intro ea
      subst ea
      have hl := (vld_i17 hV).2.2
      have eb : b ≠ t := fun e => by rw [e, hlf] at hl; cases hl
      refine ⟨rfl, ?_⟩
      unfold sxO
      rw [hlen b eb]
    · intro ha
      have e : ¬ (a = 12 ∧ b = t) := fun e => hC (Or.inr (Or.inl ⟨e.1, e.2, vld_ir hV ha⟩))
      exact ⟨rfl, hrl a b e, hrc a b e⟩
  · rcases hC with ⟨rfl, rfl, rfl⟩ | ⟨rfl, rfl, rfl⟩ | ⟨hab, rfl, rfl⟩
    · rw [ob_v (show vld (s.pop b) 11 b 0 = true from vld_t (by omega) ht)]
      refine Full.congr hT (fun j hj => ?_)
      have hc : j = 0 ∨ j = 1 ∨ j = 2 ∨ j = 3 ∨ j = 4 ∨ j = 5 ∨ j = 6 := by omega
      rcases hc with rfl | rfl | rfl | rfl | rfl | rfl | rfl
      · rfl
      · exact hslx.symm
      · show Value.bool (s.T b).run = Value.bool ((s.pop b).T b).run
        rw [hT']; rfl
      · show whV p g (s.T b).wh = whV p g ((s.pop b).T b).wh
        rw [hT']; rfl
      · show lfV g b (s.T b).lf = lfV g b ((s.pop b).T b).lf
        rw [hT']; rfl
      · show Value.int .i64 (s.T b).till = Value.int .i64 ((s.pop b).T b).till
        rw [hT']; rfl
      · exact (hsl 5 b (fun e => by omega)).symm
    · rw [ob_v (show vld (s.pop b) 12 b 0 = true from vld_t (by omega) ht), obk_row (by unfold rowx; omega)]
      show w'.ownsRow 0 184 1 (sl (s.pop b) g 12 b) (rlen (s.pop b) 12 b) (rcon (s.pop b) g 12 b)
      rw [hslx, rlen_12, rcon_12, hlt]
      exact hK
    · rw [ob_n (hvn a hab)]
      exact trivial
  · rcases hC with ⟨rfl, rfl, rfl⟩ | ⟨rfl, rfl, rfl⟩ | ⟨hab, rfl, rfl⟩
    · rw [bs_tk p _ (show isT (s.pop b) b from ht)] at hk
      rw [bs_tk p g ht]
      exact Or.inl hk
    · rw [bs_row p _ (by unfold rowx; omega) (show vld (s.pop b) 12 b 0 = true from vld_t (by omega) ht)] at hk
      rw [bs_row p g (by unfold rowx; omega) (vld_t (by omega) ht)]
      exact Or.inl hk
    · rw [ob_n (hvn a hab)] at hk
      exact hk.elim
def Tsk.lft (v : Tsk) (k : Nat × Nat × Nat × Nat) : Tsk := { v with lf := some k }
def Geo.left (g : Geo) (t b : Nat) : Geo := { g with sx := fun u => if u = t then b else g.sx u }
theorem left_at (g : Geo) (t b : Nat) : (g.left t b).sx t = b := if_pos rfl
theorem left_off (g : Geo) {t u : Nat} (b : Nat) (h : u ≠ t) : (g.left t b).sx u = g.sx u := if_neg h
theorem Tr.left {p : Prm} {s0 s : Pl} {g0 g : Geo} {w0 w w' : World} {t b : Nat} {k4 : Nat × Nat × Nat × Nat} (h0 : Tr p s0 g0 w0 s g w) (ht : isT s t)
    (hT : Full w' (g.tb t) 160 7 7 (upd (tskE p s g t) 4 (Fv 207 #[P0 b]))) (hb : w'.heap[b]? = some (stpB k4.1 k4.2.1 k4.2.2.1 k4.2.2.2 (g.fb t ((s.T t).fr.length - 1)) (g.tb t) p.eb)) (hn : ¬ Mine p s g b) (hz : w0.heap.size ≤ b) (hO : Only (fun k => k = g.tb t) w w') :
    Tr p s0 g0 w0 (s.setT t ((s.T t).lft k4)) (g.left t b) w' := by
  have hlen : ∀ u, u ≠ t → (s.setT t ((s.T t).lft k4)).T u = s.T u := fun u e => setT_off _ _ e
  have hfr : ∀ u, ((s.setT t ((s.T t).lft k4)).T u).fr = (s.T u).fr := fun u => by
    by_cases e : u = t
    · subst e; rw [setT_at]; rfl
    · rw [hlen u e]
  have hT' : (s.setT t ((s.T t).lft k4)).T t = (s.T t).lft k4 := setT_at _ _ _
  have hrl : ∀ a b', rlen (s.setT t ((s.T t).lft k4)) a b' = rlen s a b' := fun a b' => rlen_eq rfl rfl rfl rfl rfl (by rw [hfr]) rfl
  have hsl : ∀ a b', sl (s.setT t ((s.T t).lft k4)) (g.left t b) a b' = sl s g a b' := fun a b' => by
    unfold sl
    rw [hrl a b']; rfl
  have hv0 : ∀ a b' c, ¬ (a = 17 ∧ b' = t ∧ c = 0) → vld (s.setT t ((s.T t).lft k4)) a b' c = vld s a b' c := fun a b' c e =>
    vld_eq rfl (by rw [hfr]) (fun ea ec => by rw [hlen b' (fun eb => e ⟨ea, eb, ec⟩)])
  have hv17 : vld (s.setT t ((s.T t).lft k4)) 17 t 0 = true := vld_17 ht (by rw [hT']; rfl)
  refine h0.to (fun a b' c => (a = 11 ∧ b' = t ∧ c = 0) ∨ (a = 17 ∧ b' = t ∧ c = 0)) (fun _ => (17, t, 0)) (hO.mono (fun k hk _ => ⟨11, t, 0, Or.inl ⟨rfl, rfl, rfl⟩, by rw [bs_tk p g ht]; exact hk⟩)) (fun a b' c hC => ?_) (fun a b' c hC => ?_) (fun a b' c k hC hk => ?_)
  · refine ob_eq (hv0 a b' c (fun e => hC (Or.inr e))) (fun hV => obk_eq hV (fun _ => engE_same (fun a b _ _ _ _ => hsl a b) rfl rfl) (fun _ => ⟨rfl, rfl, rfl⟩) ?_ ?_ ?_ (fun _ => rfl) (fun _ => ⟨rfl, rfl⟩) ?_ (fun _ => ⟨rfl, hrl a b', rcon_eq rfl rfl rfl rfl rfl rfl rfl (by rw [hfr]) rfl⟩))
    · intro ea
      have eb : b' ≠ t := fun e => hC (Or.inl ⟨ea, e, (vld_it hV (by omega)).2⟩)
      refine ⟨rfl, ?_⟩
      funext j
      unfold tskE
      rw [hsl, hsl, hlen b' eb]
      unfold lfV
      rw [left_off g b eb]
      rfl
    · intro ea
      refine ⟨rfl, ?_⟩
      unfold frAt; rw [hfr]; rfl
    · intro ea
      refine ⟨rfl, ?_⟩
      unfold frAt; rw [hfr]
    · intro ea
      subst ea
      have eb : b' ≠ t := fun e => hC (Or.inr ⟨rfl, e, (vld_i17 hV).2.1⟩)
      refine ⟨left_off g b eb, ?_⟩
      unfold sxO
      rw [hlen b' eb]
      rfl
  · rcases hC with ⟨rfl, rfl, rfl⟩ | ⟨rfl, rfl, rfl⟩
    · rw [ob_v (show vld (s.setT b' ((s.T b').lft k4)) 11 b' 0 = true from vld_t (by omega) ht)]
      refine Full.congr hT (fun j hj => ?_)
      have hc : j = 0 ∨ j = 1 ∨ j = 2 ∨ j = 3 ∨ j = 4 ∨ j = 5 ∨ j = 6 := by omega
      rcases hc with rfl | rfl | rfl | rfl | rfl | rfl | rfl
      · rfl
      · exact (hsl 12 b').symm
      · show Value.bool (s.T b').run = Value.bool ((s.setT b' ((s.T b').lft k4)).T b').run
        rw [hT']; rfl
      · show whV p g (s.T b').wh = whV p (g.left b' b) ((s.setT b' ((s.T b').lft k4)).T b').wh
        rw [hT']; rfl
      · show Fv 207 #[P0 b] = lfV (g.left b' b) b' ((s.setT b' ((s.T b').lft k4)).T b').lf
        rw [hT']
        show _ = Fv 207 #[P0 ((g.left b' b).sx b')]
        rw [left_at]
      · show Value.int .i64 (s.T b').till = Value.int .i64 ((s.setT b' ((s.T b').lft k4)).T b').till
        rw [hT']; rfl
      · exact (hsl 5 b').symm
    · rw [ob_v hv17]
      show w'.heap[(g.left b' b).sx b']? = some (sxO p (s.setT b' ((s.T b').lft k4)) (g.left b' b) b')
      rw [left_at, hb]
      unfold sxO
      rw [hT']
      rfl
  · rcases hC with ⟨rfl, rfl, rfl⟩ | ⟨rfl, rfl, rfl⟩
    · rw [bs_tk p _ (show isT (s.setT b' ((s.T b').lft k4)) b' from ht)] at hk
      rw [bs_tk p g ht]
      exact Or.inl hk
    · rw [ob_v hv17] at hk
      have hk' : k = (g.left b' b).sx b' := hk
      rw [left_at] at hk'
      subst hk'
      exact Or.inr ⟨hn, hz, rfl⟩
def tsk0 : Tsk := ⟨[], false, none, none, 0⟩
def Pl.new (s : Pl) : Pl := { s with nt := s.nt + 1, T := fun i => if i = s.nt + 1 then tsk0 else s.T i, q := fun a b => if a = 5 ∧ b = s.nt + 1 then [] else s.q a b }
def Geo.new (g : Geo) (t tb xe xt : Nat) : Geo := { g with tb := fun i => if i = t then tb else g.tb i, xe := fun i => if i = t then xe else g.xe i, xt := fun i => if i = t then xt else g.xt i, ro := fun a b => if (a = 5 ∨ a = 12) ∧ b = t then (none, 0) else g.ro a b }
theorem new_T (s : Pl) {t : Nat} (h : t ≠ s.nt + 1) : s.new.T t = s.T t := if_neg h
theorem new_T1 (s : Pl) : s.new.T (s.nt + 1) = tsk0 := if_pos rfl
theorem new_q (s : Pl) {a b : Nat} (h : ¬ (a = 5 ∧ b = s.nt + 1)) : s.new.q a b = s.q a b := if_neg h
theorem new_q5 (s : Pl) : s.new.q 5 (s.nt + 1) = [] := if_pos ⟨rfl, rfl⟩
theorem new_nt (s : Pl) : s.new.nt = s.nt + 1 := rfl
theorem gnew_off (g : Geo) {t tb xe xt u : Nat} (h : u ≠ t) : (g.new t tb xe xt).tb u = g.tb u ∧ (g.new t tb xe xt).xe u = g.xe u ∧ (g.new t tb xe xt).xt u = g.xt u := ⟨if_neg h, if_neg h, if_neg h⟩
theorem gnew_at (g : Geo) (t tb xe xt : Nat) : (g.new t tb xe xt).tb t = tb ∧ (g.new t tb xe xt).xe t = xe ∧ (g.new t tb xe xt).xt t = xt := ⟨if_pos rfl, if_pos rfl, if_pos rfl⟩
theorem gnew_ro (g : Geo) {t tb xe xt a b : Nat} (h : ¬ ((a = 5 ∨ a = 12) ∧ b = t)) : (g.new t tb xe xt).ro a b = g.ro a b := if_neg h
theorem gnew_ro1 (g : Geo) {t tb xe xt a : Nat} (h : a = 5 ∨ a = 12) : (g.new t tb xe xt).ro a t = (none, 0) := if_pos ⟨h, rfl⟩
theorem new_vld (s : Pl) {a b c : Nat} (hC : ¬ ((a = 5 ∨ a = 11 ∨ a = 12 ∨ a = 15 ∨ a = 16) ∧ b = s.nt + 1 ∧ c = 0)) : vld s.new a b c = vld s a b c := by
  unfold vld
  rw [new_nt]
  by_cases h1 : a ≤ 1 ∨ a = 2 ∨ a = 3 ∨ (6 ≤ a ∧ a ≤ 9) ∨ a = 18
  · rw [if_pos h1, if_pos h1]
  · rw [if_neg h1, if_neg h1]
    by_cases h2 : a = 4 ∨ a = 10
    · rw [if_pos h2, if_pos h2]
    · rw [if_neg h2, if_neg h2]
      by_cases h3 : a = 5 ∨ a = 11 ∨ a = 12 ∨ a = 15 ∨ a = 16
      · rw [if_pos h3, if_pos h3]
        have : ¬ (b = s.nt + 1 ∧ c = 0) := fun e => hC ⟨h3, e⟩
        apply decide_eq_decide.2
        omega
      · rw [if_neg h3, if_neg h3]
        by_cases hb : b = s.nt + 1
        · subst hb
          rw [new_T1]
          have e1 : ¬ (1 ≤ s.nt + 1 ∧ s.nt + 1 ≤ s.nt ∧ c = 0) := by omega
          have e2 : ¬ (1 ≤ s.nt + 1 ∧ s.nt + 1 ≤ s.nt ∧ c < (s.T (s.nt + 1)).fr.length) := by omega
          have e3 : ¬ (1 ≤ s.nt + 1 ∧ s.nt + 1 ≤ s.nt + 1 ∧ c < tsk0.fr.length) := by
            show ¬ (_ ∧ _ ∧ c < 0); omega
          rw [decide_eq_false e1, decide_eq_false e2, decide_eq_false e3]
          have e4 : tsk0.lf.isSome = false := rfl
          rw [e4]
          simp
        · rw [new_T s hb]
          have e1 : decide (1 ≤ b ∧ b ≤ s.nt + 1 ∧ c = 0) = decide (1 ≤ b ∧ b ≤ s.nt ∧ c = 0) := decide_eq_decide.2 (by omega)
          have e2 : decide (1 ≤ b ∧ b ≤ s.nt + 1 ∧ c < (s.T b).fr.length) = decide (1 ≤ b ∧ b ≤ s.nt ∧ c < (s.T b).fr.length) := decide_eq_decide.2 (by omega)
          rw [e1, e2]
structure MW (s : Pl) : Prop where
  a : ∀ x y, lnok s x y → ∀ t, t ∈ s.q x y → isT s t
  b : ∀ t, t ∈ s.lv → isT s t
  c : ∀ t, isT s t → ∀ x y, (s.T t).wh = some (x, y) → lnok s x y
theorem vld_lnok {s : Pl} {x y : Nat} (h : vld s x y 0 = true) (hx : 2 ≤ x ∧ x ≤ 5) : lnok s x y := by
  by_cases h2 : x = 2
  · exact Or.inl ⟨h2, (vld_i0 h (by omega)).1⟩
  · by_cases h3 : x = 3
    · exact Or.inr (Or.inl ⟨h3, (vld_i0 h (by omega)).1⟩)
    · by_cases h4 : x = 4
      · exact Or.inr (Or.inr (Or.inl ⟨h4, (vld_i4 h (by omega)).1⟩))
      · exact Or.inr (Or.inr (Or.inr ⟨by omega, (vld_it h (by omega)).1⟩))
theorem ob_new {p : Prm} {s : Pl} {g : Geo} {tb xe xt : Nat} (hM : MW s) {a b c : Nat} (hC : ¬ ((a = 5 ∨ a = 11 ∨ a = 12 ∨ a = 15 ∨ a = 16) ∧ b = s.nt + 1 ∧ c = 0)) : ob p s.new (g.new (s.nt + 1) tb xe xt) a b c = ob p s g a b c := by
  have isn : ∀ {t}, isT s t → t ≠ s.nt + 1 := fun h => by have := h.2; omega
  have htb : ∀ {t}, isT s t → (g.new (s.nt + 1) tb xe xt).tb t = g.tb t := fun h => (gnew_off g (isn h)).1
  have hrl : ∀ a b, ¬ ((a = 5 ∨ a = 12) ∧ b = s.nt + 1) → rlen s.new a b = rlen s a b := fun a b e => by
    unfold rlen
    by_cases ea : a = 12
    · rw [new_T s (fun eb => e ⟨Or.inr ea, eb⟩), new_q s (fun e' => by omega)]; rfl
    · rw [new_q s (fun e' => e ⟨Or.inl e'.1, e'.2⟩)]
      simp only [if_neg ea]
      rfl
  have hsl : ∀ a b, ¬ ((a = 5 ∨ a = 12) ∧ b = s.nt + 1) → sl s.new (g.new (s.nt + 1) tb xe xt) a b = sl s g a b := fun a b e => by
    unfold sl
    rw [gnew_ro g e, hrl a b e]
  refine ob_eq (new_vld s hC) (fun hV => obk_eq hV ?_ (fun _ => ⟨rfl, rfl, rfl⟩) ?_ ?_ ?_ ?_ ?_ ?_ ?_)
  · intro _
    exact engE_same (fun a b _ e5 e12 _ => hsl a b (fun e => e.1.elim e5 e12)) rfl rfl
  · intro ea
    have hb := (vld_it hV (by omega)).1
    have eb := isn hb
    refine ⟨htb hb, ?_⟩
    funext j
    unfold tskE
    rw [hsl 12 b (fun e => eb e.2), hsl 5 b (fun e => eb e.2), new_T s eb]
    have hw : whV p (g.new (s.nt + 1) tb xe xt) (s.T b).wh = whV p g (s.T b).wh := by
      cases hwh : (s.T b).wh with
      | none => rfl
      | some xy =>
        obtain ⟨x, y⟩ := xy
        show Pt (lnB p (g.new (s.nt + 1) tb xe xt) x y) (lnO x y) = Pt (lnB p g x y) (lnO x y)
        unfold lnB
        by_cases h5 : x = 5
        · rw [if_pos h5, if_pos h5, htb (lnok_t (hM.c b hb x y hwh) h5)]
        · rw [if_neg h5, if_neg h5]
    rw [hw]
    rfl
  · intro ea
    have hb := (vld_if hV (by omega)).1
    refine ⟨rfl, ?_⟩
    have e1 : frAt s.new b c = frAt s b c := by unfold frAt; rw [new_T s (isn hb)]
    rw [e1]
    unfold frO bkV
    rw [(gnew_off g (isn hb)).2.1, (gnew_off g (isn hb)).2.2, htb hb]
    rfl
  · intro ea
    have hb := (vld_if hV (by omega)).1
    refine ⟨rfl, ?_⟩
    unfold frAt; rw [new_T s (isn hb)]
  · intro ea
    exact (gnew_off g (isn (vld_it hV (by omega)).1)).2.1
  · intro ea
    have hb := (vld_it hV (by omega)).1
    exact ⟨(gnew_off g (isn hb)).2.2, htb hb⟩
  · intro ea
    subst ea
    have hb := (vld_i17 hV).1
    refine ⟨rfl, ?_⟩
    unfold sxO
    rw [new_T s (isn hb), htb hb]
    rfl
  · intro ha
    have ec := vld_ir hV ha
    subst ec
    have e : ¬ ((a = 5 ∨ a = 12) ∧ b = s.nt + 1) := fun e => hC ⟨by omega, e.2, rfl⟩
    refine ⟨gnew_ro g e, hrl a b e, ?_⟩
    by_cases ea : 2 ≤ a ∧ a ≤ 5
    · have hl := vld_lnok hV ea
      rw [lnok_con _ _ hl, lnok_con _ _ hl, new_q s (fun e' => e ⟨Or.inl e'.1, e'.2⟩)]
      congr 1
      exact List.map_congr_left (fun t ht => htb (hM.a a b hl t ht))
    · unfold rcon
      by_cases e6 : a = 6
      · simp only [if_pos e6]
        congr 1
        exact List.map_congr_left (fun t ht => htb (hM.b t ht))
      · by_cases e12 : a = 12
        · subst e12
          have hb := (vld_it hV (by omega)).1
          simp only [if_neg e6]
          rw [new_T s (isn hb)]
          rfl
        · obtain ⟨r1, r2, r3⟩ := ha
          have : a = 7 ∨ a = 8 ∨ a = 9 ∨ a = 10 := by omega
          rcases this with rfl | rfl | rfl | rfl <;> rfl
end Go.Proofs.YtnjiinbhbjpfkaaGreatDoor.F
namespace Go.Proofs.YtnjiinbhbjpfkaaGreatDoor
open Go.RowKit
theorem Tryz.info184' : (Tryz.prog.info? 184).map (fun i => (i.zero, i.size, i.bytes)) = some (some (.pointer none), 1, 8) := by kernel_rfl
theorem regP_zero (j : Nat) : regP (fun _ => ((0, 0) : B.V)) j = .int .i64 0 := by unfold regP; split <;> rfl
theorem made_zero {w : World} {g b base : Nat} (h : w.ownsRow base 149 2 (.slice (some ⟨g, 0, none⟩) b b) b (madeCells #[.int .i64 0, .int .i64 0] (b * 2)).toList) : Full w g 149 (b * 2) (b * 2) (regP (fun _ => (0, 0))) := by
  rcases h.2 with ⟨h, _⟩ | ⟨g', cap', cur, h1, h2, h3, h4, h5, h6, h7⟩
  · cases h
  · cases h1
    refine ⟨cur, h3, h6, fun j hj => ?_⟩
    have e1 := congrArg (fun l => l[j]?) h7
    have e2 : (madeCells #[.int .i64 0, .int .i64 0] (b * 2)).toList[j]? = some (.int .i64 0) := by
      simp only [madeCells, Array.getElem?_toList, Array.getElem?_map, Array.getElem?_range]
      rw [if_pos hj]
      have : j % 2 = 0 ∨ j % 2 = 1 := by omega
      rcases this with h | h <;> simp [h]
    simp only [e2, List.getElem?_take] at e1
    rw [if_pos hj] at e1
    rw [regP_zero]
    simpa using e1
theorem only_sets {S : Nat → Prop} {w : World} (g : Nat) (hg : S g) : ∀ {w1 : World} (vs : List Value) (o : Nat), Only S w w1 → Only S w (w1.setCells g o vs)
  | _, [], _, h => h
  | _, _ :: r, o, h => only_sets g hg r (o + 1) (only_setCell h (Or.inl hg) _)
def reg0 (u v : B.V) : Nat → B.V := fun i => if i = 0 then u else if i = 1 then v else (0, 0)
def Entered (w w' : World) (tb s0 c0 r0 m ck : Nat) (ao : Option Addr) (fs : List Value) (bk : Value) (u v : B.V) (Tk : Nat → Value) : Prop :=
  ∃ kb ck' fb rb, Full w' tb 160 7 7 (upd Tk 1 (.slice (some ⟨kb, 0, none⟩) (m + 1) ck')) ∧ w'.ownsRow 0 184 1 (.slice (some ⟨kb, 0, none⟩) (m + 1) ck') (m + 1) (fs ++ [P0 fb]) ∧ Fr w' fb s0 c0 0 rb r0 bk (reg0 u v) ∧ w.heap.size ≤ fb ∧ w.heap.size ≤ rb ∧ Only (fun k => k = tb ∨ (Value.slice ao m ck).ownBlock = some k) w w' ∧ ((Value.slice ao m ck).ownBlock = some kb ∨ w.heap.size ≤ kb)
set_option maxRecDepth 100000 in
set_option maxHeartbeats 2000000 in
theorem enterL (eb tb g nf s0 c0 r0 f m ck : Nat) (ao : Option Addr) (fs : List Value) (k : Fn) (ka kc : Array Value) (u v : B.V) (Tk : Nat → Value) (w : World)
    (h0 : w.cell? ⟨eb, 0, none⟩ = some (.slice (some ⟨g, 0, none⟩) nf nf)) (h1 : w.cell? ⟨g, f * 2, none⟩ = some (.int .i64 r0)) (h2 : w.cell? ⟨g, f * 2 + 1, none⟩ = some (.slice (some ⟨s0, 0, none⟩) c0 c0))
    (hT : Full w tb 160 7 7 Tk) (hT1 : Tk 1 = .slice ao m ck) (hK : w.ownsRow 0 184 1 (.slice ao m ck) m fs) (hm : m ≤ 1000) (he : eb < w.heap.size) (hg : g < w.heap.size) (hf : f < nf) (hr : 2 ≤ r0) (hr2 : r0 ≤ 8) :
    Calls Tryz.prog 119 #[P0 eb, P0 tb, .int .i64 f, vA u, vA v, .func k ka kc] w fun e w' => e = .returned (.tuple #[]) ∧ Entered w w' tb s0 c0 r0 m ck ao fs (.func k ka kc) u v Tk := by
  obtain ⟨u1, u2⟩ := u
  obtain ⟨v1, v2⟩ := v
  obtain ⟨i0, hi, hz0, hz1, hz2⟩ := info_parts Tryz.info149
  have hn2 : (f : Int) < (nf : Int) := by omega
  have htb := hT.lt
  have HT := hid hT
  have HT1 := hid hT1
  have HK := hid hK
  clear hT hT1 hK
  have he1 : eb < w.heap.size + 1 := by omega
  have he2 : eb < w.heap.size + 1 + 1 := by omega
  have hp1 : g < w.heap.size + 1 := by omega
  have hp2 : g < w.heap.size + 1 + 1 := by omega
  go_enter Tryz.func119, Tryz.ntmps119
  go_wp2_with (at_make; go_loud (refine wpList_make_full _ rfl _ _ 137 rfl 0 149 i0 _ 2 Tryz.underlying137 hi hz0 hz1 _ _ _ _ r0 rfl rfl rfl rfl (by rw [hz2]; omega) (by unfold maxLen; omega) (Nat.zero_le _) ?_))
  intro w3 hown hg3
  have hz := hg3.size
  simp at hz
  have hrb := made_zero hown
  have hs0 : (w.alloc (.cells #[.int .i64 (u1 : Int), .int .i64 u2] 149)).heap.size = w.heap.size + 1 := by simp
  have x0 := grown_heap hg3 (show (((w.alloc (.cells #[.int .i64 (u1 : Int), .int .i64 u2] 149)).alloc (.cells #[.int .i64 (v1 : Int), .int .i64 v2] 149)).alloc (.cells #[.int .i64 (r0 : Int), .slice (some ⟨s0, 0, none⟩) c0 c0] 178)).heap[w.heap.size]? = some (.cells #[.int .i64 (u1 : Int), .int .i64 u2] 149 (0, 0)) by rw [Below.heap_alloc _ _ _ (by simp; omega), Below.heap_alloc _ _ _ (by simp)]; exact heap_alloc_new _ _) (by intro e; cases e)
  have x1 := grown_heap hg3 (show (((w.alloc (.cells #[.int .i64 (u1 : Int), .int .i64 u2] 149)).alloc (.cells #[.int .i64 (v1 : Int), .int .i64 v2] 149)).alloc (.cells #[.int .i64 (r0 : Int), .slice (some ⟨s0, 0, none⟩) c0 c0] 178)).heap[w.heap.size + 1]? = some (.cells #[.int .i64 (v1 : Int), .int .i64 v2] 149 (0, 0)) by rw [Below.heap_alloc _ _ _ (by simp), ← hs0]; exact heap_alloc_new _ _) (by intro e; cases e)
  have x2 := grown_heap hg3 (show (((w.alloc (.cells #[.int .i64 (u1 : Int), .int .i64 u2] 149)).alloc (.cells #[.int .i64 (v1 : Int), .int .i64 v2] 149)).alloc (.cells #[.int .i64 (r0 : Int), .slice (some ⟨s0, 0, none⟩) c0 c0] 178)).heap[w.heap.size + 1 + 1]? = some (.cells #[.int .i64 (r0 : Int), .slice (some ⟨s0, 0, none⟩) c0 c0] 178 (0, 0)) by (have := heap_alloc_new ((w.alloc (.cells #[.int .i64 (u1 : Int), .int .i64 u2] 149)).alloc (.cells #[.int .i64 (v1 : Int), .int .i64 v2] 149)) (.cells #[.int .i64 (r0 : Int), .slice (some ⟨s0, 0, none⟩) c0 c0] 178); simpa using this)) (by intro e; cases e)
  have KG3 : Hid (w.grownBy w3 none) := grown_trans (by repeat (first | exact grown_refl _ _ | refine grown_alloc ?_ _)) hg3
  have hrb' : Full w3 (w.heap.size + 1 + 1 + 1) 149 (r0 * 2) (r0 * 2) (regP (fun _ => (0, 0))) := by simpa using hrb
  have HRB := hid hrb'
  have a0 : w3.cell? ⟨w.heap.size, 0, none⟩ = some (.int .i64 (u1 : Int)) := by simp [World.cell?, x0]
  have a1 : w3.cell? ⟨w.heap.size, 1, none⟩ = some (.int .i64 u2) := by simp [World.cell?, x0]
  have b0 : w3.cell? ⟨w.heap.size + 1, 0, none⟩ = some (.int .i64 (v1 : Int)) := by simp [World.cell?, x1]
  have b1 : w3.cell? ⟨w.heap.size + 1, 1, none⟩ = some (.int .i64 v2) := by simp [World.cell?, x1]
  obtain ⟨k0, e0⟩ := hrb'.cells 0 (by omega)
  obtain ⟨k1, e1⟩ := hrb'.cells 1 (by omega)
  obtain ⟨k2, e2⟩ := hrb'.cells 2 (by omega)
  obtain ⟨k3, e3⟩ := hrb'.cells 3 (by omega)
  rw [regP_zero] at k0 k1 k2 k3
  have hq0 : (0 : Int) < (r0 : Int) := by omega
  have hq1 : (1 : Int) < (r0 : Int) := by omega
  have HX2 := hid x2
  clear hown hg3 hrb hrb' x0 x1 x2 h0 h1 h2 hs0
  go_wp2_with fail
  go_region
  generalize hw4 : World.drew ((((w3.setCell ⟨w.heap.size + 1 + 1 + 1, 0, none⟩ (.int .i64 (u1 : Int))).setCell ⟨w.heap.size + 1 + 1 + 1, 1, none⟩ (.int .i64 u2)).setCell ⟨w.heap.size + 1 + 1 + 1, 2, none⟩ (.int .i64 (v1 : Int))).setCell ⟨w.heap.size + 1 + 1 + 1, 3, none⟩ (.int .i64 v2)) = w4
  have hb : ∀ b, b ≠ w.heap.size + 1 + 1 + 1 → w4.heap[b]? = w3.heap[b]? := by
    intro b hb
    rw [← hw4]
    show (World.setCell _ _ _).heap[b]? = _
    repeat (rw [Below.heap_setCell _ _ _ _ (by simpa using hb)])
  have HR4 : Hid (Full w4 (w.heap.size + 1 + 1 + 1) 149 (r0 * 2) (r0 * 2) (regP (reg0 (u1, u2) (v1, v2)))) := by
    show Full _ _ _ _ _ _
    rw [← hw4]
    refine Full.congr (show Full (World.drew _) _ _ _ _ _ from (((HRB.out.upd 0 (.int .i64 (u1 : Int))).upd 1 (.int .i64 u2)).upd 2 (.int .i64 (v1 : Int))).upd 3 (.int .i64 v2)) (fun j _ => ?_)
    by_cases j3 : j < 4
    · rcases (show j = 0 ∨ j = 1 ∨ j = 2 ∨ j = 3 by omega) with rfl | rfl | rfl | rfl <;> rfl
    · rw [upd_off _ _ _ _ (by omega), upd_off _ _ _ _ (by omega), upd_off _ _ _ _ (by omega), upd_off _ _ _ _ (by omega)]
      have e : reg0 (u1, u2) (v1, v2) (j / 2) = (0, 0) := by unfold reg0; rw [if_neg (by omega), if_neg (by omega)]
      unfold regP
      rw [e]
  have hz4 : w4.heap.size = w3.heap.size := by rw [← hw4]; simp [World.setCell, World.drew]
  have KG4 : Hid (w.grownBy w4 none) := by
    rw [← hw4]
    repeat (first | exact KG3.out | refine grown_drew ?_ | refine grown_setCell ?_ (Or.inr (by simp; omega)) _)
  have HT4 := hid (HT.out.block (KG4.out.block tb htb (by intro e; cases e)))
  have HK4 := hid (own_of HK.out (fun k h => KG4.out.block k (own_ty HK.out k h).2.1 (by intro e; cases e)))
  have x2 := (hb (w.heap.size + 1 + 1) (by omega)).trans HX2.out
  have f1 : w4.cell? ⟨w.heap.size + 1 + 1, 1, none⟩ = some (.slice (some ⟨s0, 0, none⟩) c0 c0) := by simp [World.cell?, x2]
  have lf := heap_lt x2
  obtain ⟨t1, z1⟩ := HT4.out.cells 1 (by omega)
  rw [HT1.out] at t1
  have lt4 := HT4.out.lt
  have hle4 : w.heap.size + 1 + 1 + 1 ≤ w4.heap.size := by omega
  clear hz4 hw4 hb x2 HX2 HRB KG3 a0 a1 b0 b1 k0 k1 k2 k3 e0 e1 e2 e3 hi hz0 hz1 hz2 i0
  obtain ⟨j0, hj, hy0, hy1, hy2⟩ := info_parts Tryz.info184'
  have kt : ∀ x, (Value.slice ao m ck).ownBlock = some x → x ≠ tb := fun x h => own_ne HK.out HT.out (by decide) x h
  have hform : (ck < m + 1 ∧ (ao = none → m = 0 ∧ ck = 0)) ∨ (m + 1 ≤ ck ∧ ∃ kb, ao = some ⟨kb, 0, none⟩) := by
    rcases HK.out.2 with ⟨h, h0⟩ | ⟨g', c', cur, h1, _, _, h4, _⟩
    · injection h with a1 a2 a3; exact Or.inl ⟨by omega, fun _ => ⟨a2, a3⟩⟩
    · injection h1 with a1 a2 a3
      by_cases hlt : m + 1 ≤ ck
      · exact Or.inr ⟨hlt, g', a1⟩
      · exact Or.inl ⟨by omega, fun e => by rw [a1] at e; cases e⟩
  have hW : ∀ x, x < w4.heap.size → (((w4.alloc (frmB s0 c0 0 (w.heap.size + 1 + 1 + 1) r0 (.func k ka kc))).alloc (.cells #[P0 w4.heap.size] 184)).drew).heap[x]? = w4.heap[x]? := fun x hx => (Below.heap_alloc _ _ _ (by simp; omega)).trans (Below.heap_alloc _ _ _ hx)
  have hWz : (((w4.alloc (frmB s0 c0 0 (w.heap.size + 1 + 1 + 1) r0 (.func k ka kc))).alloc (.cells #[P0 w4.heap.size] 184)).drew).heap.size = w4.heap.size + 2 := by show (World.alloc _ _).heap.size = _; simp
  have hWf : (((w4.alloc (frmB s0 c0 0 (w.heap.size + 1 + 1 + 1) r0 (.func k ka kc))).alloc (.cells #[P0 w4.heap.size] 184)).drew).heap[w4.heap.size]? = some (frmB s0 c0 0 (w.heap.size + 1 + 1 + 1) r0 (.func k ka kc)) := by show (World.alloc _ _).heap[_]? = _; rw [Below.heap_alloc _ _ _ (by simp)]; exact heap_alloc_new _ _
  have hWx : (((w4.alloc (frmB s0 c0 0 (w.heap.size + 1 + 1 + 1) r0 (.func k ka kc))).alloc (.cells #[P0 w4.heap.size] 184)).drew).cell? ⟨w4.heap.size + 1, 0, none⟩ = some (P0 w4.heap.size) := by
    have h1 := heap_alloc_new (w4.alloc (frmB s0 c0 0 (w.heap.size + 1 + 1 + 1) r0 (.func k ka kc))) (.cells #[P0 w4.heap.size] 184)
    have h2 : (w4.alloc (frmB s0 c0 0 (w.heap.size + 1 + 1 + 1) r0 (.func k ka kc))).heap.size = w4.heap.size + 1 := by simp
    rw [h2] at h1
    have h3 : (((w4.alloc (frmB s0 c0 0 (w.heap.size + 1 + 1 + 1) r0 (.func k ka kc))).alloc (.cells #[P0 w4.heap.size] 184)).drew).heap[w4.heap.size + 1]? = some (.cells #[P0 w4.heap.size] 184 (0, 0)) := h1
    simp only [World.cell?, h3]; rfl
  have hWn : ∀ j u, [P0 w4.heap.size][j]? = some u → (((w4.alloc (frmB s0 c0 0 (w.heap.size + 1 + 1 + 1) r0 (.func k ka kc))).alloc (.cells #[P0 w4.heap.size] 184)).drew).cell? ((⟨w4.heap.size + 1, 0, none⟩ : Addr).add j) = some u := fun j u hj => by
    match j, hj with
    | 0, hj => (simp at hj; subst hj; exact hWx)
  have hWg : w4.grownBy (((w4.alloc (frmB s0 c0 0 (w.heap.size + 1 + 1 + 1) r0 (.func k ka kc))).alloc (.cells #[P0 w4.heap.size] 184)).drew) none := grown_drew (grown_alloc (grown_alloc (grown_refl _ _) _) _)
  rcases hform with ⟨hful, hnone⟩ | ⟨hroom, kb, rfl⟩
  · have hlo : fs.length = m * 1 := HK.out.1
    have holds : ∀ b, ao = some b → ∀ j u, fs[j]? = some u → (((w4.alloc (frmB s0 c0 0 (w.heap.size + 1 + 1 + 1) r0 (.func k ka kc))).alloc (.cells #[P0 w4.heap.size] 184)).drew).cell? (b.add j) = some u := fun b hb j u hu => by
      subst hb
      rcases HK4.out.2 with ⟨h, _⟩ | ⟨g', c', cur, h1, _⟩
      · cases h
      · injection h1 with h1 _ _
        injection h1 with h1
        subst h1
        obtain ⟨_, _, _, _, hB, hc⟩ := own_ge HK4.out
        have h2 := hc j u hu
        have h3 : (((w4.alloc (frmB s0 c0 0 (w.heap.size + 1 + 1 + 1) r0 (.func k ka kc))).alloc (.cells #[P0 w4.heap.size] 184)).drew).cell? ⟨g', j, none⟩ = some u := by
          simp only [World.cell?] at h2 ⊢
          rw [hW g' hB.lt]; exact h2
        cases j with
        | zero => simpa [Addr.add] using h3
        | succ j => simpa [Addr.add] using h3
    have HHL := hid (And.intro hnone (And.intro hlo holds))
    have HWW := hid (And.intro hWz (And.intro hWf (And.intro hWn hWg)))
    clear hnone hlo holds hW hWz hWf hWx hWn hWg
    go_wp2_with fail
    go_region_law (refine step_append_grows rfl (.tmp 34) (.tmp 41) 156 rfl 184 j0 (.pointer none) 1 8 Tryz.underlying156 hj hy0 hy1 hy2 rfl (by decide) ao m ck fs (by first | rfl | simp [Act.eval, Act.put]) HHL.out.1 HHL.out.2.1 HHL.out.2.2 ⟨w4.heap.size + 1, 0, none⟩ 1 1 [P0 w4.heap.size] (by first | rfl | simp [Act.eval, Act.put]) rfl HWW.out.2.2.1 (by simp [Value.oneCell']) hful (by unfold maxLen; omega) (by omega) ?_; intro v' w6 ho hg; obtain ⟨kb, ck', rfl⟩ := row_form ho (by omega); have hge : w4.heap.size + 2 ≤ kb := HWW.out.1 ▸ (own_ge ho).1; have HG6 : Hid (w4.grownBy w6 none) := grown_trans HWW.out.2.2.2 hg; have HFR : Hid (w6.heap[w4.heap.size]? = some (frmB s0 c0 0 (w.heap.size + 1 + 1 + 1) r0 (.func k ka kc))) := grown_heap hg HWW.out.2.1 (by intro e; cases e); have HO6 := hid (own_base ho (Nat.zero_le _)); have HT6 := hid (HT4.out.block (HG6.out.block tb lt4 (by intro e; cases e))); obtain ⟨d1, z1'⟩ := HT6.out.cells 1 (by omega); have lt6 := HT6.out.lt; clear ho hg)
    all_goals
      rw [HT1.out] at d1
      go_wp2_with fail
      go_end0
      have hrt : w.heap.size + 1 + 1 + 1 ≠ tb := by omega
      have lr4 := HR4.out.lt
      refine ⟨rfl, kb, ck', w4.heap.size, w.heap.size + 1 + 1 + 1, HT6.out.upd 1 _, own_of HO6.out (fun x h => Below.heap_setCell _ _ _ _ (own_ne HO6.out HT6.out (by decide) x h)), ⟨(Below.heap_setCell _ _ _ _ (show w4.heap.size ≠ tb by omega)).trans HFR.out, (HR4.out.block (HG6.out.block _ HR4.out.lt (by intro e; cases e))).off hrt, by omega⟩, by omega, by omega, only_setCell (only_none (grown_trans KG4.out HG6.out)) (Or.inl (Or.inl rfl)) _, Or.inr (by omega)⟩
  · obtain ⟨_, hmc, hcm, hlf, hB4, hc4⟩ := own_ge HK4.out
    have hsp : ∀ j, j < [P0 w4.heap.size].length → ((((w4.alloc (frmB s0 c0 0 (w.heap.size + 1 + 1 + 1) r0 (.func k ka kc))).alloc (.cells #[P0 w4.heap.size] 184)).drew).cell? ⟨kb, 0 + m * 1 + j, none⟩).isSome = true ∧ (((w4.alloc (frmB s0 c0 0 (w.heap.size + 1 + 1 + 1) r0 (.func k ka kc))).alloc (.cells #[P0 w4.heap.size] 184)).drew).frozen? ⟨kb, 0 + m * 1 + j, none⟩ = false := fun j hj => by
      have hj0 : j = 0 := by simpa using hj
      subst hj0
      obtain ⟨⟨v, h⟩, hf⟩ := hB4.cell (0 + m * 1 + 0) (by omega)
      have hk := hW kb hB4.lt
      constructor
      · simp only [World.cell?] at h ⊢
        rw [hk, h]; rfl
      · simp only [World.frozen?] at hf ⊢
        rw [hk]; exact hf
    have HWW := hid (And.intro hWz (And.intro hWf (And.intro hWn (And.intro hWg (And.intro hsp hW)))))
    have HB4 := hid (And.intro hcm (And.intro hlf (And.intro hB4 hc4)))
    have hkt : kb ≠ tb := kt kb rfl
    have lkb := hB4.lt
    clear hW hWz hWf hWx hWn hWg hsp hcm hlf hB4 hc4
    go_wp2_with fail
    go_region_law (refine step_append_room rfl (.tmp 34) (.tmp 41) 156 rfl 184 j0 1 Tryz.underlying156 hj hy1 kb 0 m ck (by first | rfl | simp [Act.eval, Act.put]) ⟨w4.heap.size + 1, 0, none⟩ 1 1 [P0 w4.heap.size] (by first | rfl | simp [Act.eval, Act.put]) rfl HWW.out.2.2.1 (by simp [Value.oneCell']) hroom HWW.out.2.2.2.2.1 ?_; generalize hw6 : World.setCells _ kb _ _ = w6; have HS6 : Hid (w6 = (((w4.alloc (frmB s0 c0 0 (w.heap.size + 1 + 1 + 1) r0 (.func k ka kc))).alloc (.cells #[P0 w4.heap.size] 184)).drew).setCells kb (0 + m * 1) [P0 w4.heap.size]) := hw6.symm; clear hw6; have HK6 : Hid (∀ x, x ≠ kb → w6.heap[x]? = (((w4.alloc (frmB s0 c0 0 (w.heap.size + 1 + 1 + 1) r0 (.func k ka kc))).alloc (.cells #[P0 w4.heap.size] 184)).drew).heap[x]?) := (fun x hx => by rw [HS6.out]; exact heap_setCells kb x hx _ _ _); have HT6 := hid (HT4.out.block ((HK6.out tb (fun e => hkt e.symm)).trans (HWW.out.2.2.2.2.2 tb lt4))); obtain ⟨d1, z1'⟩ := HT6.out.cells 1 (by omega); have lt6 := HT6.out.lt)
    all_goals
      rw [HT1.out] at d1
      go_wp2_with fail
      go_end0
      have hrt : w.heap.size + 1 + 1 + 1 ≠ tb := by omega
      have lr4 := HR4.out.lt
      have hrk : w.heap.size + 1 + 1 + 1 ≠ kb := by
        have := (own_ty HK.out kb rfl).2.1
        omega
      have hz6 : w6.heap.size = w4.heap.size + 2 := by rw [HS6.out, setCells_size]; exact HWW.out.1
      have hO6 : w6.ownsRow 0 184 1 (.slice (some ⟨kb, 0, none⟩) (m + 1) ck) (m + 1) (fs ++ [P0 w4.heap.size]) := by
        refine own_mk (Nat.zero_le _) hroom HB4.out.1 (by simp [HB4.out.2.1]) ?_ (fun j x hx => ?_)
        · rw [HS6.out]
          refine Blk.sets kb _ _ _ ?_
          obtain ⟨cu, q1, q2⟩ := HB4.out.2.2.1
          exact ⟨cu, (HWW.out.2.2.2.2.2 kb lkb).trans q1, q2⟩
        · rw [HS6.out]
          by_cases hj : j < m
          · rw [World.cell?_setCells_out kb _ _ _ _ (fun _ _ => Or.inl (by show j < 0 + m * 1; omega))]
            rw [List.getElem?_append_left (by rw [HB4.out.2.1]; exact hj)] at hx
            have h2 := HB4.out.2.2.2 j x hx
            simp only [World.cell?] at h2 ⊢
            rw [HWW.out.2.2.2.2.2 kb lkb]; exact h2
          · have hjm : j = m := by
              have := (List.getElem?_eq_some_iff.1 hx).1
              simp [HB4.out.2.1] at this
              omega
            subst hjm
            rw [List.getElem?_append_right (by rw [HB4.out.2.1]; exact Nat.le_refl _), HB4.out.2.1, Nat.sub_self] at hx
            have := World.cell?_setCells_in kb [P0 w4.heap.size] (0 + j * 1) (((w4.alloc (frmB s0 c0 0 (w.heap.size + 1 + 1 + 1) r0 (.func k ka kc))).alloc (.cells #[P0 w4.heap.size] 184)).drew) (fun t ht => (HWW.out.2.2.2.2.1 t ht).1) 0 (by simp)
            rw [show (0 + j * 1 + 0) = j by omega] at this
            rw [this]; exact hx
      have hG6 : Only (fun x => x = tb ∨ (Value.slice (some ⟨kb, 0, none⟩) m ck).ownBlock = some x) w w6 := by
        rw [HS6.out]
        exact only_sets kb (Or.inr rfl) _ _ (only_none (grown_trans KG4.out HWW.out.2.2.2.1))
      have hf6 : w6.heap[w4.heap.size]? = some (frmB s0 c0 0 (w.heap.size + 1 + 1 + 1) r0 (.func k ka kc)) := (HK6.out _ (by omega)).trans HWW.out.2.1
      refine ⟨rfl, kb, ck, w4.heap.size, w.heap.size + 1 + 1 + 1, HT6.out.upd 1 _, own_of hO6 (fun x h => Below.heap_setCell _ _ _ _ (own_ne hO6 HT6.out (by decide) x h)), ⟨(Below.heap_setCell _ _ _ _ (show w4.heap.size ≠ tb by omega)).trans hf6, (HR4.out.block ((HK6.out _ hrk).trans (HWW.out.2.2.2.2.2 _ lr4))).off hrt, by omega⟩, by omega, by omega, only_setCell hG6 (Or.inl (Or.inl rfl)) _, Or.inl rfl⟩
end Go.Proofs.YtnjiinbhbjpfkaaGreatDoor
