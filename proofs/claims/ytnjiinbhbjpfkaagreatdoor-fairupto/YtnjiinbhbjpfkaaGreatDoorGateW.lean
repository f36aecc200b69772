/-
  The machine: one instruction of a task that runs.
-/
import Derived.Test.YtnjiinbhbjpfkaaGreatDoorGateV
namespace Go.Proofs.YtnjiinbhbjpfkaaGreatDoor.F
open Go.RowKit
theorem oneR {p : Prm} {s : Pl} {g : Geo} {w : World} {t : Nat} (h : Rep p s g w) (hP : PW p) (hPI : PI p) (hR : Rn p s t) (hn : s.nt + 1 ≤ 500000000) (hev : s.ev.length ≤ 1000) :
    Calls Tryz.prog 134 #[P0 p.eb, P0 (g.tb t)] w fun e w' => e = .returned (.tuple #[]) ∧ ∃ s' g', stepR p t s s' ∧ Tr p s g w s' g' w' := by
  obtain ⟨_, hen2, _⟩ := ends_ok 21 hR (by have := hR.fw.n2; omega)
  by_cases hr : ((s.ends p t 21).T t).run = true
  · obtain ⟨hRS, hG, hx⟩ := hen2 hr
    obtain ⟨hT2, hf2⟩ := took_ok hRS hx
    have hff := hRS.ff
    have hkk := hPI _ hff.1 (topF (s.ends p t 21) t).nx (by omega)
    generalize hins : p.ins (topF (s.ends p t 21) t).f (topF (s.ends p t 21) t).nx = k at hkk
    obtain ⟨op, a, b, c⟩ := k
    rw [← hf2] at hkk
    have hev2 : ((s.ends p t 21).took t).ev.length ≤ 100000 := by
      obtain ⟨l, l1, l2, _⟩ := id hG
      show (s.ends p t 21).ev.length ≤ _
      rw [l1, List.length_append]; omega
    have hnt2 : ((s.ends p t 21).took t).nt + 1 ≤ 500000000 := by
      have := hG.nt
      show (s.ends p t 21).nt + 1 ≤ _
      omega
    obtain ⟨k0, k1, k2, k3, k4, k5, k6, k7, k8, k9⟩ := hkk
    simp only at k0 k1 k2 k3 k4 k5 k6 k7 k8 k9
    have hkl : ((s.ends p t 21).took t).kp.length ≤ 1000000 := by have := hT2.ok.kl; have := hP.n2; omega
    have hfl : (((s.ends p t 21).took t).T t).fr.length ≤ 1000 := by have := hT2.fw.n2; omega
    have hc : op = 0 ∨ op = 1 ∨ op = 2 ∨ op = 3 ∨ op = 4 ∨ op = 5 ∨ op = 6 ∨ op = 7 ∨ op = 8 ∨ op = 9 ∨ op = 10 ∨ op = 11 ∨ op = 12 ∨ op = 13 ∨ op = 14 ∨ op = 15 ∨ op = 16 ∨ op = 17 ∨ op = 18 ∨ op = 19 ∨ op = 20 ∨ op = 21 ∨ op = 22 := by omega
    rcases hc with rfl | rfl | rfl | rfl | rfl | rfl | rfl | rfl | rfl | rfl | rfl | rfl | rfl | rfl | rfl | rfl | rfl | rfl | rfl | rfl | rfl | rfl | rfl
    · refine one163 (wb := p.ac + 1) h hP hR hev k0 (fun _ => ⟨hins, (hP.ea 0 (by omega)).trans rfl⟩) (fun _ g1 w1 h1 hR1 => (i0 h1 hP hR1.inn (k4 (by omega) (by omega)) k2 k3).mono ?_)
      rintro e w' ⟨rfl, k⟩
      exact ⟨0, _, rfl, ⟨rfl, rfl⟩, g1, k⟩
    · refine one163 (wb := p.ac + 3) h hP hR hev k0 (fun _ => ⟨hins, (hP.ea 1 (by omega)).trans rfl⟩) (fun _ g1 w1 h1 hR1 => (i1 h1 hP hR1.inn (k4 (by omega) (by omega)) (k5 (by omega))).mono ?_)
      rintro e w' ⟨rfl, k⟩
      exact ⟨0, _, rfl, ⟨rfl, rfl⟩, g1, k⟩
    · refine one151 (wb := p.ac + 4) h hP hR hev k0 (fun _ => ⟨hins, (hP.ea 2 (by omega)).trans rfl⟩) (fun _ g1 w1 h1 hR1 => (i25 (o := 2) 2 h1 hP hR1.inn (by omega) (k4 (by omega) (by omega)) (k5 (by omega)) (k6 (by omega))).mono ?_)
      rintro e w' (⟨q, rfl, k⟩ | ⟨q, rfl, k⟩)
      · exact ⟨0, _, rfl, Or.inl ⟨q, rfl, rfl⟩, g1, k⟩
      · exact ⟨1, _, rfl, Or.inr ⟨q, rfl, rfl⟩, g1, (Tr.refl h1).kept k⟩
    · refine one151 (wb := p.ac + 5) h hP hR hev k0 (fun _ => ⟨hins, (hP.ea 3 (by omega)).trans rfl⟩) (fun _ g1 w1 h1 hR1 => (i25 (o := 3) 3 h1 hP hR1.inn (by omega) (k4 (by omega) (by omega)) (k5 (by omega)) (k6 (by omega))).mono ?_)
      rintro e w' (⟨q, rfl, k⟩ | ⟨q, rfl, k⟩)
      · exact ⟨0, _, rfl, Or.inl ⟨q, rfl, rfl⟩, g1, k⟩
      · exact ⟨1, _, rfl, Or.inr ⟨q, rfl, rfl⟩, g1, (Tr.refl h1).kept k⟩
    · refine one151 (wb := p.ac + 6) h hP hR hev k0 (fun _ => ⟨hins, (hP.ea 4 (by omega)).trans rfl⟩) (fun _ g1 w1 h1 hR1 => (i25 (o := 4) 4 h1 hP hR1.inn (by omega) (k4 (by omega) (by omega)) (k5 (by omega)) (k6 (by omega))).mono ?_)
      rintro e w' (⟨q, rfl, k⟩ | ⟨q, rfl, k⟩)
      · exact ⟨0, _, rfl, Or.inl ⟨q, rfl, rfl⟩, g1, k⟩
      · exact ⟨1, _, rfl, Or.inr ⟨q, rfl, rfl⟩, g1, (Tr.refl h1).kept k⟩
    · refine one151 (wb := p.ac + 7) h hP hR hev k0 (fun _ => ⟨hins, (hP.ea 5 (by omega)).trans rfl⟩) (fun _ g1 w1 h1 hR1 => (i25 (o := 5) 5 h1 hP hR1.inn (by omega) (k4 (by omega) (by omega)) (k5 (by omega)) (k6 (by omega))).mono ?_)
      rintro e w' (⟨q, rfl, k⟩ | ⟨q, rfl, k⟩)
      · exact ⟨0, _, rfl, Or.inl ⟨q, rfl, rfl⟩, g1, k⟩
      · exact ⟨1, _, rfl, Or.inr ⟨q, rfl, rfl⟩, g1, (Tr.refl h1).kept k⟩
    · refine one163 (wb := p.ac + 9) h hP hR hev k0 (fun _ => ⟨hins, (hP.ea 6 (by omega)).trans rfl⟩) (fun _ g1 w1 h1 hR1 => (i6 h1 hP hR1.inn (k4 (by omega) (by omega)) (k5 (by omega)) (k6 (by omega))).mono ?_)
      rintro e w' ⟨rfl, k⟩
      exact ⟨0, _, rfl, ⟨rfl, rfl⟩, g1, k⟩
    · refine one163 (wb := p.ac + 11) h hP hR hev k0 (fun _ => ⟨hins, (hP.ea 7 (by omega)).trans rfl⟩) (fun _ g1 w1 h1 hR1 => (i7 h1 hP hR1.inn k2 k3).mono ?_)
      rintro e w' ⟨rfl, k⟩
      exact ⟨0, _, rfl, ⟨rfl, rfl⟩, g1, k⟩
    · refine one163 (wb := p.ac + 13) h hP hR hev k0 (fun _ => ⟨hins, (hP.ea 8 (by omega)).trans rfl⟩) (fun _ g1 w1 h1 hR1 => (i8 h1 hP hR1.inn (k4 (by omega) (by omega)) k2 k3).mono ?_)
      rintro e w' ⟨rfl, k⟩
      exact ⟨0, _, rfl, ⟨rfl, rfl⟩, g1, k⟩
    · refine one163 (wb := p.ac + 15) h hP hR hev k0 (fun _ => ⟨hins, (hP.ea 9 (by omega)).trans rfl⟩) (fun _ g1 w1 h1 hR1 => (i9 h1 hP hR1 (k4 (by omega) (by omega)) (k8 rfl) hev2).mono ?_)
      rintro e w' ⟨rfl, s3, g3, q, k⟩
      exact ⟨0, s3, rfl, ⟨rfl, q⟩, g3, k⟩
    · exact one101 h hP hR hev k0 (fun _ => ⟨hins, (hP.ea 10 (by omega)).trans rfl⟩) (fun _ g1 w1 h1 hR1 => i10 h1 hP hR1 (k4 (by omega) (by omega)) (k5 (by omega)) (k6 (by omega)))
    · exact one102 h hP hR hev k0 (fun _ => ⟨hins, (hP.ea 11 (by omega)).trans rfl⟩) (fun _ g1 w1 h1 hR1 => i11 h1 hP hR1 (k4 (by omega) (by omega)) (k5 (by omega)) (k6 (by omega)))
    · refine one163 (wb := p.ac + 17) h hP hR hev k0 (fun _ => ⟨hins, (hP.ea 12 (by omega)).trans rfl⟩) (fun _ g1 w1 h1 hR1 => (i12 h1 hP hR1 (k4 (by omega) (by omega)) k2 (k6 (by omega)) hev2).mono ?_)
      rintro e w' ⟨rfl, s3, g3, q, k⟩
      exact ⟨0, s3, rfl, ⟨rfl, q⟩, g3, k⟩
    · refine one104 h hP hR hev k0 (fun _ => ⟨hins, (hP.ea 13 (by omega)).trans rfl⟩) (fun _ g1 w1 h1 hR1 => (i13 h1 hP hR1.inn (k5 (by omega)) (k6 (by omega)) (hR1.ok.vok (hR1.got (k5 (by omega)))) hR1.lf hfl (fun e => (fnOf_ok hR1.ok (hR1.got (k5 (by omega))) e).1)).mono ?_)
      rintro e w' ⟨rfl, g3, k⟩
      exact ⟨_, _, rfl, ⟨rfl, rfl⟩, g3, k⟩
    · refine one163 (wb := p.ac + 18) h hP hR hev k0 (fun _ => ⟨hins, (hP.ea 14 (by omega)).trans rfl⟩) (fun _ g1 w1 h1 hR1 => (i14 h1 hP hR1.inn (k4 (by omega) (by omega)) hR1.ok.lw hR1.ok.ww hR1.lf hR1.wh hfl hR1.lv hR1.ok.nd hR1.ok.lt hR1.ok.ol hkl hev2 (fun e => ?_)).mono ?_)
      · have := hR1.fw.b (topN ((s.ends p t 21).took t) t - 1) (by have := hR1.hi; omega)
        rw [show topN ((s.ends p t 21).took t) t - 1 + 1 = topN ((s.ends p t 21).took t) t by omega] at this
        exact this
      · rintro e w' ⟨rfl, g3, k⟩
        exact ⟨0, _, rfl, ⟨rfl, rfl⟩, g3, k⟩
    · refine one108 h hP hR hev k0 (fun _ => ⟨hins, (hP.ea 15 (by omega)).trans rfl⟩) (fun _ g1 w1 h1 hR1 => (i15 h1 hP hR1.inn (k4 (by omega) (by omega)) (k5 (by omega)) (k6 (by omega)) (hR1.ok.vok (hR1.got (k5 (by omega)))) (fun e => (fnOf_ok hR1.ok (hR1.got (k5 (by omega))) e).1) hR1.ok.lw hR1.ok.nd hR1.ok.lt hR1.ok.ol hnt2).mono ?_)
      rintro e w' ⟨rfl, g3, k⟩
      exact ⟨_, _, rfl, ⟨rfl, rfl⟩, g3, k⟩
    · refine one163 (wb := p.ac + 19) h hP hR hev k0 (fun _ => ⟨hins, (hP.ea 16 (by omega)).trans rfl⟩) (fun _ g1 w1 h1 hR1 => (i16 h1 hP hR1.inn hR1.ok.lw hR1.wh).mono ?_)
      rintro e w' ⟨rfl, g3, k⟩
      exact ⟨0, _, rfl, ⟨rfl, rfl⟩, g3, k⟩
    · refine one167 (wb := p.ac + 20) (wb2 := p.ac + 21) h hP hR hev k0 (fun _ => ⟨hins, (hP.ea 17 (by omega)).trans rfl⟩) (fun _ g1 w1 h1 hR1 => (i17 h1 hP hR1.inn (k4 (by omega) (by omega)) hR1.ok.lw hR1.wh hR1.ok.c0 hR1.ok.c1).mono ?_)
      rintro e w' ⟨why, rfl, q, g3, k⟩
      exact ⟨why, _, rfl, ⟨q, rfl⟩, g3, k⟩
    · refine one167 (wb := p.ac + 22) (wb2 := p.ac + 23) h hP hR hev k0 (fun _ => ⟨hins, (hP.ea 18 (by omega)).trans rfl⟩) (fun _ g1 w1 h1 hR1 => (i18 h1 hP hR1.inn (k4 (by omega) (by omega)) (k5 (by omega)) hR1.ok.lw hR1.wh hR1.ok.nd hR1.ok.lt hR1.ok.ol).mono ?_)
      rintro e w' ⟨why, rfl, q, g3, k⟩
      exact ⟨why, _, rfl, ⟨q, rfl⟩, g3, k⟩
    · refine one167 (wb := p.ac + 24) (wb2 := p.ac + 25) h hP hR hev k0 (fun _ => ⟨hins, (hP.ea 19 (by omega)).trans rfl⟩) (fun _ g1 w1 h1 hR1 => (i19 h1 hP hR1.inn (k4 (by omega) (by omega)) hR1.ok.lw hR1.ok.ww hR1.ok.nd hR1.ok.lt hR1.ok.ol hkl hev2).mono ?_)
      rintro e w' ⟨why, rfl, q, g3, k⟩
      exact ⟨why, _, rfl, ⟨q, rfl⟩, g3, k⟩
    · refine one167 (wb := p.ac + 26) (wb2 := p.ac + 27) h hP hR hev k0 (fun _ => ⟨hins, (hP.ea 20 (by omega)).trans rfl⟩) (fun _ g1 w1 h1 hR1 => (i20 h1 hP hR1.inn (k4 (by omega) (by omega)) hev2).mono ?_)
      rintro e w' ⟨why, rfl, q, g3, k⟩
      exact ⟨why, _, rfl, ⟨q, rfl⟩, g3, k⟩
    · refine one167 (wb := p.ac + 28) (wb2 := p.ac + 29) h hP hR hev k0 (fun _ => ⟨hins, (hP.ea 21 (by omega)).trans rfl⟩) (fun _ g1 w1 h1 hR1 => (i21 h1 hP hR1.inn (k4 (by omega) (by omega)) (k5 (by omega)) hR1.ok.lw hR1.wh hR1.ok.bt).mono ?_)
      rintro e w' ⟨why, rfl, q, g3, k⟩
      exact ⟨why, _, rfl, ⟨q, rfl⟩, g3, k⟩
    · refine one163 (wb := p.ac + 31) h hP hR hev k0 (fun _ => ⟨hins, (hP.ea 22 (by omega)).trans rfl⟩) (fun _ g1 w1 h1 hR1 => (i22 h1 hP hR1.inn (k4 (by omega) (by omega))).mono ?_)
      rintro e w' ⟨rfl, k⟩
      exact ⟨0, _, rfl, ⟨rfl, rfl⟩, g1, k⟩
  · exact one101 (op := 0) (a := 0) (b := 0) (c := 0) h hP hR hev (by omega) (fun e => absurd e hr) (fun e => absurd e hr)
theorem q_none {p : Prm} {s : Pl} {g : Geo} {w : World} (h : Rep p s g w) {x y : Nat} (hl : lnok s x y) (h5 : x ≠ 5) (hq : s.q x y = []) : ∃ ad c, w.cell? ⟨p.eb, lnO x y, none⟩ = some (.slice ad 0 c) := by
  have hL := h.ln hl (by rw [hq]; exact Nat.zero_le _)
  have hc := hL.hE.cell _ hL.ho
  rw [hL.e, hq] at hc
  unfold lnB at hc
  rw [if_neg h5] at hc
  exact ⟨_, _, hc⟩
theorem q_some {p : Prm} {s : Pl} {g : Geo} {w : World} (h : Rep p s g w) (hW : LW s) {x y t : Nat} {r : List Nat} (hl : lnok s x y) (h5 : x ≠ 5) (hq : s.q x y = t :: r) : ∃ zb c, w.cell? ⟨p.eb, lnO x y, none⟩ = some (.slice (some ⟨zb, 0, none⟩) (r.length + 1) c) ∧ w.cell? ⟨zb, 0, none⟩ = some (P0 (g.tb t)) ∧ zb < w.heap.size := by
  have hlen := hW.len hl
  have hL := h.ln hl (by omega)
  have hc := hL.hE.cell _ hL.ho
  have hr := hL.row
  rw [hL.e] at hc
  unfold lnB at hc
  rw [if_neg h5] at hc
  rw [hq] at hc hr
  obtain ⟨zb, c, he⟩ := row_form hr (by simp)
  rw [he] at hc hr
  exact ⟨zb, c, hc, (own_ge hr).2.2.2.2.2 0 _ (by simp), (own_ty hr zb rfl).2.1⟩
def FstI (p : Prm) (s : Pl) (g : Geo) (w : World) (t j : Nat) (wr : World) : Prop :=
  ∃ s1 g1, Tr p s g w s1 g1 wr ∧ Ok p s1 ∧ s1.ev.length ≤ s.ev.length + j ∧ s1.nt ≤ s.nt + j ∧ isT s1 t ∧ ∀ s', runsR p t (p.qn - j) s1 s' → runsR p t p.qn (s.start t) s'
theorem runs_stop {p : Prm} {t : Nat} {s : Pl} (h : (s.T t).run = false) : ∀ n, runsR p t n s s
  | 0 => rfl
  | n + 1 => by unfold runsR; rw [if_neg (by rw [h]; decide)]
theorem startR {p : Prm} {s : Pl} {g : Geo} {w w3 : World} {t : Nat} (ht : isT s t) (h3 : Tr p s g w (s.out1 t) g w3) : Tr p s g w (s.start t) g (w3.setCell ⟨g.tb t, 2, none⟩ (.bool true)) := by
  have ht1 : isT (s.out1 t) t := (isT_nt (out1_nt s t)).2 ht
  refine h3.trans (h3.r.flag (v := { (s.out1 t).T t with run := true }) ht1 rfl rfl ?_ (only_setCell (S := fun k => k = g.tb t) (only_refl _ _) (Or.inl rfl) _))
  refine ((h3.r.tk ht1).upd 2 _).congr (fun j hj => ?_)
  have hsl : ∀ a, sl ((s.out1 t).setT t { (s.out1 t).T t with run := true }) g a t = sl (s.out1 t) g a t := fun a => by
    unfold sl
    rw [rlen_eq (s := s.out1 t) (s' := (s.out1 t).setT t { (s.out1 t).T t with run := true }) rfl rfl rfl rfl rfl (by rw [setT_at]) rfl]
  have hc : j = 0 ∨ j = 1 ∨ j = 2 ∨ j = 3 ∨ j = 4 ∨ j = 5 ∨ j = 6 := by omega
  rcases hc with rfl | rfl | rfl | rfl | rfl | rfl | rfl
  · rfl
  · rw [upd_off _ _ _ _ (by decide)]; exact (hsl 12).symm
  · rw [upd_at]; show _ = Value.bool _; rw [setT_at]
  · rw [upd_off _ _ _ _ (by decide)]; show _ = whV p g _; rw [setT_at]; rfl
  · rw [upd_off _ _ _ _ (by decide)]; show _ = lfV g t _; rw [setT_at]; rfl
  · rw [upd_off _ _ _ _ (by decide)]; show _ = Value.int .i64 _; rw [setT_at]; rfl
  · rw [upd_off _ _ _ _ (by decide)]; exact (hsl 5).symm
theorem fst_step {p : Prm} (hPI : PI p) {s s1 s2 : Pl} {g g1 g2 : Geo} {w wr w' : World} {t j : Nat} (hj : j < p.qn) (hn : s.nt + p.qn ≤ 500000000) (hT : Tr p s g w s1 g1 wr) (hO : Ok p s1) (he : s1.ev.length ≤ s.ev.length + j) (hnt : s1.nt ≤ s.nt + j) (ht : isT s1 t) (hr : ∀ s', runsR p t (p.qn - j) s1 s' → runsR p t p.qn (s.start t) s') (hrun : (s1.T t).run = true) (hs : stepR p t s1 s2) (hT2 : Tr p s1 g1 wr s2 g2 w') : FstI p s g w t (j + 1) w' := by
  obtain ⟨o2, G2⟩ := step_ok hPI ⟨hO, (hO.rn t ht hrun).2, hrun⟩ (by omega) hs
  obtain ⟨l, l1, l2, l3, _⟩ := id G2
  refine ⟨s2, g2, hT.trans hT2, o2, by rw [l1, List.length_append]; omega, by omega, ⟨ht.1, by have := ht.2; omega⟩, fun s' h' => hr s' ?_⟩
  rw [show p.qn - j = (p.qn - (j + 1)) + 1 by omega]
  unfold runsR
  rw [if_pos hrun]
  exact ⟨s2, hs, h'⟩
set_option maxRecDepth 100000 in
set_option maxHeartbeats 4000000 in
theorem runFirstR {p : Prm} {s : Pl} {g : Geo} {w : World} (h : Rep p s g w) (hP : PW p) (hPI : PI p) (hO : Ok p s) (hn : s.nt + p.qn ≤ 500000000) (hqn : p.qn ≤ 50) (hev : s.ev.length ≤ 100) :
    Calls Tryz.prog 68 #[P0 p.eb] w fun e w' => e = .returned (.tuple #[]) ∧ ∃ s' g', firstR p s s' ∧ Tr p s g w s' g' w' := by
  have hl : lnok s 2 0 := Or.inl ⟨rfl, rfl⟩
  cases hq : s.q 2 0 with
  | nil =>
    obtain ⟨ad, c, c32⟩ := q_none h hl (by omega) hq
    have c32' : w.cell? ⟨p.eb, 32, none⟩ = some (.slice ad 0 c) := c32
    have hem := empty_any p.eb 32 0 c ad w c32'
    have hd0 : decide ((0 : Nat) = 0) = true := rfl
    rw [hd0] at hem
    have HEM := hid hem
    have HR : Hid (∃ s' g', firstR p s s' ∧ Tr p s g w s' g' w) := ⟨s, g, by unfold firstR; rw [hq], Tr.refl h⟩
    have le := h.E.lt
    clear hem hd0 c32 c32' h hP hPI hO hev hq hl
    go_enter Tryz.func68, Tryz.ntmps68
    go_wp2_with fail
    refine HEM.out.mono ?_
    rintro e w1 ⟨rfl, rfl⟩
    go_wp2_with fail
    refine bodyPost_ret (results_none rfl _ _ _) rfl ?_
    exact ⟨rfl, HR.out⟩
  | cons t r =>
    have htm : t ∈ s.q 2 0 := by rw [hq]; simp
    have htl := hO.ql 2 0 hl t htm
    have ht := hO.lt t htl
    obtain ⟨zb, c, c32, cz, lz⟩ := q_some h hO.lw hl (by omega) hq
    have c32' : w.cell? ⟨p.eb, 32, none⟩ = some (.slice (some ⟨zb, 0, none⟩) (r.length + 1) c) := c32
    have hem := empty_any p.eb 32 (r.length + 1) c (some ⟨zb, 0, none⟩) w c32'
    have hd1 : decide ((r.length + 1 : Nat) = 0) = false := by simp
    rw [hd1] at hem
    have HEM := hid hem
    have HFS := hid (first_any p.eb 32 r.length c zb (g.tb t) w c32' cz)
    have HSO := hid (stepOutR h hO.lw ht)
    have HP := hid hP
    have HPI := hid hPI
    have HOK := hid (hO.start htl)
    have HT := hid ht
    have HQ := hid hq
    have HNN : Hid (s.nt + p.qn ≤ 500000000 ∧ s.ev.length ≤ 100 ∧ p.qn ≤ 50) := ⟨hn, hev, hqn⟩
    have le := h.E.lt
    clear hem hd1 c32 c32' cz lz h hP hPI hO hq hl htm htl hn hev hqn
    go_enter Tryz.func68, Tryz.ntmps68
    go_wp2_with fail
    refine HEM.out.mono ?_
    rintro e w1 ⟨rfl, rfl⟩
    go_wp2_with fail
    refine HFS.out.mono ?_
    rintro e w2 ⟨rfl, rfl⟩
    go_wp2_with fail
    refine HSO.out.mono ?_
    rintro e w3 ⟨rfl, hT3⟩
    have ht1 : isT (s.out1 t) t := (isT_nt (out1_nt s t)).2 ht
    have hF3 := hT3.r.tk ht1
    obtain ⟨d2, z2⟩ := hF3.cells 2 (by omega)
    generalize tskE p (s.out1 t) g t 2 = y2 at d2
    have lt3 := hF3.lt
    have KT3 := hid hT3
    clear hF3 hT3 ht1
    go_wp2_with fail
    have KT4 := hid (startR HT.out KT3.out)
    generalize hw4 : w3.setCell ⟨g.tb t, 2, none⟩ (.bool true) = w4 at *
    clear hw4 d2 z2 lt3 KT3 HEM HFS HSO
    have KI0 : Hid (FstI p s g w2 t 0 w4) := by
      obtain ⟨f1, _, _, f4, _⟩ := out1_lv s t
      refine ⟨s.start t, g, KT4.out, HOK.out, ?_, ?_, (isT_nt (out1_nt s t)).2 HT.out, fun s' h' => h'⟩
      · show (s.out1 t).ev.length ≤ _
        rw [f4]; exact Nat.le_refl _
      · show (s.out1 t).nt ≤ _
        rw [out1_nt]; exact Nat.le_refl _
    have HTB : Hid (∀ s1 g1 wr, Tr p s g w2 s1 g1 wr → g1.tb t = g.tb t) := fun s1 g1 wr hT => hT.t t HT.out
    clear KT4 HOK ht
    go_loopw [3] (fun i wr => ∃ j : Nat, j ≤ p.qn ∧ i = .int .i64 j ∧ Hid (FstI p s g w2 t j wr)) (fun i _ => p.qn - (intOf i).toNat)
    case atStart => exact ⟨0, by omega, rfl, KI0⟩
    case round =>
      obtain ⟨j, hj, rfl, hG⟩ := hrel
      obtain ⟨s1, g1, hT, hO1, he1, hn1, ht1, hr1⟩ := hG.out
      have htb := HTB.out s1 g1 wr hT
      have e1 := hT.r.E.cell 1 (by omega)
      rw [show engE p s1 g1 1 = p.E0 1 from rfl, HP.out.e1] at e1
      have lr := hT.r.E.lt
      have lt := (hT.r.tk ht1).lt
      rw [htb] at lt
      by_cases hrun : (s1.T t).run = true
      · have t2 := hT.r.run ht1 hrun
        rw [htb] at t2
        have HRN : Hid (Rn p s1 t) := ⟨hO1, (hO1.rn t ht1 hrun).2, hrun⟩
        by_cases hlt : j < p.qn
        · have hlt2 : (j : Int) < (p.qn : Int) := by omega
          have h134 := oneR hT.r HP.out HPI.out HRN.out (by have := HNN.out; omega) (by have := HNN.out; omega)
          rw [htb] at h134
          have H134 := hid h134
          have HST : Hid (∀ s2 g2 w', stepR p t s1 s2 → Tr p s1 g1 wr s2 g2 w' → FstI p s g w2 t (j + 1) w') := fun s2 g2 w' hs hT2 => fst_step HPI.out hlt HNN.out.1 hT hO1 he1 hn1 ht1 hr1 hrun hs hT2
          clear hT hO1 he1 hn1 ht1 hr1 htb h134 hrun
          go_wp2_with fail
          refine H134.out.mono ?_
          rintro e w5 ⟨rfl, s2, g2, hs2, hT2⟩
          have HG := hid (HST.out s2 g2 w5 hs2 hT2)
          clear hs2 hT2 e1 t2
          go_wp2_with fail
          have hw : wrap64 ((j : Int) + 1) = ((j + 1 : Nat) : Int) := by
            rw [IntWalk.wrap64_in ((j : Int) + 1) ⟨by omega, by have := HNN.out; omega⟩]; omega
          rw [hw]
          go_roundw
          case rel => exact ⟨j + 1, by omega, rfl, HG⟩
          case measure => simp [intOf]; omega
        · have hlt2 : ¬ ((j : Int) < (p.qn : Int)) := by omega
          have hjq : j = p.qn := by omega
          have hjn := joinR (x := 2) (y := 0) hT.r hO1.lw (Or.inl ⟨rfl, rfl⟩) ht1 (by omega) (by rw [HRN.out.wh]; intro e; cases e)
          have hjn' : Calls Tryz.prog 110 #[Pt p.eb 32, P0 (g1.tb t)] wr fun e w' => e = .returned (.tuple #[]) ∧ ∃ r, Tr p s1 g1 wr (s1.join1 2 0 t) (g1.at 2 0 r) w' := hjn
          rw [htb] at hjn'
          have HJN := hid hjn'
          have HFN : Hid (∀ r w', Tr p s1 g1 wr (s1.join1 2 0 t) (g1.at 2 0 r) w' → ∃ s' g', firstR p s s' ∧ Tr p s g w2 s' g' w') := fun r w' h' => by
            refine ⟨s1.join1 2 0 t, _, ?_, hT.trans h'⟩
            unfold firstR
            rw [HQ.out]
            exact ⟨s1, hr1 s1 (by rw [hjq, Nat.sub_self]; rfl), by rw [if_pos hrun]⟩
          clear hT hO1 he1 hn1 ht1 hr1 htb hjn hjn' hrun hjq
          go_wp2_with fail
          refine HJN.out.mono ?_
          rintro e w6 ⟨rfl, r6, hT6⟩
          have HF := hid (HFN.out r6 w6 hT6)
          clear hT6 e1 t2
          go_wp2_with fail
          go_end0
          obtain ⟨s', g', h1, h2⟩ := HF.out
          exact ⟨rfl, by first | exact ⟨s', g', h1, h2⟩ | exact ⟨s', h1, g', h2⟩⟩
      · have hrf : (s1.T t).run = false := by simpa using hrun
        have t2 := hT.r.run ht1 hrf
        rw [htb] at t2
        have HF : Hid (∃ s' g', firstR p s s' ∧ Tr p s g w2 s' g' wr) := by
          refine ⟨s1, g1, ?_, hT⟩
          unfold firstR
          rw [HQ.out]
          exact ⟨s1, hr1 s1 (runs_stop hrf _), by rw [if_neg hrun]⟩
        clear hT hO1 he1 hn1 ht1 hr1 htb hrun hrf
        by_cases hlt : j < p.qn
        · have hlt2 : (j : Int) < (p.qn : Int) := by omega
          go_wp2_with fail
          go_end0
          obtain ⟨s', g', h1, h2⟩ := HF.out
          exact ⟨rfl, by first | exact ⟨s', g', h1, h2⟩ | exact ⟨s', h1, g', h2⟩⟩
        · have hlt2 : ¬ ((j : Int) < (p.qn : Int)) := by omega
          go_wp2_with fail
          go_end0
          obtain ⟨s', g', h1, h2⟩ := HF.out
          exact ⟨rfl, by first | exact ⟨s', g', h1, h2⟩ | exact ⟨s', h1, g', h2⟩⟩
end Go.Proofs.YtnjiinbhbjpfkaaGreatDoor.F
namespace Go.Proofs.YtnjiinbhbjpfkaaGreatDoor
open Go.RowKit
set_option maxRecDepth 100000 in
theorem recv_full (eb o n c c' x : Nat) (ad ad' : Option Addr) (w : World) (h0 : w.cell? ⟨eb, o, none⟩ = some (.slice ad n c)) (h1 : w.cell? ⟨eb, o + 1, none⟩ = some (.slice ad' 0 c')) (hn : 64 ≤ n) (hn2 : n ≤ 1000) :
    Calls Tryz.prog 131 #[Pt eb o, .int .u8 (x : Int)] w fun e w' => e = .returned (.tuple #[]) ∧ w' = w := by
  have hem := empty_any eb (o + 1) 0 c' ad' w h1
  have hd1 : decide ((0 : Nat) = 0) = true := rfl
  rw [hd1] at hem
  have HEM := hid hem
  clear hem hd1
  go_enter Tryz.func131, Tryz.ntmps131
  go_wp2_with fail
  refine HEM.out.mono ?_
  rintro e w1 ⟨rfl, rfl⟩
  go_wp2_with fail
  go_end0
  exact ⟨rfl, rfl⟩
def Byt (w w' : World) (eb o N n c : Nat) (T : TypeId) (ad : Option Addr) (bs : List Nat) (x : Nat) (E : Nat → Value) : Prop :=
  ∃ g c', Full w' eb T N N (upd E o (.slice (some ⟨g, 0, none⟩) (n + 1) c')) ∧ w'.ownsRow 0 5 1 (.slice (some ⟨g, 0, none⟩) (n + 1) c') (n + 1) (bytL (bs ++ [x])) ∧ Only (fun k => k = eb ∨ (Value.slice ad n c).ownBlock = some k) w w' ∧ ((Value.slice ad n c).ownBlock = some g ∨ w.heap.size ≤ g)
set_option maxRecDepth 100000 in
set_option maxHeartbeats 2000000 in
theorem recv_wait (eb o N n c c' x : Nat) (T : TypeId) (ad ad' : Option Addr) (bs : List Nat) (E : Nat → Value) (w : World) (hE : Full w eb T N N E) (ho : o + 1 < N) (he : E o = .slice ad n c) (he1 : E (o + 1) = .slice ad' 0 c') (hrow : w.ownsRow 0 5 1 (.slice ad n c) n (bytL bs)) (hn : n < 64) (ng : ∀ k, (Value.slice ad n c).ownBlock = some k → k ≠ eb) :
    Calls Tryz.prog 131 #[Pt eb o, .int .u8 (x : Int)] w fun e w' => e = .returned (.tuple #[]) ∧ Byt w w' eb o N n c T ad bs x E := by
  obtain ⟨i0, hi, hz0, hz1, hz2⟩ := info_parts Tryz.info5
  obtain ⟨c0, z0⟩ := hE.cells o (by omega)
  obtain ⟨c1, z1⟩ := hE.cells (o + 1) ho
  rw [he] at c0
  rw [he1] at c1
  have le := hE.lt
  have hem := empty_any eb (o + 1) 0 c' ad' w c1
  have hd1 : decide ((0 : Nat) = 0) = true := rfl
  rw [hd1] at hem
  have HEM := hid hem
  have HE := hid hE
  have HR := hid hrow
  have HNG := hid ng
  have hform : (c < n + 1 ∧ ((ad = none ∧ n = 0 ∧ c = 0) ∨ ∃ g, ad = some ⟨g, 0, none⟩)) ∨ (n + 1 ≤ c ∧ ∃ kb, ad = some ⟨kb, 0, none⟩) := by
    rcases hrow.2 with ⟨h, h0⟩ | ⟨g', c', cur, h1, _, _, h4, _⟩
    · injection h with a1 a2 a3; exact Or.inl ⟨by omega, Or.inl ⟨a1, a2, a3⟩⟩
    · injection h1 with a1 a2 a3
      by_cases hlt : n + 1 ≤ c
      · exact Or.inr ⟨hlt, g', a1⟩
      · exact Or.inl ⟨by omega, Or.inr ⟨g', a1⟩⟩
  have hX : bytL (bs ++ [x]) = bytL bs ++ [.int .u8 (x : Int)] := by simp [bytL]
  have HX := hid hX
  clear hem hd1 hE hrow ng hX
  have HEND : Hid (∀ (w2 : World) (g c2 : Nat), w2.ownsRow 0 5 1 (.slice (some ⟨g, 0, none⟩) (n + 1) c2) (n + 1) (bytL bs ++ [.int .u8 (x : Int)]) → (w.alloc (.cells #[.int .u8 (x : Int)] 5)).grownBy w2 (Value.slice ad n c).ownBlock → ((Value.slice ad n c).ownBlock = some g ∨ w.heap.size ≤ g) → g ≠ eb → Byt w (w2.setCell ⟨eb, o, none⟩ (.slice (some ⟨g, 0, none⟩) (n + 1) c2)) eb o N n c T ad bs x E ∧ Full w2 eb T N N E) := fun w2 g c2 hr hg hp hge => by
    have hE2 : Full w2 eb T N N E := (HE.out.block (Below.heap_alloc _ _ _ le)).block (hg.block eb (by simp; omega) (fun h => HNG.out eb h.symm rfl))
    refine ⟨⟨g, c2, hE2.upd o _, ?_, only_setCell ?_ (Or.inl (Or.inl rfl)) _, hp⟩, hE2⟩
    · rw [HX.out]
      exact own_of hr (fun k h => by
        have hk : k = g := by injection h with h; exact h.symm
        subst hk
        exact Below.heap_setCell _ _ _ _ hge)
    · exact Only.trans (S1 := fun k => (Value.slice ad n c).ownBlock = some k) (only_alloc (only_refl _ w) _) ⟨hg.os, hg.tape, hg.output, hg.size, fun k hk hn => hg.block k hk (fun e => hn e.symm)⟩ (fun k h _ => Or.inr h)
  have HR1 : Hid ((w.alloc (.cells #[.int .u8 (x : Int)] 5)).ownsRow 0 5 1 (.slice ad n c) n (bytL bs)) := own_alloc HR.out _
  have hnew : (w.alloc (.cells #[.int .u8 (x : Int)] 5)).heap[w.heap.size]? = some (.cells #[.int .u8 (x : Int)] 5 (0, 0)) := heap_alloc_new w _
  have hx0 : (w.alloc (.cells #[.int .u8 (x : Int)] 5)).cell? ⟨w.heap.size, 0, none⟩ = some (.int .u8 (x : Int)) := by simp only [World.cell?, hnew]; rfl
  have HNW : Hid (∀ j u, [Value.int .u8 (x : Int)][j]? = some u → (w.alloc (.cells #[.int .u8 (x : Int)] 5)).cell? ((⟨w.heap.size, 0, none⟩ : Addr).add j) = some u) := fun j u hj => by
    match j, hj with
    | 0, hj => (simp at hj; subst hj; exact hx0)
  have hnm : n + 1 ≤ maxLen := by unfold maxLen; omega
  clear hnew hx0
  rcases hform with ⟨hful, hf⟩ | ⟨hroom, kb, rfl⟩
  · rcases hf with ⟨rfl, rfl, rfl⟩ | ⟨kb, rfl⟩
    · go_enter Tryz.func131, Tryz.ntmps131
      go_wp2_with fail
      refine HEM.out.mono ?_
      rintro e w1 ⟨rfl, rfl⟩
      go_wp2_with (at_builtin; refine wpList_append_new rfl (.tmp 32) (.tmp 34) 86 rfl 5 i0 (.int .u8 0) 1 1 Tryz.underlying86 hi hz0 hz1 hz2 rfl (by decide) 0 none 0 0 (bytL bs) rfl HR1.out ⟨w1.heap.size, 0, none⟩ 1 1 [.int .u8 (x : Int)] rfl rfl HNW.out ?c2 hnm ?c4 hful ?_)
      try case c2 => intro u hu; simp at hu; subst hu; rfl
      try case c4 => omega
      intro v' w2 ho2 hg2
      obtain ⟨g, c2, rfl⟩ := row_form ho2 (by omega)
      have hge := (own_ge ho2).1
      have hend := HEND.out w2 g c2 (own_base ho2 (Nat.zero_le _)) hg2 (Or.inr (by omega)) (by omega)
      obtain ⟨d0, e0⟩ := hend.2.cells o (by omega)
      have le2 := hend.2.lt
      have HE2 := hid hend.1
      clear hend ho2 hg2 hge
      go_wp2_with fail
      go_end0
      exact ⟨rfl, HE2.out⟩
    · have hcn : c = n := by
        rcases HR.out.2 with ⟨h, _⟩ | ⟨g', c', cur, h1, _, _, h4, _⟩
        · cases h
        · injection h1 with a1 a2 a3; omega
      subst hcn
      go_enter Tryz.func131, Tryz.ntmps131
      go_wp2_with fail
      refine HEM.out.mono ?_
      rintro e w1 ⟨rfl, rfl⟩
      go_wp2_with (at_builtin; refine wpList_append_new rfl (.tmp 32) (.tmp 34) 86 rfl 5 i0 (.int .u8 0) 1 1 Tryz.underlying86 hi hz0 hz1 hz2 rfl (by decide) 0 (some ⟨kb, 0, none⟩) c c (bytL bs) rfl HR1.out ⟨w1.heap.size, 0, none⟩ 1 1 [.int .u8 (x : Int)] rfl rfl HNW.out ?c2 hnm ?c4 hful ?_)
      try case c2 => intro u hu; simp at hu; subst hu; rfl
      try case c4 => omega
      intro v' w2 ho2 hg2
      obtain ⟨g, c2, rfl⟩ := row_form ho2 (by omega)
      have hge := (own_ge ho2).1
      have hend := HEND.out w2 g c2 (own_base ho2 (Nat.zero_le _)) (grown_some hg2 kb) (Or.inr (by omega)) (by omega)
      obtain ⟨d0, e0⟩ := hend.2.cells o (by omega)
      have le2 := hend.2.lt
      have HE2 := hid hend.1
      clear hend ho2 hg2 hge
      go_wp2_with fail
      go_end0
      exact ⟨rfl, HE2.out⟩
  · have hkb := HNG.out kb rfl
    go_enter Tryz.func131, Tryz.ntmps131
    go_wp2_with fail
    refine HEM.out.mono ?_
    rintro e w1 ⟨rfl, rfl⟩
    go_wp2_with (at_builtin; refine wpList_append_in rfl (.tmp 32) (.tmp 34) 86 rfl 0 5 i0 (.int .u8 0) 1 1 Tryz.underlying86 hi hz0 hz1 hz2 rfl (by decide) kb c n (bytL bs) rfl HR1.out ⟨w1.heap.size, 0, none⟩ 1 1 [.int .u8 (x : Int)] rfl rfl HNW.out ?c2 hnm ?c4 ?c5 hroom ?_)
    try case c2 => intro u hu; simp at hu; subst hu; rfl
    try case c4 => omega
    try case c5 => omega
    intro w2 ho2 hg2
    have hend := HEND.out w2 kb c ho2 hg2 (Or.inl rfl) hkb
    obtain ⟨d0, e0⟩ := hend.2.cells o (by omega)
    have le2 := hend.2.lt
    have HE2 := hid hend.1
    clear hend ho2 hg2
    go_wp2_with fail
    go_end0
    exact ⟨rfl, HE2.out⟩
set_option maxRecDepth 100000 in
set_option maxHeartbeats 2000000 in
theorem recv_read (eb o n c qb yb sx x : Nat) (R : World → Prop) (w : World) (h1 : w.cell? ⟨eb, o + 1, none⟩ = some (.slice (some ⟨qb, 0, none⟩) (n + 1) c)) (h2 : w.cell? ⟨qb, 0, none⟩ = some (P0 yb)) (h3 : w.cell? ⟨yb, 4, none⟩ = some (Fv 207 #[P0 sx])) (hx : x < 256) (ly : yb < w.heap.size) (le : eb < w.heap.size) (lq : qb < w.heap.size)
    (H : ∀ w1, w.grownBy w1 none → Calls Tryz.prog 207 #[vA (0, (x : Int)), P0 sx] w1 fun e w' => e = .returned (.tuple #[]) ∧ R w') :
    Calls Tryz.prog 131 #[Pt eb o, .int .u8 (x : Int)] w fun e w' => e = .returned (.tuple #[]) ∧ R w' := by
  have hem := empty_any eb (o + 1) (n + 1) c (some ⟨qb, 0, none⟩) w h1
  have hd1 : decide ((n + 1 : Nat) = 0) = false := by simp
  rw [hd1] at hem
  have HEM := hid hem
  have HF := hid (fun (w1 : World) (hg : w.grownBy w1 none) => first_any eb (o + 1) n c qb yb w1 ((grown_cell hg (a := ⟨eb, o + 1, none⟩) le).1.trans h1) ((grown_cell hg (a := ⟨qb, 0, none⟩) lq).1.trans h2))
  have HH := hid H
  have hwr : IntKind.i64.wrap (x : Int) = (x : Int) := IntWalk.i64_in _ ⟨by omega, by omega⟩
  clear hem hd1 H
  go_enter Tryz.func131, Tryz.ntmps131
  go_wp2_with fail
  refine HEM.out.mono ?_
  rintro e w1 ⟨rfl, rfl⟩
  go_wp2_with fail
  go_region_with (first | (go_at_call 132; refine (HF.out _ (by repeat (first | exact grown_refl _ _ | refine grown_drew ?_ | refine grown_alloc ?_ _))).mono ?_; rintro e w2 ⟨rfl, rfl⟩) | (go_at_call 61; refine (number_any _ _).mono ?_; rintro e w2 ⟨rfl, rfl⟩) | (go_at_call 207; refine (HH.out _ (by repeat (first | exact grown_refl _ _ | refine grown_drew ?_ | refine grown_alloc ?_ _))).mono ?_; rintro e w4 ⟨rfl, hR4⟩; have HR4 := hid hR4; clear hR4))
  all_goals
    go_wp2_with fail
    go_end0
    exact ⟨rfl, HR4.out⟩
structure Slps (w : World) (eb : Nat) (clk : Int) (U : Nat → Int) (xs : List Nat) : Prop where
  le : eb < w.heap.size
  c28 : w.cell? ⟨eb, 28, none⟩ = some (.int .i64 clk)
  none_ : xs = [] → ∃ ad c, w.cell? ⟨eb, 33, none⟩ = some (.slice ad 0 c)
  some_ : ∀ x r, xs = x :: r → ∃ zb c, w.cell? ⟨eb, 33, none⟩ = some (.slice (some ⟨zb, 0, none⟩) (r.length + 1) c) ∧ w.cell? ⟨zb, 0, none⟩ = some (P0 x) ∧ w.cell? ⟨x, 5, none⟩ = some (.int .i64 (U x)) ∧ x < w.heap.size
set_option maxRecDepth 100000 in
set_option maxHeartbeats 4000000 in
theorem wakeL (eb : Nat) (clk : Int) (U : Nat → Int) (I : List Nat → World → Prop) (xs : List Nat) (w : World) (hI : I xs w)
    (HG : ∀ ys w1 w2, I ys w1 → w1.grownBy w2 none → I ys w2)
    (HS : ∀ ys w1, I ys w1 → Slps w1 eb clk U ys)
    (HJ : ∀ x r w1, I (x :: r) w1 → U x ≤ clk → Calls Tryz.prog 110 #[Pt eb 32, P0 x] w1 fun e w' => e = .returned (.tuple #[]) ∧ I r w') :
    Calls Tryz.prog 67 #[P0 eb] w fun e w' => e = .returned (.tuple #[]) ∧ I (xs.dropWhile (fun x => decide (U x ≤ clk))) w' := by
  have KI := hid hI
  have KG := hid HG
  have KS := hid HS
  have KJ := hid HJ
  clear hI HG HS HJ
  go_enter Tryz.func67, Tryz.ntmps67
  go_wp2_with fail
  go_loopg [] (xs.length) (fun n wr => ∃ ys : List Nat, ys.length = n ∧ Hid (I ys wr) ∧ Hid (ys.dropWhile (fun x => decide (U x ≤ clk)) = xs.dropWhile (fun x => decide (U x ≤ clk))))
  case atStart => exact ⟨xs, rfl, KI, rfl⟩
  case round =>
    obtain ⟨ys, hlen, rI, rD⟩ := hrel
    obtain ⟨le, c28, hnone, hsome⟩ := KS.out ys wr rI.out
    cases ys with
    | nil =>
      obtain ⟨ad, c, c33⟩ := hnone rfl
      have hE := fun (w' : World) (h : w'.cell? ⟨eb, 33, none⟩ = some (.slice ad 0 c)) => empty_any eb 33 0 c ad w' h
      simp only [decide_true] at hE
      have HE := hid hE
      clear hE hnone hsome
      go_wp2_with fail
      go_quiet (first | (go_at_call 70; refine Calls.quiet_of_same (HE.out _ (by first | exact c33 | simpa using c33))))
      go_wp2_with fail
      go_end0
      refine ⟨rfl, ?_⟩
      have := rD.out
      rw [← this]
      exact KG.out _ _ _ rI.out (grown_drewN (grown_refl _ _) _)
    | cons x r =>
      obtain ⟨zb, c, c33, cz, c5, lx⟩ := hsome x r rfl
      have hE := fun (w' : World) (h : w'.cell? ⟨eb, 33, none⟩ = some (.slice (some ⟨zb, 0, none⟩) (r.length + 1) c)) => empty_any eb 33 (r.length + 1) c (some ⟨zb, 0, none⟩) w' h
      have hd : decide ((r.length + 1 : Nat) = 0) = false := by simp
      simp only [hd] at hE
      have hF := fun (w' : World) (h : w'.cell? ⟨eb, 33, none⟩ = some (.slice (some ⟨zb, 0, none⟩) (r.length + 1) c)) (h2 : w'.cell? ⟨zb, 0, none⟩ = some (P0 x)) => first_any eb 33 r.length c zb x w' h h2
      have HE := hid hE
      have HFF := hid hF
      clear hE hF hd hnone hsome
      by_cases hU : U x ≤ clk
      · have hd2 : decide (U x ≤ clk) = true := by simpa using hU
        have HU := hid hU
        clear hU
        go_wp2_with fail
        go_quiet (first | (go_at_call 70; refine Calls.quiet_of_same (HE.out _ (by first | exact c33 | simpa using c33))) | (go_at_call 132; refine Calls.quiet_of_same (HFF.out _ (by first | exact c33 | simpa using c33) (by first | exact cz | simpa using cz))))
        go_wp2_with fail
        go_region_with (first | (go_at_call 132; refine (HFF.out _ ?_ ?_).mono ?_; exact c33; exact cz; rintro e w2 ⟨rfl, rfl⟩) | (go_at_call 110; refine (KJ.out x r _ ?_ HU.out).mono ?_; exact KG.out _ _ _ rI.out (grown_drew (grown_drewN (grown_refl _ _) _)); rintro e w4 ⟨rfl, hI4⟩; have HI4 := hid hI4; clear hI4))
        all_goals
          go_wp2_with fail
          go_roundg (r.length)
          case measure => first | omega | (simp at hlen; omega)
          case rel =>
            refine ⟨r, rfl, HI4, ?_⟩
            have := rD.out
            rw [List.dropWhile_cons_of_pos (by simpa using HU.out)] at this
            exact this
      · have hd2 : decide (U x ≤ clk) = false := by simpa using hU
        have HU := hid hU
        clear hU
        go_wp2_with fail
        go_quiet (first | (go_at_call 70; refine Calls.quiet_of_same (HE.out _ (by first | exact c33 | simpa using c33))) | (go_at_call 132; refine Calls.quiet_of_same (HFF.out _ (by first | exact c33 | simpa using c33) (by first | exact cz | simpa using cz))))
        go_wp2_with fail
        go_end0
        refine ⟨rfl, ?_⟩
        have := rD.out
        rw [← this, List.dropWhile_cons_of_neg (by simpa using HU.out)]
        exact KG.out _ _ _ rI.out (grown_drewN (grown_refl _ _) _)
end Go.Proofs.YtnjiinbhbjpfkaaGreatDoor
namespace Go.Proofs.YtnjiinbhbjpfkaaGreatDoor.F
open Go.RowKit
theorem dropWhile_head {q : Nat → Bool} : ∀ (l : List Nat) (a : Nat) (r : List Nat), l.dropWhile q = a :: r → q a = false
  | [], a, r, h => by cases h
  | b :: l, a, r, h => by
    rw [List.dropWhile_cons] at h
    by_cases e : q b = true
    · rw [if_pos e] at h
      exact dropWhile_head l a r h
    · rw [if_neg e] at h
      injection h with h1 h2
      subst h1
      simpa using e
def WkI (p : Prm) (s : Pl) (g : Geo) (w : World) (ys : List Nat) (w1 : World) : Prop :=
  ∃ zs s1 g1, ys = zs.map g.tb ∧ Tr p s g w s1 g1 w1 ∧ Ok p s1 ∧ s1.q 3 0 = zs ∧ s1.nt = s.nt ∧ (∀ a, (s1.T a).till = (s.T a).till) ∧ s1.clk = s.clk ∧ s1.wakes zs = s.wakes (s.q 3 0)
theorem join1_till (s : Pl) (x y t a : Nat) : ((s.join1 x y t).T a).till = (s.T a).till := by
  by_cases e : a = t
  · subst e
    rw [join1_at]
    show ((s.out1 a).T a).till = _
    unfold Pl.out1
    split
    · rfl
    · rw [setT_at]; rfl
  · rw [join1_T s e]
theorem wakesR {p : Prm} {s : Pl} {g : Geo} {w : World} (h : Rep p s g w) (hO : Ok p s) :
    Calls Tryz.prog 67 #[P0 p.eb] w fun e w' => e = .returned (.tuple #[]) ∧ ∃ g', Tr p s g w (s.wakes (s.q 3 0)) g' w' := by
  have hl : lnok s 3 0 := Or.inr (Or.inl ⟨rfl, rfl⟩)
  obtain ⟨U, hU⟩ : ∃ U : Nat → Int, ∀ a, isT s a → U (g.tb a) = (s.T a).till := by
    classical
    refine ⟨fun b => if hb : ∃ a, isT s a ∧ g.tb a = b then (s.T hb.choose).till else 0, fun a ha => ?_⟩
    have hb : ∃ a', isT s a' ∧ g.tb a' = g.tb a := ⟨a, ha, rfl⟩
    show (if hb : ∃ a', isT s a' ∧ g.tb a' = g.tb a then (s.T hb.choose).till else 0) = _
    rw [dif_pos hb, h.tb_inj hb.choose_spec.1 ha hb.choose_spec.2]
  have hmem : ∀ {zs : List Nat} {s1 : Pl}, Ok p s1 → s1.q 3 0 = zs → s1.nt = s.nt → ∀ a, a ∈ zs → isT s a := fun {zs s1} hO1 hq hn a ha => (isT_nt hn).1 (hO1.lw.b 3 0 (Or.inr (Or.inl ⟨rfl, rfl⟩)) a (by rw [hq]; exact ha)).1
  refine (wakeL p.eb s.clk U (WkI p s g w) ((s.q 3 0).map g.tb) w ⟨s.q 3 0, s, g, rfl, Tr.refl h, hO, rfl, rfl, fun _ => rfl, rfl, rfl⟩ ?_ ?_ ?_).mono ?_
  · rintro ys w1 w2 ⟨zs, s1, g1, k1, k2, k3⟩ hg
    exact ⟨zs, s1, g1, k1, k2.kept hg, k3⟩
  · rintro ys w1 ⟨zs, s1, g1, rfl, k2, k3, k4, k5, k6, k7, k8⟩
    refine ⟨k2.r.E.lt, ?_, fun e => ?_, fun x r e => ?_⟩
    · rw [k2.r.E.cell 28 (by omega)]
      show some (Value.int .i64 s1.clk) = _
      rw [k7]
    · have : zs = [] := List.map_eq_nil_iff.1 e
      exact q_none k2.r (x := 3) (y := 0) (Or.inr (Or.inl ⟨rfl, rfl⟩)) (by omega) (by rw [k4, this])
    · cases zs with
      | nil => cases e
      | cons a zr =>
        injection e with e1 e2
        subst e1 e2
        have ha := hmem k3 k4 k5 a (by simp)
        have htb := k2.t a ha
        obtain ⟨zb, c, c1, c2, c3⟩ := q_some k2.r k3.lw (x := 3) (y := 0) (Or.inr (Or.inl ⟨rfl, rfl⟩)) (by omega) k4
        have hT := k2.r.tk (t := a) ((isT_nt k5).2 ha)
        rw [htb] at c2
        refine ⟨zb, c, by rw [List.length_map]; exact c1, c2, ?_, by rw [← htb]; exact hT.lt⟩
        rw [hU a ha, ← k6 a, ← htb]
        exact hT.cell 5 (by omega)
  · rintro x r w1 ⟨zs, s1, g1, k1, k2, k3, k4, k5, k6, k7, k8⟩ hx
    cases zs with
    | nil => cases k1
    | cons a zr =>
      injection k1 with e1 e2
      subst e1 e2
      have ha := hmem k3 k4 k5 a (by simp)
      have htb := k2.t a ha
      have ha1 := (isT_nt k5).2 ha
      have hl1 : lnok s1 3 0 := Or.inr (Or.inl ⟨rfl, rfl⟩)
      have ham : a ∈ s1.q 3 0 := by rw [k4]; simp
      have hwa := (k3.lw.b 3 0 hl1 a ham).2
      have hne : (s1.T a).wh ≠ some (2, 0) := by rw [hwa]; intro e; injection e with e; injection e with e _; omega
      have hjn : Calls Tryz.prog 110 #[Pt p.eb 32, P0 (g1.tb a)] w1 fun e w' => e = .returned (.tuple #[]) ∧ ∃ r, Tr p s1 g1 w1 (s1.join1 2 0 a) (g1.at 2 0 r) w' := joinR (x := 2) (y := 0) k2.r k3.lw (Or.inl ⟨rfl, rfl⟩) ha1 (by omega) hne
      rw [htb] at hjn
      refine hjn.mono ?_
      rintro e w' ⟨rfl, r', h'⟩
      refine ⟨rfl, zr, s1.join1 2 0 a, _, rfl, k2.trans h', k3.join1 (k3.ql 3 0 hl1 a ham), ?_, (join1_nt s1 2 0 a).trans k5, fun b => (join1_till s1 2 0 a b).trans (k6 b), (join1_st s1 2 0 a).2.2.2.2.1.trans k7, ?_⟩
      · show ((s1.out1 a).setQ 2 0 ((s1.out1 a).q 2 0 ++ [a])).q 3 0 = zr
        rw [setQ_off _ _ (by omega), out1_some hwa]
        show (s1.setQ 3 0 ((s1.q 3 0).erase a)).q 3 0 = zr
        rw [setQ_at, k4]; simp
      · rw [← k8]
        show _ = (if (s1.T a).till ≤ s1.clk then (s1.join1 2 0 a).wakes zr else s1)
        rw [if_pos (by rw [k6 a, k7, ← hU a ha]; exact hx)]
  · rintro e w' ⟨rfl, zs, s1, g1, k1, k2, k3, k4, k5, k6, k7, k8⟩
    refine ⟨rfl, g1, ?_⟩
    have hs1 : s1.wakes zs = s1 := by
      cases zs with
      | nil => rfl
      | cons a zr =>
        have ha := hmem k3 k4 k5 a (by simp)
        have hd := dropWhile_head _ _ _ k1
        have hd' : ¬ U (g.tb a) ≤ s.clk := by simpa using hd
        show (if (s1.T a).till ≤ s1.clk then (s1.join1 2 0 a).wakes zr else s1) = s1
        rw [if_neg (by rw [k6 a, k7, ← hU a ha]; exact hd')]
    rw [← k8, hs1]
    exact k2
theorem recv1R {p : Prm} {s : Pl} {g : Geo} {w : World} {k b : Nat} (hk : k < 4) (hb : b < 256) (h : Rep p s g w) (hO : Ok p s) :
    Calls Tryz.prog 131 #[Pt p.eb (34 + k * 2), .int .u8 (b : Int)] w fun e w' => e = .returned (.tuple #[]) ∧ ∃ g', Tr p s g w (s.recv1 k b) g' w' := by
  have hl : lnok s 4 k := Or.inr (Or.inr (Or.inl ⟨rfl, hk⟩))
  have ho : lnO 4 k = 34 + k * 2 + 1 := by show 35 + 2 * k = _; omega
  have hv : vld s 10 k 0 = true := vld_4 (by omega) hk
  have hI : engI (34 + k * 2) = (10, k) ∧ 29 ≤ 34 + k * 2 ∧ 34 + k * 2 < 44 ∧ 34 + k * 2 ≠ 42 := by
    have : k = 0 ∨ k = 1 ∨ k = 2 ∨ k = 3 := by omega
    rcases this with rfl | rfl | rfl | rfl <;> decide
  have hE : engE p s g (34 + k * 2) = .slice (g.ro 10 k).1 (s.byt k).length (g.ro 10 k).2 := by
    unfold engE
    rw [if_neg (by omega), if_neg (by omega), if_neg (by omega), hI.1]
    rfl
  unfold Pl.recv1
  cases hq : s.q 4 k with
  | cons u r =>
    obtain ⟨zb, c, c1, c2, c3⟩ := q_some h hO.lw hl (by omega) hq
    rw [ho] at c1
    have hum : u ∈ s.q 4 k := by rw [hq]; simp
    obtain ⟨hu, hwu⟩ := hO.lw.b 4 k hl u hum
    obtain ⟨kk, f1, f2, f3⟩ := hO.ww u hu 4 k hwu (Or.inl rfl)
    have c4 : w.cell? ⟨g.tb u, 4, none⟩ = some (Fv 207 #[P0 (g.sx u)]) := by
      rw [(h.tk hu).cell 4 (by omega)]
      show some (lfV g u (s.T u).lf) = _
      rw [f1]; rfl
    refine recv_read p.eb (34 + k * 2) r.length c zb (g.tb u) (g.sx u) b _ w c1 c2 c4 hb (h.tk hu).lt h.E.lt c3 (fun w1 hg => ?_)
    refine (wokeR (0, (b : Int)) (h.kept hg) hO.lw hu f1 f2 f3 (by rw [hwu]; intro e; injection e with e; injection e with e _; omega)).mono ?_
    rintro e w' ⟨rfl, r', h'⟩
    exact ⟨rfl, _, h'.ahead hg⟩
  | nil =>
    obtain ⟨ad', c', c1⟩ := q_none h hl (by omega) hq
    rw [ho] at c1
    have hbt := hO.bt k
    have hE1 : engE p s g (34 + k * 2 + 1) = .slice ad' 0 c' := by
      have := h.E.cell (34 + k * 2 + 1) (by omega)
      rw [c1] at this
      exact (Option.some.inj this).symm
    by_cases hlt : (s.byt k).length < 64
    · have hr := h.row (x := 10) (y := k) (by unfold rowx; omega) hv
      have hr' : w.ownsRow 0 5 1 (.slice (g.ro 10 k).1 (s.byt k).length (g.ro 10 k).2) (s.byt k).length (bytL (s.byt k)) := hr
      refine (recv_wait p.eb (34 + k * 2) 44 (s.byt k).length (g.ro 10 k).2 c' b 144 (g.ro 10 k).1 ad' (s.byt k) (engE p s g) w h.E (by omega) hE hE1 hr' hlt (fun j hj => own_ne hr' h.E (by decide) j hj)).mono ?_
      rintro e w' ⟨rfl, gb, cc, k1, k2, k3, k4⟩
      have hbk : (s.setB k (s.byt k ++ [b])).byt k = s.byt k ++ [b] := if_pos rfl
      have hl' : rlen (s.setB k (s.byt k ++ [b])) 10 k = (s.byt k).length + 1 := by show ((s.setB k (s.byt k ++ [b])).byt k).length = _; rw [hbk, List.length_append]; rfl
      have hc' : rcon (s.setB k (s.byt k ++ [b])) g 10 k = bytL (s.byt k ++ [b]) := by show bytL ((s.setB k (s.byt k ++ [b])).byt k) = _; rw [hbk]
      refine ⟨rfl, g.at 10 k (some ⟨gb, 0, none⟩, cc), ?_⟩
      show Tr p s g w (if (s.byt k).length < 64 then s.setB k (s.byt k ++ [b]) else s) (g.at 10 k (some ⟨gb, 0, none⟩, cc)) w'
      rw [if_pos hlt]
      exact h.engrow (s' := s.setB k (s.byt k ++ [b])) (r := (some ⟨gb, 0, none⟩, cc)) (j0 := 34 + k * 2) (by omega) hv hI rfl rfl rfl rfl rfl rfl rfl (fun a b' _ _ e => rows_byt k _ a b' e) (by rw [hl']; exact k1) (by rw [hl', hc']; exact k2) (k3.mono (fun j hj _ => by rw [adB_slice] at hj; exact hj)) (fun j hj => by
        have e : gb = j := by injection hj
        subst e
        rw [adB_slice] at k4; exact k4)
    · have c0 : w.cell? ⟨p.eb, 34 + k * 2, none⟩ = some (.slice (g.ro 10 k).1 (s.byt k).length (g.ro 10 k).2) := by
        rw [h.E.cell _ (by omega), hE]
      refine (recv_full p.eb (34 + k * 2) (s.byt k).length (g.ro 10 k).2 c' b (g.ro 10 k).1 ad' w c0 c1 (by omega) hbt.1).mono ?_
      rintro e w' ⟨rfl, rfl⟩
      refine ⟨rfl, g, ?_⟩
      show Tr p s g w' (if (s.byt k).length < 64 then s.setB k (s.byt k ++ [b]) else s) g w'
      rw [if_neg hlt]
      exact Tr.refl h
theorem stepK_dn {M : Nat → List B.V} {n : Nat} {kd : B.Kd} {c : B.Cy} {k : Nat} (h : (B.stepK M n kd c).on k = true) : kd.on k = true := by
  unfold B.stepK at h
  split at h
  · exact B.unit_dn h
  · exact B.unit_dn h
theorem units_held {M : Nat → List B.V} {R : Nat → B.V} {nr n : Nat} : ∀ (u : Nat) {kd : B.Kd}, B.Held kd nr n (0, R, M) → B.Held (B.units M n u kd) nr n (0, R, M) ∧ ∀ k, (B.units M n u kd).on k = true → kd.on k = true
  | 0, kd, h => ⟨h, fun _ h => h⟩
  | u + 1, kd, h => by
    cases hc : kd.cy with
    | none => rw [B.units_none hc]; exact ⟨h, fun _ h => h⟩
    | some c =>
      rw [B.units_succ hc]
      obtain ⟨k1, k2⟩ := units_held u (B.held_step h hc)
      exact ⟨k1, fun k hk => stepK_dn (k2 k hk)⟩
theorem work_held {M : Nat → List B.V} {R : Nat → B.V} {nr n u : Nat} {kd : B.Kd} (hn : 1 ≤ n) (h : B.Held kd nr n (0, R, M)) : B.Held (B.work R nr M n u kd) nr n (0, R, M) ∧ ∀ k, (B.work R nr M n u kd).on k = true → kd.on k = true := by
  unfold B.work
  cases hc : kd.cy with
  | none => exact units_held u (B.held_begun h hn)
  | some c => exact units_held u h
theorem OkX.works {p : Prm} {s : Pl} {X : Nat → Prop} (hn : 1 ≤ p.n) (h : OkX p s X) : OkX p (s.works p) X := by
  obtain ⟨k1, k2⟩ := work_held (u := p.wk) hn (show B.Held s.kd (rootsL p s).length p.n (0, B.rgL (rootsL p s), s.M) from h.hl)
  exact h.kdS k1 (fun k _ _ hk => k2 k hk)
theorem Gn.same {s s' : Pl} {gone : List Nat} (h : Gn s gone) (hl : s'.lv = s.lv) (hn : s'.nt = s.nt) : Gn s' gone := fun u hu => ⟨(isT_nt hn).2 (h u hu).1, by rw [hl]; exact (h u hu).2⟩
structure Fr9 (p : Prm) (s s' : Pl) : Prop where
  ok : Ok p s'.clr
  n1 : s.nt ≤ s'.nt
  n2 : s'.nt ≤ s.nt + p.qn
  el : s'.ev.length ≤ p.qn
  ev : ∀ gone, Gn s gone → ∃ t', (∀ t r, s.q 2 0 = t :: r → t' = t) ∧ chk t' gone s'.ev ∧ Gn s'.clr (gone ++ goneL s'.ev)
  q : ∀ t r, s.q 2 0 = t :: r → noC s'.ev → s'.sp = false → ∃ m, s'.q 2 0 = r ++ m
theorem turn_fair {p : Prm} {s s' : Pl} {ticks : Int} {l : List (Int × Nat)} (hP : PI p) (hpn : 1 ≤ p.n) (h : Ok p s) (he : s.ev = []) (hn : s.nt + p.qn ≤ 500000000) (hin : ∀ x, x ∈ l → x.2 < 256) (ht : turnR p s ticks l s') : Fr9 p s s' := by
  have ha := B.aft_in (t := ticks) h.c0 h.c1
  have hC : Ok p (s.setC (B.aft s.clk ticks)) := h.setC ha.1 ha.2
  obtain ⟨o1, q1⟩ := recvs_ok l hin hC
  have q1 : Qu s ((s.setC (B.aft s.clk ticks)).recvs l) := ⟨q1.ev, q1.lv, q1.nt, q1.sp, q1.q⟩
  unfold turnR at ht
  generalize (s.setC (B.aft s.clk ticks)).recvs l = s1 at *
  have hl : lnok s 2 0 := Or.inl ⟨rfl, rfl⟩
  by_cases hc : s1.lv ≠ [] ∧ s1.sp = false
  · rw [if_pos hc] at ht
    obtain ⟨s3, h3, rfl⟩ := ht
    obtain ⟨o2, q2⟩ := wakes_ok (s1.q 3 0) o1 rfl
    have qq := q1.trans q2
    generalize s1.wakes (s1.q 3 0) = s2 at *
    obtain ⟨o3, e3, f3⟩ := first_ok hP o2 (by rw [qq.nt]; exact hn) h3
    have hO : Ok p (s3.works p) := o3.works hpn
    have hcl : Ok p (s3.works p).clr := hO.same rfl rfl rfl rfl rfl rfl rfl rfl rfl rfl rfl
    obtain ⟨m, hm⟩ := qq.q
    cases hq : s2.q 2 0 with
    | nil =>
      have := e3 hq
      subst this
      have hq0 : s.q 2 0 = [] := by rw [hq] at hm; exact (List.append_eq_nil_iff.1 hm.symm).1
      have hev : s3.ev = [] := qq.ev.trans he
      refine ⟨hcl, by show s.nt ≤ s3.nt; rw [qq.nt]; exact Nat.le_refl _, by show s3.nt ≤ _; rw [qq.nt]; omega, by show s3.ev.length ≤ _; rw [hev]; exact Nat.zero_le _, fun gone hg => ⟨0, fun t r e => (by rw [hq0] at e; cases e), ?_, ?_⟩, fun t r e => (by rw [hq0] at e; cases e)⟩
      · show chk 0 gone s3.ev
        rw [hev]; trivial
      · show Gn (s3.works p).clr (gone ++ goneL s3.ev)
        rw [hev]
        have : gone ++ goneL [] = gone := by unfold goneL; simp
        rw [this]
        exact hg.same (s' := (s3.works p).clr) qq.lv qq.nt
    | cons t r =>
      obtain ⟨s0, hG, g1, g2, g3, g4⟩ := f3 t r hq
      obtain ⟨ev, a1, a2, a3, a4, a5⟩ := hG
      have hev : s3.ev = ev := by rw [a1, g1, qq.ev, he, List.nil_append]
      have hlv0 : s0.lv = s.lv := g2.trans qq.lv
      have hnt0 : s0.nt = s.nt := g3.trans qq.nt
      have hfst : ∀ t1 r1, s.q 2 0 = t1 :: r1 → t = t1 ∧ r = r1 ++ m := fun t1 r1 e => by
        rw [e, hq] at hm
        injection hm with m1 m2
        exact ⟨m1, m2⟩
      refine ⟨hcl, by show s.nt ≤ s3.nt; omega, by show s3.nt ≤ _; omega, by show s3.ev.length ≤ _; rw [hev]; exact a2, fun gone hg => ⟨t, fun t1 r1 e => (hfst t1 r1 e).1, ?_, ?_⟩, fun t1 r1 e hnc _ => ?_⟩
      · show chk t gone s3.ev
        rw [hev]
        exact (a4 gone (hg.same hlv0 hnt0)).1
      · show Gn (s3.works p).clr (gone ++ goneL s3.ev)
        rw [hev]
        exact (a4 gone (hg.same hlv0 hnt0)).2.same (s' := (s3.works p).clr) rfl rfl
      · have hnc' : noC ev := by rw [← hev]; exact hnc
        obtain ⟨m2, hm2⟩ := a5 hnc'
        refine ⟨m ++ m2, ?_⟩
        show s3.q 2 0 = _
        rw [hm2, g4, (hfst t1 r1 e).2, List.append_assoc]
  · rw [if_neg hc] at ht
    subst ht
    have hcl : Ok p s'.clr := o1.same rfl rfl rfl rfl rfl rfl rfl rfl rfl rfl rfl
    have hev : s'.ev = [] := q1.ev.trans he
    refine ⟨hcl, by rw [q1.nt]; exact Nat.le_refl _, by rw [q1.nt]; omega, by rw [hev]; exact Nat.zero_le _, fun gone hg => ?_, fun t r e _ hs => ?_⟩
    · have ht' : ∃ t', ∀ t r, s.q 2 0 = t :: r → t' = t := by
        cases hq : s.q 2 0 with
        | nil => exact ⟨0, fun t r e => (by cases e)⟩
        | cons a b => exact ⟨a, fun t r e => (by injection e)⟩
      obtain ⟨t', ht'⟩ := ht'
      refine ⟨t', ht', ?_, ?_⟩
      · rw [hev]; trivial
      · rw [hev]
        have : gone ++ goneL [] = gone := by unfold goneL; simp
        rw [this]
        exact hg.same (s' := s'.clr) q1.lv q1.nt
    · have htm : t ∈ s.q 2 0 := by rw [e]; simp
      have htl := h.ql 2 0 hl t htm
      refine absurd ⟨?_, hs⟩ hc
      rw [q1.lv]
      intro e'
      rw [e'] at htl; cases htl
end Go.Proofs.YtnjiinbhbjpfkaaGreatDoor.F
