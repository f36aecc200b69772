/-
  A turn (plain), and what stays so.
-/
import Derived.Test.YtnjiinbhbjpfkaaGreatDoorGateS
namespace Go.Proofs.YtnjiinbhbjpfkaaGreatDoor.F
open Go.RowKit
def Pl.ends (p : Prm) (t : Nat) : Nat → Pl → Pl
  | 0, s => s
  | n + 1, s => if (s.T t).run = true ∧ (topF s t).nx = p.len (topF s t).f then Pl.ends p t n (s.back t (0, 0)) else s
def Pl.took (s : Pl) (t : Nat) : Pl := s.setF t (topN s t) { topF s t with nx := (topF s t).nx + 1 }
def instS (p : Prm) (t : Nat) (s s' : Pl) : Prop := ∃ why s3, instR p (s.took t) t (p.ins (topF s t).f (topF s t).nx) why s3 ∧ s' = if why = 0 then s3 else s3.leave t (0, -why) 3 why
def stepR (p : Prm) (t : Nat) (s s' : Pl) : Prop := if ((s.ends p t 21).T t).run = true then instS p t (s.ends p t 21) s' else s' = s.ends p t 21
def PI (p : Prm) : Prop := ∀ f, f < p.nf → ∀ i, i < p.len f → okI p f (p.ins f i)
theorem wokeAll_T (v : B.V) {t : Nat} : ∀ (l : List Nat) (s : Pl), t ∉ l → (s.wokeAll v l).T t = s.T t
  | [], _, _ => rfl
  | u :: l, s, h => by
    show ((s.woke u v).wokeAll v l).T t = _
    rw [wokeAll_T v l _ (fun hm => h (by simp [hm])), woke_T s v (fun e => h (by simp [e]))]
theorem leave_T {s : Pl} (hW : LW s) {t : Nat} (ht : isT s t) (v : B.V) (kind : Nat) (x : Int) : (s.leave t v kind x).T t = ((s.out1 t).T t).stop := by
  have hl : lnok s 5 t := Or.inr (Or.inr (Or.inr ⟨rfl, ht⟩))
  unfold Pl.leave
  rw [wokeAll_T v _ _ (fun hm => (hW.a t ht 5 t (hW.b 5 t hl t hm).2).2.2 ⟨rfl, rfl⟩)]
  exact setT_at _ _ _
theorem back_run {s : Pl} (hW : LW s) {t : Nat} (ht : isT s t) (v : B.V) : (topN s t = 0 → ((s.back t v).T t).run = false) ∧ (topN s t ≠ 0 → ((s.back t v).T t).run = (s.T t).run ∧ ((s.back t v).T t).fr.length = (s.T t).fr.length - 1) := by
  constructor
  · intro e
    unfold Pl.back
    rw [if_pos e, leave_T (hW.pop t) ht]
    rfl
  · intro e
    unfold Pl.back
    rw [if_neg e]
    have := setF_wh (s.pop t) t (topN s t - 1) t ((frAt s t (topN s t - 1)).set (frAt s t (topN s t)).bk.2.1 v)
    exact ⟨this.2.2.1.trans (pop_run s t t), this.2.2.2.2.trans (pop_len s t)⟩
theorem ends_ok {p : Prm} {t : Nat} : ∀ (n : Nat) {s : Pl}, Rn p s t → (s.T t).fr.length ≤ n → Ok p (s.ends p t n) ∧ (((s.ends p t n).T t).run = true → Rn p (s.ends p t n) t ∧ Go t 0 s (s.ends p t n) ∧ (topF (s.ends p t n) t).nx ≠ p.len (topF (s.ends p t n) t).f) ∧ Go t 1 s (s.ends p t n)
  | 0, s, h, hn => by
    have := h.hi
    omega
  | n + 1, s, h, hn => by
    unfold Pl.ends
    by_cases e : (s.T t).run = true ∧ (topF s t).nx = p.len (topF s t).f
    · rw [if_pos e]
      have hB : Ok p (s.back t (0, 0)) := h.ok.back h.lv h.wh (PGot.num 0)
      have hG : Go t 1 s (s.back t (0, 0)) := Go.back h.ok h.lv h.wh (PGot.num 0)
      have hr := back_run h.ok.lw h.ht (0, 0)
      by_cases e0 : topN s t = 0
      · have hf := hr.1 e0
        have hE : Pl.ends p t n (s.back t (0, 0)) = s.back t (0, 0) := by
          cases n with
          | zero => rfl
          | succ n => unfold Pl.ends; rw [if_neg (fun hh => by rw [hf] at hh; cases hh.1)]
        rw [hE]
        exact ⟨hB, fun hh => absurd hh (by rw [hf]; decide), hG⟩
      · obtain ⟨r1, r2⟩ := hr.2 e0
        obtain ⟨b1, b2, b3, b4⟩ := (back_st s t (0, 0)).2 e0
        have hR : Rn p (s.back t (0, 0)) t := ⟨hB, by rw [b1]; exact h.lv, by rw [r1]; exact h.run⟩
        have hG0 : Go t 0 s (s.back t (0, 0)) := Go.same b2 b1 b3 (by rw [b4])
        have hi := h.hi
        obtain ⟨i1, i2, i3⟩ := ends_ok n hR (by rw [r2]; omega)
        refine ⟨i1, fun hh => ?_, ?_⟩
        · obtain ⟨j1, j2, j3⟩ := i2 hh
          exact ⟨j1, (hG0.trans j2).mono (by omega), j3⟩
        · exact (hG0.trans i3).mono (by omega)
    · rw [if_neg e]
      exact ⟨h.ok, fun _ => ⟨h, Go.same rfl rfl rfl rfl, fun e' => e ⟨h.run, e'⟩⟩, (Go.same rfl rfl rfl rfl).mono (by omega)⟩
theorem took_ok {p : Prm} {s : Pl} {t : Nat} (h : Rn p s t) (hn : (topF s t).nx ≠ p.len (topF s t).f) : Rn p (s.took t) t ∧ (topF (s.took t) t).f = (topF s t).f := by
  have hf := h.ff
  have hw := setF_wh s t (topN s t) t { topF s t with nx := (topF s t).nx + 1 }
  have hO : Ok p (s.took t) := h.ok.setF h.hi rfl rfl (show (topF s t).nx + 1 ≤ p.len (topF s t).f by omega) (fun a ha => h.got ha)
  refine ⟨⟨hO, h.lv, hw.2.2.1.trans h.run⟩, ?_⟩
  have ht : topN (s.took t) t = topN s t := by unfold topN; rw [show ((s.took t).T t).fr.length = (s.T t).fr.length from hw.2.2.2.2]
  show (frAt (s.took t) t (topN (s.took t) t)).f = _
  rw [ht]
  unfold Pl.took
  rw [setF_at s _ h.hi]
theorem inst_why {p : Prm} {s s' : Pl} {t : Nat} {k : Ins} {why : Int} (hk : k.1 < 23) (hi : instR p s t k why s') : 0 ≤ why ∧ why ≤ 8 ∧ (why ≠ 0 → s' = s) := by
  obtain ⟨op, a, b, c⟩ := k
  simp only at hk
  have htwo : ∀ o, twoR s t o a b c why s' → 0 ≤ why ∧ why ≤ 8 ∧ (why ≠ 0 → s' = s) := fun o ht => by
    rcases ht with ⟨_, rfl, _⟩ | ⟨_, rfl, rfl⟩
    · exact ⟨by omega, by omega, fun h => absurd rfl h⟩
    · exact ⟨by omega, by omega, fun _ => rfl⟩
  have hz : why = 0 → 0 ≤ why ∧ why ≤ 8 ∧ (why ≠ 0 → s' = s) := fun e => ⟨by omega, by omega, fun h => absurd e h⟩
  have hS : ∀ x y, 1 ≤ whyS s x y ∧ whyS s x y ≤ 3 := fun x y => by unfold whyS; split; omega; split <;> omega
  have hp : ∀ r : Int × Pl, why = r.1 ∧ s' = r.2 → (0 ≤ r.1 ∧ r.1 ≤ 8 ∧ (r.1 ≠ 0 → r.2 = s)) → 0 ≤ why ∧ why ≤ 8 ∧ (why ≠ 0 → s' = s) := fun r h h' => by
    rw [h.1, h.2]; exact h'
  have hc : op = 0 ∨ op = 1 ∨ op = 2 ∨ op = 3 ∨ op = 4 ∨ op = 5 ∨ op = 6 ∨ op = 7 ∨ op = 8 ∨ op = 9 ∨ op = 10 ∨ op = 11 ∨ op = 12 ∨ op = 13 ∨ op = 14 ∨ op = 15 ∨ op = 16 ∨ op = 17 ∨ op = 18 ∨ op = 19 ∨ op = 20 ∨ op = 21 ∨ op = 22 := by omega
  rcases hc with rfl | rfl | rfl | rfl | rfl | rfl | rfl | rfl | rfl | rfl | rfl | rfl | rfl | rfl | rfl | rfl | rfl | rfl | rfl | rfl | rfl | rfl | rfl
  · exact hz hi.1
  · exact hz hi.1
  · exact htwo 2 hi
  · exact htwo 3 hi
  · exact htwo 4 hi
  · exact htwo 5 hi
  · exact hz hi.1
  · exact hz hi.1
  · exact hz hi.1
  · exact hz hi.1
  · rcases hi with ⟨_, h, _⟩ | ⟨_, h, h'⟩
    · exact hz h
    · have := hS ((topF s t).R b) ((topF s t).R c)
      simp only at h
      exact ⟨by omega, by omega, fun _ => h'⟩
  · rcases hi with ⟨_, h, _⟩ | ⟨_, h, h'⟩
    · exact hz h
    · have := hS ((topF s t).R a) ((topF s t).R b)
      simp only at h
      exact ⟨by omega, by omega, fun _ => h'⟩
  · exact hz hi.1
  · obtain ⟨h1, h2⟩ := hi
    unfold callR at h1
    unfold callS at h2
    simp only at h1 h2
    by_cases e : (fnOf s ((topF s t).R b)).2.2 = true
    · rw [if_neg (by rw [e]; decide)] at h1
      by_cases e2 : (s.T t).fr.length = 20
      · rw [if_pos e2] at h1
        rw [if_neg (fun h => h.2 e2)] at h2
        exact ⟨by omega, by omega, fun _ => h2⟩
      · rw [if_neg e2] at h1
        exact hz h1
    · rw [if_pos (by simpa using e)] at h1
      rw [if_neg (fun h => e h.1)] at h2
      exact ⟨by omega, by omega, fun _ => h2⟩
  · exact hz hi.1
  · obtain ⟨h1, h2⟩ := hi
    unfold spawnR at h1
    unfold spawnS at h2
    simp only at h1 h2
    by_cases e : (fnOf s ((topF s t).R b)).2.2 = true
    · rw [if_neg (by rw [e]; decide)] at h1
      by_cases e2 : s.lv.length = p.mt
      · rw [if_pos e2] at h1
        rw [if_neg (fun h => h.2 e2)] at h2
        exact ⟨by omega, by omega, fun _ => h2⟩
      · rw [if_neg e2] at h1
        exact hz h1
    · rw [if_pos (by simpa using e)] at h1
      rw [if_neg (fun h => e h.1)] at h2
      exact ⟨by omega, by omega, fun _ => h2⟩
  · exact hz hi.1
  · refine hp _ hi ?_
    unfold sleepS
    split
    · exact ⟨by simp, by simp, fun h => absurd rfl h⟩
    · exact ⟨by simp, by simp, fun _ => rfl⟩
  · refine hp _ hi ?_
    unfold awaitS
    split
    · split
      · exact ⟨by simp, by simp, fun h => absurd rfl h⟩
      · exact ⟨by simp, by simp, fun _ => rfl⟩
    · exact ⟨by simp, by simp, fun _ => rfl⟩
  · refine hp _ hi ?_
    unfold cancelS
    split
    · split
      · exact ⟨by simp, by simp, fun h => absurd rfl h⟩
      · exact ⟨by simp, by simp, fun _ => rfl⟩
    · exact ⟨by simp, by simp, fun _ => rfl⟩
  · refine hp _ hi ?_
    unfold emitS
    split
    · exact ⟨by simp, by simp, fun h => absurd rfl h⟩
    · exact ⟨by simp, by simp, fun _ => rfl⟩
  · refine hp _ hi ?_
    unfold readS
    split
    · split
      · exact ⟨by simp, by simp, fun h => absurd rfl h⟩
      · exact ⟨by simp, by simp, fun _ => rfl⟩
    · exact ⟨by simp, by simp, fun _ => rfl⟩
  · exact hz hi.1
theorem instS_ok {p : Prm} {s s' : Pl} {t : Nat} (hP : PI p) (h : Rn p s t) (hx : (topF s t).nx ≠ p.len (topF s t).f) (hn : s.nt + 1 ≤ 500000000) (hi : instS p t s s') : Ok p s' ∧ Go t 1 s s' := by
  obtain ⟨why, s3, h1, rfl⟩ := hi
  obtain ⟨hT, hTf⟩ := took_ok h hx
  have hff := h.ff
  have hk := hP _ hff.1 (topF s t).nx (by omega)
  have hG0 : Go t 0 s (s.took t) := Go.same rfl rfl rfl rfl
  obtain ⟨o1, o2⟩ := inst_ok (k := p.ins (topF s t).f (topF s t).nx) hT hn (by rw [hTf]; exact hk) h1
  obtain ⟨w1, w2, w3⟩ := inst_why hk.1 h1
  by_cases e : why = 0
  · rw [if_pos e]
    exact ⟨o1, (hG0.trans o2).mono (by omega)⟩
  · rw [if_neg e]
    have e3 := w3 e
    subst e3
    obtain ⟨l1, l2, l3⟩ := leave_st (s.took t) t (0, -why) 3 why
    exact ⟨hT.ok.leave hT.lv (fun _ _ => trivial) (PGot.num _) 3 why, (hG0.trans (Go.ends (Or.inr (Or.inl ⟨rfl, rfl⟩)) hT.lv hT.ht hT.ok.nd l2 l1 l3 (fun _ => leave_q2 hT.ok hT.lv (fun _ _ => trivial) hT.wh (PGot.num _) 3 why))).mono (by omega)⟩
theorem step_ok {p : Prm} {s s' : Pl} {t : Nat} (hP : PI p) (h : Rn p s t) (hn : s.nt + 1 ≤ 500000000) (hs : stepR p t s s') : Ok p s' ∧ Go t 1 s s' := by
  obtain ⟨i1, i2, i3⟩ := ends_ok 21 h (by have := h.fw.n2; omega)
  unfold stepR at hs
  by_cases e : ((s.ends p t 21).T t).run = true
  · rw [if_pos e] at hs
    obtain ⟨j1, j2, j3⟩ := i2 e
    obtain ⟨_, _, _, j5, _⟩ := id j2
    obtain ⟨k1, k2⟩ := instS_ok hP j1 j3 (by omega) hs
    exact ⟨k1, (j2.trans k2).mono (by omega)⟩
  · rw [if_neg e] at hs
    subst hs
    exact ⟨i1, i3⟩
def runsR (p : Prm) (t : Nat) : Nat → Pl → Pl → Prop
  | 0, s, s' => s' = s
  | n + 1, s, s' => if (s.T t).run = true then ∃ s1, stepR p t s s1 ∧ runsR p t n s1 s' else s' = s
theorem Go.nt {t c : Nat} {s s' : Pl} (h : Go t c s s') : s.nt ≤ s'.nt ∧ s'.nt ≤ s.nt + c := by
  obtain ⟨_, _, _, h, _⟩ := h
  exact h
theorem runs_ok {p : Prm} {t : Nat} (hP : PI p) : ∀ (n : Nat) {s s' : Pl}, Ok p s → isT s t → s.nt + n ≤ 500000000 → runsR p t n s s' → Ok p s' ∧ Go t n s s'
  | 0, s, s', h, _, _, hr => by
    have e : s' = s := hr
    subst e
    exact ⟨h, Go.same rfl rfl rfl rfl⟩
  | n + 1, s, s', h, ht, hn, hr => by
    unfold runsR at hr
    by_cases e : (s.T t).run = true
    · rw [if_pos e] at hr
      obtain ⟨s1, h1, h2⟩ := hr
      obtain ⟨k1, k2⟩ := step_ok hP ⟨h, (h.rn t ht e).2, e⟩ (by omega) h1
      have hnt := k2.nt
      obtain ⟨j1, j2⟩ := runs_ok hP n k1 ⟨ht.1, Nat.le_trans ht.2 hnt.1⟩ (by omega) h2
      exact ⟨j1, (k2.trans j2).mono (by omega)⟩
    · rw [if_neg e] at hr
      subst hr
      exact ⟨h, (Go.same rfl rfl rfl rfl).mono (by omega)⟩
def firstR (p : Prm) (s s' : Pl) : Prop := match s.q 2 0 with
  | [] => s' = s
  | t :: _ => ∃ s1, runsR p t p.qn (s.start t) s1 ∧ s' = if (s1.T t).run = true then s1.join1 2 0 t else s1
theorem first_ok {p : Prm} (hP : PI p) {s s' : Pl} (h : Ok p s) (hn : s.nt + p.qn ≤ 500000000) (hf : firstR p s s') : Ok p s' ∧ (s.q 2 0 = [] → s' = s) ∧ ∀ t r, s.q 2 0 = t :: r → ∃ s0, Go t p.qn s0 s' ∧ s0.ev = s.ev ∧ s0.lv = s.lv ∧ s0.nt = s.nt ∧ s0.q 2 0 = r := by
  unfold firstR at hf
  cases hq : s.q 2 0 with
  | nil =>
    rw [hq] at hf
    have hf : s' = s := hf
    subst hf
    exact ⟨h, fun _ => rfl, fun _ _ e => by cases e⟩
  | cons t r =>
    rw [hq] at hf
    obtain ⟨s1, h1, h2⟩ := hf
    have hl : lnok s 2 0 := Or.inl ⟨rfl, rfl⟩
    have htm : t ∈ s.q 2 0 := by rw [hq]; simp
    have htl := h.ql 2 0 hl t htm
    have ht := h.lt t htl
    have hwt := (h.lw.b 2 0 hl t htm).2
    have hS : Ok p (s.start t) := h.start htl
    have hsn : (s.start t).nt = s.nt := out1_nt s t
    obtain ⟨k1, k2⟩ := runs_ok hP p.qn hS ((isT_nt hsn).2 ht) (by rw [hsn]; exact hn) h1
    have hs0 : (s.start t).q 2 0 = r := by
      show (s.out1 t).q 2 0 = r
      rw [out1_some hwt]
      show (s.setQ 2 0 ((s.q 2 0).erase t)).q 2 0 = r
      rw [setQ_at, hq]
      simp
    obtain ⟨f1, _, _, f4, _⟩ := out1_lv s t
    have hfin : Ok p s' ∧ Go t p.qn (s.start t) s' := by
      by_cases e : (s1.T t).run = true
      · rw [if_pos e] at h2
        subst h2
        have ht1 : isT s1 t := ⟨ht.1, Nat.le_trans ht.2 (by rw [← hsn]; exact k2.nt.1)⟩
        have hr := k1.rn t ht1 e
        obtain ⟨j1, _, _, _, _, _, _, _, j9, _⟩ := join1_st s1 2 0 t
        exact ⟨k1.join1 hr.2, (k2.trans (Go.quiet j9 j1 (join1_nt s1 2 0 t) ⟨[t], join1_q2 (by rw [hr.1]; intro e; cases e)⟩)).mono (by omega)⟩
      · rw [if_neg e] at h2
        subst h2
        exact ⟨k1, k2⟩
    refine ⟨hfin.1, fun e => by (cases e), fun t' r' e => ?_⟩
    injection e with e1 e2
    subst e1 e2
    exact ⟨s.start t, hfin.2, f4, f1, hsn, hs0⟩
def Pl.wakes (s : Pl) : List Nat → Pl
  | [] => s
  | t :: l => if (s.T t).till ≤ s.clk then (s.join1 2 0 t).wakes l else s
structure Qu (s s' : Pl) : Prop where
  ev : s'.ev = s.ev
  lv : s'.lv = s.lv
  nt : s'.nt = s.nt
  sp : s'.sp = s.sp
  q : ∃ m, s'.q 2 0 = s.q 2 0 ++ m
theorem Qu.refl (s : Pl) : Qu s s := ⟨rfl, rfl, rfl, rfl, [], by rw [List.append_nil]⟩
theorem Qu.trans {s s' s'' : Pl} (h : Qu s s') (h' : Qu s' s'') : Qu s s'' := by
  obtain ⟨m, hm⟩ := h.q
  obtain ⟨m', hm'⟩ := h'.q
  exact ⟨h'.ev.trans h.ev, h'.lv.trans h.lv, h'.nt.trans h.nt, h'.sp.trans h.sp, m ++ m', by rw [hm', hm, List.append_assoc]⟩
theorem Qu.join1 {s : Pl} {t : Nat} (hw : (s.T t).wh ≠ some (2, 0)) : Qu s (s.join1 2 0 t) := by
  obtain ⟨j1, _, _, _, _, _, _, _, j9, j10⟩ := join1_st s 2 0 t
  exact ⟨j9, j1, join1_nt s 2 0 t, j10, [t], join1_q2 hw⟩
theorem wakes_ok {p : Prm} : ∀ (l : List Nat) {s : Pl}, Ok p s → s.q 3 0 = l → Ok p (s.wakes l) ∧ Qu s (s.wakes l)
  | [], s, h, _ => ⟨h, Qu.refl s⟩
  | t :: l, s, h, hq => by
    have hl : lnok s 3 0 := Or.inr (Or.inl ⟨rfl, rfl⟩)
    have htm : t ∈ s.q 3 0 := by rw [hq]; simp
    have htl := h.ql 3 0 hl t htm
    have hwt := (h.lw.b 3 0 hl t htm).2
    unfold Pl.wakes
    split
    · have hne : (s.T t).wh ≠ some (2, 0) := by rw [hwt]; intro e; injection e with e; injection e with e _; omega
      have hq' : (s.join1 2 0 t).q 3 0 = l := by
        show ((s.out1 t).setQ 2 0 ((s.out1 t).q 2 0 ++ [t])).q 3 0 = l
        rw [setQ_off _ _ (by omega), out1_some hwt]
        show (s.setQ 3 0 ((s.q 3 0).erase t)).q 3 0 = l
        rw [setQ_at, hq]; simp
      obtain ⟨k1, k2⟩ := wakes_ok l (h.join1 htl) hq'
      exact ⟨k1, (Qu.join1 hne).trans k2⟩
    · exact ⟨h, Qu.refl s⟩
def Pl.recv1 (s : Pl) (k b : Nat) : Pl := match s.q 4 k with
  | u :: _ => s.woke u (0, (b : Int))
  | [] => if (s.byt k).length < 64 then s.setB k (s.byt k ++ [b]) else s
def Pl.recv (s : Pl) (x : Int × Nat) : Pl := if 0 ≤ x.1 ∧ x.1 < 4 then s.recv1 x.1.toNat x.2 else s
def Pl.recvs (s : Pl) : List (Int × Nat) → Pl
  | [] => s
  | x :: l => (s.recv x).recvs l
theorem recv1_ok {p : Prm} {s : Pl} {k b : Nat} (hk : k < 4) (hb : b < 256) (h : Ok p s) : Ok p (s.recv1 k b) ∧ Qu s (s.recv1 k b) := by
  unfold Pl.recv1
  have hl : lnok s 4 k := Or.inr (Or.inr (Or.inl ⟨rfl, hk⟩))
  cases hq : s.q 4 k with
  | cons u r =>
    have hum : u ∈ s.q 4 k := by rw [hq]; simp
    have hu := (h.lw.b 4 k hl u hum).1
    obtain ⟨b1, _, _, _, _, _, _, _, b9, b10⟩ := woke_st s u (0, (b : Int))
    exact ⟨h.woke hu (fun _ => trivial) (PGot.num _), b9, b1, woke_nt s u _, b10, woke_q2 h hu _⟩
  | nil =>
    show Ok p (if (s.byt k).length < 64 then s.setB k (s.byt k ++ [b]) else s) ∧ Qu s (if (s.byt k).length < 64 then s.setB k (s.byt k ++ [b]) else s)
    split
    · rename_i hlt
      have hbt := h.bt k
      refine ⟨h.setB k _ ⟨by rw [List.length_append]; simp; omega, fun x hx => ?_⟩, rfl, rfl, rfl, rfl, [], by rw [List.append_nil]; rfl⟩
      rcases List.mem_append.1 hx with h1 | h1
      · exact hbt.2 x h1
      · rw [List.mem_singleton.1 h1]; exact hb
    · exact ⟨h, Qu.refl s⟩
theorem recvs_ok {p : Prm} : ∀ (l : List (Int × Nat)) {s : Pl}, (∀ x, x ∈ l → x.2 < 256) → Ok p s → Ok p (s.recvs l) ∧ Qu s (s.recvs l)
  | [], s, _, h => ⟨h, Qu.refl s⟩
  | x :: l, s, hl, h => by
    have h1 : Ok p (s.recv x) ∧ Qu s (s.recv x) := by
      unfold Pl.recv
      split
      · exact recv1_ok (by omega) (hl x (by simp)) h
      · exact ⟨h, Qu.refl s⟩
    obtain ⟨k1, k2⟩ := recvs_ok l (fun y hy => hl y (by simp [hy])) h1.1
    exact ⟨k1, h1.2.trans k2⟩
def Pl.setC (s : Pl) (c : Int) : Pl := { s with clk := c }
theorem OkX.setC {p : Prm} {s : Pl} {X : Nat → Prop} (h : OkX p s X) {c : Int} (h0 : 0 ≤ c) (h1 : c ≤ 9223372036854775807) : OkX p (s.setC c) X :=
  { lw := h.lw.same rfl rfl (fun _ => rfl), ww := h.ww, nd := h.nd, lt := h.lt, ql := h.ql, lf := h.lf, rn := h.rn, ol := h.ol, ok := h.ok, kn := h.kn, kz := h.kz, fw := h.fw, hl := h.hl, fc := h.fc, bt := h.bt, c0 := h0, c1 := h1 }
def Pl.works (p : Prm) (s : Pl) : Pl := s.kdS (B.work (B.rgL (rootsL p s)) (rootsL p s).length s.M p.n p.wk s.kd)
def Pl.clr (s : Pl) : Pl := { s with ev := [] }
def turnR (p : Prm) (s : Pl) (ticks : Int) (l : List (Int × Nat)) (s' : Pl) : Prop :=
  if ((s.setC (B.aft s.clk ticks)).recvs l).lv ≠ [] ∧ ((s.setC (B.aft s.clk ticks)).recvs l).sp = false then
    ∃ s1, firstR p (((s.setC (B.aft s.clk ticks)).recvs l).wakes (((s.setC (B.aft s.clk ticks)).recvs l).q 3 0)) s1 ∧ s' = s1.works p
  else s' = (s.setC (B.aft s.clk ticks)).recvs l
end Go.Proofs.YtnjiinbhbjpfkaaGreatDoor.F
namespace Go.Proofs.YtnjiinbhbjpfkaaGreatDoor
open Go.RowKit
set_option maxRecDepth 100000 in
set_option maxHeartbeats 2000000 in
theorem makesL100 (op a b c fb tb eb vbx : Nat) (S : Int → Bool → World → Prop) (R : World → Prop) (w : World) (hv : w.cell? ⟨vbx, 0, none⟩ = some (Fv 100 #[]))
    (H1 : ∀ w1, w.grownBy w1 none → w1.heap[w.heap.size]? = some (stpB op a b c fb tb eb) → Calls Tryz.prog 100 #[stepV op a b c fb tb eb] w1 fun e w2 => ∃ (x : Int) (o : Bool), e = .returned (.tuple #[.agg #[.int .i64 x, .int .i64 0], .bool o]) ∧ S x o w2 ∧ w2.heap[w.heap.size]? = some (stpB op a b c fb tb eb))
    (H2 : ∀ x w2 w3, S x true w2 → w2.grownBy w3 none → Calls Tryz.prog 149 #[stepV op a b c fb tb eb, .agg #[.int .i64 x, .int .i64 0]] w3 fun e w' => e = .returned (.tuple #[]) ∧ R w')
    (H3 : ∀ x w2 w3, S x false w2 → w2.grownBy w3 none → Calls Tryz.prog 156 #[P0 eb, P0 tb] w3 fun e w' => e = .returned (.tuple #[]) ∧ R w') :
    Calls Tryz.prog 155 #[stepV op a b c fb tb eb, P0 vbx] w fun e w' => e = .returned (.tuple #[]) ∧ R w' := by
  have HH1 := hid H1
  have HH2 := hid H2
  have HH3 := hid H3
  have lv := cell_lt hv
  clear H1 H2 H3
  go_enter Tryz.func155, Tryz.ntmps155
  go_wp2_with fail
  have KG1 := hid (World.grownBy_alloc w (.cells #[.int .u8 (op : Int), .int .u8 (a : Int), .int .u8 (b : Int), .int .u8 (c : Int), P0 fb, P0 tb, P0 eb] 186) none)
  have HX1 := hid (s7_new w op a b c fb tb eb)
  generalize hW : w.alloc (.cells #[.int .u8 (op : Int), .int .u8 (a : Int), .int .u8 (b : Int), .int .u8 (c : Int), P0 fb, P0 tb, P0 eb] 186) = w1 at *
  clear hW
  refine (HH1.out w1 KG1.out HX1.out).mono ?_
  rintro e w2 ⟨x, o, rfl, hS2, hX2⟩
  have HS2 := hid hS2
  have HX2 := hid hX2
  clear hS2 hX2
  obtain ⟨x0, x1, x2, x3, x4, x5, x6⟩ := s7_of HX2.out
  have lx := heap_lt HX2.out
  cases o with
  | true =>
    go_wp2_with fail
    refine (HH2.out x w2 _ HS2.out (World.grownBy_alloc _ _ _)).mono ?_
    rintro e w3 ⟨rfl, hR3⟩
    have HR3 := hid hR3
    clear hR3 x0 x1 x2 x3 x4 x5 x6
    go_wp2_with fail
    go_end0
    exact ⟨rfl, HR3.out⟩
  | false =>
    go_wp2_with fail
    first
      | (refine (HH3.out x w2 _ HS2.out (World.grownBy_alloc _ _ _)).mono ?_
         rintro e w3 ⟨rfl, hR3⟩
         have HR3 := hid hR3
         clear hR3 x0 x1 x2 x3 x4 x5 x6
         go_wp2_with fail
         go_end0
         exact ⟨rfl, HR3.out⟩)
      | trace_state
set_option maxRecDepth 100000 in
set_option maxHeartbeats 1000000 in
theorem doesMakes (op a b c fb tb eb vbx wb : Nat) (R : World → Prop) (w : World) (hw : w.cell? ⟨wb, 0, none⟩ = some (Fv 155 #[P0 vbx]))
    (H : ∀ w1, w.grownBy w1 none → Calls Tryz.prog 155 #[stepV op a b c fb tb eb, P0 vbx] w1 fun e w' => e = .returned (.tuple #[]) ∧ R w') :
    Calls Tryz.prog 163 #[stepV op a b c fb tb eb, P0 wb] w fun e w' => e = .returned (.int .i64 0) ∧ R w' := by
  have HH := hid H
  have lw := cell_lt hw
  clear H
  go_enter Tryz.func163, Tryz.ntmps163
  go_wp2_with fail
  first
    | (refine (HH.out _ (World.grownBy_alloc _ _ _)).mono ?_
       rintro e w2 ⟨rfl, hR2⟩
       have HR2 := hid hR2
       clear hR2
       go_wp2_with fail
       go_ret
       exact ⟨rfl, HR2.out⟩)
    | trace_state
set_option maxRecDepth 100000 in
set_option maxHeartbeats 2000000 in
theorem makesL103 (op a b c fb tb eb vbx : Nat) (S : Int → Bool → World → Prop) (R : World → Prop) (w : World) (hv : w.cell? ⟨vbx, 0, none⟩ = some (Fv 103 #[]))
    (H1 : ∀ w1, w.grownBy w1 none → w1.heap[w.heap.size]? = some (stpB op a b c fb tb eb) → Calls Tryz.prog 103 #[stepV op a b c fb tb eb] w1 fun e w2 => ∃ (x : Int) (o : Bool), e = .returned (.tuple #[.agg #[.int .i64 x, .int .i64 0], .bool o]) ∧ S x o w2 ∧ w2.heap[w.heap.size]? = some (stpB op a b c fb tb eb))
    (H2 : ∀ x w2 w3, S x true w2 → w2.grownBy w3 none → Calls Tryz.prog 149 #[stepV op a b c fb tb eb, .agg #[.int .i64 x, .int .i64 0]] w3 fun e w' => e = .returned (.tuple #[]) ∧ R w')
    (H3 : ∀ x w2 w3, S x false w2 → w2.grownBy w3 none → Calls Tryz.prog 156 #[P0 eb, P0 tb] w3 fun e w' => e = .returned (.tuple #[]) ∧ R w') :
    Calls Tryz.prog 155 #[stepV op a b c fb tb eb, P0 vbx] w fun e w' => e = .returned (.tuple #[]) ∧ R w' := by
  have HH1 := hid H1
  have HH2 := hid H2
  have HH3 := hid H3
  have lv := cell_lt hv
  clear H1 H2 H3
  go_enter Tryz.func155, Tryz.ntmps155
  go_wp2_with fail
  have KG1 := hid (World.grownBy_alloc w (.cells #[.int .u8 (op : Int), .int .u8 (a : Int), .int .u8 (b : Int), .int .u8 (c : Int), P0 fb, P0 tb, P0 eb] 186) none)
  have HX1 := hid (s7_new w op a b c fb tb eb)
  generalize hW : w.alloc (.cells #[.int .u8 (op : Int), .int .u8 (a : Int), .int .u8 (b : Int), .int .u8 (c : Int), P0 fb, P0 tb, P0 eb] 186) = w1 at *
  clear hW
  refine (HH1.out w1 KG1.out HX1.out).mono ?_
  rintro e w2 ⟨x, o, rfl, hS2, hX2⟩
  have HS2 := hid hS2
  have HX2 := hid hX2
  clear hS2 hX2
  obtain ⟨x0, x1, x2, x3, x4, x5, x6⟩ := s7_of HX2.out
  have lx := heap_lt HX2.out
  cases o with
  | true =>
    go_wp2_with fail
    refine (HH2.out x w2 _ HS2.out (World.grownBy_alloc _ _ _)).mono ?_
    rintro e w3 ⟨rfl, hR3⟩
    have HR3 := hid hR3
    clear hR3 x0 x1 x2 x3 x4 x5 x6
    go_wp2_with fail
    go_end0
    exact ⟨rfl, HR3.out⟩
  | false =>
    go_wp2_with fail
    first
      | (refine (HH3.out x w2 _ HS2.out (World.grownBy_alloc _ _ _)).mono ?_
         rintro e w3 ⟨rfl, hR3⟩
         have HR3 := hid hR3
         clear hR3 x0 x1 x2 x3 x4 x5 x6
         go_wp2_with fail
         go_end0
         exact ⟨rfl, HR3.out⟩)
      | trace_state
theorem told_none {kd : B.Kd} (v : B.V) (h : kd.cy = none) : B.told kd v = kd := by
  obtain ⟨on, cy, un, fo, cc⟩ := kd
  have h' : cy = none := h
  subst h'; rfl
theorem told_some {kd : B.Kd} {c : B.Cy} (v : B.V) (h : kd.cy = some c) : B.told kd v = ⟨kd.on, some ⟨(B.seen c.m c.st v).1, (B.seen c.m c.st v).2, c.nx⟩, kd.un, kd.fo, kd.cc⟩ := by
  unfold B.told; rw [h]; rfl
end Go.Proofs.YtnjiinbhbjpfkaaGreatDoor
namespace Go.Proofs.YtnjiinbhbjpfkaaGreatDoor.F
open Go.RowKit
theorem plc_put {w : World} {pb n p i : Nat} {on : Nat → Bool} {f : Fb} {M : Nat → List B.V} (v : B.V) (h : Plc w pb n on f M) (h1 : 1 ≤ p) (h2 : p ≤ n) (h3 : on p = true) (hi : i < (M p).length) :
    Plc ((w.setCell ⟨f.b p, i * 2, none⟩ (.int .i64 (v.1 : Int))).setCell ⟨f.b p, i * 2 + 1, none⟩ (.int .i64 v.2)) pb n on f (B.lay M p ((M p).set i v)) := by
  have hF := h.s p h1 h2 h3
  obtain ⟨cur, hV, _⟩ := id hF
  obtain ⟨curP, hP, _⟩ := id h.p
  have e2 : pb ≠ f.b p := cells_ne hP hV (by decide)
  refine ⟨((h.p.off e2).off e2).congr (fun j _ => ?_), fun q a b c => ?_, h.i, fun q a => ?_, fun q a h0 => ?_⟩
  · unfold plcP
    by_cases e : j / 3 + 1 = p
    · rw [e, B.lay_at]; simp
    · rw [B.lay_off _ _ _ _ e]
  · by_cases e : q = p
    · subst e
      rw [B.lay_at]
      simp only [List.length_set]
      refine (hF.reg i v).congr (fun j _ => ?_)
      have hs : ∀ x, B.set (slots M q) i v x = slots (B.lay M q ((M q).set i v)) q x := by
        intro x
        unfold slots
        rw [B.lay_at, List.getD_eq_getElem?_getD, List.getElem?_set]
        by_cases ex : x = i
        · subst ex; rw [B.set_at, if_pos rfl, if_pos hi]; rfl
        · rw [B.set_off _ _ _ _ ex, if_neg (fun h => ex h.symm), List.getD_eq_getElem?_getD]
      unfold regP
      rw [hs]
    · rw [B.lay_off _ _ _ _ e]
      have hne : f.b q ≠ f.b p := fun he => e (h.i q p a b h1 h2 c h3 he)
      have := ((h.s q a b c).off (o := i * 2) (v := .int .i64 (v.1 : Int)) hne).off (o := i * 2 + 1) (v := .int .i64 v.2) hne
      refine this.congr (fun j _ => ?_)
      unfold regP slots
      rw [B.lay_off _ _ _ _ e]
  · by_cases e : q = p
    · subst e; rw [B.lay_at]; simpa using h.l q a
    · rw [B.lay_off _ _ _ _ e]; exact h.l q a
  · by_cases e : q = p
    · subst e; rw [B.lay_at]; simpa using h.k q a h0
    · rw [B.lay_off _ _ _ _ e]; exact h.k q a h0
set_option maxRecDepth 100000 in
set_option maxHeartbeats 4000000 in
theorem setSlot_any (sb pb eb n nr k i : Nat) (x : Int) (v : B.V) (kd : B.Kd) (vb : Vs) (s : B.St) (w : World) (hS : Str w sb pb eb n kd vb s.2.2) (hH : B.Held kd nr n s) (hn : n ≤ 200) (hk : k < n) (hr : B.Reach nr s (k + 1)) (hi : i < (s.2.2 (k + 1)).length) :
    Calls Tryz.prog 160 #[P0 sb, vA (k + 1, x), .int .i64 i, vA v] w fun e w' => e = .returned (.tuple #[]) ∧ ∃ vb', Str w' sb pb eb n (B.told kd ((s.2.2 (k + 1)).getD i (0, 0))) vb' (B.lay s.2.2 (k + 1) ((s.2.2 (k + 1)).set i v)) ∧ Only (Own n kd vb) w w' ∧ Grew n kd vb (B.told kd ((s.2.2 (k + 1)).getD i (0, 0))) vb' w.heap.size ∧ vb'.f = vb.f := by
  have KS := hid hS
  have HH := hid hH
  have hkd := (B.reach_kd hH hr).1
  have HR := hid hr
  have h0 := hS.c0
  have c2 := hS.cells.2.1
  have ls := heap_lt hS.b
  have lp := hS.p.p.lt
  have p2 := hS.p.p.cell (k * 3 + 2) (by omega)
  rw [plc_2, hkd] at p2
  have hsl : slV true (vb.f.b (k + 1)) (s.2.2 (k + 1)).length = .slice (some ⟨vb.f.b (k + 1), 0, none⟩) (s.2.2 (k + 1)).length (s.2.2 (k + 1)).length := rfl
  rw [hsl] at p2
  have hF := hS.p.s (k + 1) (by omega) (by omega) hkd
  have lf := hF.lt
  have HF := hid hF
  have HPL := hid (place_any k x (by omega))
  have hl8 := hS.p.l _ hkd
  have HI := hid (And.intro hkd hi)
  have hk2 : (k : Int) < (n : Int) := by omega
  have hi2 : (i : Int) < ((s.2.2 (k + 1)).length : Int) := by omega
  obtain ⟨s0, f0⟩ := hF.cells (i * 2) (by omega)
  obtain ⟨s1, f1⟩ := hF.cells (i * 2 + 1) (by omega)
  rw [regP_0] at s0
  rw [regP_1] at s1
  have HOV : Hid ((slots s.2.2 (k + 1) i) = (s.2.2 (k + 1)).getD i (0, 0)) := rfl
  have hgo := B.held_get hH hr i
  have hvo : ((s.2.2 (k + 1)).getD i (0, 0)).1 ≠ 0 → ((s.2.2 (k + 1)).getD i (0, 0)).1 ≤ n := fun h0 => (B.reach_kd hH (hgo.2 h0)).2.2
  have HVO := hid hvo
  generalize hov : slots s.2.2 (k + 1) i = o at *
  have HOE : Hid ((s.2.2 (k + 1)).getD i (0, 0) = o) := HOV.out.symm
  clear hS hH hr hsl hF hgo hvo hov HOV
  generalize hml : (s.2.2 (k + 1)).length = m at *
  have HML := hid hml
  clear hml
  go_enter Tryz.func160, Tryz.ntmps160
  go_wp2_with fail
  generalize hW : (w.alloc (.cells #[.int .i64 ((k : Int) + 1), .int .i64 x] 149)).alloc (.cells #[.int .i64 (v.1 : Int), .int .i64 v.2] 149) = w1
  have KG1 : Hid (w.grownBy w1 none) := by rw [← hW]; exact grown_alloc (World.grownBy_alloc _ _ _) _
  have hv1 : w1.heap[w.heap.size + 1]? = some (.cells #[.int .i64 (v.1 : Int), .int .i64 v.2] 149 (0, 0)) := by
    rw [← hW]
    have := heap_alloc_new (w.alloc (.cells #[.int .i64 ((k : Int) + 1), .int .i64 x] 149)) (.cells #[.int .i64 (v.1 : Int), .int .i64 v.2] 149)
    simpa using this
  have hv0 : w1.heap[w.heap.size]? = some (.cells #[.int .i64 ((k : Int) + 1), .int .i64 x] 149 (0, 0)) := by
    rw [← hW, Below.heap_alloc _ _ _ (by simp)]; exact heap_alloc_new w _
  clear hW
  have HV1 := hid hv1
  have a0 : w1.cell? ⟨w.heap.size, 0, none⟩ = some (.int .i64 ((k : Int) + 1)) := by simp [World.cell?, hv0]
  have a1 : w1.cell? ⟨w.heap.size, 1, none⟩ = some (.int .i64 x) := by simp [World.cell?, hv0]
  have lv := heap_lt hv0
  have hz1 := KG1.out.size
  have ls1 : sb < w1.heap.size := by omega
  have d0 := (grown_cell KG1.out (a := ⟨sb, 0, none⟩) ls).1.trans h0
  have HP2 := hid p2
  clear hv0 hv1 h0 p2
  go_cut [8] from 9 to 19 (fun y wx => y = .pointer (some ⟨vb.f.b (k + 1), i * 2, none⟩) ∧ Hid (w.grownBy wx none) ∧ Hid (wx.heap[w.heap.size + 1]? = some (.cells #[.int .i64 (v.1 : Int), .int .i64 v.2] 149 (0, 0))))
  case first =>
    go_region_with (go_at_call 201; refine (HPL.out _).mono ?_; rintro e w2 ⟨rfl, hg2⟩; have HG2 : Hid (w1.grownBy w2 none) := ⟨hg2.os, hg2.tape, hg2.output, hg2.size, hg2.block⟩; have HG2' := hid (grown_trans KG1.out HG2.out); have d2 := (grown_cell HG2.out (a := ⟨sb, 0, none⟩) ls1).1.trans d0; have ls2 : sb < w2.heap.size := Nat.lt_of_lt_of_le ls1 HG2.out.size; have lp2 : pb < w2.heap.size := Nat.lt_of_lt_of_le lp HG2'.out.size; have q2 := (grown_cell HG2'.out (a := ⟨pb, k * 3 + 2, none⟩) lp).1.trans HP2.out; clear hg2)
    all_goals
      go_wp2_with fail
      go_meet
      case rel => exact ⟨rfl, HG2', grown_heap HG2.out HV1.out (by intro e; cases e)⟩
  case rest =>
    obtain ⟨rfl, HG3, HV3⟩ := hcut
    have hz3 := HG3.out.size
    have e2 := (grown_cell HG3.out (a := ⟨sb, 2, none⟩) ls).1.trans c2
    have t0 := (grown_cell HG3.out (a := ⟨vb.f.b (k + 1), i * 2, none⟩) lf).1.trans s0
    have t1 := (grown_cell HG3.out (a := ⟨vb.f.b (k + 1), i * 2 + 1, none⟩) lf).1.trans s1
    have z0 := (grown_cell HG3.out (a := ⟨vb.f.b (k + 1), i * 2, none⟩) lf).2.trans f0
    have z1 := (grown_cell HG3.out (a := ⟨vb.f.b (k + 1), i * 2 + 1, none⟩) lf).2.trans f1
    have ls3 : sb < wc.heap.size := by omega
    have lf3 : vb.f.b (k + 1) < wc.heap.size := by omega
    have u0 : wc.cell? ⟨w.heap.size + 1, 0, none⟩ = some (.int .i64 (v.1 : Int)) := by have := HV3.out; simp [World.cell?, this]
    have u1 : wc.cell? ⟨w.heap.size + 1, 1, none⟩ = some (.int .i64 v.2) := by have := HV3.out; simp [World.cell?, this]
    have lu := heap_lt HV3.out
    clear a0 a1 d0 c2 s0 s1 f0 f1
    have HS3 := hid (KS.out.kept HG3.out)
    have hfO : Own n kd vb (vb.f.b (k + 1)) := Or.inl ⟨k + 1, by omega, by omega, HI.out.1, rfl⟩
    have HFO := hid hfO
    rcases hcy : kd.cy with _ | c
    · rw [cyV_none hcy] at e2
      have HCY := hid hcy
      clear hcy hfO
      go_wp2_with fail
      go_end0
      refine ⟨rfl, vb, ?_, only_setCell (only_setCell (only_none HG3.out) (Or.inl HFO.out) _) (Or.inl HFO.out) _, ?_, rfl⟩
      · rw [told_none _ HCY.out]
        have hne := HS3.out.sb_ne.2 _ HFO.out
        exact ⟨((Below.heap_setCell _ _ _ _ (fun e => hne.1 e.symm)).trans (Below.heap_setCell _ _ _ _ (fun e => hne.1 e.symm))).trans HS3.out.b, plc_put v HS3.out.p (by omega) (by omega) HI.out.1 (by rw [HML.out]; exact HI.out.2), fun c hc => by rw [HCY.out] at hc; cases hc⟩
      · rw [told_none _ HCY.out]; exact Grew.refl _ _ _ _
    · rw [cyV_some hcy] at e2
      have HCY := hid hcy
      clear hcy hfO
      obtain ⟨_, T, _, hSn⟩ := HH.out.h3 c HCY.out
      have hlen : c.st.length ≤ 200 := Nat.le_trans hSn.len hn
      have HRE := hid (fun w' (h : Cym w' vb.cb vb.rd sb n vb.ad vb.cap c) => reach_any vb.cb vb.rd sb n vb.ad vb.cap c o w' h (by have := HVO.out; rw [HOE.out] at this; exact this) hn hlen)
      have HC3 : Hid (Cym wc.drew vb.cb vb.rd sb n vb.ad vb.cap c) := (HS3.out.c c HCY.out).block (fun _ _ => rfl)
      have HCB : Hid (∀ y, CyB vb.cb vb.rd vb.ad y → Own n kd vb y) := fun y hy => Or.inr ⟨by rw [HCY.out]; rfl, hy⟩
      have nfC : ¬ CyB vb.cb vb.rd vb.ad (vb.f.b (k + 1)) := (plc_cyb HS3.out.p (HS3.out.c c HCY.out)).2 _ (by omega) (by omega) HI.out.1
      have nuC : ¬ CyB vb.cb vb.rd vb.ad (w.heap.size + 1) := fun h => by have := KS.out.lt _ (HCB.out _ h); omega
      have HNF := hid (And.intro nfC nuC)
      have HK : Hid (∀ w' : World, Only (CyB vb.cb vb.rd vb.ad) wc.drew w' → w'.cell? ⟨vb.f.b (k + 1), i * 2, none⟩ = some (.int .i64 (o.1 : Int)) ∧ w'.cell? ⟨vb.f.b (k + 1), i * 2 + 1, none⟩ = some (.int .i64 o.2) ∧ w'.frozen? ⟨vb.f.b (k + 1), i * 2, none⟩ = false ∧ w'.frozen? ⟨vb.f.b (k + 1), i * 2 + 1, none⟩ = false ∧ w'.cell? ⟨w.heap.size + 1, 0, none⟩ = some (.int .i64 (v.1 : Int)) ∧ w'.cell? ⟨w.heap.size + 1, 1, none⟩ = some (.int .i64 v.2) ∧ vb.f.b (k + 1) < w'.heap.size ∧ w.heap.size + 1 < w'.heap.size) := fun w' hO => by
        have hO' : Only (CyB vb.cb vb.rd vb.ad) wc w' := hO
        have := hO'.size
        exact ⟨(hO'.cell lf3 HNF.out.1).trans t0, (hO'.cell lf3 HNF.out.1).trans t1, (hO'.frozen lf3 HNF.out.1).trans z0, (hO'.frozen lf3 HNF.out.1).trans z1, (hO'.cell lu HNF.out.2).trans u0, (hO'.cell lu HNF.out.2).trans u1, by omega, by omega⟩
      clear hSn hlen nfC nuC
      go_wp2_with fail
      go_region_with (go_at_call 188; refine (HRE.out _ HC3.out).mono ?_; rintro e w4 ⟨rfl, ad2, cap2, h4, h5, h6⟩; obtain ⟨t0', t1', z0', z1', u0', u1', lf4, lu4⟩ := HK.out w4 h6; have HR4 := hid (And.intro h4 (And.intro h5 h6)); clear h4 h5 h6)
      all_goals
        go_wp2_with fail
        go_end0
        obtain ⟨h4, h5, h6⟩ := HR4.out
        have h6' : Only (CyB vb.cb vb.rd vb.ad) wc w4 := h6
        have hz4 := h6'.size
        have hs4 : w4.heap[sb]? = _ := (h6'.same ls3 (fun h => (KS.out.sb_ne.2 sb (HCB.out _ h)).1 rfl)).trans HS3.out.b
        have hne := KS.out.sb_ne.2 _ HFO.out
        have hP4 : Plc w4 pb n kd.on vb.f s.2.2 := by
          have := plc_cyb HS3.out.p (HS3.out.c c HCY.out)
          exact HS3.out.p.block (h6'.same HS3.out.p.p.lt this.1) (fun p a b d => h6'.same (HS3.out.p.s p a b d).lt (this.2 p a b d))
        have hnad : ∀ y, CyB vb.cb vb.rd ad2 y → y ≠ vb.f.b (k + 1) := fun y hy e => by
          rcases h4.cyb hy with h | h
          · exact HNF.out.1 (by rw [← e]; exact h)
          · have h' : wc.heap.size ≤ y := h
            omega
        refine ⟨rfl, { vb with ad := ad2, cap := cap2 }, ?_, ?_, ?_, rfl⟩
        · rw [HOE.out, told_some _ HCY.out]
          refine ⟨?_, plc_put v hP4 (by omega) (by omega) HI.out.1 (by rw [HML.out]; exact HI.out.2), fun c' hc => ?_⟩
          · refine ((Below.heap_setCell _ _ _ _ (fun e => hne.1 e.symm)).trans (Below.heap_setCell _ _ _ _ (fun e => hne.1 e.symm))).trans (hs4.trans ?_)
            rw [cyV_some HCY.out]; rfl
          · have e : (⟨(B.seen c.m c.st o).1, (B.seen c.m c.st o).2, c.nx⟩ : B.Cy) = c' := by injection hc
            subst e
            exact h5.block (fun y hy => (Below.heap_setCell _ _ _ _ (hnad y hy)).trans (Below.heap_setCell _ _ _ _ (hnad y hy)))
        · refine only_setCell (only_setCell ((only_none (S := Own n kd vb) HG3.out).trans h6' (fun y hy _ => HCB.out y hy)) (Or.inl HFO.out) _) (Or.inl HFO.out) _
        · intro y hy
          rcases hy with ⟨p, a, b, d, e⟩ | ⟨_, hy⟩
          · exact Or.inl (Or.inl ⟨p, a, b, d, e⟩)
          · rcases h4.cyb hy with h | h
            · exact Or.inl (HCB.out y h)
            · have h' : wc.heap.size ≤ y := h
              exact Or.inr (by omega)
set_option maxRecDepth 100000 in
set_option maxHeartbeats 2000000 in
theorem act11_any (op a b c fb tb eb cb L nx rb nr sb pb n nt : Nat) (back : Value) (kd : B.Kd) (vb : Vs) (s : B.St) (R : Nat → B.V) (w : World) (hF : Fr w fb cb L nx rb nr back R) (hS : Str w sb pb eb n kd vb s.2.2) (hH : B.Held kd nt n s) (hV : ∀ i, i < nr → B.Vok kd.on n (R i)) (hRr : ∀ i, i < nr → (R i).1 ≠ 0 → B.Reach nt s (R i).1) (hn : n ≤ 200) (ha : a < nr) (hb : b < nr) (hc : c < nr) (h26 : w.cell? ⟨eb, 27, none⟩ = some (P0 sb)) (le : eb < w.heap.size) (heO : ¬ Own n kd vb eb) :
    Calls Tryz.prog 102 #[stepV op a b c fb tb eb] w fun e w' => (okSlot vb.f s.2.2 (R a) (R b) ∧ e = .returned (.int .i64 0) ∧ ∃ vb', Str w' sb pb eb n (B.told kd ((s.2.2 (R a).1).getD (R b).2.toNat (0, 0))) vb' (B.lay s.2.2 (R a).1 ((s.2.2 (R a).1).set (R b).2.toNat (R c))) ∧ Only (Own n kd vb) w w' ∧ Grew n kd vb (B.told kd ((s.2.2 (R a).1).getD (R b).2.toNat (0, 0))) vb' w.heap.size ∧ vb'.f = vb.f) ∨ (¬ okSlot vb.f s.2.2 (R a) (R b) ∧ e = .returned (.int .i64 (slotWhy vb.f (R a) (R b))) ∧ w.grownBy w' none) := by
  have KF := hid hF
  have KS := hid hS
  have HH := hid hH
  have HV := hid hV
  have HRR := hid hRr
  have HEO := hid heO
  clear hF hS hH hV hRr heO
  go_enter Tryz.func102, Tryz.ntmps102
  go_wp2_with fail
  have HX1 := hid (s7_new w op a b c fb tb eb)
  have KG1 := hid (World.grownBy_alloc w (.cells #[.int .u8 (op : Int), .int .u8 (a : Int), .int .u8 (b : Int), .int .u8 (c : Int), P0 fb, P0 tb, P0 eb] 186) none)
  generalize hW : w.alloc (.cells #[.int .u8 (op : Int), .int .u8 (a : Int), .int .u8 (b : Int), .int .u8 (c : Int), P0 fb, P0 tb, P0 eb] 186) = w1 at *
  have hz1 : w1.heap.size = w.heap.size + 1 := by rw [← hW]; simp
  clear hW
  go_region_held3 (fun w' => w'.cell? ⟨w.heap.size, 0, none⟩ = some (.int .u8 (op : Int)) ∧ w'.cell? ⟨w.heap.size, 1, none⟩ = some (.int .u8 (a : Int)) ∧ w'.cell? ⟨w.heap.size, 2, none⟩ = some (.int .u8 (b : Int)) ∧ w'.cell? ⟨w.heap.size, 3, none⟩ = some (.int .u8 (c : Int)) ∧ w'.cell? ⟨w.heap.size, 4, none⟩ = some (P0 fb) ∧ w'.cell? ⟨w.heap.size, 5, none⟩ = some (P0 tb) ∧ w'.cell? ⟨w.heap.size, 6, none⟩ = some (P0 eb)) (first | exact s7_of HX1.out | exact s7_of HX2.out | exact s7_of HX3.out | exact s7_of HX4.out) (first | (go_at_call 98; refine (a_any op a b c fb tb eb cb L nx rb nr back R w1.drew (KF.out.kept (grown_drew KG1.out)).1 (KF.out.kept (grown_drew KG1.out)).2.1 ha).mono ?_; rintro e w2 ⟨rfl, hg2⟩; have KG2 : Hid (w.grownBy w2 none) := grown_trans (grown_drew KG1.out) hg2; have HX2 := hid (grown_out hg2 (show w1.drew.heap[w.heap.size]? = _ from HX1.out)); clear hg2) | (go_at_call 86; refine (b_any op a b c fb tb eb cb L nx rb nr back R w2 (KF.out.kept KG2.out).1 (KF.out.kept KG2.out).2.1 hb).mono ?_; rintro e w3 ⟨rfl, hg3⟩; have KG3 : Hid (w.grownBy w3 none) := grown_trans KG2.out hg3; have HX3 := hid (grown_out hg3 HX2.out); clear hg3) | (go_at_call 158; refine (slot_any op a b c fb tb eb sb pb n (R a) (R b) kd vb s.2.2 w3 (KS.out.kept KG3.out) hn (HV.out a ha) ((grown_cell KG3.out (a := ⟨eb, 27, none⟩) le).1.trans h26) (Nat.lt_of_lt_of_le le KG3.out.size)).mono ?_; rintro e w4 ⟨v, rfl, hg4, hsl⟩; have KG4 : Hid (w.grownBy w4 none) := grown_trans KG3.out hg4; have HX4 := hid (grown_out hg4 HX3.out); obtain ⟨pv, wy, rfl⟩ : ∃ (pv : Value) (wy : Int), v = .tuple #[pv, .int .i64 wy] := (by rcases hsl with ⟨_, h⟩ | ⟨_, h⟩; exact ⟨_, _, h⟩; exact ⟨_, _, h⟩); have HSL := hid hsl; clear hg4 hsl))
  all_goals
    rcases HSL.out with ⟨hok, he⟩ | ⟨hok, he⟩
    · have HOK := hid hok
      obtain ⟨o1, ok, o2, o3, o4⟩ := id hok
      have hp : 1 ≤ (R a).1 ∧ (R a).1 ≤ n ∧ kd.on (R a).1 = true := by
        rcases HV.out a ha with h | h
        · exact absurd h o1
        · exact ⟨h.1, h.2.1, h.2.2.1⟩
      injection he with he
      injection he with he
      injection he with he1 he2
      injection he2 with he2 _
      injection he2 with _ he2
      subst he1 he2
      obtain ⟨i, hi⟩ : ∃ i : Nat, (R b).2 = (i : Int) := ⟨(R b).2.toNat, by omega⟩
      obtain ⟨k, hk⟩ : ∃ k, (R a).1 = k + 1 := ⟨(R a).1 - 1, by omega⟩
      have hil : i < (s.2.2 (k + 1)).length := by rw [hi, hk] at o4; omega
      have hre : B.Reach nt s (k + 1) := by rw [← hk]; exact HRR.out a ha o1
      have hso : ∀ w' : World, w.grownBy w' none → Calls Tryz.prog 160 #[P0 sb, vA (R a), .int .i64 (R b).2, vA (R c)] w' fun e w'' => e = .returned (.tuple #[]) ∧ ∃ vb', Str w'' sb pb eb n (B.told kd ((s.2.2 (R a).1).getD (R b).2.toNat (0, 0))) vb' (B.lay s.2.2 (R a).1 ((s.2.2 (R a).1).set (R b).2.toNat (R c))) ∧ Only (Own n kd vb) w' w'' ∧ Grew n kd vb (B.told kd ((s.2.2 (R a).1).getD (R b).2.toNat (0, 0))) vb' w'.heap.size ∧ vb'.f = vb.f := by
        intro w' hg
        have e1 : R a = (k + 1, (R a).2) := Prod.ext hk rfl
        rw [hk, hi]
        have := setSlot_any sb pb eb n nt k i (R a).2 (R c) kd vb s w' (KS.out.kept hg) HH.out hn (by omega) hre hil
        rw [← e1] at this
        exact this
      have HSO := hid hso
      generalize hyy : (R b).2 = yy at *
      have HYY := hid hyy
      clear hyy
      clear hok ok o1 o2 o3 o4 hp hi hk hil hso hre
      obtain ⟨x0, x1, x2, x3, x4, x5, x6⟩ := s7_of HX4.out
      have lx := heap_lt HX4.out
      have hz4 := KG4.out.size
      have heO : ¬ Own n kd vb eb := HEO.out
      have HLO : Hid (∀ x, Own n kd vb x → x < w.heap.size) := KS.out.lt
      have nxO : ¬ Own n kd vb w.heap.size := fun h => by have := HLO.out _ h; omega
      have HS : Hid (∀ w' : World, Only (Own n kd vb) w4 w' → (w'.cell? ⟨w.heap.size, 0, none⟩ = some (.int .u8 (op : Int)) ∧ w'.cell? ⟨w.heap.size, 1, none⟩ = some (.int .u8 (a : Int)) ∧ w'.cell? ⟨w.heap.size, 2, none⟩ = some (.int .u8 (b : Int)) ∧ w'.cell? ⟨w.heap.size, 3, none⟩ = some (.int .u8 (c : Int)) ∧ w'.cell? ⟨w.heap.size, 4, none⟩ = some (P0 fb) ∧ w'.cell? ⟨w.heap.size, 5, none⟩ = some (P0 tb) ∧ w'.cell? ⟨w.heap.size, 6, none⟩ = some (P0 eb) ∧ w'.cell? ⟨eb, 27, none⟩ = some (P0 sb))) :=
        fun w' hO => ⟨(hO.cell lx nxO).trans x0, (hO.cell lx nxO).trans x1, (hO.cell lx nxO).trans x2, (hO.cell lx nxO).trans x3, (hO.cell lx nxO).trans x4, (hO.cell lx nxO).trans x5, (hO.cell lx nxO).trans x6, (hO.cell (by omega) heO).trans ((grown_cell KG4.out (a := ⟨eb, 27, none⟩) le).1.trans h26)⟩
      have HSA := hid (HS.out w4.drew (only_refl _ _))
      have HF4 := hid (KF.out.kept KG4.out)
      go_wp2_with fail
      go_region_held3 (fun w' => w'.cell? ⟨w.heap.size, 0, none⟩ = some (.int .u8 (op : Int)) ∧ w'.cell? ⟨w.heap.size, 1, none⟩ = some (.int .u8 (a : Int)) ∧ w'.cell? ⟨w.heap.size, 2, none⟩ = some (.int .u8 (b : Int)) ∧ w'.cell? ⟨w.heap.size, 3, none⟩ = some (.int .u8 (c : Int)) ∧ w'.cell? ⟨w.heap.size, 4, none⟩ = some (P0 fb) ∧ w'.cell? ⟨w.heap.size, 5, none⟩ = some (P0 tb) ∧ w'.cell? ⟨w.heap.size, 6, none⟩ = some (P0 eb) ∧ w'.cell? ⟨eb, 27, none⟩ = some (P0 sb)) (first | exact HSA.out | exact HSB.out | exact HSC.out | exact HSD.out) (first | (go_at_call 98; refine (a_any op a b c fb tb eb cb L nx rb nr back R w4.drew (HF4.out.kept (grown_drew (grown_refl _ _))).1 (HF4.out.kept (grown_drew (grown_refl _ _))).2.1 ha).mono ?_; rintro e w5 ⟨rfl, hg5⟩; have KG5 : Hid (w4.grownBy w5 none) := ⟨hg5.os, hg5.tape, hg5.output, hg5.size, hg5.block⟩; have HSB := hid (HS.out w5 (only_none KG5.out)); clear hg5) | (go_at_call 94; refine (c_any op a b c fb tb eb cb L nx rb nr back R w5 (HF4.out.kept KG5.out).1 (HF4.out.kept KG5.out).2.1 hc).mono ?_; rintro e w6 ⟨rfl, hg6⟩; have KG6 : Hid (w4.grownBy w6 none) := grown_trans KG5.out hg6; have HSC := hid (HS.out w6 (only_none KG6.out)); clear hg6) | (go_at_call 160; refine (HSO.out w6 (grown_trans KG4.out KG6.out)).mono ?_; rintro e w7 ⟨rfl, vb', k1, k2, k3, k4⟩; have HSD := hid (HS.out w7 ((only_none (S := Own n kd vb) KG6.out).trans k2 (fun _ h _ => h))); have HR := hid (And.intro k1 (And.intro ((only_none (S := Own n kd vb) (grown_trans KG4.out KG6.out)).trans k2 (fun _ h _ => h)) k3)); have HK4 := hid k4; have hz6 : w.heap.size ≤ w6.heap.size := (grown_trans KG4.out KG6.out).size; clear k1 k2 k3 k4))
      all_goals
        go_wp2_with fail
        go_ret
        refine Or.inl ⟨HOK.out, rfl, vb', ?_, HR.out.2.1, fun x hx => ?_, HK4.out⟩
        · rw [HYY.out]; exact HR.out.1
        · rw [HYY.out] at hx
          exact (HR.out.2.2 x hx).imp id (fun h => Nat.le_trans hz6 h)
    · have hwl := slotWhy_le vb.f (R a) (R b)
      generalize hwy : slotWhy vb.f (R a) (R b) = why at *
      have HWY := hid hwy
      injection he with he
      injection he with he
      injection he with he1 he2
      injection he2 with he2 _
      injection he2 with _ he2
      subst he1 he2
      have HOK := hid hok
      have hne0 : ¬ ((why : Int) = 0) := by omega
      clear hok hwy hwl
      go_wp2_with fail
      go_ret
      exact Or.inr ⟨HOK.out, by rw [HWY.out]; rfl, KG4.out⟩
end Go.Proofs.YtnjiinbhbjpfkaaGreatDoor.F
