/-
  A new cell (slots, or a function) is laid at a free place, if need be behind a forced collection.
-/
import Derived.Test.YtnjiinbhbjpfkaaGreatDoorGateR
namespace Go.Proofs.YtnjiinbhbjpfkaaGreatDoor.F
open Go.RowKit
def Fb.put (f : Fb) (p vg t : Nat) : Fb := ⟨fun q => if q = p then vg else f.b q, fun q => if q = p then t else f.k q⟩
def Vs.put (vb : Vs) (p vg t : Nat) : Vs := { vb with f := vb.f.put p vg t }
def fnV (t : Nat) : Value := .int .i64 ((t - 1 : Nat) : Int)
theorem plc_new (kd : Nat → Bool) (vb : Fb) (M : Nat → List B.V) (k vg t j : Nat) (l : List B.V) :
    upd (upd (upd (plcP kd vb M) (k * 3) (kdV true t)) (k * 3 + 1) (fnV t)) (k * 3 + 2) (.slice (some ⟨vg, 0, none⟩) l.length l.length) j = plcP (B.mark kd (k + 1)) (vb.put (k + 1) vg t) (B.lay M (k + 1) (l)) j := by
  by_cases e2 : j = k * 3 + 2
  · subst e2; rw [upd_at, plc_2, B.mark_at, B.lay_at]; simp [slV, Fb.put]
  · rw [upd_off _ _ _ _ e2]
    by_cases e1 : j = k * 3 + 1
    · subst e1; rw [upd_at, plc_1, B.mark_at]; simp [fnN, fnV, Fb.put]
    · rw [upd_off _ _ _ _ e1]
      by_cases e0 : j = k * 3
      · subst e0; rw [upd_at, plc_0, B.mark_at]; simp [Fb.put]
      · rw [upd_off _ _ _ _ e0]
        have hne : j / 3 + 1 ≠ k + 1 := by omega
        unfold plcP
        rw [B.mark_off _ _ _ hne, B.lay_off _ _ _ _ hne]
        simp only [Fb.put, if_neg hne]
theorem plc_laid {w w' : World} {pb n k vg t : Nat} {l : List B.V} {on : Nat → Bool} {f : Fb} {M : Nat → List B.V} (h : Plc w pb n on f M) (hb : l.length ≤ 8) (ht : t ≠ 0 → l.length = 1) (hv : Full w' vg 149 (l.length * 2) (l.length * 2) (regP (fun i => l.getD i (0, 0)))) (hn : ∀ p, 1 ≤ p → p ≤ n → on p = true → f.b p ≠ vg)
    (hP : Full w' pb 228 (n * 3) (n * 3) (upd (upd (upd (plcP on f M) (k * 3) (kdV true t)) (k * 3 + 1) (fnV t)) (k * 3 + 2) (.slice (some ⟨vg, 0, none⟩) l.length l.length))) (hs : ∀ p, 1 ≤ p → p ≤ n → on p = true → w'.heap[f.b p]? = w.heap[f.b p]?) :
    Plc w' pb n (B.mark on (k + 1)) (f.put (k + 1) vg t) (B.lay M (k + 1) (l)) := by
  refine ⟨hP.congr (fun j _ => plc_new on f M k vg t j l), fun p a c d => ?_, fun p q a c d e g i j => ?_, fun p a => ?_, fun p a h0 => ?_⟩
  · by_cases e : p = k + 1
    · subst e
      simp only [Fb.put, if_true, B.lay_at]
      refine hv.congr (fun j _ => ?_)
      unfold regP slots
      rw [B.lay_at]
    · rw [B.mark_off _ _ _ e] at d
      simp only [Fb.put, if_neg e]
      unfold slots
      rw [B.lay_off _ _ _ _ e]
      exact (h.s p a c d).block (hs p a c d)
  · have j : (if p = k + 1 then vg else f.b p) = (if q = k + 1 then vg else f.b q) := j
    by_cases e1 : p = k + 1
    · by_cases e2 : q = k + 1
      · omega
      · rw [if_pos e1, if_neg e2] at j
        rw [B.mark_off _ _ _ e2] at i
        exact absurd j.symm (hn q d e i)
    · by_cases e2 : q = k + 1
      · rw [if_neg e1, if_pos e2] at j
        rw [B.mark_off _ _ _ e1] at g
        exact absurd j (hn p a c g)
      · rw [if_neg e1, if_neg e2] at j
        rw [B.mark_off _ _ _ e1] at g
        rw [B.mark_off _ _ _ e2] at i
        exact h.i p q a c d e g i j
  · by_cases e : p = k + 1
    · subst e; rw [B.lay_at]; exact hb
    · rw [B.mark_off _ _ _ e] at a
      rw [B.lay_off _ _ _ _ e]
      exact h.l p a
  · have h0 : (if p = k + 1 then t else f.k p) ≠ 0 := h0
    by_cases e : p = k + 1
    · subst e; rw [B.lay_at]; rw [if_pos rfl] at h0; exact ht h0
    · rw [B.mark_off _ _ _ e] at a
      rw [if_neg e] at h0
      rw [B.lay_off _ _ _ _ e]
      exact h.k p a h0
def KdF (nr n : Nat) (s : B.St) (kd kd1 : B.Kd) : Prop :=
  kd1 = kd ∨ ((∀ p, 1 ≤ p → p ≤ n → kd.on p = true) ∧ kd1.cy = none ∧ kd1.un = kd.un ∧ kd1.fo = kd.fo + 1 ∧ kd1.cc = kd.cc ∧ ∀ p, 1 ≤ p → p ≤ n → (kd1.on p = true ↔ B.Reach nr s p))
def LayP (w w' : World) (sb pb eb n nr vg t : Nat) (l : List B.V) (kd : B.Kd) (vb : Vs) (s : B.St) (e : Ending) : Prop :=
  Only (Sbk sb pb n kd vb) w w' ∧
  ((∃ (k : Nat) (kd1 : B.Kd), k < n ∧ kd1.on (k + 1) = false ∧ B.Held kd1 nr n s ∧ KdF nr n s kd kd1 ∧ e = .returned (.tuple #[.agg #[.int .i64 ((k : Int) + 1), .int .i64 0], .bool true]) ∧ Str w' sb pb eb n (B.laid kd1 (k + 1)) (vb.put (k + 1) vg t) (B.lay s.2.2 (k + 1) (l)) ∧ ∀ x, Own n (B.laid kd1 (k + 1)) (vb.put (k + 1) vg t) x → Own n kd vb x ∨ x = vg) ∨
   (e = .returned (.tuple #[.agg #[.int .i64 0, .int .i64 0], .bool false]) ∧ (∀ p, 1 ≤ p → p ≤ n → B.Reach nr s p) ∧ ∃ kd1, Str w' sb pb eb n kd1 vb s.2.2 ∧ B.Held kd1 nr n s ∧ ∀ x, Own n kd1 vb x → Own n kd vb x))
theorem own_laid {n k vg t x : Nat} {kd : B.Kd} {vb : Vs} (h : Own n (B.laid kd (k + 1)) (vb.put (k + 1) vg t) x) : Own n kd vb x ∨ x = vg := by
  rcases h with ⟨p, a, b, d, e⟩ | ⟨hc, hk⟩
  · by_cases hp : p = k + 1
    · subst hp
      right
      have e' : (if k + 1 = k + 1 then vg else vb.f.b (k + 1)) = x := e
      rw [if_pos rfl] at e'; exact e'.symm
    · left
      have d' : B.mark kd.on (k + 1) p = true := d
      rw [B.mark_off _ _ _ hp] at d'
      have e' : (if p = k + 1 then vg else vb.f.b p) = x := e
      rw [if_neg hp] at e'
      exact Or.inl ⟨p, a, b, d', e'⟩
  · left
    refine Or.inr ⟨?_, hk⟩
    have hc' : (kd.cy.map (fun c : B.Cy => (⟨B.mark c.m (k + 1), c.st, c.nx⟩ : B.Cy))).isSome = true := hc
    rw [Option.isSome_map] at hc'; exact hc'
theorem cyV_laid (kd : B.Kd) (vb : Vs) (p vg t : Nat) : cyV (B.laid kd p) (vb.put p vg t) = cyV kd vb := by
  unfold cyV B.laid Vs.put
  simp only [Option.isSome_map]
set_option maxRecDepth 100000 in
set_option maxHeartbeats 4000000 in
theorem lay_any (Q : Nat → Prop) (eb sb pb n nr vg t : Nat) (l : List B.V) (kd : B.Kd) (vb : Vs) (s : B.St) (w : World) (hR : Rts w Q eb sb pb n nr kd vb s) (hv : Full w vg 149 (l.length * 2) (l.length * 2) (regP (fun i => l.getD i (0, 0)))) (hb8 : l.length ≤ 8) (ht : t ≠ 0 → l.length = 1) (hnv : ¬ Own n kd vb vg) :
    Calls Tryz.prog 199 #[P0 sb, .agg #[kdV true t, fnV t, .slice (some ⟨vg, 0, none⟩) l.length l.length]] w fun e w' => LayP w w' sb pb eb n nr vg t l kd vb s e := by
  have KR := hid hR
  have hn := hR.n2
  have lp : pb < w.heap.size := hR.hs.p.p.lt
  have ls : sb < w.heap.size := heap_lt hR.hs.b
  have HV := hid hv
  have HNV := hid hnv
  have HT := hid ht
  obtain ⟨ya, hya⟩ : ∃ y : Int, kdV true t = .int .u8 y := ⟨_, rfl⟩
  obtain ⟨yb, hyb⟩ : ∃ y : Int, fnV t = .int .i64 y := ⟨_, rfl⟩
  rw [hya, hyb]
  have HYA := hid hya
  have HYB := hid hyb
  clear hR hv hnv ht hya hyb
  go_enter Tryz.func199, Tryz.ntmps199
  go_wp2_with fail
  generalize hW : (w.alloc (.cells #[.int .u8 ya, .int .i64 yb, .slice (some ⟨vg, 0, none⟩) l.length l.length] 228)).alloc (.cells #[.int .i64 0, .int .i64 0] 149) = w1
  have KG1 : Hid (w.grownBy w1 none) := by rw [← hW]; exact grown_alloc (World.grownBy_alloc _ _ _) _
  have x0 : w1.heap[w.heap.size]? = some (.cells #[.int .u8 ya, .int .i64 yb, .slice (some ⟨vg, 0, none⟩) l.length l.length] 228 (0, 0)) := by rw [← hW, Below.heap_alloc _ _ _ (by simp)]; exact heap_alloc_new w _
  have x1 : w1.heap[w.heap.size + 1]? = some (.cells #[.int .i64 0, .int .i64 0] 149 (0, 0)) := by
    rw [← hW]
    have := heap_alloc_new (w.alloc (.cells #[.int .u8 ya, .int .i64 yb, .slice (some ⟨vg, 0, none⟩) l.length l.length] 228)) (.cells #[.int .i64 0, .int .i64 0] 149)
    simpa using this
  have HX1 := hid (And.intro x0 x1)
  have KR1 := hid (KR.out.kept KG1.out)
  clear hW x0 x1
  refine (freePlace_any sb pb n kd.on vb.f s.2.2 w1 KR1.out.hs.c0 KR1.out.hs.p hn).mono ?_
  rintro e w2 ⟨hg2, ⟨k, hk, hkd, rfl⟩ | ⟨hfull, rfl⟩⟩
  · have KG2 := hid (grown_trans KG1.out hg2)
    have HS2 := hid (KR1.out.hs.kept hg2)
    have HX2 := hid (And.intro (grown_heap hg2 HX1.out.1 (by intro e; cases e)) (grown_heap hg2 HX1.out.2 (by intro e; cases e)))
    have HQ : Hid (k < n ∧ kd.on (k + 1) = false ∧ B.Held kd nr n s ∧ KdF nr n s kd kd) := ⟨hk, hkd, KR.out.hh, Or.inl rfl⟩
    have KO2 : Hid (Only (Sbk sb pb n kd vb) w w2) := only_none KG2.out
    have HV2 := hid (HV.out.block (KG2.out.block vg HV.out.lt (by intro e; cases e)))
    have HOW : Hid (∀ x, Own n kd vb x → Own n kd vb x) := fun _ h => h
    clear hg2 hkd HX1 KR1 KG1
    obtain ⟨p0, z0⟩ := HS2.out.p.p.cells (k * 3) (by omega)
    obtain ⟨p1, z1⟩ := HS2.out.p.p.cells (k * 3 + 1) (by omega)
    obtain ⟨p2, z2⟩ := HS2.out.p.p.cells (k * 3 + 2) (by omega)
    generalize plcP kd.on vb.f s.2.2 (k * 3) = y0 at p0
    generalize plcP kd.on vb.f s.2.2 (k * 3 + 1) = y1 at p1
    generalize plcP kd.on vb.f s.2.2 (k * 3 + 2) = y2 at p2
    have s0 := HS2.out.c0
    have lsw := heap_lt HS2.out.b
    have lpw := HS2.out.p.p.lt
    have hki : (k : Int) < (n : Int) := by omega
    have hk0 : ¬ ((k : Int) < 0) := by omega
    have hx0 := HX2.out.1
    have hx1 := HX2.out.2
    have b0 : w2.cell? ⟨w.heap.size, 0, none⟩ = some (.int .u8 ya) := by simp [World.cell?, hx0]
    have b1 : w2.cell? ⟨w.heap.size, 1, none⟩ = some (.int .i64 yb) := by simp [World.cell?, hx0]
    have b2 : w2.cell? ⟨w.heap.size, 2, none⟩ = some (.slice (some ⟨vg, 0, none⟩) l.length l.length) := by simp [World.cell?, hx0]
    have lb0 := heap_lt hx0
    have lb1 := heap_lt hx1
    have np : ¬ w.heap.size + 1 = pb := by omega
    have np' : ¬ w.heap.size = pb := by omega
    have np2 : ¬ pb = w.heap.size + 1 := by omega
    have np3 : ¬ pb = w.heap.size := by omega
    clear hx0
    go_wp2_with fail
    go_region
    generalize hw5 : World.drew (((w2.setCell ⟨pb, k * 3, none⟩ (.int .u8 ya)).setCell ⟨pb, k * 3 + 1, none⟩ (.int .i64 yb)).setCell ⟨pb, k * 3 + 2, none⟩ (.slice (some ⟨vg, 0, none⟩) l.length l.length)) = w5
    have hb5 : ∀ x, x ≠ pb → w5.heap[x]? = w2.heap[x]? := by
      intro x hx
      rw [← hw5]
      show (World.setCell _ _ _).heap[x]? = _
      rw [Below.heap_setCell _ _ _ _ hx, Below.heap_setCell _ _ _ _ hx, Below.heap_setCell _ _ _ _ hx]
    have HP5 : Hid (Full w5 pb 228 (n * 3) (n * 3) (upd (upd (upd (plcP kd.on vb.f s.2.2) (k * 3) (.int .u8 ya)) (k * 3 + 1) (.int .i64 yb)) (k * 3 + 2) (.slice (some ⟨vg, 0, none⟩) l.length l.length))) := by
      show Full _ _ _ _ _ _
      rw [← hw5]
      exact ((HS2.out.p.p.upd (k * 3) (.int .u8 ya)).upd (k * 3 + 1) (.int .i64 yb)).upd (k * 3 + 2) (.slice (some ⟨vg, 0, none⟩) l.length l.length)
    have KO5 : Hid (Only (Sbk sb pb n kd vb) w w5) := by
      show Only _ _ _
      rw [← hw5]
      exact only_drew (only_setCell (only_setCell (only_setCell KO2.out (Or.inl (Or.inr (Or.inl rfl))) _) (Or.inl (Or.inr (Or.inl rfl))) _) (Or.inl (Or.inr (Or.inl rfl))) _)
    have hz5 : w5.heap.size = w2.heap.size := by rw [← hw5]; simp [World.setCell, World.drew]
    have HX5 := hid ((hb5 _ np).trans hx1)
    have HSB5 := hid ((hb5 sb HS2.out.sb_ne.1).trans HS2.out.b)
    have HB5 := hid hb5
    have HV5 := hid (HV2.out.block (hb5 vg (by obtain ⟨cu, h, _⟩ := HV2.out; obtain ⟨cu', h', _⟩ := HS2.out.p.p; exact cells_ne h h' (by decide))))
    have KP5 : Hid (Plc w5 pb n (B.mark kd.on (k + 1)) (vb.f.put (k + 1) vg t) (B.lay s.2.2 (k + 1) (l))) := plc_laid HS2.out.p hb8 HT.out HV5.out (fun p a c d e => HNV.out (by rw [← e]; exact HOW.out _ (Or.inl ⟨p, a, c, d, rfl⟩))) (by rw [HYA.out, HYB.out]; exact HP5.out) (fun p a c d => hb5 _ (HS2.out.sb_ne.2 _ (Or.inl ⟨p, a, c, d, rfl⟩)).2)
    clear hw5 hb5 hx1 p0 p1 p2 z0 z1 z2 s0 lsw lpw b0 b1 b2 lb0 lb1
    go_wp2_with fail
    refine (at_any k (by omega) _).mono ?_
    rintro e w6 ⟨rfl, hg6⟩
    have hsb6 := grown_heap hg6 HSB5.out (by intro e; cases e)
    have hx6 := grown_heap hg6 HX5.out (by intro e; cases e)
    have KG6 := hid hg6
    have HSB6 := hid hsb6
    have d2 : w6.cell? ⟨sb, 2, none⟩ = some (cyV kd vb) := by simp [World.cell?, hsb6]
    have r0 : w6.cell? ⟨w.heap.size + 1, 0, none⟩ = some (.int .i64 0) := by simp [World.cell?, hx6]
    have r1 : w6.cell? ⟨w.heap.size + 1, 1, none⟩ = some (.int .i64 0) := by simp [World.cell?, hx6]
    have t0 : w6.frozen? ⟨w.heap.size + 1, 0, none⟩ = false := by simp [World.frozen?, hx6]
    have t1 : w6.frozen? ⟨w.heap.size + 1, 1, none⟩ = false := by simp [World.frozen?, hx6]
    have lsb6 := heap_lt hsb6
    have lx6 := heap_lt hx6
    clear hg6 hsb6 hx6
    rcases hcy : kd.cy with _ | c
    · rw [cyV_none hcy] at d2
      have HCY := hid hcy
      clear hcy
      go_wp2_with fail
      refine bodyPost_ret (v := .tuple #[.agg #[.int .i64 ((k : Int) + 1), .int .i64 0], .bool true]) (by simp [results, Tryz.results199, go_sem, r0, r1, lx6]) rfl ?_
      have hbW : ∀ x, x ≠ w.heap.size + 1 → x < w6.heap.size → (((w6.setCell ⟨w.heap.size + 1, 0, none⟩ (.int .i64 ((k : Int) + 1))).setCell ⟨w.heap.size + 1, 1, none⟩ (.int .i64 0)).alloc (.cells #[.int .i64 ((k : Int) + 1), .int .i64 0] 149)).heap[x]? = w6.heap[x]? := fun x hx hl => by
        rw [Below.heap_alloc _ _ _ (by simp [World.setCell]; exact hl), Below.heap_setCell _ _ _ _ hx, Below.heap_setCell _ _ _ _ hx]
      have hlt : ∀ x, Own n kd vb x → x < w.heap.size := fun x h => KR.out.hs.lt x (HOW.out x h)
      have hz6 := KG6.out.size
      have hz2 := KO2.out.size
      have lvg := HV.out.lt
      refine ⟨?_, Or.inl ⟨k, kd, HQ.out.1, HQ.out.2.1, HQ.out.2.2.1, HQ.out.2.2.2, rfl, ⟨?_, ?_, fun c hc => ?_⟩, fun x hx => (own_laid hx).imp (HOW.out x) id⟩⟩
      · exact only_alloc (only_setCell (only_setCell (KO5.out.then0 KG6.out) (Or.inr (by simp)) _) (Or.inr (by simp)) _) _
      · rw [cyV_laid]
        exact (hbW sb (by omega) (by omega)).trans HSB6.out
      · refine (KP5.out.kept KG6.out).block (hbW pb np2 (by omega)) (fun p a c d => ?_)
        by_cases e : p = k + 1
        · simp only [Fb.put, if_pos e]; exact hbW vg (by omega) (by omega)
        · simp only [Fb.put, if_neg e]
          rw [B.mark_off _ _ _ e] at d
          have := hlt _ (Or.inl ⟨p, a, c, d, rfl⟩)
          exact hbW _ (by omega) (by omega)
      · have hc' : kd.cy.map (fun c : B.Cy => (⟨B.mark c.m (k + 1), c.st, c.nx⟩ : B.Cy)) = some c := hc
        rw [HCY.out] at hc'; cases hc'
    · rw [cyV_some hcy] at d2
      have HCY := hid hcy
      clear hcy
      have hC6 : Cym w6 vb.cb vb.rd sb n vb.ad vb.cap c := ((HS2.out.c c HCY.out).block (fun x hx => HB5.out x (HS2.out.sb_ne.2 x (Or.inr ⟨by rw [HCY.out]; rfl, hx⟩)).2)).kept KG6.out
      have HC6 := hid hC6
      have hlt : ∀ x, Own n kd vb x → x < w.heap.size := fun x h => KR.out.hs.lt x (HOW.out x h)
      have HLT := hid hlt
      have hz6 := KG6.out.size
      have hz2 := KO2.out.size
      have lrd : vb.rd < w.heap.size := hlt _ (Or.inr ⟨by rw [HCY.out]; rfl, Or.inr (Or.inl rfl)⟩)
      have HX6 := hid (grown_heap KG6.out HX5.out (by intro e; cases e))
      have HC7 : Hid (Cym (w6.alloc (.cells #[.int .i64 ((k : Int) + 1), .int .i64 0] 149)).drew vb.cb vb.rd sb n vb.ad vb.cap c) := (hC6.kept (World.grownBy_alloc w6 (.cells #[.int .i64 ((k : Int) + 1), .int .i64 0] 149) none)).block (fun _ _ => rfl)
      have HK8 : Hid (∀ w8 : World, (w6.alloc (.cells #[.int .i64 ((k : Int) + 1), .int .i64 0] 149)).drew.grownBy w8 (some vb.rd) → w6.grownBy w8 (some vb.rd) ∧ w8.cell? ⟨w.heap.size + 1, 0, none⟩ = some (.int .i64 0) ∧ w8.cell? ⟨w.heap.size + 1, 1, none⟩ = some (.int .i64 0) ∧ w8.frozen? ⟨w.heap.size + 1, 0, none⟩ = false ∧ w8.frozen? ⟨w.heap.size + 1, 1, none⟩ = false ∧ w.heap.size + 1 < w8.heap.size ∧ w8.cell? ⟨w6.heap.size, 0, none⟩ = some (.int .i64 ((k : Int) + 1)) ∧ w8.cell? ⟨w6.heap.size, 1, none⟩ = some (.int .i64 0) ∧ w6.heap.size < w8.heap.size) := by
        intro w8 hg8
        have hg8' : w6.grownBy w8 (some vb.rd) := grown_trans (World.grownBy_alloc w6 (.cells #[.int .i64 ((k : Int) + 1), .int .i64 0] 149) _) ⟨hg8.os, hg8.tape, hg8.output, hg8.size, hg8.block⟩
        have hx8 := grown_heap hg8' HX6.out (by intro e; injection e with e; omega)
        have hz8 : w6.heap.size + 1 ≤ w8.heap.size := by have := hg8.size; simpa [World.drew] using this
        have hn8 : w8.heap[w6.heap.size]? = some (.cells #[.int .i64 ((k : Int) + 1), .int .i64 0] 149 (0, 0)) := (hg8.block w6.heap.size (by simp [World.drew]) (by intro e; injection e with e; omega)).trans (heap_alloc_new w6 _)
        exact ⟨hg8', by simp [World.cell?, hx8], by simp [World.cell?, hx8], by simp [World.frozen?, hx8], by simp [World.frozen?, hx8], heap_lt hx8, by simp [World.cell?, hn8], by simp [World.cell?, hn8], by omega⟩
      clear hC6 hlt
      go_wp2_with fail
      go_region_with (go_at_call 221; refine (keepc_any vb.cb vb.rd sb n k vb.ad vb.cap c 0 _ HC7.out hk hn).mono ?_; rintro e w8 ⟨rfl, hC8, hg8⟩; obtain ⟨hg8', q0, q1, v0, v1, lx8, n0, n1, lv8⟩ := HK8.out w8 hg8; have HG8 := hid hg8'; have HC8 := hid hC8; clear hg8 hg8' hC8)
      all_goals
        go_wp2_with fail
        refine bodyPost_ret (v := .tuple #[.agg #[.int .i64 ((k : Int) + 1), .int .i64 0], .bool true]) (by simp [results, Tryz.results199, go_sem, q0, q1]) rfl ?_
        have hbW : ∀ x, x ≠ w.heap.size + 1 → ((w8.setCell ⟨w.heap.size + 1, 0, none⟩ (.int .i64 ((k : Int) + 1))).setCell ⟨w.heap.size + 1, 1, none⟩ (.int .i64 0)).heap[x]? = w8.heap[x]? := fun x hx => by
          rw [Below.heap_setCell _ _ _ _ hx, Below.heap_setCell _ _ _ _ hx]
        have hb8 : ∀ x, x < w6.heap.size → x ≠ vb.rd → w8.heap[x]? = w6.heap[x]? := fun x hx hn => HG8.out.block x hx (by intro e; injection e with e; exact hn e)
        have lvg := HV.out.lt
        have hrd : ∀ (x : Nat) (cur : Array Value) (T : TypeId), w6.heap[x]? = some (.cells cur T (0, 0)) → T ≠ 4 → x ≠ vb.rd := fun x cur T hx hT => by
          obtain ⟨cu, h, _⟩ := HC6.out.r
          exact cells_ne hx h hT
        refine ⟨?_, Or.inl ⟨k, kd, HQ.out.1, HQ.out.2.1, HQ.out.2.2.1, HQ.out.2.2.2, rfl, ⟨?_, ?_, fun c' hc => ?_⟩, fun x hx => (own_laid hx).imp (HOW.out x) id⟩⟩
        · refine only_setCell (only_setCell ((KO5.out.then0 KG6.out).then HG8.out (Or.inl (Or.inr (Or.inr (HOW.out _ (Or.inr ⟨by rw [HCY.out]; rfl, Or.inr (Or.inl rfl)⟩)))))) (Or.inr (by simp)) _) (Or.inr (by simp)) _
        · rw [cyV_laid]
          exact ((hbW sb (by omega)).trans (hb8 sb (by omega) (hrd _ _ _ HSB6.out (by decide)))).trans HSB6.out
        · have hP6 := KP5.out.kept KG6.out
          refine hP6.block ((hbW pb np2).trans (hb8 pb (by omega) ?_)) (fun p a c d => ?_)
          · obtain ⟨cu, h, _⟩ := hP6.p; exact hrd _ _ _ h (by decide)
          · obtain ⟨cu, h, _⟩ := hP6.s p a c d
            have hl : (vb.f.put (k + 1) vg t).b p < w.heap.size := by
              show (if p = k + 1 then vg else vb.f.b p) < w.heap.size
              by_cases e : p = k + 1
              · rw [if_pos e]; exact lvg
              · rw [if_neg e]
                rw [B.mark_off _ _ _ e] at d
                exact HLT.out _ (Or.inl ⟨p, a, c, d, rfl⟩)
            exact (hbW _ (by omega)).trans (hb8 _ (by omega) (hrd _ _ _ h (by decide)))
        · have hc' : kd.cy.map (fun c : B.Cy => (⟨B.mark c.m (k + 1), c.st, c.nx⟩ : B.Cy)) = some c' := hc
          rw [HCY.out] at hc'
          have e : (⟨B.mark c.m (k + 1), c.st, c.nx⟩ : B.Cy) = c' := by injection hc'
          subst e
          exact HC8.out.block (fun x hx => hbW x (by
            have := HLT.out x (Or.inr ⟨by rw [HCY.out]; rfl, hx⟩)
            omega))
  · have KG2 := hid (grown_trans KG1.out hg2)
    have HX2 := hid (And.intro (grown_heap hg2 HX1.out.1 (by intro e; cases e)) (grown_heap hg2 HX1.out.2 (by intro e; cases e)))
    have KR2 := hid (KR1.out.kept hg2)
    have HFL := hid hfull
    clear hg2 hfull HX1 KR1 KG1
    go_wp2_with fail
    refine (force_any Q eb sb pb n nr kd vb s w2 KR2.out).mono ?_
    rintro e w3 ⟨rfl, on, hm, hdn, hup, hO3, hS3⟩
    have Km := hid (And.intro hm (And.intro hdn hup))
    have HS3 := hid hS3
    have KO3 : Hid (Only (Sbk sb pb n kd vb) w w3) := (only_none KG2.out).trans hO3 (fun x h _ => h.elim Or.inl (fun h => Or.inr (Or.inl h)))
    have hz2' := KG2.out.size
    have HX3 := hid (And.intro (hO3.block HX2.out.1 (by omega)) (hO3.block HX2.out.2 (by omega)))
    have HV3 : Hid (Full w3 vg 149 (l.length * 2) (l.length * 2) (regP (fun i => l.getD i (0, 0)))) := by
      have hv2 := HV.out.block (KG2.out.block vg HV.out.lt (by intro e; cases e))
      refine hv2.block (hO3.same hv2.lt ?_)
      obtain ⟨curV, hV', _⟩ := hv2
      rintro (h | h)
      · exact cells_ne hV' KR2.out.hs.b (by decide) h
      · obtain ⟨curP, hP', _⟩ := KR2.out.hs.p.p
        exact cells_ne hV' hP' (by decide) h
    have HOW : Hid (∀ x, Own n ⟨on, none, kd.un, kd.fo + 1, kd.cc⟩ vb x → Own n kd vb x) := fun x hx => by
      rcases hx with ⟨p, a, b, d, e⟩ | ⟨h, _⟩
      · exact Or.inl ⟨p, a, b, hdn p d, e⟩
      · cases h
    have HHK : Hid (B.Held ⟨on, none, kd.un, kd.fo + 1, kd.cc⟩ nr n s) := B.held_force KR.out.hh hup
    clear hm hdn hup hO3 hS3 HX2 KR2
    go_wp2_with fail
    refine (freePlace_any sb pb n on vb.f s.2.2 w3 HS3.out.c0 HS3.out.p hn).mono ?_
    rintro e w4 ⟨hg4, ⟨k, hk, hkd, rfl⟩ | ⟨hfull, rfl⟩⟩
    · generalize hkd1 : (⟨on, none, kd.un, kd.fo + 1, kd.cc⟩ : B.Kd) = kd1 at *
      have hon : kd1.on = on := by rw [← hkd1]
      have HCY1 : Hid (kd1.cy = none) := by show _ = _; rw [← hkd1]
      have HQ : Hid (k < n ∧ kd1.on (k + 1) = false ∧ B.Held kd1 nr n s ∧ KdF nr n s kd kd1) := ⟨hk, by rw [hon]; exact hkd, HHK.out, Or.inr ⟨HFL.out, HCY1.out, by rw [← hkd1], by rw [← hkd1], by rw [← hkd1], by rw [hon]; exact Km.out.1⟩⟩
      have HS4 := hid (HS3.out.kept hg4)
      have HX4 := hid (And.intro (grown_heap hg4 HX3.out.1 (by intro e; cases e)) (grown_heap hg4 HX3.out.2 (by intro e; cases e)))
      have KO4 := hid (KO3.out.then0 hg4)
      have HV4 := hid (HV3.out.block (hg4.block vg HV3.out.lt (by intro e; cases e)))
      clear hg4 hkd HX3 HS3 KO3 HV3 hkd1 hon Km KG2
      obtain ⟨p0, z0⟩ := HS4.out.p.p.cells (k * 3) (by omega)
      obtain ⟨p1, z1⟩ := HS4.out.p.p.cells (k * 3 + 1) (by omega)
      obtain ⟨p2, z2⟩ := HS4.out.p.p.cells (k * 3 + 2) (by omega)
      generalize plcP kd1.on vb.f s.2.2 (k * 3) = y0 at p0
      generalize plcP kd1.on vb.f s.2.2 (k * 3 + 1) = y1 at p1
      generalize plcP kd1.on vb.f s.2.2 (k * 3 + 2) = y2 at p2
      have s0 := HS4.out.c0
      have lsw := heap_lt HS4.out.b
      have lpw := HS4.out.p.p.lt
      have hki : (k : Int) < (n : Int) := by omega
      have hk0 : ¬ ((k : Int) < 0) := by omega
      have hx0 := HX4.out.1
      have hx1 := HX4.out.2
      have b0 : w4.cell? ⟨w.heap.size, 0, none⟩ = some (.int .u8 ya) := by simp [World.cell?, hx0]
      have b1 : w4.cell? ⟨w.heap.size, 1, none⟩ = some (.int .i64 yb) := by simp [World.cell?, hx0]
      have b2 : w4.cell? ⟨w.heap.size, 2, none⟩ = some (.slice (some ⟨vg, 0, none⟩) l.length l.length) := by simp [World.cell?, hx0]
      have lb0 := heap_lt hx0
      have lb1 := heap_lt hx1
      have np : ¬ w.heap.size + 1 = pb := by omega
      have np' : ¬ w.heap.size = pb := by omega
      have np2 : ¬ pb = w.heap.size + 1 := by omega
      have np3 : ¬ pb = w.heap.size := by omega
      clear hx0
      go_wp2_with fail
      go_region
      generalize hw5 : World.drew (((w4.setCell ⟨pb, k * 3, none⟩ (.int .u8 ya)).setCell ⟨pb, k * 3 + 1, none⟩ (.int .i64 yb)).setCell ⟨pb, k * 3 + 2, none⟩ (.slice (some ⟨vg, 0, none⟩) l.length l.length)) = w5
      have hb5 : ∀ x, x ≠ pb → w5.heap[x]? = w4.heap[x]? := by
        intro x hx
        rw [← hw5]
        show (World.setCell _ _ _).heap[x]? = _
        rw [Below.heap_setCell _ _ _ _ hx, Below.heap_setCell _ _ _ _ hx, Below.heap_setCell _ _ _ _ hx]
      have HP5 : Hid (Full w5 pb 228 (n * 3) (n * 3) (upd (upd (upd (plcP kd1.on vb.f s.2.2) (k * 3) (.int .u8 ya)) (k * 3 + 1) (.int .i64 yb)) (k * 3 + 2) (.slice (some ⟨vg, 0, none⟩) l.length l.length))) := by
        show Full _ _ _ _ _ _
        rw [← hw5]
        exact ((HS4.out.p.p.upd (k * 3) (.int .u8 ya)).upd (k * 3 + 1) (.int .i64 yb)).upd (k * 3 + 2) (.slice (some ⟨vg, 0, none⟩) l.length l.length)
      have KO5 : Hid (Only (Sbk sb pb n kd vb) w w5) := by
        show Only _ _ _
        rw [← hw5]
        exact only_drew (only_setCell (only_setCell (only_setCell KO4.out (Or.inl (Or.inr (Or.inl rfl))) _) (Or.inl (Or.inr (Or.inl rfl))) _) (Or.inl (Or.inr (Or.inl rfl))) _)
      have hz5 : w5.heap.size = w4.heap.size := by rw [← hw5]; simp [World.setCell, World.drew]
      have HX5 := hid ((hb5 _ np).trans hx1)
      have HSB5 := hid ((hb5 sb HS4.out.sb_ne.1).trans HS4.out.b)
      have HB5 := hid hb5
      have HV5 := hid (HV4.out.block (hb5 vg (by obtain ⟨cu, h, _⟩ := HV4.out; obtain ⟨cu', h', _⟩ := HS4.out.p.p; exact cells_ne h h' (by decide))))
      have KP5 : Hid (Plc w5 pb n (B.mark kd1.on (k + 1)) (vb.f.put (k + 1) vg t) (B.lay s.2.2 (k + 1) (l))) := plc_laid HS4.out.p hb8 HT.out HV5.out (fun p a c d e => HNV.out (by rw [← e]; exact HOW.out _ (Or.inl ⟨p, a, c, d, rfl⟩))) (by rw [HYA.out, HYB.out]; exact HP5.out) (fun p a c d => hb5 _ (HS4.out.sb_ne.2 _ (Or.inl ⟨p, a, c, d, rfl⟩)).2)
      clear hw5 hb5 hx1 p0 p1 p2 z0 z1 z2 s0 lsw lpw b0 b1 b2 lb0 lb1
      go_wp2_with fail
      refine (at_any k (by omega) _).mono ?_
      rintro e w6 ⟨rfl, hg6⟩
      have hsb6 := grown_heap hg6 HSB5.out (by intro e; cases e)
      have hx6 := grown_heap hg6 HX5.out (by intro e; cases e)
      have KG6 := hid hg6
      have HSB6 := hid hsb6
      have d2 : w6.cell? ⟨sb, 2, none⟩ = some (cyV kd1 vb) := by simp [World.cell?, hsb6]
      have r0 : w6.cell? ⟨w.heap.size + 1, 0, none⟩ = some (.int .i64 0) := by simp [World.cell?, hx6]
      have r1 : w6.cell? ⟨w.heap.size + 1, 1, none⟩ = some (.int .i64 0) := by simp [World.cell?, hx6]
      have t0 : w6.frozen? ⟨w.heap.size + 1, 0, none⟩ = false := by simp [World.frozen?, hx6]
      have t1 : w6.frozen? ⟨w.heap.size + 1, 1, none⟩ = false := by simp [World.frozen?, hx6]
      have lsb6 := heap_lt hsb6
      have lx6 := heap_lt hx6
      clear hg6 hsb6 hx6
      have HCY := HCY1
      rw [cyV_none HCY1.out] at d2
      go_wp2_with fail
      refine bodyPost_ret (v := .tuple #[.agg #[.int .i64 ((k : Int) + 1), .int .i64 0], .bool true]) (by simp [results, Tryz.results199, go_sem, r0, r1, lx6]) rfl ?_
      have hbW : ∀ x, x ≠ w.heap.size + 1 → x < w6.heap.size → (((w6.setCell ⟨w.heap.size + 1, 0, none⟩ (.int .i64 ((k : Int) + 1))).setCell ⟨w.heap.size + 1, 1, none⟩ (.int .i64 0)).alloc (.cells #[.int .i64 ((k : Int) + 1), .int .i64 0] 149)).heap[x]? = w6.heap[x]? := fun x hx hl => by
        rw [Below.heap_alloc _ _ _ (by simp [World.setCell]; exact hl), Below.heap_setCell _ _ _ _ hx, Below.heap_setCell _ _ _ _ hx]
      have hlt : ∀ x, Own n kd1 vb x → x < w.heap.size := fun x h => KR.out.hs.lt x (HOW.out x h)
      have hz6 := KG6.out.size
      have hz2 := KO4.out.size
      have lvg := HV.out.lt
      refine ⟨?_, Or.inl ⟨k, kd1, HQ.out.1, HQ.out.2.1, HQ.out.2.2.1, HQ.out.2.2.2, rfl, ⟨?_, ?_, fun c hc => ?_⟩, fun x hx => (own_laid hx).imp (HOW.out x) id⟩⟩
      · exact only_alloc (only_setCell (only_setCell (KO5.out.then0 KG6.out) (Or.inr (by simp)) _) (Or.inr (by simp)) _) _
      · rw [cyV_laid]
        exact (hbW sb (by omega) (by omega)).trans HSB6.out
      · refine (KP5.out.kept KG6.out).block (hbW pb np2 (by omega)) (fun p a c d => ?_)
        by_cases e : p = k + 1
        · simp only [Fb.put, if_pos e]; exact hbW vg (by omega) (by omega)
        · simp only [Fb.put, if_neg e]
          rw [B.mark_off _ _ _ e] at d
          have := hlt _ (Or.inl ⟨p, a, c, d, rfl⟩)
          exact hbW _ (by omega) (by omega)
      · have hc' : kd1.cy.map (fun c : B.Cy => (⟨B.mark c.m (k + 1), c.st, c.nx⟩ : B.Cy)) = some c := hc
        rw [HCY.out] at hc'; cases hc'
    · have KO4 := hid (KO3.out.then0 hg4)
      have hx1 := grown_heap hg4 HX3.out.2 (by intro e; cases e)
      have r0 : w4.cell? ⟨w.heap.size + 1, 0, none⟩ = some (.int .i64 0) := by simp [World.cell?, hx1]
      have r1 : w4.cell? ⟨w.heap.size + 1, 1, none⟩ = some (.int .i64 0) := by simp [World.cell?, hx1]
      have t0 : w4.frozen? ⟨w.heap.size + 1, 0, none⟩ = false := by simp [World.frozen?, hx1]
      have t1 : w4.frozen? ⟨w.heap.size + 1, 1, none⟩ = false := by simp [World.frozen?, hx1]
      have lb1 := heap_lt hx1
      have HQ := hid (And.intro Km.out hfull)
      have HS4 := hid (HS3.out.kept hg4)
      clear hg4 hx1 hfull
      go_wp2_with fail
      refine bodyPost_ret (v := .tuple #[.agg #[.int .i64 0, .int .i64 0], .bool false]) (by simp [results, Tryz.results199, go_sem, r0, r1]) rfl ?_
      have hlt : ∀ x, Own n ⟨on, none, kd.un, kd.fo + 1, kd.cc⟩ vb x → x < w.heap.size := fun x h => KR.out.hs.lt x (HOW.out x h)
      refine ⟨?_, Or.inr ⟨rfl, fun p a c => (HQ.out.1.1 p a c).1 (HQ.out.2 p a c), _, HS4.out.block ?_ ?_ (fun x hx => ?_), HHK.out, HOW.out⟩⟩
      · repeat (first | exact KO4.out | refine only_setCell ?_ (Or.inr (by simp)) _)
      · rw [Below.heap_setCell _ _ _ _ (by show sb ≠ w.heap.size + 1; omega), Below.heap_setCell _ _ _ _ (by show sb ≠ w.heap.size + 1; omega)]
      · rw [Below.heap_setCell _ _ _ _ (by show pb ≠ w.heap.size + 1; omega), Below.heap_setCell _ _ _ _ (by show pb ≠ w.heap.size + 1; omega)]
      · have := hlt x hx
        rw [Below.heap_setCell _ _ _ _ (by show x ≠ w.heap.size + 1; omega), Below.heap_setCell _ _ _ _ (by show x ≠ w.heap.size + 1; omega)]
abbrev Ins := Nat × Nat × Nat × Nat
def okS (s : Pl) (x y : B.V) : Prop := x.1 ≠ 0 ∧ s.ck x.1 = 0 ∧ y.1 = 0 ∧ 0 ≤ y.2 ∧ y.2 < ((s.M x.1).length : Int)
def whyS (s : Pl) (x y : B.V) : Nat := if x.1 = 0 ∨ s.ck x.1 ≠ 0 then 2 else if y.1 ≠ 0 then 1 else 3
def madeR (p : Prm) (s : Pl) (t a ty : Nat) (l : List B.V) (s' : Pl) : Prop :=
  (∃ (c : Nat) (kd1 : B.Kd), 1 ≤ c ∧ c ≤ p.n ∧ kd1.on c = false ∧ B.HeldL kd1 p.n (rootsL p s) s.M ∧ KdF (rootsL p s).length p.n (B.stL (rootsL p s) s.M) s.kd kd1 ∧ s' = (s.newS kd1 c ty l).setF t (topN s t) ((topF s t).set a (c, 0))) ∨
  ((∀ c, 1 ≤ c → c ≤ p.n → B.RchL (rootsL p s) s.M c) ∧ ∃ kd1, B.HeldL kd1 p.n (rootsL p s) s.M ∧ s' = (s.kdS kd1).spend t)
def twoR (s : Pl) (t o a b c : Nat) (why : Int) (s' : Pl) : Prop :=
  (twoN s t b c ∧ why = 0 ∧ s' = numS s t a (arith o ((topF s t).R b).2 ((topF s t).R c).2)) ∨ (¬ twoN s t b c ∧ why = 1 ∧ s' = s)
def instR (p : Prm) (s : Pl) (t : Nat) (k : Ins) (why : Int) (s' : Pl) : Prop :=
  match k.1 with
  | 0 => why = 0 ∧ s' = numS s t k.2.1 (B.wide k.2.2.1 k.2.2.2)
  | 1 => why = 0 ∧ s' = s.setF t (topN s t) ((topF s t).set k.2.1 ((topF s t).R k.2.2.1))
  | 2 => twoR s t 2 k.2.1 k.2.2.1 k.2.2.2 why s'
  | 3 => twoR s t 3 k.2.1 k.2.2.1 k.2.2.2 why s'
  | 4 => twoR s t 4 k.2.1 k.2.2.1 k.2.2.2 why s'
  | 5 => twoR s t 5 k.2.1 k.2.2.1 k.2.2.2 why s'
  | 6 => why = 0 ∧ s' = numS s t k.2.1 (if (topF s t).R k.2.2.1 = (topF s t).R k.2.2.2 then 1 else 0)
  | 7 => why = 0 ∧ s' = s.setF t (topN s t) { topF s t with nx := 256 * k.2.2.1 + k.2.2.2 }
  | 8 => why = 0 ∧ s' = s.setF t (topN s t) { topF s t with nx := if (topF s t).R k.2.1 = (0, 0) then 256 * k.2.2.1 + k.2.2.2 else (topF s t).nx }
  | 9 => why = 0 ∧ madeR p s t k.2.1 0 (List.replicate k.2.2.1 (0, 0)) s'
  | 10 => (okS s ((topF s t).R k.2.2.1) ((topF s t).R k.2.2.2) ∧ why = 0 ∧ s' = s.setF t (topN s t) ((topF s t).set k.2.1 ((s.M ((topF s t).R k.2.2.1).1).getD ((topF s t).R k.2.2.2).2.toNat (0, 0)))) ∨ (¬ okS s ((topF s t).R k.2.2.1) ((topF s t).R k.2.2.2) ∧ why = (whyS s ((topF s t).R k.2.2.1) ((topF s t).R k.2.2.2) : Nat) ∧ s' = s)
  | 11 => (okS s ((topF s t).R k.2.1) ((topF s t).R k.2.2.1) ∧ why = 0 ∧ s' = s.putS ((topF s t).R k.2.1).1 ((topF s t).R k.2.2.1).2.toNat ((topF s t).R k.2.2.2)) ∨ (¬ okS s ((topF s t).R k.2.1) ((topF s t).R k.2.2.1) ∧ why = (whyS s ((topF s t).R k.2.1) ((topF s t).R k.2.2.1) : Nat) ∧ s' = s)
  | 12 => why = 0 ∧ madeR p s t k.2.1 (k.2.2.1 + 1) [(topF s t).R k.2.2.2] s'
  | 13 => why = callR (fnOf s ((topF s t).R k.2.2.1)).2.2 (s.T t).fr.length ∧ s' = callS s t k
  | 14 => why = 0 ∧ s' = s.back t ((topF s t).R k.2.1)
  | 15 => why = spawnR (fnOf s ((topF s t).R k.2.2.1)).2.2 s.lv.length p.mt ∧ s' = spawnS p s t k
  | 16 => why = 0 ∧ s' = s.join1 2 0 t
  | 17 => why = (sleepS s t k.2.1).1 ∧ s' = (sleepS s t k.2.1).2
  | 18 => why = (awaitS s t k).1 ∧ s' = (awaitS s t k).2
  | 19 => why = (cancelS s t k.2.1).1 ∧ s' = (cancelS s t k.2.1).2
  | 20 => why = (emitS s t k.2.1).1 ∧ s' = (emitS s t k.2.1).2
  | 21 => why = (readS s t k).1 ∧ s' = (readS s t k).2
  | 22 => why = 0 ∧ s' = numS s t k.2.1 s.clk
  | _ => False
def okI (p : Prm) (f : Nat) (k : Ins) : Prop :=
  k.1 < 23 ∧ k.2.1 < 256 ∧ k.2.2.1 < 256 ∧ k.2.2.2 < 256 ∧ (k.1 ≠ 7 → k.1 ≠ 16 → k.2.1 < p.rg f) ∧ (k.1 = 1 ∨ (2 ≤ k.1 ∧ k.1 ≤ 6) ∨ k.1 = 10 ∨ k.1 = 11 ∨ k.1 = 13 ∨ k.1 = 15 ∨ k.1 = 18 ∨ k.1 = 21 → k.2.2.1 < p.rg f) ∧
  ((2 ≤ k.1 ∧ k.1 ≤ 6) ∨ k.1 = 10 ∨ k.1 = 11 ∨ k.1 = 12 ∨ k.1 = 13 ∨ k.1 = 15 → k.2.2.2 < p.rg f) ∧ (k.1 = 7 ∨ k.1 = 8 → 256 * k.2.2.1 + k.2.2.2 ≤ p.len f) ∧ (k.1 = 9 → k.2.2.1 ≤ 8) ∧ (k.1 = 12 → k.2.2.1 < p.nf)
structure Rn (p : Prm) (s : Pl) (t : Nat) : Prop where
  ok : Ok p s
  lv : t ∈ s.lv
  run : (s.T t).run = true
section
variable {p : Prm} {s : Pl} {t : Nat} (h : Rn p s t)
include h
theorem Rn.ht : isT s t := h.ok.lt t h.lv
theorem Rn.wh : (s.T t).wh = none := (h.ok.rn t h.ht h.run).1
theorem Rn.fw : FW p (s.T t).fr := h.ok.fw t h.lv trivial
theorem Rn.hi : topN s t < (s.T t).fr.length := by
  have : (s.T t).fr.length ≠ 0 := fun e => h.fw.n1 (List.length_eq_zero_iff.1 e)
  unfold topN; omega
theorem Rn.lf : (s.T t).lf = none := by
  cases hl : (s.T t).lf with
  | none => rfl
  | some k =>
    obtain ⟨x, y, e, _⟩ := h.ok.lf t h.ht (by rw [hl]; simp)
    rw [h.wh] at e; cases e
theorem Rn.inn : In s t := ⟨h.ht, h.hi⟩
theorem Rn.got {a : Nat} (ha : a < p.rg (topF s t).f) : PGot p s ((topF s t).R a) := PGot.root (Or.inl ⟨t, topN s t, a, h.lv, h.hi, ha, rfl⟩)
theorem Rn.ff : (topF s t).f < p.nf ∧ (topF s t).nx ≤ p.len (topF s t).f := h.fw.f _ h.hi
theorem Rn.reg (a : Nat) {v : B.V} (hv : PGot p s v) : Ok p (s.setF t (topN s t) ((topF s t).set a v)) := h.ok.reg h.lv trivial h.hi a hv
end
theorem got_slot {p : Prm} {s : Pl} {a : Nat} (ha : B.RchL (rootsL p s) s.M a) (i : Nat) : PGot p s ((s.M a).getD i (0, 0)) := by
  by_cases hi : i < (s.M a).length
  · refine Or.inr (Or.inr ⟨a, ha, ?_⟩)
    rw [List.getD_eq_getElem?_getD, List.getElem?_eq_getElem hi]
    exact List.getElem_mem hi
  · rw [List.getD_eq_getElem?_getD, List.getElem?_eq_none (by omega)]
    exact PGot.num 0
theorem fnOf_ok {p : Prm} {s : Pl} {X : Nat → Prop} (h : OkX p s X) {x : B.V} (hx : PGot p s x) (hf : (fnOf s x).2.2 = true) : (fnOf s x).1 < p.nf ∧ PGot p s (fnOf s x).2.1 := by
  by_cases e : x.1 = 0 ∨ s.ck x.1 = 0
  · unfold fnOf at hf
    rw [if_pos e] at hf; cases hf
  · have hv := h.vok hx
    have h0 : x.1 ≠ 0 := fun e' => e (Or.inl e')
    have hc : s.ck x.1 ≠ 0 := fun e' => e (Or.inr e')
    rcases hv with hv | ⟨v1, v2, v3, _⟩
    · exact absurd hv h0
    · have hk := h.fc x.1 v1 v2 v3
      unfold fnOf
      rw [if_neg e]
      exact ⟨by show s.ck x.1 - 1 < p.nf; omega, got_slot (B.Got.rch hx h0) 0⟩
theorem KdF.dn {p : Prm} {s : Pl} {kd1 : B.Kd} (h : KdF (rootsL p s).length p.n (B.stL (rootsL p s) s.M) s.kd kd1) (k : Nat) (k1 : 1 ≤ k) (k2 : k ≤ p.n) (hk : kd1.on k = true) : s.kd.on k = true := by
  rcases h with h | h
  · rw [← h]; exact hk
  · exact h.1 k k1 k2
theorem made_ok {p : Prm} {s : Pl} {t a ty : Nat} {l : List B.V} {s' : Pl} (h : Rn p s t) (hty : ty ≤ p.nf) (hl : ∀ v, v ∈ l → PGot p s v) (hm : madeR p s t a ty l s') : Ok p s' ∧ Go t 1 s s' := by
  rcases hm with ⟨c, kd1, h1, h2, h3, h4, h5, rfl⟩ | ⟨h1, kd1, h2, rfl⟩
  · exact ⟨h.ok.newS h.lv h4 h5.dn h1 h2 h3 hty hl, (Go.same rfl rfl rfl rfl).mono (by omega)⟩
  · have hk : Ok p (s.kdS kd1) := h.ok.kdS h2 (fun k k1 k2 _ => (B.rchL_kd h.ok.hl (h1 k k1 k2)).1)
    exact ⟨hk.spend h.lv, Go.tells (Or.inr rfl) h.lv rfl rfl rfl rfl⟩
theorem num_ok {p : Prm} {s : Pl} {t a : Nat} (h : Rn p s t) (x : Int) : Ok p (numS s t a x) ∧ Go t 1 s (numS s t a x) := ⟨h.reg a (PGot.num x), (Go.same rfl rfl rfl rfl).mono (by omega)⟩
theorem OkX.setTl {p : Prm} {s : Pl} {X : Nat → Prop} (h : OkX p s X) {t : Nat} (htl : t ∈ s.lv) (u : Int) : OkX p (s.setTl t u) X := by
  have ht := h.lt t htl
  have hw := fun a => setTl_wh s t u a
  refine h.line htl rfl (h.lw.setTl t u) (fun u e => setT_off _ _ e) (hw t).2.2.1 (fun _ _ _ _ h => Or.inl h) ⟨rfl, rfl, rfl, rfl, rfl, rfl, rfl, rfl⟩ (fun x y hx hxy => ?_) (fun hl => ?_) (fun hr => ?_)
  · rw [(hw t).1] at hx
    obtain ⟨k, k1, k2, k3⟩ := h.ww t ht x y hx hxy
    exact ⟨k, by rw [(hw t).2.1]; exact k1, k2, k3⟩
  · rw [(hw t).2.1] at hl
    obtain ⟨x, y, e, e2⟩ := h.lf t ht hl
    exact ⟨x, y, by rw [(hw t).1]; exact e, e2⟩
  · rw [(hw t).2.2.2] at hr
    rw [(hw t).1]
    exact (h.rn t ht hr).1
theorem nodup_mid {l : List Nat} {t : Nat} (k : Nat) (h : l.Nodup) (ht : t ∉ l) : (l.take k ++ t :: l.drop k).Nodup := by
  have hp : (l.take k ++ t :: l.drop k).Perm (t :: l) := by
    have := List.perm_middle (a := t) (l₁ := l.take k) (l₂ := l.drop k)
    rw [List.take_append_drop] at this
    exact this
  rw [hp.nodup_iff, List.nodup_cons]
  exact ⟨ht, h⟩
theorem mem_mid {l : List Nat} {t : Nat} (k a : Nat) : a ∈ l.take k ++ t :: l.drop k ↔ (a ∈ l ∨ a = t) := by
  have hp : (l.take k ++ t :: l.drop k).Perm (t :: l) := by
    have := List.perm_middle (a := t) (l₁ := l.take k) (l₂ := l.drop k)
    rw [List.take_append_drop] at this
    exact this
  rw [hp.mem_iff, List.mem_cons]
  exact Or.comm
theorem slept_ok {p : Prm} {s : Pl} {t : Nat} (h : Rn p s t) (u : Int) : Ok p (s.slept t u) ∧ Go t 1 s (s.slept t u) := by
  have h1 : Ok p (s.setTl t u) := h.ok.setTl h.lv u
  have hw1 : ((s.setTl t u).T t).wh = none := by rw [(setTl_wh s t u t).1]; exact h.wh
  have hl : lnok (s.setTl t u) 3 0 := Or.inr (Or.inl ⟨rfl, rfl⟩)
  have hnm : t ∉ s.q 3 0 := h1.lw.out hl (by rw [hw1]; intro e; cases e)
  refine ⟨h1.into h.lv hl (Or.inr rfl) (nodup_mid _ (h.ok.lw.c 3 0 hl) hnm) (fun a => ?_), (Go.same ?_ ?_ ?_ ?_).mono (by omega)⟩
  · rw [out1_none hw1]
    exact mem_mid _ a
  · show ((s.setTl t u).out1 t).ev = _
    rw [out1_none hw1]; rfl
  · show ((s.setTl t u).out1 t).lv = _
    rw [out1_none hw1]; rfl
  · show ((s.setTl t u).out1 t).nt = _
    rw [out1_none hw1]; rfl
  · show (((s.setTl t u).out1 t).setQ 3 0 ((s.q 3 0).take (plc (s.setTl t u) u) ++ t :: (s.q 3 0).drop (plc (s.setTl t u) u))).q 2 0 = _
    rw [setQ_off _ _ (by omega), out1_none hw1]; rfl
theorem wait_go {s : Pl} {x y t : Nat} {k : Ins} (hw : (s.T t).wh = none) (hx : x = 4 ∨ x = 5) : Go t 1 s (s.wait x y t k) := by
  obtain ⟨k1, _, _, _, _, _, _, _, k9, _⟩ := join1_st s x y t
  refine (Go.same k9 k1 (join1_nt s x y t) ?_).mono (by omega)
  exact join1_qo (s := s) (x := x) (y := y) (t := t) (by rw [hw]; intro e; cases e) (by omega)
theorem call_ok {p : Prm} {s : Pl} {t : Nat} {k : Ins} (h : Rn p s t) (ha : k.2.1 < p.rg (topF s t).f) (hb : k.2.2.1 < p.rg (topF s t).f) (hc : k.2.2.2 < p.rg (topF s t).f) : Ok p (callS s t k) ∧ Go t 1 s (callS s t k) := by
  unfold callS
  split
  · rename_i hh
    obtain ⟨f1, f2⟩ := fnOf_ok h.ok (h.got hb) hh.1
    exact ⟨h.ok.push h.wh (by have := h.fw.n2; have := hh.2; omega) (Or.inr h.fw) f1 (Nat.zero_le _) (fun _ => ha) (fun a _ => reg0_got (h.got hc) f2 a) (fun _ _ _ => trivial), (Go.same rfl rfl rfl rfl).mono (by omega)⟩
  · exact ⟨h.ok, (Go.same rfl rfl rfl rfl).mono (by omega)⟩
theorem spawn_ok {p : Prm} {s : Pl} {t : Nat} {k : Ins} (h : Rn p s t) (hn : s.nt + 1 ≤ 500000000) (hb : k.2.2.1 < p.rg (topF s t).f) (hc : k.2.2.2 < p.rg (topF s t).f) : Ok p (spawnS p s t k) ∧ Go t 1 s (spawnS p s t k) := by
  unfold spawnS
  split
  · rename_i hh
    obtain ⟨f1, f2⟩ := fnOf_ok h.ok (h.got hb) hh.1
    have hB := h.ok.born hn f1 (h.got hc) f2
    have hT := born_T s (fnOf s ((topF s t).R k.2.2.1)).1 ((topF s t).R k.2.2.2) (fnOf s ((topF s t).R k.2.2.1)).2.1 h.ht
    obtain ⟨b1, b2, _, _⟩ := born_st s (fnOf s ((topF s t).R k.2.2.1)).1 ((topF s t).R k.2.2.2) (fnOf s ((topF s t).R k.2.2.1)).2.1
    have hfr : frAt (s.born (fnOf s ((topF s t).R k.2.2.1)).1 ((topF s t).R k.2.2.2) (fnOf s ((topF s t).R k.2.2.1)).2.1) t (topN s t) = topF s t := frAt_fr (by rw [hT])
    have hq : (s.born (fnOf s ((topF s t).R k.2.2.1)).1 ((topF s t).R k.2.2.2) (fnOf s ((topF s t).R k.2.2.1)).2.1).q 2 0 = s.q 2 0 ++ [s.nt + 1] := by
      have := join1_q2 (s := s.more.push (s.nt + 1) ⟨(fnOf s ((topF s t).R k.2.2.1)).1, 0, reg0 ((topF s t).R k.2.2.2) (fnOf s ((topF s t).R k.2.2.1)).2.1, (0, 0, 0, 0)⟩) (t := s.nt + 1) (by
        rw [(push_wh _ _ _ _).1]
        have : s.more.T (s.nt + 1) = tsk0 := new_T1 s
        rw [this]
        intro e; cases e)
      refine this.trans ?_
      have : s.more.q 2 0 = s.q 2 0 := new_q s (a := 2) (b := 0) (fun e => by omega)
      show s.more.q 2 0 ++ _ = _
      rw [this]
    refine ⟨?_, Go.born b2 b1 (born_nt s _ _ _) ⟨_, hq⟩⟩
    have := hB.reg (t := t) (i := topN s t) (by rw [b1]; exact List.mem_append_left _ h.lv) trivial (by rw [hT]; exact h.hi) k.2.1 (v := (0, ((s.nt + 1 : Nat) : Int))) (PGot.num _)
    rw [hfr] at this
    exact this
  · exact ⟨h.ok, (Go.same rfl rfl rfl rfl).mono (by omega)⟩
theorem await_ok {p : Prm} {s : Pl} {t : Nat} {k : Ins} (h : Rn p s t) (ha : k.2.1 < p.rg (topF s t).f) : Ok p (awaitS s t k).2 ∧ Go t 1 s (awaitS s t k).2 := by
  have h0 : Ok p s ∧ Go t 1 s s := ⟨h.ok, (Go.same rfl rfl rfl rfl).mono (by omega)⟩
  unfold awaitS
  split
  · split
    · rename_i hh
      show Ok p (match findT s ((topF s t).R k.2.2.1).2 with | some u => s.wait 5 u t k | none => _) ∧ Go t 1 s (match findT s ((topF s t).R k.2.2.1).2 with | some u => s.wait 5 u t k | none => _)
      cases hf : findT s ((topF s t).R k.2.2.1).2 with
      | some u =>
        obtain ⟨u1, u2⟩ := findT_mem hf
        exact ⟨h.ok.wait h.lv trivial (Or.inr (Or.inr (Or.inr ⟨rfl, h.ok.lt u u1⟩))) (Or.inr rfl) (fun e => hh.2 (by rw [← u2, e.2])) ha, wait_go h.wh (Or.inr rfl)⟩
      | none =>
        refine ⟨h.reg k.2.1 ?_, (Go.same rfl rfl rfl rfl).mono (by omega)⟩
        generalize hj : ((topF s t).R k.2.2.1).2.toNat - 1 = j
        by_cases hl : j < s.out.length
        · rw [List.getD_eq_getElem?_getD, List.getElem?_eq_getElem hl]
          exact (h.ok.ok _ (List.getElem_mem hl)).elim (fun e => Or.inl e) (fun e => PGot.root (Or.inr e))
        · rw [List.getD_eq_getElem?_getD, List.getElem?_eq_none (by omega)]
          exact PGot.num 0
    · exact h0
  · exact h0
theorem cancel_ok {p : Prm} {s : Pl} {t a : Nat} (h : Rn p s t) : Ok p (cancelS s t a).2 ∧ Go t 1 s (cancelS s t a).2 := by
  have h0 : Ok p s ∧ Go t 1 s s := ⟨h.ok, (Go.same rfl rfl rfl rfl).mono (by omega)⟩
  unfold cancelS
  split
  · split
    · show Ok p (match findT s ((topF s t).R a).2 with | some u => s.leave u (0, -100) 4 0 | none => s) ∧ Go t 1 s (match findT s ((topF s t).R a).2 with | some u => s.leave u (0, -100) 4 0 | none => s)
      cases hf : findT s ((topF s t).R a).2 with
      | some u =>
        obtain ⟨u1, u2⟩ := findT_mem hf
        obtain ⟨k1, k2, k3⟩ := leave_st s u (0, -100) 4 0
        exact ⟨h.ok.leave u1 (fun _ _ => trivial) (PGot.num _) 4 0, Go.ends (Or.inr (Or.inr rfl)) u1 (h.ok.lt u u1) h.ok.nd k2 k1 k3 (fun e => absurd rfl e)⟩
      | none => exact h0
    · exact h0
  · exact h0
theorem read_ok {p : Prm} {s : Pl} {t : Nat} {k : Ins} (h : Rn p s t) (ha : k.2.1 < p.rg (topF s t).f) : Ok p (readS s t k).2 ∧ Go t 1 s (readS s t k).2 := by
  have h0 : Ok p s ∧ Go t 1 s s := ⟨h.ok, (Go.same rfl rfl rfl rfl).mono (by omega)⟩
  unfold readS
  split
  · split
    · rename_i hh
      generalize hz : ((topF s t).R k.2.2.1).2.toNat = z
      have hz4 : z < 4 := by omega
      show Ok p (match s.byt z with | x :: bs => (s.setB z bs).setF t (topN s t) ((topF s t).set k.2.1 (0, (x : Int))) | [] => s.wait 4 z t k) ∧ Go t 1 s (match s.byt z with | x :: bs => (s.setB z bs).setF t (topN s t) ((topF s t).set k.2.1 (0, (x : Int))) | [] => s.wait 4 z t k)
      cases hb : s.byt z with
      | nil => exact ⟨h.ok.wait h.lv trivial (Or.inr (Or.inr (Or.inl ⟨rfl, hz4⟩))) (Or.inl rfl) (by omega) ha, wait_go h.wh (Or.inl rfl)⟩
      | cons x bs =>
        have hbt := h.ok.bt z
        rw [hb] at hbt
        have h1 : Ok p (s.setB z bs) := h.ok.setB z bs ⟨by have := hbt.1; simp at this; omega, fun y hy => hbt.2 y (by simp [hy])⟩
        exact ⟨OkX.reg (s := s.setB z bs) h1 h.lv trivial h.hi k.2.1 (PGot.num _), (Go.same rfl rfl rfl rfl).mono (by omega)⟩
    · exact h0
  · exact h0
theorem inst_ok {p : Prm} {s s' : Pl} {t : Nat} {k : Ins} {why : Int} (h : Rn p s t) (hn : s.nt + 1 ≤ 500000000) (hk : okI p (topF s t).f k) (hi : instR p s t k why s') : Ok p s' ∧ Go t 1 s s' := by
  obtain ⟨op, a, b, c⟩ := k
  obtain ⟨k0, k1, k2, k3, k4, k5, k6, k7, k8, k9⟩ := hk
  simp only at k0 k1 k2 k3 k4 k5 k6 k7 k8 k9
  have h0 : Ok p s ∧ Go t 1 s s := ⟨h.ok, (Go.same rfl rfl rfl rfl).mono (by omega)⟩
  have htwo : ∀ o, twoR s t o a b c why s' → Ok p s' ∧ Go t 1 s s' := fun o ht => by
    rcases ht with ⟨_, _, rfl⟩ | ⟨_, _, rfl⟩
    · exact num_ok h _
    · exact h0
  have hc : op = 0 ∨ op = 1 ∨ op = 2 ∨ op = 3 ∨ op = 4 ∨ op = 5 ∨ op = 6 ∨ op = 7 ∨ op = 8 ∨ op = 9 ∨ op = 10 ∨ op = 11 ∨ op = 12 ∨ op = 13 ∨ op = 14 ∨ op = 15 ∨ op = 16 ∨ op = 17 ∨ op = 18 ∨ op = 19 ∨ op = 20 ∨ op = 21 ∨ op = 22 := by omega
  rcases hc with rfl | rfl | rfl | rfl | rfl | rfl | rfl | rfl | rfl | rfl | rfl | rfl | rfl | rfl | rfl | rfl | rfl | rfl | rfl | rfl | rfl | rfl | rfl
  · obtain ⟨_, rfl⟩ := hi; exact num_ok h _
  · obtain ⟨_, rfl⟩ := hi; exact ⟨h.reg a (h.got (k5 (by omega))), (Go.same rfl rfl rfl rfl).mono (by omega)⟩
  · exact htwo 2 hi
  · exact htwo 3 hi
  · exact htwo 4 hi
  · exact htwo 5 hi
  · obtain ⟨_, rfl⟩ := hi; exact num_ok h _
  · obtain ⟨_, rfl⟩ := hi
    exact ⟨h.ok.setF h.hi rfl rfl (k7 (by omega)) (fun e he => h.got he), (Go.same rfl rfl rfl rfl).mono (by omega)⟩
  · obtain ⟨_, rfl⟩ := hi
    refine ⟨h.ok.setF h.hi rfl rfl ?_ (fun e he => h.got he), (Go.same rfl rfl rfl rfl).mono (by omega)⟩
    show (if _ then _ else _) ≤ p.len (topF s t).f
    split
    · exact k7 (by omega)
    · exact h.ff.2
  · exact made_ok h (Nat.zero_le _) (fun v hv => by rw [List.eq_of_mem_replicate hv]; exact PGot.num 0) hi.2
  · rcases hi with ⟨ho, _, rfl⟩ | ⟨_, _, rfl⟩
    · exact ⟨h.reg a (got_slot (B.Got.rch (h.got (k5 (by omega))) ho.1) _), (Go.same rfl rfl rfl rfl).mono (by omega)⟩
    · exact h0
  · rcases hi with ⟨ho, _, rfl⟩ | ⟨_, _, rfl⟩
    · exact ⟨h.ok.putS (B.Got.rch (h.got (k4 (by omega) (by omega))) ho.1) (h.got (k6 (by omega))), (Go.same rfl rfl rfl rfl).mono (by omega)⟩
    · exact h0
  · exact made_ok h (k9 rfl) (fun v hv => by rw [List.mem_singleton.1 hv]; exact h.got (k6 (by omega))) hi.2
  · obtain ⟨_, rfl⟩ := hi
    exact call_ok (k := (13, a, b, c)) h (k4 (by omega) (by omega)) (k5 (by omega)) (k6 (by omega))
  · obtain ⟨_, rfl⟩ := hi
    exact ⟨h.ok.back h.lv h.wh (h.got (k4 (by omega) (by omega))), Go.back h.ok h.lv h.wh (h.got (k4 (by omega) (by omega)))⟩
  · obtain ⟨_, rfl⟩ := hi
    exact spawn_ok (k := (15, a, b, c)) h hn (k5 (by omega)) (k6 (by omega))
  · obtain ⟨_, rfl⟩ := hi
    obtain ⟨j1, _, _, _, _, _, _, _, j9, _⟩ := join1_st s 2 0 t
    exact ⟨h.ok.join1 h.lv, (Go.quiet j9 j1 (join1_nt s 2 0 t) ⟨[t], join1_q2 (by rw [h.wh]; intro e; cases e)⟩).mono (by omega)⟩
  · obtain ⟨_, rfl⟩ := hi
    show Ok p (sleepS s t a).2 ∧ Go t 1 s (sleepS s t a).2
    unfold sleepS
    split
    · exact slept_ok h _
    · exact h0
  · obtain ⟨_, rfl⟩ := hi
    exact await_ok (k := (18, a, b, c)) h (k4 (by omega) (by omega))
  · obtain ⟨_, rfl⟩ := hi
    exact cancel_ok h
  · obtain ⟨_, rfl⟩ := hi
    show Ok p (emitS s t a).2 ∧ Go t 1 s (emitS s t a).2
    unfold emitS
    split
    · exact ⟨h.ok.told 1 t _, Go.tells (Or.inl rfl) h.lv rfl rfl rfl rfl⟩
    · exact h0
  · obtain ⟨_, rfl⟩ := hi
    exact read_ok (k := (21, a, b, c)) h (k4 (by omega) (by omega))
  · obtain ⟨_, rfl⟩ := hi; exact num_ok h _
end Go.Proofs.YtnjiinbhbjpfkaaGreatDoor.F
