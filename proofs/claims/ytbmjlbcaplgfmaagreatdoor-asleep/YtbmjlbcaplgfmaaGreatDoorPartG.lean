/-
  A new cell is laid at a free place, if need be behind a collection.
-/
import Derived.Test.YtbmjlbcaplgfmaaGreatDoorPartF
import Derived.Test.YtbmjlbcaplgfmaaGreatDoorPartC
import Derived.Deep.RegionHeld3
import Derived.Test.YtbmjlbcaplgfmaaGreatDoorPartA
namespace Go.Proofs.YtbmjlbcaplgfmaaGreatDoor
open Go.RowKit

theorem plc_new (kd : Nat → Bool) (vb : Nat → Nat) (M : Nat → List B.V) (k vg b j : Nat) :
    upd (upd (upd (plcP kd vb M) (k * 3) (.int .u8 1)) (k * 3 + 1) (.int .i64 0)) (k * 3 + 2) (.slice (some ⟨vg, 0, none⟩) b b) j = plcP (B.mark kd (k + 1)) (fun p => if p = k + 1 then vg else vb p) (B.lay M (k + 1) (List.replicate b (0, 0))) j := by
  by_cases e2 : j = k * 3 + 2
  · subst e2; rw [upd_at, plc_2, B.mark_at, B.lay_at]; simp [slV]
  · rw [upd_off _ _ _ _ e2]
    by_cases e1 : j = k * 3 + 1
    · subst e1; rw [upd_at, plc_1]
    · rw [upd_off _ _ _ _ e1]
      by_cases e0 : j = k * 3
      · subst e0; rw [upd_at, plc_0, B.mark_at]; rfl
      · rw [upd_off _ _ _ _ e0]
        have hne : j / 3 + 1 ≠ k + 1 := by omega
        unfold plcP
        rw [B.mark_off _ _ _ hne, B.lay_off _ _ _ _ hne]
        simp only [if_neg hne]
/-- A new cell in the store. -/
theorem str_new {w w' : World} {sb pb eb n : Nat} {kd : Nat → Bool} {vb : Nat → Nat} {M : Nat → List B.V} (h : Str w sb pb eb n kd vb M) (k : Nat) (vg b : Nat) (hb : b ≤ 8) (hv : Full w vg 148 (b * 2) (b * 2) (regP (fun _ => (0, 0)))) (hn : ∀ p, 1 ≤ p → p ≤ n → kd p = true → vb p ≠ vg)
    (lim : Nat) (ls : sb < lim) (lv : vg < lim) (lb : ∀ p, 1 ≤ p → p ≤ n → kd p = true → vb p < lim) (h0 : ∀ x, x < lim → x ≠ pb → w'.heap[x]? = w.heap[x]?) (hP : Full w' pb 278 (n * 3) (n * 3) (upd (upd (upd (plcP kd vb M) (k * 3) (.int .u8 1)) (k * 3 + 1) (.int .i64 0)) (k * 3 + 2) (.slice (some ⟨vg, 0, none⟩) b b))) :
    Str w' sb pb eb n (B.mark kd (k + 1)) (fun p => if p = k + 1 then vg else vb p) (B.lay M (k + 1) (List.replicate b (0, 0))) := by
  obtain ⟨s1, s2, s3, s4, s5⟩ := h
  obtain ⟨curP, hPp, _⟩ := id s2
  refine ⟨(h0 sb ls (cells_ne s1 hPp (by decide))).trans s1, hP.congr (fun j _ => plc_new kd vb M k vg b j), fun p a c d => ?_, fun p q a c d e f g i => ?_, fun p a => ?_⟩
  · by_cases e : p = k + 1
    · subst e
      simp only [if_true, B.lay_at, List.length_replicate]
      obtain ⟨curV, hV, hV2, hV3⟩ := hv
      refine Full.congr (P := regP (fun _ => (0, 0))) ⟨curV, (h0 vg lv (cells_ne hV hPp (by decide))).trans hV, hV2, hV3⟩ (fun j _ => ?_)
      unfold regP slots
      rw [B.lay_at]
      have : (List.replicate b ((0, 0) : B.V)).getD (j / 2) (0, 0) = (0, 0) := by
        rw [List.getD_eq_getElem?_getD, List.getElem?_replicate]; split <;> rfl
      rw [this]
    · rw [B.mark_off _ _ _ e] at d
      simp only [if_neg e, B.lay_off _ _ _ _ e]
      have hF := s3 p a c d
      obtain ⟨curV, hV, hV2, hV3⟩ := hF
      refine Full.congr (P := regP (slots M p)) ⟨curV, (h0 _ (lb p a c d) (cells_ne hV hPp (by decide))).trans hV, hV2, hV3⟩ (fun j _ => ?_)
      unfold regP slots
      rw [B.lay_off _ _ _ _ e]
  · have i : (if p = k + 1 then vg else vb p) = (if q = k + 1 then vg else vb q) := i
    by_cases e1 : p = k + 1
    · by_cases e2 : q = k + 1
      · omega
      · rw [if_pos e1, if_neg e2] at i
        rw [B.mark_off _ _ _ e2] at g
        exact absurd i.symm (hn q d e g)
    · by_cases e2 : q = k + 1
      · rw [if_neg e1, if_pos e2] at i
        rw [B.mark_off _ _ _ e1] at f
        exact absurd i (hn p a c f)
      · rw [if_neg e1, if_neg e2] at i
        rw [B.mark_off _ _ _ e1] at f
        rw [B.mark_off _ _ _ e2] at g
        exact s4 p q a c d e f g i
  · by_cases e : p = k + 1
    · subst e; rw [B.lay_at]; simpa using hb
    · rw [B.mark_off _ _ _ e] at a
      rw [B.lay_off _ _ _ _ e]
      exact s5 p a
theorem Rts.kept {w w' : World} {eb lb cl tb kb ck fb cb L nx rb nr : Nat} {back : Value} {sb pb n : Nat} {kd : Nat → Bool} {vb : Nat → Nat} {s : B.St} (h : Rts w w.heap.size eb lb cl tb kb ck fb cb L nx rb nr back sb pb n kd vb s) (hg : w.grownBy w' none) : Rts w' w'.heap.size eb lb cl tb kb ck fb cb L nx rb nr back sb pb n kd vb s := by
  have h2 := h.below (below_none hg)
  have hz := hg.size
  obtain ⟨h1, h2', h3, h4, h5, h6, h7, ⟨l1, l2, l3, l4, l5, l6, l7, l8, l9⟩, h8⟩ := h2
  exact ⟨h1, h2', h3, h4, h5, h6, h7, ⟨by omega, by omega, by omega, by omega, by omega, by omega, by omega, by omega, fun p a b c => Nat.lt_of_lt_of_le (l9 p a b c) hz⟩, h8⟩

set_option maxRecDepth 100000 in
set_option maxHeartbeats 4000000 in
theorem lay_any (eb lb cl tb kb ck fb cb L nx rb nr : Nat) (back : Value) (sb pb n vg b : Nat) (kd : Nat → Bool) (vb : Nat → Nat) (s : B.St) (w : World) (hR : Rts w w.heap.size eb lb cl tb kb ck fb cb L nx rb nr back sb pb n kd vb s) (hv : Full w vg 148 (b * 2) (b * 2) (regP (fun _ => (0, 0)))) (hb8 : b ≤ 8) (hnv : ∀ p, 1 ≤ p → p ≤ n → kd p = true → vb p ≠ vg) :
    Calls Tryz.prog 182 #[P0 sb, .agg #[.int .u8 1, .int .i64 0, .slice (some ⟨vg, 0, none⟩) b b]] w fun e w' =>
      (∃ (k : Nat) (kd1 : Nat → Bool), k < n ∧ kd1 (k + 1) = false ∧ B.Held kd1 nr n s ∧ (∀ p, kd1 p = true → kd p = true) ∧ e = .returned (.tuple #[.agg #[.int .i64 ((k : Int) + 1), .int .i64 0], .bool true]) ∧ Only (fun x => x = pb) w w' ∧ Str w' sb pb eb n (B.mark kd1 (k + 1)) (fun p => if p = k + 1 then vg else vb p) (B.lay s.2.2 (k + 1) (List.replicate b (0, 0)))) ∨
      (e = .returned (.tuple #[.agg #[.int .i64 0, .int .i64 0], .bool false]) ∧ Only (fun x => x = pb) w w' ∧ ∃ m : Nat → Bool, (∀ p, m p = true ↔ B.Reach nr s p) ∧ ∀ p, 1 ≤ p → p ≤ n → (kd p && m p) = true) := by
  have KR := hid hR
  obtain ⟨_, _, _, _, _, _, hS, hl, hH, hn, hnr⟩ := hR
  have lp : pb < w.heap.size := hl.2.2.2.2.2.2.2.1
  have HH := hid hH
  have HV := hid hv
  have HNV := hid hnv
  clear hS hl hH hv hnv
  go_enter Tryz.func182, Tryz.ntmps182
  go_wp2_with fail
  generalize hW : (w.alloc (.cells #[.int .u8 1, .int .i64 0, .slice (some ⟨vg, 0, none⟩) b b] 278)).alloc (.cells #[.int .i64 0, .int .i64 0] 148) = w1
  have KG1 : Hid (w.grownBy w1 none) := by rw [← hW]; exact grown_alloc (World.grownBy_alloc _ _ _) _
  have x0 : w1.heap[w.heap.size]? = some (.cells #[.int .u8 1, .int .i64 0, .slice (some ⟨vg, 0, none⟩) b b] 278 (0, 0)) := by rw [← hW, Below.heap_alloc _ _ _ (by simp)]; exact heap_alloc_new w _
  have x1 : w1.heap[w.heap.size + 1]? = some (.cells #[.int .i64 0, .int .i64 0] 148 (0, 0)) := by
    rw [← hW]
    have := heap_alloc_new (w.alloc (.cells #[.int .u8 1, .int .i64 0, .slice (some ⟨vg, 0, none⟩) b b] 278)) (.cells #[.int .i64 0, .int .i64 0] 148)
    simpa using this
  have HX1 := hid (And.intro x0 x1)
  have KR1 := hid (KR.out.kept KG1.out)
  clear hW x0 x1
  refine (freePlace_any sb pb eb n kd vb s.2.2 w1 KR1.out.2.2.2.2.2.2.1 hn).mono ?_
  rintro e w2 ⟨hg2, ⟨k, hk, hkd, rfl⟩ | ⟨hfull, rfl⟩⟩
  · have KG2 := hid (grown_trans KG1.out hg2)
    have HS2 := hid (KR1.out.2.2.2.2.2.2.1.kept hg2)
    have HX2 := hid (And.intro (grown_heap hg2 HX1.out.1 (by intro e; cases e)) (grown_heap hg2 HX1.out.2 (by intro e; cases e)))
    have HQ := hid (And.intro hk (And.intro hkd HH.out))
    have KO2 : Hid (Only (fun x => x = pb) w w2) := only_none KG2.out
    have HV2 := hid (HV.out.block (KG2.out.block vg HV.out.lt (by intro e; cases e)))
    have HNV2 := HNV
    clear hg2 hkd HX1 KR1 KG1
    obtain ⟨p0, z0⟩ := HS2.out.2.1.cells (k * 3) (by omega)
    obtain ⟨p1, z1⟩ := HS2.out.2.1.cells (k * 3 + 1) (by omega)
    obtain ⟨p2, z2⟩ := HS2.out.2.1.cells (k * 3 + 2) (by omega)
    generalize plcP kd vb s.2.2 (k * 3) = y0 at p0
    generalize plcP kd vb s.2.2 (k * 3 + 1) = y1 at p1
    generalize plcP kd vb s.2.2 (k * 3 + 2) = y2 at p2
    have s0 : w2.cell? ⟨sb, 0, none⟩ = some (.slice (some ⟨pb, 0, none⟩) n n) := by simp [World.cell?, HS2.out.1]
    have lsw := heap_lt HS2.out.1
    have lpw := HS2.out.2.1.lt
    have hki : (k : Int) < (n : Int) := by omega
    have hk0 : ¬ ((k : Int) < 0) := by omega
    have hx0 := HX2.out.1
    have hx1 := HX2.out.2
    have b0 : w2.cell? ⟨w.heap.size, 0, none⟩ = some (.int .u8 1) := by simp [World.cell?, hx0]
    have b1 : w2.cell? ⟨w.heap.size, 1, none⟩ = some (.int .i64 0) := by simp [World.cell?, hx0]
    have b2 : w2.cell? ⟨w.heap.size, 2, none⟩ = some (.slice (some ⟨vg, 0, none⟩) b b) := by simp [World.cell?, hx0]
    have r0 : w2.cell? ⟨w.heap.size + 1, 0, none⟩ = some (.int .i64 0) := by simp [World.cell?, hx1]
    have r1 : w2.cell? ⟨w.heap.size + 1, 1, none⟩ = some (.int .i64 0) := by simp [World.cell?, hx1]
    have t0 : w2.frozen? ⟨w.heap.size + 1, 0, none⟩ = false := by simp [World.frozen?, hx1]
    have t1 : w2.frozen? ⟨w.heap.size + 1, 1, none⟩ = false := by simp [World.frozen?, hx1]
    have lb0 := heap_lt hx0
    have lb1 := heap_lt hx1
    have np : ¬ w.heap.size + 1 = pb := by omega
    have np' : ¬ w.heap.size = pb := by omega
    have np2 : ¬ pb = w.heap.size + 1 := by omega
    have np3 : ¬ pb = w.heap.size := by omega
    clear hx0 r0 r1 t0 t1
    go_wp2_with fail
    go_region
    generalize hw5 : World.drew (((w2.setCell ⟨pb, k * 3, none⟩ (.int .u8 1)).setCell ⟨pb, k * 3 + 1, none⟩ (.int .i64 0)).setCell ⟨pb, k * 3 + 2, none⟩ (.slice (some ⟨vg, 0, none⟩) b b)) = w5
    have hb5 : ∀ x, x ≠ pb → w5.heap[x]? = w2.heap[x]? := by
      intro x hx
      rw [← hw5]
      show (World.setCell _ _ _).heap[x]? = _
      rw [Below.heap_setCell _ _ _ _ hx, Below.heap_setCell _ _ _ _ hx, Below.heap_setCell _ _ _ _ hx]
    have HP5 : Hid (Full w5 pb 278 (n * 3) (n * 3) (upd (upd (upd (plcP kd vb s.2.2) (k * 3) (.int .u8 1)) (k * 3 + 1) (.int .i64 0)) (k * 3 + 2) (.slice (some ⟨vg, 0, none⟩) b b))) := by
      show Full _ _ _ _ _ _
      rw [← hw5]
      exact ((HS2.out.2.1.upd (k * 3) (.int .u8 1)).upd (k * 3 + 1) (.int .i64 0)).upd (k * 3 + 2) (.slice (some ⟨vg, 0, none⟩) b b)
    have KO5 : Hid (Only (fun x => x = pb) w w5) := by
      show Only _ _ _
      rw [← hw5]
      exact only_drew (only_setCell (only_setCell (only_setCell KO2.out (Or.inl rfl) _) (Or.inl rfl) _) (Or.inl rfl) _)
    have h51 := (hb5 _ np).trans hx1
    have HB5 := hid hb5
    clear hw5 hb5 hx1 p0 p1 p2 z0 z1 z2 s0 lsw lpw b0 b1 b2 lb0 lb1
    have r0 : w5.cell? ⟨w.heap.size + 1, 0, none⟩ = some (.int .i64 0) := by simp [World.cell?, h51]
    have r1 : w5.cell? ⟨w.heap.size + 1, 1, none⟩ = some (.int .i64 0) := by simp [World.cell?, h51]
    have t0 : w5.frozen? ⟨w.heap.size + 1, 0, none⟩ = false := by simp [World.frozen?, h51]
    have t1 : w5.frozen? ⟨w.heap.size + 1, 1, none⟩ = false := by simp [World.frozen?, h51]
    have lb1 := heap_lt h51
    clear h51
    go_wp2_with fail
    refine bodyPost_ret (v := .tuple #[.agg #[.int .i64 ((k : Int) + 1), .int .i64 0], .bool true]) (by simp [results, Tryz.results182, go_sem, r0, r1]) rfl ?_
    refine Or.inl ⟨k, kd, HQ.out.1, HQ.out.2.1, HQ.out.2.2, fun _ h => h, rfl, ?_, ?_⟩
    · exact only_setCell (only_setCell KO5.out (Or.inr (by simp)) _) (Or.inr (by simp)) _
    · refine str_new HS2.out k vg b hb8 HV2.out HNV2.out w.heap.size (by exact KR.out.2.2.2.2.2.2.2.1.2.2.2.2.2.2.1) HV.out.lt (fun p a b c => KR.out.2.2.2.2.2.2.2.1.2.2.2.2.2.2.2.2 p a b (c)) (fun x hx hxp => ?_) ((HP5.out.off np2).off np2)
      have hx1 : x ≠ w.heap.size + 1 := by omega
      rw [Below.heap_setCell _ _ _ _ hx1, Below.heap_setCell _ _ _ _ hx1]
      exact HB5.out x hxp
  · have KG2 := hid (grown_trans KG1.out hg2)
    have HX2 := hid (And.intro (grown_heap hg2 HX1.out.1 (by intro e; cases e)) (grown_heap hg2 HX1.out.2 (by intro e; cases e)))
    have KR2 := hid (KR1.out.kept hg2)
    clear hg2 hfull HX1 KR1 KG1
    go_wp2_with fail
    refine (collect_any eb lb cl tb kb ck fb cb L nx rb nr back sb pb n kd vb s w2 KR2.out).mono ?_
    rintro e w3 ⟨rfl, m, hm, hO3, hS3⟩
    have Km := hid hm
    have HS3 := hid hS3
    have KO3 := hid ((only_none (S := fun x => x = pb) KG2.out).trans hO3 (fun _ h _ => h))
    have hz2 := KG2.out.size
    have HX3 := hid (And.intro (hO3.block HX2.out.1 (by omega)) (hO3.block HX2.out.2 (by omega)))
    have HV3 : Hid (Full w3 vg 148 (b * 2) (b * 2) (regP (fun _ => (0, 0)))) := by
      refine HV.out.block (KO3.out.same HV.out.lt ?_)
      obtain ⟨curV, hV', _⟩ := HV.out
      obtain ⟨curP, hP', _⟩ := KR.out.2.2.2.2.2.2.1.2.1
      exact cells_ne hV' hP' (by decide)
    have HNV3 : Hid (∀ p, 1 ≤ p → p ≤ n → (kd p && m p) = true → vb p ≠ vg) := fun p a b c => HNV.out p a b (by have c : (kd p && m p) = true := c; simp at c; exact c.1)
    clear hm hO3 hS3 HX2 KR2
    go_wp2_with fail
    refine (freePlace_any sb pb eb n (fun p => kd p && m p) vb s.2.2 w3 HS3.out hn).mono ?_
    rintro e w4 ⟨hg4, ⟨k, hk, hkd, rfl⟩ | ⟨hfull, rfl⟩⟩
    · have HS4 := hid (HS3.out.kept hg4)
      have HX4 := hid (And.intro (grown_heap hg4 HX3.out.1 (by intro e; cases e)) (grown_heap hg4 HX3.out.2 (by intro e; cases e)))
      have HQ := hid (And.intro hk (And.intro hkd (B.held_sweep HH.out Km.out)))
      have KO4 := hid (KO3.out.then0 hg4)
      have HV4 := hid (HV3.out.block (hg4.block vg HV3.out.lt (by intro e; cases e)))
      have HNV4 := HNV3
      clear hg4 hkd HX3 HS3
      obtain ⟨p0, z0⟩ := HS4.out.2.1.cells (k * 3) (by omega)
      obtain ⟨p1, z1⟩ := HS4.out.2.1.cells (k * 3 + 1) (by omega)
      obtain ⟨p2, z2⟩ := HS4.out.2.1.cells (k * 3 + 2) (by omega)
      generalize plcP (fun p => kd p && m p) vb s.2.2 (k * 3) = y0 at p0
      generalize plcP (fun p => kd p && m p) vb s.2.2 (k * 3 + 1) = y1 at p1
      generalize plcP (fun p => kd p && m p) vb s.2.2 (k * 3 + 2) = y2 at p2
      have s0 : w4.cell? ⟨sb, 0, none⟩ = some (.slice (some ⟨pb, 0, none⟩) n n) := by simp [World.cell?, HS4.out.1]
      have lsw := heap_lt HS4.out.1
      have lpw := HS4.out.2.1.lt
      have hki : (k : Int) < (n : Int) := by omega
      have hk0 : ¬ ((k : Int) < 0) := by omega
      have hx0 := HX4.out.1
      have hx1 := HX4.out.2
      have b0 : w4.cell? ⟨w.heap.size, 0, none⟩ = some (.int .u8 1) := by simp [World.cell?, hx0]
      have b1 : w4.cell? ⟨w.heap.size, 1, none⟩ = some (.int .i64 0) := by simp [World.cell?, hx0]
      have b2 : w4.cell? ⟨w.heap.size, 2, none⟩ = some (.slice (some ⟨vg, 0, none⟩) b b) := by simp [World.cell?, hx0]
      have r0 : w4.cell? ⟨w.heap.size + 1, 0, none⟩ = some (.int .i64 0) := by simp [World.cell?, hx1]
      have r1 : w4.cell? ⟨w.heap.size + 1, 1, none⟩ = some (.int .i64 0) := by simp [World.cell?, hx1]
      have t0 : w4.frozen? ⟨w.heap.size + 1, 0, none⟩ = false := by simp [World.frozen?, hx1]
      have t1 : w4.frozen? ⟨w.heap.size + 1, 1, none⟩ = false := by simp [World.frozen?, hx1]
      have lb0 := heap_lt hx0
      have lb1 := heap_lt hx1
      have np : ¬ w.heap.size + 1 = pb := by omega
      have np' : ¬ w.heap.size = pb := by omega
      have np2 : ¬ pb = w.heap.size + 1 := by omega
      have np3 : ¬ pb = w.heap.size := by omega
      clear hx0 r0 r1 t0 t1
      go_wp2_with fail
      go_region
      generalize hw5 : World.drew (((w4.setCell ⟨pb, k * 3, none⟩ (.int .u8 1)).setCell ⟨pb, k * 3 + 1, none⟩ (.int .i64 0)).setCell ⟨pb, k * 3 + 2, none⟩ (.slice (some ⟨vg, 0, none⟩) b b)) = w5
      have hb5 : ∀ x, x ≠ pb → w5.heap[x]? = w4.heap[x]? := by
        intro x hx
        rw [← hw5]
        show (World.setCell _ _ _).heap[x]? = _
        rw [Below.heap_setCell _ _ _ _ hx, Below.heap_setCell _ _ _ _ hx, Below.heap_setCell _ _ _ _ hx]
      have HP5 : Hid (Full w5 pb 278 (n * 3) (n * 3) (upd (upd (upd (plcP (fun p => kd p && m p) vb s.2.2) (k * 3) (.int .u8 1)) (k * 3 + 1) (.int .i64 0)) (k * 3 + 2) (.slice (some ⟨vg, 0, none⟩) b b))) := by
        show Full _ _ _ _ _ _
        rw [← hw5]
        exact ((HS4.out.2.1.upd (k * 3) (.int .u8 1)).upd (k * 3 + 1) (.int .i64 0)).upd (k * 3 + 2) (.slice (some ⟨vg, 0, none⟩) b b)
      have KO5 : Hid (Only (fun x => x = pb) w w5) := by
        show Only _ _ _
        rw [← hw5]
        exact only_drew (only_setCell (only_setCell (only_setCell KO4.out (Or.inl rfl) _) (Or.inl rfl) _) (Or.inl rfl) _)
      have h51 := (hb5 _ np).trans hx1
      have HB5 := hid hb5
      clear hw5 hb5 hx1 p0 p1 p2 z0 z1 z2 s0 lsw lpw b0 b1 b2 lb0 lb1
      have r0 : w5.cell? ⟨w.heap.size + 1, 0, none⟩ = some (.int .i64 0) := by simp [World.cell?, h51]
      have r1 : w5.cell? ⟨w.heap.size + 1, 1, none⟩ = some (.int .i64 0) := by simp [World.cell?, h51]
      have t0 : w5.frozen? ⟨w.heap.size + 1, 0, none⟩ = false := by simp [World.frozen?, h51]
      have t1 : w5.frozen? ⟨w.heap.size + 1, 1, none⟩ = false := by simp [World.frozen?, h51]
      have lb1 := heap_lt h51
      clear h51
      go_wp2_with fail
      refine bodyPost_ret (v := .tuple #[.agg #[.int .i64 ((k : Int) + 1), .int .i64 0], .bool true]) (by simp [results, Tryz.results182, go_sem, r0, r1]) rfl ?_
      refine Or.inl ⟨k, (fun p => kd p && m p), HQ.out.1, HQ.out.2.1, HQ.out.2.2, fun p h => (by have h : (kd p && m p) = true := h; simp at h; exact h.1), rfl, ?_, ?_⟩
      · exact only_setCell (only_setCell KO5.out (Or.inr (by simp)) _) (Or.inr (by simp)) _
      · refine str_new HS4.out k vg b hb8 HV4.out HNV4.out w.heap.size (by exact KR.out.2.2.2.2.2.2.2.1.2.2.2.2.2.2.1) HV.out.lt (fun p a b c => KR.out.2.2.2.2.2.2.2.1.2.2.2.2.2.2.2.2 p a b (by have c : (kd p && m p) = true := c; simp at c; exact c.1)) (fun x hx hxp => ?_) ((HP5.out.off np2).off np2)
        have hx1 : x ≠ w.heap.size + 1 := by omega
        rw [Below.heap_setCell _ _ _ _ hx1, Below.heap_setCell _ _ _ _ hx1]
        exact HB5.out x hxp
    · have KO4 := hid (KO3.out.then0 hg4)
      have hx1 := grown_heap hg4 HX3.out.2 (by intro e; cases e)
      have r0 : w4.cell? ⟨w.heap.size + 1, 0, none⟩ = some (.int .i64 0) := by simp [World.cell?, hx1]
      have r1 : w4.cell? ⟨w.heap.size + 1, 1, none⟩ = some (.int .i64 0) := by simp [World.cell?, hx1]
      have t0 : w4.frozen? ⟨w.heap.size + 1, 0, none⟩ = false := by simp [World.frozen?, hx1]
      have t1 : w4.frozen? ⟨w.heap.size + 1, 1, none⟩ = false := by simp [World.frozen?, hx1]
      have lb1 := heap_lt hx1
      have HQ := hid (And.intro Km.out hfull)
      clear hg4 hx1 hfull
      go_wp2_with fail
      refine bodyPost_ret (v := .tuple #[.agg #[.int .i64 0, .int .i64 0], .bool false]) (by simp [results, Tryz.results182, go_sem, r0, r1]) rfl ?_
      refine Or.inr ⟨rfl, ?_, m, HQ.out.1, HQ.out.2⟩
      repeat (first | exact KO4.out | refine only_setCell ?_ (Or.inr (by simp)) _)
end Go.Proofs.YtbmjlbcaplgfmaaGreatDoor

/-
  The instruction Cell: a new cell, or the machine is spent.
-/
namespace Go.Proofs.YtbmjlbcaplgfmaaGreatDoor
open Go.RowKit

/-- What a request for a new cell gives. -/
def Laid (w w' : World) (sb pb eb n nr b : Nat) (kd : Nat → Bool) (vb : Nat → Nat) (s : B.St) (v : Value) : Prop :=
  (∃ (k vg : Nat) (kd1 : Nat → Bool), k < n ∧ kd1 (k + 1) = false ∧ B.Held kd1 nr n s ∧ (∀ p, kd1 p = true → kd p = true) ∧ v = .tuple #[.agg #[.int .i64 ((k : Int) + 1), .int .i64 0], .bool true] ∧ w.heap.size ≤ vg ∧ vg < w'.heap.size ∧ Str w' sb pb eb n (B.mark kd1 (k + 1)) (fun p => if p = k + 1 then vg else vb p) (B.lay s.2.2 (k + 1) (List.replicate b (0, 0)))) ∨
  (v = .tuple #[.agg #[.int .i64 0, .int .i64 0], .bool false] ∧ ∃ m : Nat → Bool, (∀ p, m p = true ↔ B.Reach nr s p) ∧ ∀ p, 1 ≤ p → p ≤ n → (kd p && m p) = true)
theorem Laid.kept {w w' w'' : World} {sb pb eb n nr b : Nat} {kd : Nat → Bool} {vb : Nat → Nat} {s : B.St} {v : Value} (h : Laid w w' sb pb eb n nr b kd vb s v) (hg : w'.grownBy w'' none) : Laid w w'' sb pb eb n nr b kd vb s v := by
  rcases h with ⟨k, vg, kd1, h1, h2, h3, h3', h4, h5, h6, h7⟩ | h
  · exact Or.inl ⟨k, vg, kd1, h1, h2, h3, h3', h4, h5, Nat.lt_of_lt_of_le h6 hg.size, h7.kept hg⟩
  · exact Or.inr h
theorem Laid.pre {w0 w w' : World} {sb pb eb n nr b : Nat} {kd : Nat → Bool} {vb : Nat → Nat} {s : B.St} {v : Value} (hz : w0.heap.size ≤ w.heap.size) (h : Laid w w' sb pb eb n nr b kd vb s v) : Laid w0 w' sb pb eb n nr b kd vb s v := by
  rcases h with ⟨k, vg, kd1, h1, h2, h3, h3', h4, h5, h6, h7⟩ | h
  · exact Or.inl ⟨k, vg, kd1, h1, h2, h3, h3', h4, by omega, h6, h7⟩
  · exact Or.inr h
theorem Laid.form {w w' : World} {sb pb eb n nr b : Nat} {kd : Nat → Bool} {vb : Nat → Nat} {s : B.St} {v : Value} (h : Laid w w' sb pb eb n nr b kd vb s v) : ∃ (x : Int) (o : Bool), v = .tuple #[.agg #[.int .i64 x, .int .i64 0], .bool o] := by
  rcases h with ⟨k, vg, kd1, h1, h2, h3, _, h4, _⟩ | ⟨h, _⟩
  · exact ⟨_, _, h4⟩
  · exact ⟨_, _, h⟩

theorem Str.off1 {w : World} {sb pb eb n x0 o : Nat} {kd : Nat → Bool} {vb : Nat → Nat} {M : Nat → List B.V} {v : Value} (h : Str w sb pb eb n kd vb M) (h1 : sb ≠ x0) (h2 : pb ≠ x0) (h3 : ∀ p, 1 ≤ p → p ≤ n → kd p = true → vb p ≠ x0) : Str (w.setCell ⟨x0, o, none⟩ v) sb pb eb n kd vb M :=
  ⟨(Below.heap_setCell _ _ _ _ h1).trans h.1, h.2.1.off h2, fun p a b c => (h.2.2.1 p a b c).off (h3 p a b c), h.2.2.2⟩

set_option maxRecDepth 100000 in
set_option maxHeartbeats 1000000 in
theorem newSlots_any (eb lb cl tb kb ck fb cb L nx rb nr : Nat) (back : Value) (sb pb n b : Nat) (kd : Nat → Bool) (vb : Nat → Nat) (s : B.St) (w : World) (hR : Rts w w.heap.size eb lb cl tb kb ck fb cb L nx rb nr back sb pb n kd vb s) (hb8 : b ≤ 8) :
    Calls Tryz.prog 146 #[P0 sb, .int .i64 b] w fun e w' => ∃ v, e = .returned v ∧ Only (fun x => x = pb) w w' ∧ Laid w w' sb pb eb n nr b kd vb s v := by
  have KR := hid hR
  have lp : pb < w.heap.size := hR.2.2.2.2.2.2.2.1.2.2.2.2.2.2.2.1
  have hvb := hR.2.2.2.2.2.2.2.1.2.2.2.2.2.2.2.2
  have HVB := hid hvb
  clear hR hvb
  obtain ⟨i0, hi, hz0, hz1, hz2⟩ := info_parts Tryz.info148
  go_enter Tryz.func146, Tryz.ntmps146
  go_wp2_with (at_make; go_loud (refine wpList_make_full _ rfl _ _ 136 rfl 0 148 i0 _ 2 Tryz.underlying136 hi hz0 hz1 _ _ _ _ b rfl rfl rfl rfl (by rw [hz2]; omega) (by unfold maxLen; omega) (Nat.zero_le _) ?_))
  intro w3 hown hg3
  have hz3 := hg3.size
  simp at hz3
  have hf3 : Full w3 (w.heap.size + 1) 148 (b * 2) (b * 2) (regP (fun _ => (0, 0))) := by
    rcases hown.2 with ⟨h, _⟩ | ⟨g', cap', cur, h1, h2, h3, h4, h5, h6, h7⟩
    · cases h
    · injection h1 with h1 _ hc
      injection h1 with h1
      injection h1 with h1 _ _
      have hg' : g' = w.heap.size + 1 := by simpa using h1.symm
      subst hg' hc
      refine ⟨cur, h3, h6, fun j hj => ?_⟩
      have e1 := congrArg (fun l => l[j]?) h7
      have e2 : (madeCells #[.int .i64 0, .int .i64 0] (b * 2)).toList[j]? = some (.int .i64 0) := by
        simp only [madeCells, Array.getElem?_toList, Array.getElem?_map, Array.getElem?_range]
        rw [if_pos hj]
        have : j % 2 = 0 ∨ j % 2 = 1 := by omega
        rcases this with h | h <;> simp [h]
      simp only [e2, List.getElem?_take] at e1
      rw [if_pos hj] at e1
      have e3 : regP (fun _ => ((0, 0) : B.V)) j = .int .i64 0 := by unfold regP; split <;> rfl
      rw [e3]
      simpa using e1
  have x3 := grown_heap hg3 (show (w.alloc (.cells #[.int .i64 0, .int .i64 0] 148)).heap[w.heap.size]? = _ from heap_alloc_new w _) (by intro e; cases e)
  have KG3 : Hid (w.grownBy w3 none) := grown_trans (World.grownBy_alloc _ _ _) hg3
  have HF3 := hid hf3
  have HX3 := hid x3
  have KR3 := hid (KR.out.kept KG3.out)
  clear hown hg3 hf3 x3
  go_wp2_with fail
  refine (lay_any eb lb cl tb kb ck fb cb L nx rb nr back sb pb n (w.heap.size + 1) b kd vb s w3 KR3.out HF3.out hb8 (fun p a c d => by have := HVB.out p a c d; omega)).mono ?_
  intro e w4 h4
  have lf3 := HF3.out.lt
  obtain ⟨x, o, he, hO4, hL4⟩ : ∃ (x : Int) (o : Bool), e = .returned (.tuple #[.agg #[.int .i64 x, .int .i64 0], .bool o]) ∧ Only (fun x => x = pb) w3 w4 ∧ ∀ y : Value, Laid w (w4.setCell ⟨w.heap.size, 0, none⟩ y |>.setCell ⟨w.heap.size, 1, none⟩ (.int .i64 0)) sb pb eb n nr b kd vb s (.tuple #[.agg #[.int .i64 x, .int .i64 0], .bool o]) := by
    rcases h4 with ⟨k, kd1, h1, h2, h3, h3', rfl, h5, h6⟩ | ⟨rfl, h5, h6⟩
    · refine ⟨_, _, rfl, h5, fun y => Or.inl ⟨k, w.heap.size + 1, kd1, h1, h2, h3, h3', rfl, by omega, by have := h5.size; simp [World.setCell]; omega, ?_⟩⟩
      have e1 : sb ≠ w.heap.size := by have := KR.out.2.2.2.2.2.2.2.1.2.2.2.2.2.2.1; omega
      have e3 : ∀ p, 1 ≤ p → p ≤ n → B.mark kd1 (k + 1) p = true → (if p = k + 1 then w.heap.size + 1 else vb p) ≠ w.heap.size := by
        intro p a c d
        by_cases e : p = k + 1
        · rw [if_pos e]; omega
        · rw [if_neg e]
          rw [B.mark_off _ _ _ e] at d
          have := HVB.out p a c (h3' p d)
          omega
      exact (h6.off1 e1 (by omega) e3).off1 e1 (by omega) e3
    · exact ⟨_, _, rfl, h5, fun y => Or.inr ⟨rfl, h6⟩⟩
  subst he
  have hx := hO4.block HX3.out (by omega)
  have r0 : w4.cell? ⟨w.heap.size, 0, none⟩ = some (.int .i64 0) := by simp [World.cell?, hx]
  have r1 : w4.cell? ⟨w.heap.size, 1, none⟩ = some (.int .i64 0) := by simp [World.cell?, hx]
  have t0 : w4.frozen? ⟨w.heap.size, 0, none⟩ = false := by simp [World.frozen?, hx]
  have t1 : w4.frozen? ⟨w.heap.size, 1, none⟩ = false := by simp [World.frozen?, hx]
  have lb1 := heap_lt hx
  have KO4 := hid ((only_none (S := fun x => x = pb) KG3.out).trans hO4 (fun _ h _ => h))
  have HL4 := hid hL4
  clear h4 hO4 hL4 hx
  go_wp2_with fail
  refine bodyPost_ret (v := .tuple #[.agg #[.int .i64 x, .int .i64 0], .bool o]) (by simp [results, Tryz.results146, go_sem, r0, r1]) rfl ?_
  refine ⟨_, rfl, only_setCell (only_setCell KO4.out (Or.inr (by simp)) _) (Or.inr (by simp)) _, ?_⟩
  exact HL4.out _

set_option maxRecDepth 100000 in
set_option maxHeartbeats 2000000 in
theorem newCell_any (op a b c eb lb cl tb kb ck fb cb L nx rb nr : Nat) (back : Value) (sb pb n : Nat) (kd : Nat → Bool) (vb : Nat → Nat) (s : B.St) (w : World) (hR : Rts w w.heap.size eb lb cl tb kb ck fb cb L nx rb nr back sb pb n kd vb s) (hb8 : b ≤ 8) (h26 : w.cell? ⟨eb, 26, none⟩ = some (P0 sb)) (he : eb ≠ pb) :
    Calls Tryz.prog 93 #[stepV op a b c fb tb eb] w fun e w' => ∃ v, e = .returned v ∧ Only (fun x => x = pb) w w' ∧ Laid w w' sb pb eb n nr b kd vb s v := by
  have KR := hid hR
  have le : eb < w.heap.size := hR.2.2.2.2.2.2.2.1.1
  have lp : pb < w.heap.size := hR.2.2.2.2.2.2.2.1.2.2.2.2.2.2.2.1
  have lvb := hid hR.2.2.2.2.2.2.2.1.2.2.2.2.2.2.2.2
  clear hR
  go_enter Tryz.func93, Tryz.ntmps93
  go_wp2_with fail
  generalize hW : (w.alloc (.cells #[.int .u8 (op : Int), .int .u8 (a : Int), .int .u8 (b : Int), .int .u8 (c : Int), P0 fb, P0 tb, P0 eb] 184)).alloc (.cells #[.int .i64 0, .int .i64 0] 148) = w1
  have KG1 : Hid (w.grownBy w1 none) := by rw [← hW]; exact grown_alloc (World.grownBy_alloc _ _ _) _
  have hx : w1.heap[w.heap.size]? = some (stpB op a b c fb tb eb) := by rw [← hW, Below.heap_alloc _ _ _ (by simp)]; exact heap_alloc_new w _
  have hr : w1.heap[w.heap.size + 1]? = some (.cells #[.int .i64 0, .int .i64 0] 148 (0, 0)) := by
    rw [← hW]
    have := heap_alloc_new (w.alloc (.cells #[.int .u8 (op : Int), .int .u8 (a : Int), .int .u8 (b : Int), .int .u8 (c : Int), P0 fb, P0 tb, P0 eb] 184)) (.cells #[.int .i64 0, .int .i64 0] 148)
    simpa using this
  clear hW
  have HX := hid hx
  have HR := hid hr
  have KR1 := hid (KR.out.kept (grown_drew KG1.out))
  obtain ⟨x0, x1, x2, x3, x4, x5, x6⟩ := s7_of hx
  have lx := heap_lt hx
  have lr := heap_lt hr
  obtain ⟨d26, _⟩ := grown_cell KG1.out (a := ⟨eb, 26, none⟩) le
  rw [h26] at d26
  have le1 : eb < w1.heap.size := by have := KG1.out.size; omega
  clear hx hr
  have hzz := KG1.out.size
  have HS : ∀ w' : World, Only (fun x => x = pb) w1 w' → w'.cell? ⟨w.heap.size, 6, none⟩ = some (P0 eb) ∧ w'.cell? ⟨w.heap.size, 2, none⟩ = some (.int .u8 (b : Int)) ∧ w'.cell? ⟨eb, 26, none⟩ = some (P0 sb) := by
    intro w' hO
    exact ⟨(hO.cell (o := 6) lx (by omega)).trans x6, (hO.cell (o := 2) lx (by omega)).trans x2, (hO.cell (o := 26) le1 he).trans d26⟩
  have HSK := hid HS
  clear HS
  have hwb : IntKind.i64.wrap (b : Int) = (b : Int) := by simp [IntKind.wrap, IntKind.bits, IntKind.signed]; omega
  have hwb2 : wrap64 (b : Int) = (b : Int) := IntWalk.wrap64_in (b : Int) ⟨by omega, by omega⟩
  go_region_held3 (fun w' => w'.cell? ⟨w.heap.size, 6, none⟩ = some (P0 eb) ∧ w'.cell? ⟨w.heap.size, 2, none⟩ = some (.int .u8 (b : Int)) ∧ w'.cell? ⟨eb, 26, none⟩ = some (P0 sb)) (first | exact HSK.out _ (only_refl _ _) | exact HSK.out _ KO4.out | exact HSK5.out) (first | (go_at_call 146; refine (newSlots_any eb lb cl tb kb ck fb cb L nx rb nr back sb pb n b kd vb s w1.drew KR1.out hb8).mono ?_; rintro e w4 ⟨v, rfl, hO4, hL4⟩; obtain ⟨x, ob, rfl⟩ := hL4.form; have KO4 : Hid (Only (fun x => x = pb) w1 w4) := hO4; have HL4 : Hid (Laid w1 w4 sb pb eb n nr b kd vb s (.tuple #[.agg #[.int .i64 x, .int .i64 0], .bool ob])) := hL4; have hr4 := hO4.block (k := w.heap.size + 1) HR.out (by omega); have r0 : w4.cell? ⟨w.heap.size + 1, 0, none⟩ = some (.int .i64 0) := (by simp [World.cell?, hr4]); have r1 : w4.cell? ⟨w.heap.size + 1, 1, none⟩ = some (.int .i64 0) := (by simp [World.cell?, hr4]); have r2 : w4.frozen? ⟨w.heap.size + 1, 0, none⟩ = false := (by simp [World.frozen?, hr4]); have r3 : w4.frozen? ⟨w.heap.size + 1, 1, none⟩ = false := (by simp [World.frozen?, hr4]); have lr4 := heap_lt hr4; have HSK5 : Hid (((w4.setCell ⟨w.heap.size + 1, 0, none⟩ (.int .i64 x)).setCell ⟨w.heap.size + 1, 1, none⟩ (.int .i64 0)).cell? ⟨w.heap.size, 6, none⟩ = some (P0 eb) ∧ ((w4.setCell ⟨w.heap.size + 1, 0, none⟩ (.int .i64 x)).setCell ⟨w.heap.size + 1, 1, none⟩ (.int .i64 0)).cell? ⟨w.heap.size, 2, none⟩ = some (.int .u8 (b : Int)) ∧ ((w4.setCell ⟨w.heap.size + 1, 0, none⟩ (.int .i64 x)).setCell ⟨w.heap.size + 1, 1, none⟩ (.int .i64 0)).cell? ⟨eb, 26, none⟩ = some (P0 sb)) := (by have h := HSK.out w4 hO4; exact ⟨(World.cell?_of_block (a := ⟨w.heap.size, 6, none⟩) ((Below.heap_setCell _ _ _ _ (by simp)).trans (Below.heap_setCell _ _ _ _ (by simp)))).trans h.1, (World.cell?_of_block (a := ⟨w.heap.size, 2, none⟩) ((Below.heap_setCell _ _ _ _ (by simp)).trans (Below.heap_setCell _ _ _ _ (by simp)))).trans h.2.1, (World.cell?_of_block (a := ⟨eb, 26, none⟩) ((Below.heap_setCell _ _ _ _ (by show eb ≠ w.heap.size + 1; omega)).trans (Below.heap_setCell _ _ _ _ (by show eb ≠ w.heap.size + 1; omega)))).trans h.2.2⟩); clear hr4 hO4 hL4))
  all_goals
    go_wp2_with fail
    refine bodyPost_ret (v := .tuple #[.agg #[.int .i64 x, .int .i64 0], .bool ob]) (by simp [results, Tryz.results93, go_sem, r0, r1]) rfl ?_
    refine ⟨_, rfl, only_setCell (only_setCell ((only_none KG1.out).trans KO4.out (fun _ h _ => h)) (Or.inr (by simp)) _) (Or.inr (by simp)) _, ?_⟩
    rcases HL4.out with ⟨k, vg, kd1, h1, h2, h3, h3', h4, h5, h6, h7⟩ | h
    · refine Or.inl ⟨k, vg, kd1, h1, h2, h3, h3', h4, by omega, by simp [World.setCell]; exact h6, ?_⟩
      have e1 : sb ≠ w.heap.size + 1 := by have := KR.out.2.2.2.2.2.2.2.1.2.2.2.2.2.2.1; omega
      have e3 : ∀ p, 1 ≤ p → p ≤ n → B.mark kd1 (k + 1) p = true → (if p = k + 1 then vg else vb p) ≠ w.heap.size + 1 := by
        intro p a c d
        by_cases e : p = k + 1
        · rw [if_pos e]; have := heap_lt HR.out; omega
        · rw [if_neg e]
          rw [B.mark_off _ _ _ e] at d
          have := lvb.out p a c (h3' p d)
          omega
      exact (h7.off1 e1 (by omega) e3).off1 e1 (by omega) e3
    · exact Or.inr h
end Go.Proofs.YtbmjlbcaplgfmaaGreatDoor

/-
  The instruction Cell, whole.
-/
namespace Go.Proofs.YtbmjlbcaplgfmaaGreatDoor
open Go.RowKit

/-- What Cell does. -/
def Celled (w w' : World) (a b eb tb fb cb L nx rb nr sb pb n base : Nat) (back : Value) (kd : Nat → Bool) (vb : Nat → Nat) (s : B.St) (ad : Option Addr) (ne cap : Nat) (ev : List B.Ev) (E Tk : Nat → Value) : Prop :=
  (∃ (k vg : Nat) (kd1 : Nat → Bool), k < n ∧ kd1 (k + 1) = false ∧ B.Held kd1 nr n s ∧ (∀ p, kd1 p = true → kd p = true) ∧ w.heap.size ≤ vg ∧ vg < w'.heap.size ∧ Str w' sb pb eb n (B.mark kd1 (k + 1)) (fun p => if p = k + 1 then vg else vb p) (B.lay s.2.2 (k + 1) (List.replicate b (0, 0))) ∧ Fr w' fb cb L nx rb nr back (B.set s.2.1 a (k + 1, 0)) ∧ Only (fun x => x = pb ∨ x = rb) w w') ∨
  ((∃ m : Nat → Bool, (∀ p, m p = true ↔ B.Reach nr s p) ∧ ∀ p, 1 ≤ p → p ≤ n → (kd p && m p) = true) ∧ ∃ g c, w'.ownsRow base 48 3 (.slice (some ⟨g, 0, none⟩) (ne + 1) c) (ne + 1) (evL (ev ++ [(5, 0)])) ∧ Full w' eb 143 43 43 (upd (upd E 41 (.bool true)) 42 (.slice (some ⟨g, 0, none⟩) (ne + 1) c)) ∧ Full w' tb 158 7 7 (upd Tk 2 (.bool false)) ∧ Only (fun x => x = pb ∨ x = eb ∨ x = tb ∨ (Value.slice ad ne cap).ownBlock = some x) w w')
theorem Celled.pre {w0 w w' : World} {a b eb tb fb cb L nx rb nr sb pb n base : Nat} {back : Value} {kd : Nat → Bool} {vb : Nat → Nat} {s : B.St} {ad : Option Addr} {ne cap : Nat} {ev : List B.Ev} {E Tk : Nat → Value} (hg : w0.grownBy w none) (h : Celled w w' a b eb tb fb cb L nx rb nr sb pb n base back kd vb s ad ne cap ev E Tk) : Celled w0 w' a b eb tb fb cb L nx rb nr sb pb n base back kd vb s ad ne cap ev E Tk := by
  rcases h with ⟨k, vg, kd1, h1, h2, h3, h4, h5, h6, h7, h8, h9⟩ | ⟨h1, g, c, h2, h3, h4, h5⟩
  · exact Or.inl ⟨k, vg, kd1, h1, h2, h3, h4, Nat.le_trans hg.size h5, h6, h7, h8, (only_none hg).trans h9 (fun _ h _ => h)⟩
  · exact Or.inr ⟨h1, g, c, h2, h3, h4, (only_none hg).trans h5 (fun _ h _ => h)⟩

set_option maxRecDepth 100000 in
set_option maxHeartbeats 2000000 in
theorem makes93_any (op a b c eb lb cl tb kb ck fb cb L nx rb nr base vbx : Nat) (back : Value) (sb pb n : Nat) (kd : Nat → Bool) (vb : Nat → Nat) (s : B.St) (ad : Option Addr) (ne cap : Nat) (ev : List B.Ev) (E Tk : Nat → Value) (w : World)
    (hR : Rts w w.heap.size eb lb cl tb kb ck fb cb L nx rb nr back sb pb n kd vb s) (hb8 : b ≤ 8) (ha : a < nr) (hE : Full w eb 143 43 43 E) (hT : Full w tb 158 7 7 Tk) (h26 : E 26 = P0 sb) (h42 : E 42 = .slice ad ne cap) (o42 : w.ownsRow base 48 3 (.slice ad ne cap) ne (evL ev)) (t0 : Tk 0 = .int .i64 1) (hbs : base ≤ w.heap.size) (hne : ne ≤ 100000)
    (hvr : ∀ p, 1 ≤ p → p ≤ n → kd p = true → vb p ≠ rb) (hv : w.heap[vbx]? = some (.cells #[Fv 93 #[]] 193 (0, 0))) :
    Calls Tryz.prog 144 #[stepV op a b c fb tb eb, P0 vbx] w fun e w' => e = .returned (.tuple #[]) ∧ Celled w w' a b eb tb fb cb L nx rb nr sb pb n base back kd vb s ad ne cap ev E Tk := by
  have KR := hid hR
  have KE := hid hE
  have KT := hid hT
  have HF := hid (And.intro h26 (And.intro h42 (And.intro o42 t0)))
  have HVR := hid hvr
  have KF := hid hR.2.2.2.2.2.1
  have KS := hid hR.2.2.2.2.2.2.1
  have hep : eb ≠ pb := by
    obtain ⟨c1, h1, _⟩ := hE
    obtain ⟨c2, h2, _⟩ := hR.2.2.2.2.2.2.1.2.1
    exact cells_ne h1 h2 (by decide)
  have htp : tb ≠ pb := by
    obtain ⟨c1, h1, _⟩ := hT
    obtain ⟨c2, h2, _⟩ := hR.2.2.2.2.2.2.1.2.1
    exact cells_ne h1 h2 (by decide)
  have hfp : fb ≠ pb := by
    obtain ⟨c2, h2, _⟩ := hR.2.2.2.2.2.2.1.2.1
    exact cells_ne hR.2.2.2.2.2.1.1 h2 (by decide)
  have hrp : rb ≠ pb := by
    obtain ⟨c1, h1, _⟩ := hR.2.2.2.2.2.1.2.1
    obtain ⟨c2, h2, _⟩ := hR.2.2.2.2.2.2.1.2.1
    exact cells_ne h1 h2 (by decide)
  have hsr : sb ≠ rb := by
    obtain ⟨c1, h1, _⟩ := hR.2.2.2.2.2.1.2.1
    exact cells_ne hR.2.2.2.2.2.2.1.1 h1 (by decide)
  have hop : ∀ k, (Value.slice ad ne cap).ownBlock = some k → k ≠ pb := by
    intro k hk
    obtain ⟨_, _, c1, h1⟩ := own_ty o42 k hk
    obtain ⟨c2, h2, _⟩ := hR.2.2.2.2.2.2.1.2.1
    exact cells_ne h1 h2 (by decide)
  have HOP := hid hop
  have lp : pb < w.heap.size := hR.2.2.2.2.2.2.2.1.2.2.2.2.2.2.2.1
  have lr : rb < w.heap.size := hR.2.2.2.2.2.2.2.1.2.2.2.2.2.1
  have c0 : w.cell? ⟨vbx, 0, none⟩ = some (Fv 93 #[]) := by simp [World.cell?, hv]
  have lv := heap_lt hv
  clear hR hE hT h26 h42 o42 t0 hvr hop hv
  go_enter Tryz.func144, Tryz.ntmps144
  go_wp2_with fail
  have KG1 := hid (World.grownBy_alloc w (.cells #[.int .u8 (op : Int), .int .u8 (a : Int), .int .u8 (b : Int), .int .u8 (c : Int), P0 fb, P0 tb, P0 eb] 184) none)
  have HX1 := hid (s7_new w op a b c fb tb eb)
  generalize hW : w.alloc (.cells #[.int .u8 (op : Int), .int .u8 (a : Int), .int .u8 (b : Int), .int .u8 (c : Int), P0 fb, P0 tb, P0 eb] 184) = w1 at *
  have hz1 : w1.heap.size = w.heap.size + 1 := by rw [← hW]; simp
  clear hW
  have KE1 := hid (KE.out.block (KG1.out.block eb KE.out.lt (by intro e; cases e)))
  have d26 := KE1.out.cell 26 (by omega)
  rw [HF.out.1] at d26
  refine (newCell_any op a b c eb lb cl tb kb ck fb cb L nx rb nr back sb pb n kd vb s w1 (KR.out.kept KG1.out) hb8 d26 hep).mono ?_
  rintro e w2 ⟨v, rfl, hO2, hL2⟩
  have KO2 := hid ((only_none (S := fun x => x = pb) KG1.out).trans hO2 (fun _ h _ => h))
  have hz2 := hO2.size
  have HX2 := hid (hO2.block HX1.out (by omega))
  clear hO2 d26
  rcases hL2 with ⟨k, vg, kd1, h1, h2, h3, h3', rfl, h5, h6, h7⟩ | ⟨rfl, hm⟩
  · have HL := hid (And.intro h1 (And.intro h2 (And.intro h3 (And.intro h3' (And.intro h6 h7)))))
    clear h1 h2 h3 h3' h6 h7
    obtain ⟨x0, x1, x2, x3, x4, x5, x6⟩ := s7_of HX2.out
    have lx := heap_lt HX2.out
    have HF2 : Hid (Fr w2 fb cb L nx rb nr back s.2.1) := ⟨KO2.out.block KF.out.1 hfp, KF.out.2.1.only KO2.out hrp, KF.out.2.2⟩
    go_wp2_with fail
    refine (set_any op a b c fb tb eb cb L nx rb nr back s.2.1 (k + 1, 0) _ (HF2.out.kept (World.grownBy_alloc _ _ _)).1 (HF2.out.kept (World.grownBy_alloc _ _ _)).2.1 ha).mono ?_
    rintro e w3 ⟨rfl, hg3, hf3⟩
    have hz3 := hg3.size
    simp at hz3
    have hS3 : Str w3 sb pb eb n (B.mark kd1 (k + 1)) (fun p => if p = k + 1 then vg else vb p) (B.lay s.2.2 (k + 1) (List.replicate b (0, 0))) := by
      have hS := HL.out.2.2.2.2.2.kept (World.grownBy_alloc w2 (.cells #[.int .i64 ((k : Int) + 1), .int .i64 0] 148) none)
      obtain ⟨s1, s2, s3, s4⟩ := hS
      refine ⟨grown_heap hg3 s1 (by intro e; injection e with e; exact hsr e), s2.kept hg3 (fun e => hrp e.symm), fun p a1 a2 a3 => (s3 p a1 a2 a3).kept hg3 ?_, s4⟩
      show (if p = k + 1 then vg else vb p) ≠ rb
      by_cases e : p = k + 1
      · rw [if_pos e]; omega
      · rw [if_neg e]
        rw [B.mark_off _ _ _ e] at a3
        exact HVR.out p a1 a2 (HL.out.2.2.2.1 p a3)
    have HR : Hid (Celled w w3 a b eb tb fb cb L nx rb nr sb pb n base back kd vb s ad ne cap ev E Tk) := by
      refine Or.inl ⟨k, vg, kd1, HL.out.1, HL.out.2.1, HL.out.2.2.1, HL.out.2.2.2.1, by omega, by have := HL.out.2.2.2.2.1; omega, hS3, ⟨grown_heap hg3 (HF2.out.kept (World.grownBy_alloc _ _ _)).1 (by intro e; injection e with e; exact KF.out.2.2 e), hf3, KF.out.2.2⟩, ?_⟩
      exact ((KO2.out.mono (fun x h _ => Or.inl h)).then0 (World.grownBy_alloc _ _ _)).then hg3 (Or.inl (Or.inr rfl))
    clear hg3 hf3 hS3 x0 x1 x2 x3 x4 x5 x6
    go_wp2_with fail
    go_end0
    exact ⟨rfl, HR.out⟩
  · have HM := hid hm
    clear hm
    obtain ⟨x0, x1, x2, x3, x4, x5, x6⟩ := s7_of HX2.out
    have lx := heap_lt HX2.out
    have KE2 := hid (KE.out.only KO2.out hep)
    have KT2 := hid (KT.out.only KO2.out htp)
    have o2 := hid (own_of HF.out.2.2.1 (fun k h => KO2.out.same (own_ty HF.out.2.2.1 k h).2.1 (HOP.out k h)))
    go_wp2_with fail
    have KG3 := hid (World.grownBy_alloc w2 (.cells #[.int .i64 0, .int .i64 0] 148) none)
    have hk3 : ∀ k, k < w2.heap.size → (w2.alloc (.cells #[.int .i64 0, .int .i64 0] 148)).heap[k]? = w2.heap[k]? := fun k hk => KG3.out.block k hk (by intro e; cases e)
    refine (spend_any eb tb base ad ne cap ev E Tk _ (KE2.out.block (hk3 _ KE2.out.lt)) HF.out.2.1 (KT2.out.block (hk3 _ KT2.out.lt)) HF.out.2.2.2 (own_of o2.out (fun k h => hk3 k (own_ty o2.out k h).2.1)) (by simp; omega) hne).mono ?_
    rintro e w3 ⟨rfl, g, cc, h1, h2, h3, h4⟩
    have HR : Hid (Celled w w3 a b eb tb fb cb L nx rb nr sb pb n base back kd vb s ad ne cap ev E Tk) := by
      refine Or.inr ⟨HM.out, g, cc, h1, h2, h3, ?_⟩
      refine ((KO2.out.mono (fun x h _ => Or.inl h)).then0 KG3.out).trans h4 (fun x h _ => ?_)
      rcases h with h | h | h
      · exact Or.inr (Or.inl h)
      · exact Or.inr (Or.inr (Or.inl h))
      · exact Or.inr (Or.inr (Or.inr h))
    clear h1 h2 h3 h4 x0 x1 x2 x3 x4 x5 x6 hk3
    go_wp2_with fail
    go_end0
    exact ⟨rfl, HR.out⟩
end Go.Proofs.YtbmjlbcaplgfmaaGreatDoor

/-
  The instructions Emit and Return.
-/
namespace Go.Proofs.YtbmjlbcaplgfmaaGreatDoor
open Go.RowKit

set_option maxRecDepth 100000 in
theorem emit_any (op a b c fb tb eb base : Nat) (x : Int) (ad : Option Addr) (n cap : Nat) (ev : List B.Ev) (E Tk : Nat → Value) (w : World) (hE : Full w eb 143 43 43 E) (hE42 : E 42 = .slice ad n cap) (hT : Full w tb 158 7 7 Tk) (hT0 : Tk 0 = .int .i64 1)
    (hown : w.ownsRow base 48 3 (.slice ad n cap) n (evL ev)) (hb : base ≤ w.heap.size) (hn : n ≤ 100000) :
    Calls Tryz.prog 108 #[stepV op a b c fb tb eb, .int .i64 x] w fun e w' => e = .returned (.int .i64 0) ∧ ∃ g c, w'.ownsRow base 48 3 (.slice (some ⟨g, 0, none⟩) (n + 1) c) (n + 1) (evL (ev ++ [(1, x)])) ∧ Full w' eb 143 43 43 (upd E 42 (.slice (some ⟨g, 0, none⟩) (n + 1) c)) ∧ Only (fun k => k = eb ∨ (Value.slice ad n cap).ownBlock = some k) w w' := by
  have KE := hid hE
  have KT := hid hT
  have KO := hid hown
  have HF := hid (And.intro hE42 hT0)
  clear hE hT hown hE42 hT0
  go_enter Tryz.func108, Tryz.ntmps108
  go_wp2_with fail
  have KG1 := hid (World.grownBy_alloc w (.cells #[.int .u8 (op : Int), .int .u8 (a : Int), .int .u8 (b : Int), .int .u8 (c : Int), P0 fb, P0 tb, P0 eb] 184) none)
  have hk : ∀ k, k < w.heap.size → (w.alloc (.cells #[.int .u8 (op : Int), .int .u8 (a : Int), .int .u8 (b : Int), .int .u8 (c : Int), P0 fb, P0 tb, P0 eb] 184)).heap[k]? = w.heap[k]? := fun k hk => KG1.out.block k hk (by intro e; cases e)
  refine (tell_any eb tb base 1 x ad n cap ev E Tk _ (KE.out.block (hk _ KE.out.lt)) HF.out.1 (KT.out.block (hk _ KT.out.lt)) HF.out.2 (own_of KO.out (fun k h => hk k (own_ty KO.out k h).2.1)) (by simp; omega) hn).mono ?_
  rintro e w2 ⟨rfl, g, cc, h1, h2, h3⟩
  have HH := hid (And.intro h1 (And.intro h2 ((only_none (S := fun k => k = eb ∨ (Value.slice ad n cap).ownBlock = some k) KG1.out).trans h3 (fun _ h _ => h))))
  clear h1 h2 h3 hk
  go_wp2_with fail
  go_ret
  exact ⟨rfl, g, cc, HH.out⟩

set_option maxRecDepth 100000 in
set_option maxHeartbeats 1000000 in
/-- Emit. -/
theorem act20_any (op a b c fb tb eb cb L nx rb nr base v1 v2 : Nat) (back : Value) (R : Nat → B.V) (ha : a < nr) (ad : Option Addr) (n cap : Nat) (ev : List B.Ev) (E Tk : Nat → Value) (w : World) (hF : Fr w fb cb L nx rb nr back R) (hE : Full w eb 143 43 43 E) (hE42 : E 42 = .slice ad n cap) (hT : Full w tb 158 7 7 Tk) (hT0 : Tk 0 = .int .i64 1)
    (hown : w.ownsRow base 48 3 (.slice ad n cap) n (evL ev)) (hb : base ≤ w.heap.size) (hn : n ≤ 100000) (hv1 : w.heap[v1]? = some (.cells #[Fv 91 #[]] 185 (0, 0))) (hv2 : w.heap[v2]? = some (.cells #[Fv 108 #[]] 200 (0, 0))) :
    Calls Tryz.prog 154 #[stepV op a b c fb tb eb, P0 v1, P0 v2] w fun e w' => ((R a).1 = 0 ∧ e = .returned (.int .i64 0) ∧ ∃ g c, w'.ownsRow base 48 3 (.slice (some ⟨g, 0, none⟩) (n + 1) c) (n + 1) (evL (ev ++ [(1, (R a).2)])) ∧ Full w' eb 143 43 43 (upd E 42 (.slice (some ⟨g, 0, none⟩) (n + 1) c)) ∧ Only (fun k => k = eb ∨ (Value.slice ad n cap).ownBlock = some k) w w') ∨ ((R a).1 ≠ 0 ∧ e = .returned (.int .i64 1) ∧ w.grownBy w' none) := by
  have KF := hid hF
  have KE := hid hE
  have KT := hid hT
  have KO := hid hown
  have HF := hid (And.intro hE42 hT0)
  have c1 : w.cell? ⟨v1, 0, none⟩ = some (Fv 91 #[]) := by simp [World.cell?, hv1]
  have lv1 := heap_lt hv1
  have HV2 := hid hv2
  clear hF hE hT hown hE42 hT0 hv1 hv2
  go_enter Tryz.func154, Tryz.ntmps154
  go_wp2_with fail
  have HX1 := hid (s7_new w op a b c fb tb eb)
  have KG1 := hid (World.grownBy_alloc w (.cells #[.int .u8 (op : Int), .int .u8 (a : Int), .int .u8 (b : Int), .int .u8 (c : Int), P0 fb, P0 tb, P0 eb] 184) none)
  generalize hW : w.alloc (.cells #[.int .u8 (op : Int), .int .u8 (a : Int), .int .u8 (b : Int), .int .u8 (c : Int), P0 fb, P0 tb, P0 eb] 184) = w1 at *
  clear hW
  refine (a_any op a b c fb tb eb cb L nx rb nr back R w1 (KF.out.kept KG1.out).1 (KF.out.kept KG1.out).2.1 ha).mono ?_
  rintro e w2 ⟨rfl, hg2⟩
  have KG2 := hid (grown_trans KG1.out hg2)
  have HX2 := hid (grown_out hg2 HX1.out)
  clear hg2
  go_wp2_with fail
  refine (vnumber_any (R a) _).mono ?_
  rintro e w3 ⟨rfl, hg3⟩
  have KG3 := hid (grown_trans KG2.out hg3)
  have HX3 := hid (grown_out hg3 HX2.out)
  clear hg3
  by_cases h0 : (R a).1 = 0
  · have hd : decide ((R a).1 = 0) = true := by simpa using h0
    simp only [hd]
    have H0 := hid h0
    clear h0 hd
    obtain ⟨x0, x1, x2, x3, x4, x5, x6⟩ := s7_of HX3.out
    have lx := heap_lt HX3.out
    have hv := grown_out KG3.out HV2.out
    have c2 : w3.cell? ⟨v2, 0, none⟩ = some (Fv 108 #[]) := by simp [World.cell?, hv]
    have lv2 := heap_lt hv
    clear hv
    go_wp2_with fail
    have hk : ∀ k, k < w.heap.size → w3.heap[k]? = w.heap[k]? := fun k hk => KG3.out.block k hk (by intro e; cases e)
    refine (emit_any op a b c fb tb eb base (R a).2 ad n cap ev E Tk w3 (KE.out.block (hk _ KE.out.lt)) HF.out.1 (KT.out.block (hk _ KT.out.lt)) HF.out.2 (own_of KO.out (fun k h => hk k (own_ty KO.out k h).2.1)) (Nat.le_trans hb KG3.out.size) hn).mono ?_
    rintro e w4 ⟨rfl, g, cc, h1, h2, h3⟩
    have HH := hid (And.intro h1 (And.intro h2 ((only_none (S := fun k => k = eb ∨ (Value.slice ad n cap).ownBlock = some k) KG3.out).trans h3 (fun _ h _ => h))))
    clear h1 h2 h3 hk x0 x1 x2 x3 x4 x5 x6 c2
    go_wp2_with fail
    go_ret
    exact Or.inl ⟨H0.out, rfl, g, cc, HH.out⟩
  · have hd : decide ((R a).1 = 0) = false := by simpa using h0
    simp only [hd]
    have H0 := hid h0
    clear h0 hd
    go_wp2_with fail
    go_ret
    exact Or.inr ⟨H0.out, rfl, KG3.out⟩

set_option maxRecDepth 100000 in
set_option maxHeartbeats 2000000 in
theorem ret_any (op a b c eb tb lb cl ob co base xe xt kb ck fb cb L nx rb nr : Nat) (R : Nat → B.V) (ha : a < nr) (ad : Option Addr) (n cap : Nat) (ev : List B.Ev) (E Tk : Nat → Value) (w : World) (hL : Leav w eb tb lb cl ob co base ad n cap ev E Tk) (he : w.heap[xe]? = some (.cells #[P0 eb] 91 (0, 0))) (ht : w.heap[xt]? = some (.cells #[P0 tb] 153 (0, 0)))
    (hT1 : Tk 1 = .slice (some ⟨kb, 0, none⟩) 1 ck) (hK : w.ownsRow 0 182 1 (.slice (some ⟨kb, 0, none⟩) 1 ck) 1 [P0 fb]) (hF : Fr w fb cb L nx rb nr (Fv 113 #[P0 xe, P0 xt]) R) :
    Calls Tryz.prog 99 #[stepV op a b c fb tb eb] w fun e w' => e = .returned (.tuple #[]) ∧ ∃ w1, Left w1 w' eb tb lb ob base n ad cap (ev ++ [(2, (R a).2)]) E ∧ Only (fun k => k = tb ∨ k = kb) w w1 := by
  have HL := hid hL
  have HE := hid he
  have HT := hid ht
  have HK := hid hK
  have KF := hid hF
  have HT1 := hid hT1
  clear hL he ht hK hF hT1
  go_enter Tryz.func99, Tryz.ntmps99
  go_wp2_with fail
  have HX1 := hid (s7_new w op a b c fb tb eb)
  have KG1 := hid (World.grownBy_alloc w (.cells #[.int .u8 (op : Int), .int .u8 (a : Int), .int .u8 (b : Int), .int .u8 (c : Int), P0 fb, P0 tb, P0 eb] 184) none)
  generalize hW : w.alloc (.cells #[.int .u8 (op : Int), .int .u8 (a : Int), .int .u8 (b : Int), .int .u8 (c : Int), P0 fb, P0 tb, P0 eb] 184) = w1 at *
  clear hW
  obtain ⟨x0, x1, x2, x3, x4, x5, x6⟩ := s7_of HX1.out
  have lx := heap_lt HX1.out
  go_region_with (first | (go_at_call 91; refine (a_any op a b c fb tb eb cb L nx rb nr (Fv 113 #[P0 xe, P0 xt]) R w1.drew (KF.out.kept (grown_drew KG1.out)).1 (KF.out.kept (grown_drew KG1.out)).2.1 ha).mono ?_; rintro e w2 ⟨rfl, hg2⟩; have KG2 : Hid (w.grownBy w2 none) := grown_trans (grown_drew KG1.out) hg2; obtain ⟨x0, x1, x2, x3, x4, x5, x6⟩ := s7_of (grown_out hg2 (show w1.drew.heap[w.heap.size]? = _ from HX1.out)); have lx2 := heap_lt (grown_out hg2 (show w1.drew.heap[w.heap.size]? = _ from HX1.out)); clear hg2) | (go_at_call 100; refine (giveBack_any eb tb lb cl ob co base xe xt kb ck fb cb L nx rb nr (R a) ad n cap ev E Tk w2 (HL.out.alloc KG2.out) (grown_out KG2.out HE.out) (grown_out KG2.out HT.out) HT1.out (own_of HK.out (fun k h => KG2.out.block k (own_ty HK.out k h).2.1 (by intro e; cases e))) (KF.out.kept KG2.out).1).mono ?_; rintro e w3 ⟨rfl, w4, hL4, hO4⟩; have HR := hid (And.intro hL4 ((only_none (S := fun k => k = tb ∨ k = kb) KG2.out).trans hO4 (fun _ h _ => h))); clear hL4 hO4))
  all_goals
    go_wp2_with fail
    go_end0
    exact ⟨rfl, w4, HR.out⟩

set_option maxRecDepth 100000 in
/-- Return. -/
theorem act14_any (op a b c eb tb lb cl ob co base xe xt kb ck fb cb L nx rb nr wb : Nat) (R : Nat → B.V) (ha : a < nr) (ad : Option Addr) (n cap : Nat) (ev : List B.Ev) (E Tk : Nat → Value) (w : World) (hL : Leav w eb tb lb cl ob co base ad n cap ev E Tk) (he : w.heap[xe]? = some (.cells #[P0 eb] 91 (0, 0))) (ht : w.heap[xt]? = some (.cells #[P0 tb] 153 (0, 0)))
    (hT1 : Tk 1 = .slice (some ⟨kb, 0, none⟩) 1 ck) (hK : w.ownsRow 0 182 1 (.slice (some ⟨kb, 0, none⟩) 1 ck) 1 [P0 fb]) (hF : Fr w fb cb L nx rb nr (Fv 113 #[P0 xe, P0 xt]) R) (hw : w.heap[wb]? = some (.cells #[Fv 99 #[]] 197 (0, 0))) :
    Calls Tryz.prog 150 #[stepV op a b c fb tb eb, P0 wb] w fun e w' => e = .returned (.int .i64 0) ∧ ∃ w1, Left w1 w' eb tb lb ob base n ad cap (ev ++ [(2, (R a).2)]) E ∧ Only (fun k => k = tb ∨ k = kb) w w1 := by
  have HL := hid hL
  have HE := hid he
  have HT := hid ht
  have HK := hid hK
  have KF := hid hF
  have HT1 := hid hT1
  have c0 : w.cell? ⟨wb, 0, none⟩ = some (Fv 99 #[]) := by simp [World.cell?, hw]
  have lw := heap_lt hw
  clear hL he ht hK hF hT1 hw
  go_enter Tryz.func150, Tryz.ntmps150
  go_wp2_with fail
  have KG1 := hid (World.grownBy_alloc w (.cells #[.int .u8 (op : Int), .int .u8 (a : Int), .int .u8 (b : Int), .int .u8 (c : Int), P0 fb, P0 tb, P0 eb] 184) none)
  refine (ret_any op a b c eb tb lb cl ob co base xe xt kb ck fb cb L nx rb nr R ha ad n cap ev E Tk _ (HL.out.alloc KG1.out) (grown_out KG1.out HE.out) (grown_out KG1.out HT.out) HT1.out (own_of HK.out (fun k h => KG1.out.block k (own_ty HK.out k h).2.1 (by intro e; cases e))) (KF.out.kept KG1.out)).mono ?_
  rintro e w3 ⟨rfl, w4, hL4, hO4⟩
  have HR := hid (And.intro hL4 ((only_none (S := fun k => k = tb ∨ k = kb) KG1.out).trans hO4 (fun _ h _ => h)))
  clear hL4 hO4
  go_wp2_with fail
  go_ret
  exact ⟨rfl, w4, HR.out⟩
end Go.Proofs.YtbmjlbcaplgfmaaGreatDoor

/-
  What 'pick' answers.
-/
namespace Go.Proofs.YtbmjlbcaplgfmaaGreatDoor
open Go.RowKit

/-- The number that 'pick' gives. -/
def pk (c : Int) (n : Nat) : Nat := ((if c < 0 then -(c + 1) else c) % n).toNat
theorem pk_lt (c : Int) (n : Nat) (h : 0 < n) : pk c n < n := by
  unfold pk
  have h1 := Int.emod_nonneg (if c < 0 then -(c + 1) else c) (show (n : Int) ≠ 0 by omega)
  have h2 := Int.emod_lt_of_pos (if c < 0 then -(c + 1) else c) (show (0 : Int) < n by omega)
  omega
theorem pk_is (c : Int) (n : Nat) (h : 0 < n) : ((pk c n : Nat) : Int) = (if c < 0 then -(c + 1) else c) % n := by
  unfold pk
  have h1 := Int.emod_nonneg (if c < 0 then -(c + 1) else c) (show (n : Int) ≠ 0 by omega)
  omega

theorem pick_any (c : Int) (n : Nat) (hn : 0 < n) (hn2 : n ≤ 1000000) (h1 : -9223372036854775808 ≤ c) (h2 : c ≤ 9223372036854775807) (w : World) : Calls Tryz.prog 19 #[.int .i64 c, .int .i64 n] w fun e w' => e = .returned (.int .i64 (pk c n : Nat)) ∧ w' = w := by
  have hp := pk_is c n hn
  by_cases hc : c < 0
  · rw [if_pos hc] at hp
    have e : ((pk c n : Nat) : Int) = -(c + 1).tmod n := by rw [hp, ← Int.neg_tmod, Int.tmod_eq_emod_of_nonneg (by omega)]
    rw [e]
    clear e hp
    go_enter Tryz.func19, Tryz.ntmps19
    go_wp2
    go_ret
    exact ⟨rfl, rfl⟩
  · rw [if_neg hc] at hp
    rw [hp]
    clear hp
    go_enter Tryz.func19, Tryz.ntmps19
    go_wp2
    go_ret
    exact ⟨rfl, rfl⟩
end Go.Proofs.YtbmjlbcaplgfmaaGreatDoor

/-
  What 'function' answers: the bytes of a function.
-/
namespace Go.Proofs.YtbmjlbcaplgfmaaGreatDoor
open Go.RowKit

/-- A text by its bytes. -/
def txt (l : List Nat) : ByteArray := ⟨(l.map UInt8.ofNat).toArray⟩
def u8s (l : List Nat) : List Value := l.map (fun (x : Nat) => Value.int .u8 (x : Int))
theorem Tryz.info5 : (Tryz.prog.info? 5).map (fun i => (i.zero, i.size, i.bytes)) = some (some (.int .u8 0), 1, 1) := by kernel_rfl

theorem fold_txt_from (l : List Nat) : ∀ (s : ByteArray), (l.map (fun (x : Nat) => (x : Int))).foldl (fun r n => r.push (UInt8.ofNat n.toNat)) s = ⟨s.data ++ (l.map UInt8.ofNat).toArray⟩ := by
  induction l with
  | nil => intro s; simp
  | cons a l ih =>
    intro s
    simp only [List.map_cons, List.foldl_cons]
    rw [ih]
    simp [ByteArray.push]
theorem fold_txt (l : List Nat) : (l.map (fun (x : Nat) => (x : Int))).foldl (fun r n => r.push (UInt8.ofNat n.toNat)) ByteArray.empty = txt l := by
  rw [fold_txt_from]
  unfold txt
  congr 1
  exact Array.empty_append

/-- The bytes of the first i instructions. -/
def codeL (x : Nat → Nat) (i : Nat) : List Nat := (List.range (4 * i)).map x
theorem codeL_succ (x : Nat → Nat) (i : Nat) : codeL x (i + 1) = codeL x i ++ [x (4 * i), x (4 * i + 1), x (4 * i + 2), x (4 * i + 3)] := by
  unfold codeL
  rw [show 4 * (i + 1) = 4 * i + 1 + 1 + 1 + 1 by omega]
  simp only [List.range_succ, List.map_append, List.map_cons, List.map_nil, List.append_assoc, List.cons_append, List.nil_append]

set_option maxRecDepth 100000 in
set_option maxHeartbeats 1000000 in
theorem function_any (regs k g cap T m : Nat) (x : Nat → Nat) (w : World) (hr : regs < 256) (hk : k ≤ 200) (hx : ∀ j, j < 4 * k → x j < 256) (hf : Full w g T m (4 * k) (fun j => .int .u8 (x j : Int))) (hkc : k ≤ cap) :
    Calls Tryz.prog 20 #[.int .i64 regs, .slice (some ⟨g, 0, none⟩) k cap] w fun e w' => e = .returned (.string (txt (regs :: k :: codeL x k))) ∧ Below w.heap.size w w' := by
  have HX : Hid (∀ j, j < 4 * k → x j < 256) := hx
  have HF : Hid (Full w g T m (4 * k) (fun j => .int .u8 (x j : Int))) := hf
  have hgz := hf.lt
  clear hx hf
  obtain ⟨i0, hi, hz0, hz1, hz2⟩ := info_parts Tryz.info5
  go_enter Tryz.func20, Tryz.ntmps20
  go_wp2_with fail
  have KO : Hid ((w.alloc (.cells #[.int .u8 regs, .int .u8 k] 5)).ownsRow w.heap.size 5 1 (.slice (some ⟨w.heap.size, 0, none⟩) 2 2) (2 + 4 * 0) (u8s (regs :: k :: codeL x 0))) :=
    ⟨by simp [u8s, codeL], Or.inr ⟨w.heap.size, 2, #[.int .u8 regs, .int .u8 k], rfl, Nat.le_refl _, heap_alloc_new w _, by omega, by decide, rfl, rfl⟩⟩
  have KB : Hid (Below w.heap.size w (w.alloc (.cells #[.int .u8 regs, .int .u8 k] 5))) := (Below.refl _ _).alloc (Nat.le_refl _) _
  go_loopw [5, 6] (fun b i wr => ∃ j, j ≤ k ∧ i = .int .i64 j ∧ Hid (wr.ownsRow w.heap.size 5 1 b (2 + 4 * j) (u8s (regs :: k :: codeL x j))) ∧ Hid (Below w.heap.size w wr)) (fun _ i _ => k - (intOf i).toNat)
  case atStart => exact ⟨0, by omega, rfl, KO, KB⟩
  case round =>
    obtain ⟨j, hj, rfl, rO, rB⟩ := hrel
    clear KO KB
    obtain ⟨gb, cb, rfl⟩ := row_form rO.out (by omega)
    by_cases hlt : j < k
    · have hf : Full wr g T m (4 * k) (fun j => .int .u8 (x j : Int)) := HF.out.block (rB.out.block _ hgz)
      have c0 := hf.cell (j * 4) (by omega)
      have c1 := hf.cell (j * 4 + 1) (by omega)
      have c2 := hf.cell (j * 4 + 2) (by omega)
      have c3 := hf.cell (j * 4 + 3) (by omega)
      have hz := rB.out.size
      clear hf
      have hjk : (j : Int) < (k : Int) := by omega
      go_wp2_with fail
      go_region_law (refine step_append_own rfl (.tmp 19) (.tmp 40) 82 rfl w.heap.size 5 i0 _ 1 1 Tryz.underlying82 hi hz0 hz1 hz2 rfl (by decide) (.slice (some ⟨gb, 0, none⟩) (2 + 4 * j) cb) (2 + 4 * j) (u8s (regs :: k :: codeL x j)) (by simp [Act.eval]) (own_drew (own_alloc rO.out _)) ⟨wr.heap.size, 0, none⟩ 4 4 [.int .u8 (x (j * 4) : Int), .int .u8 (x (j * 4 + 1) : Int), .int .u8 (x (j * 4 + 2) : Int), .int .u8 (x (j * 4 + 3) : Int)] (by simp [Act.eval]) rfl (by intro q u hq; match q, hq with | 0, hq => (simp at hq; subst hq; simp [Addr.add, go_sem]) | 1, hq => (simp at hq; subst hq; simp [Addr.add, go_sem]) | 2, hq => (simp at hq; subst hq; simp [Addr.add, go_sem]) | 3, hq => (simp at hq; subst hq; simp [Addr.add, go_sem])) (by simp [Value.oneCell']) (by unfold maxLen; omega) (by omega) (by simp; omega) ?_; intro v' w6 hown hgrow; have KO6 : Hid (w6.ownsRow w.heap.size 5 1 v' (2 + 4 * j + 4) (u8s (regs :: k :: codeL x j) ++ [.int .u8 (x (j * 4) : Int), .int .u8 (x (j * 4 + 1) : Int), .int .u8 (x (j * 4 + 2) : Int), .int .u8 (x (j * 4 + 3) : Int)])) := hown; have KB6 : Hid (Below w.heap.size w w6) := (below_own (rB.out.trans (((Below.refl _ _).alloc (by omega) _).drew)) hgrow (own_drew (own_alloc rO.out _)) (Nat.le_refl _)); clear hown hgrow)
      all_goals
        clear c0 c1 c2 c3 rO rB i0 hi hz0 hz1 hz2
        go_wp2_with fail
        go_roundw
        case rel =>
          refine ⟨j + 1, by omega, by go_num, ?_, KB6⟩
          show World.ownsRow _ _ _ _ _ _ _
          have e := KO6.out
          rw [show 2 + 4 * (j + 1) = 2 + 4 * j + 4 by omega, codeL_succ]
          simp only [u8s, List.map_cons, List.map_append, List.map_nil, List.cons_append, Nat.mul_comm 4 j] at e ⊢
          exact e
        case measure => simp [intOf]; omega
    · obtain rfl : j = k := by omega
      have hcv := run_convert_bytes_string (P := Tryz.prog) wr 82 9 5 (some ⟨gb, 0, none⟩) (2 + 4 * j) cb Tryz.underlying82 Tryz.underlying5 Tryz.underlying9
      have hld : (loadCells ⟨gb, 0, none⟩ (2 + 4 * j)).run Tryz.prog wr = .ok (((regs :: j :: codeL x j).map (fun (x : Nat) => (x : Int))).map (Value.int .u8)).toArray wr := by
        have e := rO.out
        have := run_loadCells_list (P := Tryz.prog) wr ⟨gb, 0, none⟩ (u8s (regs :: j :: codeL x j)) (fun q v hv => ?_)
        · have hlen : (u8s (regs :: j :: codeL x j)).length = 2 + 4 * j := by simp [u8s, codeL]; omega
          rw [hlen] at this
          rw [this]
          congr 2
          unfold u8s
          rw [List.map_map]
          rfl
        · rcases e.2 with ⟨h, _⟩ | ⟨g', cap', cur, h1, _, h2, _, _, h3, h4⟩
          · cases h
          · cases h1
            rw [Addr.add_mid]
            have hq : cur[q]? = some v := by
              rw [← h4] at hv
              rw [List.getElem?_take] at hv
              split at hv
              · simpa using hv
              · cases hv
            simp [World.cell?, h2, hq]
      have hst := run_bytesToString (P := Tryz.prog) wr ⟨gb, 0, none⟩ (2 + 4 * j) cb _ hld
      rw [hst] at hcv
      have ht : (((regs :: j :: codeL x j).map (fun (x : Nat) => (x : Int))).foldl (fun r n => r.push (UInt8.ofNat n.toNat)) ByteArray.empty) = txt (regs :: j :: codeL x j) := fold_txt _
      rw [ht] at hcv
      clear hst hld ht
      go_wp2_with fail
      go_ret
      exact ⟨rfl, rB.out⟩
end Go.Proofs.YtbmjlbcaplgfmaaGreatDoor
