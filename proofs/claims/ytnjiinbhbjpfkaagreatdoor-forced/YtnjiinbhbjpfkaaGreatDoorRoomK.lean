/-
  A slot is written: the collector is told of what was there.
-/
import Derived.Test.YtnjiinbhbjpfkaaGreatDoorRoomJ
import Derived.Test.YtnjiinbhbjpfkaaGreatDoorRoomH
import Derived.Test.YtnjiinbhbjpfkaaGreatDoorRoomC
import Derived.Deep.RegionHeld3
namespace Go.Proofs.YtnjiinbhbjpfkaaGreatDoor
open Go.RowKit

/-- A slot is written. -/
theorem plc_put {w : World} {pb n p i : Nat} {on : Nat → Bool} {f : Nat → Nat} {M : Nat → List B.V} (v : B.V) (h : Plc w pb n on f M) (h1 : 1 ≤ p) (h2 : p ≤ n) (h3 : on p = true) (hi : i < (M p).length) :
    Plc ((w.setCell ⟨f p, i * 2, none⟩ (.int .i64 (v.1 : Int))).setCell ⟨f p, i * 2 + 1, none⟩ (.int .i64 v.2)) pb n on f (B.lay M p ((M p).set i v)) := by
  have hF := h.s p h1 h2 h3
  obtain ⟨cur, hV, _⟩ := id hF
  obtain ⟨curP, hP, _⟩ := id h.p
  have e2 : pb ≠ f p := cells_ne hP hV (by decide)
  refine ⟨((h.p.off e2).off e2).congr (fun j _ => ?_), fun q a b c => ?_, h.i, fun q a => ?_⟩
  · unfold plcP
    by_cases e : j / 3 + 1 = p
    · rw [e, B.lay_at]; simp
    · rw [B.lay_off _ _ _ _ e]
  · by_cases e : q = p
    · subst e
      rw [B.lay_at]
      simp only [List.length_set]
      refine (hF.reg i v).congr (fun j _ => ?_)
      have hs : ∀ x, B.set (slots M q) i v x = slots (B.lay M q ((M q).set i v)) q x := by
        intro x
        unfold slots
        rw [B.lay_at, List.getD_eq_getElem?_getD, List.getElem?_set]
        by_cases ex : x = i
        · subst ex; rw [B.set_at, if_pos rfl, if_pos hi]; rfl
        · rw [B.set_off _ _ _ _ ex, if_neg (fun h => ex h.symm), List.getD_eq_getElem?_getD]
      unfold regP
      rw [hs]
    · rw [B.lay_off _ _ _ _ e]
      have hne : f q ≠ f p := fun he => e (h.i q p a b h1 h2 c h3 he)
      have := ((h.s q a b c).off (o := i * 2) (v := .int .i64 (v.1 : Int)) hne).off (o := i * 2 + 1) (v := .int .i64 v.2) hne
      refine this.congr (fun j _ => ?_)
      unfold regP slots
      rw [B.lay_off _ _ _ _ e]
  · by_cases e : q = p
    · subst e; rw [B.lay_at]; simpa using h.l q a
    · rw [B.lay_off _ _ _ _ e]; exact h.l q a

theorem told_none {kd : B.Kd} (v : B.V) (h : kd.cy = none) : B.told kd v = kd := by
  obtain ⟨on, cy, un, fo, cc⟩ := kd
  have h' : cy = none := h
  subst h'; rfl
theorem told_some {kd : B.Kd} {c : B.Cy} (v : B.V) (h : kd.cy = some c) : B.told kd v = ⟨kd.on, some ⟨(B.seen c.m c.st v).1, (B.seen c.m c.st v).2, c.nx⟩, kd.un, kd.fo, kd.cc⟩ := by
  unfold B.told; rw [h]; rfl

set_option maxRecDepth 100000 in
set_option maxHeartbeats 4000000 in
theorem setSlot_any (sb pb eb n nr k i : Nat) (x : Int) (v : B.V) (kd : B.Kd) (vb : Vs) (s : B.St) (w : World) (hS : Str w sb pb eb n kd vb s.2.2) (hH : B.Held kd nr n s) (hn : n ≤ 200) (hk : k < n) (hr : B.Reach nr s (k + 1)) (hi : i < (s.2.2 (k + 1)).length) :
    Calls Tryz.prog 160 #[P0 sb, vA (k + 1, x), .int .i64 i, vA v] w fun e w' => e = .returned (.tuple #[]) ∧ ∃ vb', Str w' sb pb eb n (B.told kd ((s.2.2 (k + 1)).getD i (0, 0))) vb' (B.lay s.2.2 (k + 1) ((s.2.2 (k + 1)).set i v)) ∧ Only (Own n kd vb) w w' ∧ Grew n kd vb (B.told kd ((s.2.2 (k + 1)).getD i (0, 0))) vb' w.heap.size := by
  have KS := hid hS
  have HH := hid hH
  have hkd := (B.reach_kd hH hr).1
  have HR := hid hr
  have h0 := hS.c0
  have c2 := hS.cells.2.1
  have ls := heap_lt hS.b
  have lp := hS.p.p.lt
  have p2 := hS.p.p.cell (k * 3 + 2) (by omega)
  rw [plc_2, hkd] at p2
  have hsl : slV true (vb.f (k + 1)) (s.2.2 (k + 1)).length = .slice (some ⟨vb.f (k + 1), 0, none⟩) (s.2.2 (k + 1)).length (s.2.2 (k + 1)).length := rfl
  rw [hsl] at p2
  have hF := hS.p.s (k + 1) (by omega) (by omega) hkd
  have lf := hF.lt
  have HF := hid hF
  have HPL := hid (place_any k x (by omega))
  have hl8 := hS.p.l _ hkd
  have HI := hid (And.intro hkd hi)
  have hk2 : (k : Int) < (n : Int) := by omega
  have hi2 : (i : Int) < ((s.2.2 (k + 1)).length : Int) := by omega
  obtain ⟨s0, f0⟩ := hF.cells (i * 2) (by omega)
  obtain ⟨s1, f1⟩ := hF.cells (i * 2 + 1) (by omega)
  rw [regP_0] at s0
  rw [regP_1] at s1
  have HOV : Hid ((slots s.2.2 (k + 1) i) = (s.2.2 (k + 1)).getD i (0, 0)) := rfl
  have hgo := B.held_get hH hr i
  have hvo : ((s.2.2 (k + 1)).getD i (0, 0)).1 ≠ 0 → ((s.2.2 (k + 1)).getD i (0, 0)).1 ≤ n := fun h0 => (B.reach_kd hH (hgo.2 h0)).2.2
  have HVO := hid hvo
  generalize hov : slots s.2.2 (k + 1) i = o at *
  have HOE : Hid ((s.2.2 (k + 1)).getD i (0, 0) = o) := HOV.out.symm
  clear hS hH hr hsl hF hgo hvo hov HOV
  generalize hml : (s.2.2 (k + 1)).length = m at *
  have HML := hid hml
  clear hml
  go_enter Tryz.func160, Tryz.ntmps160
  go_wp2_with fail
  generalize hW : (w.alloc (.cells #[.int .i64 ((k : Int) + 1), .int .i64 x] 149)).alloc (.cells #[.int .i64 (v.1 : Int), .int .i64 v.2] 149) = w1
  have KG1 : Hid (w.grownBy w1 none) := by rw [← hW]; exact grown_alloc (World.grownBy_alloc _ _ _) _
  have hv1 : w1.heap[w.heap.size + 1]? = some (.cells #[.int .i64 (v.1 : Int), .int .i64 v.2] 149 (0, 0)) := by
    rw [← hW]
    have := heap_alloc_new (w.alloc (.cells #[.int .i64 ((k : Int) + 1), .int .i64 x] 149)) (.cells #[.int .i64 (v.1 : Int), .int .i64 v.2] 149)
    simpa using this
  have hv0 : w1.heap[w.heap.size]? = some (.cells #[.int .i64 ((k : Int) + 1), .int .i64 x] 149 (0, 0)) := by
    rw [← hW, Below.heap_alloc _ _ _ (by simp)]; exact heap_alloc_new w _
  clear hW
  have HV1 := hid hv1
  have a0 : w1.cell? ⟨w.heap.size, 0, none⟩ = some (.int .i64 ((k : Int) + 1)) := by simp [World.cell?, hv0]
  have a1 : w1.cell? ⟨w.heap.size, 1, none⟩ = some (.int .i64 x) := by simp [World.cell?, hv0]
  have lv := heap_lt hv0
  have hz1 := KG1.out.size
  have ls1 : sb < w1.heap.size := by omega
  have d0 := (grown_cell KG1.out (a := ⟨sb, 0, none⟩) ls).1.trans h0
  have HP2 := hid p2
  clear hv0 hv1 h0 p2
  go_cut [8] from 9 to 19 (fun y wx => y = .pointer (some ⟨vb.f (k + 1), i * 2, none⟩) ∧ Hid (w.grownBy wx none) ∧ Hid (wx.heap[w.heap.size + 1]? = some (.cells #[.int .i64 (v.1 : Int), .int .i64 v.2] 149 (0, 0))))
  case first =>
    go_region_with (go_at_call 201; refine (HPL.out _).mono ?_; rintro e w2 ⟨rfl, hg2⟩; have HG2 : Hid (w1.grownBy w2 none) := ⟨hg2.os, hg2.tape, hg2.output, hg2.size, hg2.block⟩; have HG2' := hid (grown_trans KG1.out HG2.out); have d2 := (grown_cell HG2.out (a := ⟨sb, 0, none⟩) ls1).1.trans d0; have ls2 : sb < w2.heap.size := Nat.lt_of_lt_of_le ls1 HG2.out.size; have lp2 : pb < w2.heap.size := Nat.lt_of_lt_of_le lp HG2'.out.size; have q2 := (grown_cell HG2'.out (a := ⟨pb, k * 3 + 2, none⟩) lp).1.trans HP2.out; clear hg2)
    all_goals
      go_wp2_with fail
      go_meet
      case rel => exact ⟨rfl, HG2', grown_heap HG2.out HV1.out (by intro e; cases e)⟩
  case rest =>
    obtain ⟨rfl, HG3, HV3⟩ := hcut
    have hz3 := HG3.out.size
    have e2 := (grown_cell HG3.out (a := ⟨sb, 2, none⟩) ls).1.trans c2
    have t0 := (grown_cell HG3.out (a := ⟨vb.f (k + 1), i * 2, none⟩) lf).1.trans s0
    have t1 := (grown_cell HG3.out (a := ⟨vb.f (k + 1), i * 2 + 1, none⟩) lf).1.trans s1
    have z0 := (grown_cell HG3.out (a := ⟨vb.f (k + 1), i * 2, none⟩) lf).2.trans f0
    have z1 := (grown_cell HG3.out (a := ⟨vb.f (k + 1), i * 2 + 1, none⟩) lf).2.trans f1
    have ls3 : sb < wc.heap.size := by omega
    have lf3 : vb.f (k + 1) < wc.heap.size := by omega
    have u0 : wc.cell? ⟨w.heap.size + 1, 0, none⟩ = some (.int .i64 (v.1 : Int)) := by have := HV3.out; simp [World.cell?, this]
    have u1 : wc.cell? ⟨w.heap.size + 1, 1, none⟩ = some (.int .i64 v.2) := by have := HV3.out; simp [World.cell?, this]
    have lu := heap_lt HV3.out
    clear a0 a1 d0 c2 s0 s1 f0 f1
    have HS3 := hid (KS.out.kept HG3.out)
    have hfO : Own n kd vb (vb.f (k + 1)) := Or.inl ⟨k + 1, by omega, by omega, HI.out.1, rfl⟩
    have HFO := hid hfO
    rcases hcy : kd.cy with _ | c
    · rw [cyV_none hcy] at e2
      have HCY := hid hcy
      clear hcy hfO
      go_wp2_with fail
      go_end0
      refine ⟨rfl, vb, ?_, only_setCell (only_setCell (only_none HG3.out) (Or.inl HFO.out) _) (Or.inl HFO.out) _, ?_⟩
      · rw [told_none _ HCY.out]
        have hne := HS3.out.sb_ne.2 _ HFO.out
        exact ⟨((Below.heap_setCell _ _ _ _ (fun e => hne.1 e.symm)).trans (Below.heap_setCell _ _ _ _ (fun e => hne.1 e.symm))).trans HS3.out.b, plc_put v HS3.out.p (by omega) (by omega) HI.out.1 (by rw [HML.out]; exact HI.out.2), fun c hc => by rw [HCY.out] at hc; cases hc⟩
      · rw [told_none _ HCY.out]; exact Grew.refl _ _ _ _
    · rw [cyV_some hcy] at e2
      have HCY := hid hcy
      clear hcy hfO
      obtain ⟨_, T, _, hSn⟩ := HH.out.h3 c HCY.out
      have hlen : c.st.length ≤ 200 := Nat.le_trans hSn.len hn
      have HRE := hid (fun w' (h : Cym w' vb.cb vb.rd sb n vb.ad vb.cap c) => reach_any vb.cb vb.rd sb n vb.ad vb.cap c o w' h (by have := HVO.out; rw [HOE.out] at this; exact this) hn hlen)
      have HC3 : Hid (Cym wc.drew vb.cb vb.rd sb n vb.ad vb.cap c) := (HS3.out.c c HCY.out).block (fun _ _ => rfl)
      have HCB : Hid (∀ y, CyB vb.cb vb.rd vb.ad y → Own n kd vb y) := fun y hy => Or.inr ⟨by rw [HCY.out]; rfl, hy⟩
      have nfC : ¬ CyB vb.cb vb.rd vb.ad (vb.f (k + 1)) := (plc_cyb HS3.out.p (HS3.out.c c HCY.out)).2 _ (by omega) (by omega) HI.out.1
      have nuC : ¬ CyB vb.cb vb.rd vb.ad (w.heap.size + 1) := fun h => by have := KS.out.lt _ (HCB.out _ h); omega
      have HNF := hid (And.intro nfC nuC)
      have HK : Hid (∀ w' : World, Only (CyB vb.cb vb.rd vb.ad) wc.drew w' → w'.cell? ⟨vb.f (k + 1), i * 2, none⟩ = some (.int .i64 (o.1 : Int)) ∧ w'.cell? ⟨vb.f (k + 1), i * 2 + 1, none⟩ = some (.int .i64 o.2) ∧ w'.frozen? ⟨vb.f (k + 1), i * 2, none⟩ = false ∧ w'.frozen? ⟨vb.f (k + 1), i * 2 + 1, none⟩ = false ∧ w'.cell? ⟨w.heap.size + 1, 0, none⟩ = some (.int .i64 (v.1 : Int)) ∧ w'.cell? ⟨w.heap.size + 1, 1, none⟩ = some (.int .i64 v.2) ∧ vb.f (k + 1) < w'.heap.size ∧ w.heap.size + 1 < w'.heap.size) := fun w' hO => by
        have hO' : Only (CyB vb.cb vb.rd vb.ad) wc w' := hO
        have := hO'.size
        exact ⟨(hO'.cell lf3 HNF.out.1).trans t0, (hO'.cell lf3 HNF.out.1).trans t1, (hO'.frozen lf3 HNF.out.1).trans z0, (hO'.frozen lf3 HNF.out.1).trans z1, (hO'.cell lu HNF.out.2).trans u0, (hO'.cell lu HNF.out.2).trans u1, by omega, by omega⟩
      clear hSn hlen nfC nuC
      go_wp2_with fail
      go_region_with (go_at_call 188; refine (HRE.out _ HC3.out).mono ?_; rintro e w4 ⟨rfl, ad2, cap2, h4, h5, h6⟩; obtain ⟨t0', t1', z0', z1', u0', u1', lf4, lu4⟩ := HK.out w4 h6; have HR4 := hid (And.intro h4 (And.intro h5 h6)); clear h4 h5 h6)
      all_goals
        go_wp2_with fail
        go_end0
        obtain ⟨h4, h5, h6⟩ := HR4.out
        have h6' : Only (CyB vb.cb vb.rd vb.ad) wc w4 := h6
        have hz4 := h6'.size
        have hs4 : w4.heap[sb]? = _ := (h6'.same ls3 (fun h => (KS.out.sb_ne.2 sb (HCB.out _ h)).1 rfl)).trans HS3.out.b
        have hne := KS.out.sb_ne.2 _ HFO.out
        have hP4 : Plc w4 pb n kd.on vb.f s.2.2 := by
          have := plc_cyb HS3.out.p (HS3.out.c c HCY.out)
          exact HS3.out.p.block (h6'.same HS3.out.p.p.lt this.1) (fun p a b d => h6'.same (HS3.out.p.s p a b d).lt (this.2 p a b d))
        have hnad : ∀ y, CyB vb.cb vb.rd ad2 y → y ≠ vb.f (k + 1) := fun y hy e => by
          rcases h4.cyb hy with h | h
          · exact HNF.out.1 (by rw [← e]; exact h)
          · have h' : wc.heap.size ≤ y := h
            omega
        refine ⟨rfl, { vb with ad := ad2, cap := cap2 }, ?_, ?_, ?_⟩
        · rw [HOE.out, told_some _ HCY.out]
          refine ⟨?_, plc_put v hP4 (by omega) (by omega) HI.out.1 (by rw [HML.out]; exact HI.out.2), fun c' hc => ?_⟩
          · refine ((Below.heap_setCell _ _ _ _ (fun e => hne.1 e.symm)).trans (Below.heap_setCell _ _ _ _ (fun e => hne.1 e.symm))).trans (hs4.trans ?_)
            rw [cyV_some HCY.out]; rfl
          · have e : (⟨(B.seen c.m c.st o).1, (B.seen c.m c.st o).2, c.nx⟩ : B.Cy) = c' := by injection hc
            subst e
            exact h5.block (fun y hy => (Below.heap_setCell _ _ _ _ (hnad y hy)).trans (Below.heap_setCell _ _ _ _ (hnad y hy)))
        · refine only_setCell (only_setCell ((only_none (S := Own n kd vb) HG3.out).trans h6' (fun y hy _ => HCB.out y hy)) (Or.inl HFO.out) _) (Or.inl HFO.out) _
        · intro y hy
          rcases hy with ⟨p, a, b, d, e⟩ | ⟨_, hy⟩
          · exact Or.inl (Or.inl ⟨p, a, b, d, e⟩)
          · rcases h4.cyb hy with h | h
            · exact Or.inl (HCB.out y h)
            · have h' : wc.heap.size ≤ y := h
              exact Or.inr (by omega)
end Go.Proofs.YtnjiinbhbjpfkaaGreatDoor

/-
  The instruction Put.
-/
namespace Go.Proofs.YtnjiinbhbjpfkaaGreatDoor
open Go.RowKit

set_option maxRecDepth 100000 in
set_option maxHeartbeats 2000000 in
/-- Put. -/
theorem act11_any (op a b c fb tb eb cb L nx rb nr sb pb n : Nat) (back : Value) (kd : B.Kd) (vb : Vs) (s : B.St) (w : World) (hF : Fr w fb cb L nx rb nr back s.2.1) (hS : Str w sb pb eb n kd vb s.2.2) (hH : B.Held kd nr n s) (hn : n ≤ 200) (ha : a < nr) (hb : b < nr) (hc : c < nr) (h26 : w.cell? ⟨eb, 27, none⟩ = some (P0 sb)) (le : eb < w.heap.size) (heO : ¬ Own n kd vb eb) :
    Calls Tryz.prog 102 #[stepV op a b c fb tb eb] w fun e w' => (okSlot s.2.2 (s.2.1 a) (s.2.1 b) ∧ e = .returned (.int .i64 0) ∧ ∃ vb', Str w' sb pb eb n (B.told kd ((s.2.2 (s.2.1 a).1).getD (s.2.1 b).2.toNat (0, 0))) vb' (B.lay s.2.2 (s.2.1 a).1 ((s.2.2 (s.2.1 a).1).set (s.2.1 b).2.toNat (s.2.1 c))) ∧ Only (Own n kd vb) w w' ∧ Grew n kd vb (B.told kd ((s.2.2 (s.2.1 a).1).getD (s.2.1 b).2.toNat (0, 0))) vb' w.heap.size) ∨ (¬ okSlot s.2.2 (s.2.1 a) (s.2.1 b) ∧ ∃ why : Nat, 1 ≤ why ∧ why ≤ 8 ∧ e = .returned (.int .i64 why) ∧ w.grownBy w' none) := by
  have KF := hid hF
  have KS := hid hS
  have HH := hid hH
  have HEO := hid heO
  clear hF hS hH heO
  go_enter Tryz.func102, Tryz.ntmps102
  go_wp2_with fail
  have HX1 := hid (s7_new w op a b c fb tb eb)
  have KG1 := hid (World.grownBy_alloc w (.cells #[.int .u8 (op : Int), .int .u8 (a : Int), .int .u8 (b : Int), .int .u8 (c : Int), P0 fb, P0 tb, P0 eb] 186) none)
  generalize hW : w.alloc (.cells #[.int .u8 (op : Int), .int .u8 (a : Int), .int .u8 (b : Int), .int .u8 (c : Int), P0 fb, P0 tb, P0 eb] 186) = w1 at *
  have hz1 : w1.heap.size = w.heap.size + 1 := by rw [← hW]; simp
  clear hW
  go_region_held3 (fun w' => w'.cell? ⟨w.heap.size, 0, none⟩ = some (.int .u8 (op : Int)) ∧ w'.cell? ⟨w.heap.size, 1, none⟩ = some (.int .u8 (a : Int)) ∧ w'.cell? ⟨w.heap.size, 2, none⟩ = some (.int .u8 (b : Int)) ∧ w'.cell? ⟨w.heap.size, 3, none⟩ = some (.int .u8 (c : Int)) ∧ w'.cell? ⟨w.heap.size, 4, none⟩ = some (P0 fb) ∧ w'.cell? ⟨w.heap.size, 5, none⟩ = some (P0 tb) ∧ w'.cell? ⟨w.heap.size, 6, none⟩ = some (P0 eb)) (first | exact s7_of HX1.out | exact s7_of HX2.out | exact s7_of HX3.out | exact s7_of HX4.out) (first | (go_at_call 98; refine (a_any op a b c fb tb eb cb L nx rb nr back s.2.1 w1.drew (KF.out.kept (grown_drew KG1.out)).1 (KF.out.kept (grown_drew KG1.out)).2.1 ha).mono ?_; rintro e w2 ⟨rfl, hg2⟩; have KG2 : Hid (w.grownBy w2 none) := grown_trans (grown_drew KG1.out) hg2; have HX2 := hid (grown_out hg2 (show w1.drew.heap[w.heap.size]? = _ from HX1.out)); clear hg2) | (go_at_call 86; refine (b_any op a b c fb tb eb cb L nx rb nr back s.2.1 w2 (KF.out.kept KG2.out).1 (KF.out.kept KG2.out).2.1 hb).mono ?_; rintro e w3 ⟨rfl, hg3⟩; have KG3 : Hid (w.grownBy w3 none) := grown_trans KG2.out hg3; have HX3 := hid (grown_out hg3 HX2.out); clear hg3) | (go_at_call 158; refine (slot_any op a b c fb tb eb sb pb n (s.2.1 a) (s.2.1 b) kd vb s.2.2 w3 (KS.out.kept KG3.out) hn (HH.out.h1 a ha) ((grown_cell KG3.out (a := ⟨eb, 27, none⟩) le).1.trans h26) (Nat.lt_of_lt_of_le le KG3.out.size)).mono ?_; rintro e w4 ⟨v, rfl, hg4, hsl⟩; have KG4 : Hid (w.grownBy w4 none) := grown_trans KG3.out hg4; have HX4 := hid (grown_out hg4 HX3.out); obtain ⟨pv, wy, rfl⟩ : ∃ (pv : Value) (wy : Int), v = .tuple #[pv, .int .i64 wy] := (by rcases hsl with ⟨_, h⟩ | ⟨_, y, _, _, h⟩; exact ⟨_, _, h⟩; exact ⟨_, _, h⟩); have HSL := hid hsl; clear hg4 hsl))

  all_goals
    rcases HSL.out with ⟨hok, he⟩ | ⟨hok, why, hw1, hw2, he⟩
    · have HOK := hid hok
      obtain ⟨o1, o2, o3, o4⟩ := id hok
      have hp : 1 ≤ (s.2.1 a).1 ∧ (s.2.1 a).1 ≤ n ∧ kd.on (s.2.1 a).1 = true := by
        rcases HH.out.h1 a ha with h | h
        · exact absurd h o1
        · exact ⟨h.1, h.2.1, h.2.2.1⟩
      injection he with he
      injection he with he
      injection he with he1 he2
      injection he2 with he2 _
      injection he2 with _ he2
      subst he1 he2
      obtain ⟨i, hi⟩ : ∃ i : Nat, (s.2.1 b).2 = (i : Int) := ⟨(s.2.1 b).2.toNat, by omega⟩
      obtain ⟨k, hk⟩ : ∃ k, (s.2.1 a).1 = k + 1 := ⟨(s.2.1 a).1 - 1, by omega⟩
      have hil : i < (s.2.2 (k + 1)).length := by rw [hi, hk] at o4; omega
      have hre : B.Reach nr s (k + 1) := by rw [← hk]; exact B.reach_reg a ha o1
      have hso : ∀ w' : World, w.grownBy w' none → Calls Tryz.prog 160 #[P0 sb, vA (s.2.1 a), .int .i64 (s.2.1 b).2, vA (s.2.1 c)] w' fun e w'' => e = .returned (.tuple #[]) ∧ ∃ vb', Str w'' sb pb eb n (B.told kd ((s.2.2 (s.2.1 a).1).getD (s.2.1 b).2.toNat (0, 0))) vb' (B.lay s.2.2 (s.2.1 a).1 ((s.2.2 (s.2.1 a).1).set (s.2.1 b).2.toNat (s.2.1 c))) ∧ Only (Own n kd vb) w' w'' ∧ Grew n kd vb (B.told kd ((s.2.2 (s.2.1 a).1).getD (s.2.1 b).2.toNat (0, 0))) vb' w'.heap.size := by
        intro w' hg
        have e1 : s.2.1 a = (k + 1, (s.2.1 a).2) := Prod.ext hk rfl
        rw [hk, hi]
        have := setSlot_any sb pb eb n nr k i (s.2.1 a).2 (s.2.1 c) kd vb s w' (KS.out.kept hg) HH.out hn (by omega) hre hil
        rw [← e1] at this
        exact this
      have HSO := hid hso
      generalize hyy : (s.2.1 b).2 = yy at *
      have HYY := hid hyy
      clear hyy
      clear hok o1 o2 o3 o4 hp hi hk hil hso hre
      obtain ⟨x0, x1, x2, x3, x4, x5, x6⟩ := s7_of HX4.out
      have lx := heap_lt HX4.out
      have hz4 := KG4.out.size
      have heO : ¬ Own n kd vb eb := HEO.out
      have HLO : Hid (∀ x, Own n kd vb x → x < w.heap.size) := KS.out.lt
      have nxO : ¬ Own n kd vb w.heap.size := fun h => by have := HLO.out _ h; omega
      have HS : Hid (∀ w' : World, Only (Own n kd vb) w4 w' → (w'.cell? ⟨w.heap.size, 0, none⟩ = some (.int .u8 (op : Int)) ∧ w'.cell? ⟨w.heap.size, 1, none⟩ = some (.int .u8 (a : Int)) ∧ w'.cell? ⟨w.heap.size, 2, none⟩ = some (.int .u8 (b : Int)) ∧ w'.cell? ⟨w.heap.size, 3, none⟩ = some (.int .u8 (c : Int)) ∧ w'.cell? ⟨w.heap.size, 4, none⟩ = some (P0 fb) ∧ w'.cell? ⟨w.heap.size, 5, none⟩ = some (P0 tb) ∧ w'.cell? ⟨w.heap.size, 6, none⟩ = some (P0 eb) ∧ w'.cell? ⟨eb, 27, none⟩ = some (P0 sb))) :=
        fun w' hO => ⟨(hO.cell lx nxO).trans x0, (hO.cell lx nxO).trans x1, (hO.cell lx nxO).trans x2, (hO.cell lx nxO).trans x3, (hO.cell lx nxO).trans x4, (hO.cell lx nxO).trans x5, (hO.cell lx nxO).trans x6, (hO.cell (by omega) heO).trans ((grown_cell KG4.out (a := ⟨eb, 27, none⟩) le).1.trans h26)⟩
      have HSA := hid (HS.out w4.drew (only_refl _ _))
      have HF4 := hid (KF.out.kept KG4.out)
      go_wp2_with fail
      go_region_held3 (fun w' => w'.cell? ⟨w.heap.size, 0, none⟩ = some (.int .u8 (op : Int)) ∧ w'.cell? ⟨w.heap.size, 1, none⟩ = some (.int .u8 (a : Int)) ∧ w'.cell? ⟨w.heap.size, 2, none⟩ = some (.int .u8 (b : Int)) ∧ w'.cell? ⟨w.heap.size, 3, none⟩ = some (.int .u8 (c : Int)) ∧ w'.cell? ⟨w.heap.size, 4, none⟩ = some (P0 fb) ∧ w'.cell? ⟨w.heap.size, 5, none⟩ = some (P0 tb) ∧ w'.cell? ⟨w.heap.size, 6, none⟩ = some (P0 eb) ∧ w'.cell? ⟨eb, 27, none⟩ = some (P0 sb)) (first | exact HSA.out | exact HSB.out | exact HSC.out | exact HSD.out) (first | (go_at_call 98; refine (a_any op a b c fb tb eb cb L nx rb nr back s.2.1 w4.drew (HF4.out.kept (grown_drew (grown_refl _ _))).1 (HF4.out.kept (grown_drew (grown_refl _ _))).2.1 ha).mono ?_; rintro e w5 ⟨rfl, hg5⟩; have KG5 : Hid (w4.grownBy w5 none) := ⟨hg5.os, hg5.tape, hg5.output, hg5.size, hg5.block⟩; have HSB := hid (HS.out w5 (only_none KG5.out)); clear hg5) | (go_at_call 94; refine (c_any op a b c fb tb eb cb L nx rb nr back s.2.1 w5 (HF4.out.kept KG5.out).1 (HF4.out.kept KG5.out).2.1 hc).mono ?_; rintro e w6 ⟨rfl, hg6⟩; have KG6 : Hid (w4.grownBy w6 none) := grown_trans KG5.out hg6; have HSC := hid (HS.out w6 (only_none KG6.out)); clear hg6) | (go_at_call 160; refine (HSO.out w6 (grown_trans KG4.out KG6.out)).mono ?_; rintro e w7 ⟨rfl, vb', k1, k2, k3⟩; have HSD := hid (HS.out w7 ((only_none (S := Own n kd vb) KG6.out).trans k2 (fun _ h _ => h))); have HR := hid (And.intro k1 (And.intro ((only_none (S := Own n kd vb) (grown_trans KG4.out KG6.out)).trans k2 (fun _ h _ => h)) k3)); have hz6 : w.heap.size ≤ w6.heap.size := (grown_trans KG4.out KG6.out).size; clear k1 k2 k3))
      all_goals
        go_wp2_with fail
        go_ret
        refine Or.inl ⟨HOK.out, rfl, vb', ?_, HR.out.2.1, fun x hx => ?_⟩
        · rw [HYY.out]; exact HR.out.1
        · rw [HYY.out] at hx
          exact (HR.out.2.2 x hx).imp id (fun h => Nat.le_trans hz6 h)
    · injection he with he
      injection he with he
      injection he with he1 he2
      injection he2 with he2 _
      injection he2 with _ he2
      subst he1 he2
      have HOK := hid hok
      have hne0 : ¬ ((why : Int) = 0) := by omega
      clear hok
      go_wp2_with fail
      go_ret
      exact Or.inr ⟨HOK.out, why, hw1, hw2, rfl, KG4.out⟩
end Go.Proofs.YtnjiinbhbjpfkaaGreatDoor

/-
  What the closures of the table do: numbers that two numbers make.
-/
namespace Go.Proofs.YtnjiinbhbjpfkaaGreatDoor
open Go.RowKit

theorem sub_any (x y : Int) (w : World) : Calls Tryz.prog 89 #[.int .i64 x, .int .i64 y] w fun e w' => e = .returned (.int .i64 (B.wrap (x - y))) ∧ w' = w := by
  have hw : IntKind.i64.wrap (x - y) = B.wrap (x - y) := by simp [IntKind.wrap, IntKind.bits, IntKind.signed, B.wrap]; omega
  go_enter Tryz.func89, Tryz.ntmps89
  go_wp2_with fail
  go_ret
  exact ⟨by rw [← hw]; rfl, rfl⟩

set_option maxRecDepth 100000 in
set_option maxHeartbeats 2000000 in
/-- Sub. -/
theorem act3_any (op a b c fb tb eb cb L nx rb nr vb : Nat) (back : Value) (R : Nat → B.V) (ha : a < nr) (hb : b < nr) (hc : c < nr) (w : World) (hF : Fr w fb cb L nx rb nr back R) (hv : w.heap[vb]? = some (.cells #[Fv 89 #[]] 190 (0, 0))) :
    Calls Tryz.prog 151 #[stepV op a b c fb tb eb, P0 vb] w fun e w' => (((R b).1 = 0 ∧ (R c).1 = 0) ∧ e = .returned (.int .i64 0) ∧ w.grownBy w' (some rb) ∧ Fr w' fb cb L nx rb nr back (B.set R a (0, B.wrap ((R b).2 - (R c).2)))) ∨ (¬ ((R b).1 = 0 ∧ (R c).1 = 0) ∧ e = .returned (.int .i64 1) ∧ w.grownBy w' none) := by
  have KF := hid hF
  have HV := hid hv
  clear hF hv
  go_enter Tryz.func151, Tryz.ntmps151
  go_wp2_with fail
  have HX1 := hid (s7_new w op a b c fb tb eb)
  have KG1 := hid (World.grownBy_alloc w (.cells #[.int .u8 (op : Int), .int .u8 (a : Int), .int .u8 (b : Int), .int .u8 (c : Int), P0 fb, P0 tb, P0 eb] 186) none)
  refine (b_any op a b c fb tb eb cb L nx rb nr back R _ (KF.out.kept KG1.out).1 (KF.out.kept KG1.out).2.1 hb).mono ?_
  rintro e w1 ⟨rfl, hg1⟩
  have KG2 := hid (grown_trans KG1.out hg1)
  have HX2 := hid (grown_out hg1 HX1.out)
  clear hg1 HX1 KG1
  go_wp2_with fail
  refine (vnumber_any (R b) _).mono ?_
  rintro e w2 ⟨rfl, hg2⟩
  have KG3 := hid (grown_trans KG2.out hg2)
  have HX3 := hid (grown_out hg2 HX2.out)
  clear hg2 HX2 KG2
  obtain ⟨x0, x1, x2, x3, x4, x5, x6⟩ := s7_of HX3.out
  have lx := heap_lt HX3.out
  go_wp2_with fail
  refine (c_any op a b c fb tb eb cb L nx rb nr back R w2 (KF.out.kept KG3.out).1 (KF.out.kept KG3.out).2.1 hc).mono ?_
  rintro e w3 ⟨rfl, hg3⟩
  have KG4 := hid (grown_trans KG3.out hg3)
  have HX4 := hid (grown_out hg3 HX3.out)
  clear hg3 HX3 KG3 x0 x1 x2 x3 x4 x5 x6 lx
  go_wp2_with fail
  refine (vnumber_any (R c) _).mono ?_
  rintro e w4 ⟨rfl, hg4⟩
  have KG5 := hid (grown_trans KG4.out hg4)
  have HX5 := hid (grown_out hg4 HX4.out)
  clear hg4 HX4 KG4
  obtain ⟨x0, x1, x2, x3, x4, x5, x6⟩ := s7_of HX5.out
  have lx := heap_lt HX5.out
  have hv5 := grown_out KG5.out HV.out
  have v5 : w4.cell? ⟨vb, 0, none⟩ = some (Fv 89 #[]) := by simp [World.cell?, hv5]
  have lv := heap_lt hv5
  clear hv5
  by_cases h1 : (R b).1 = 0
  · by_cases h2 : (R c).1 = 0
    · have d1 : decide ((R b).1 = 0) = true := by simpa using h1
      have d2 : decide ((R c).1 = 0) = true := by simpa using h2
      simp only [d1, d2]
      have HP := hid (And.intro h1 h2)
      clear h1 h2 d1 d2
      generalize hyy : B.wrap ((R b).2 - (R c).2) = y
      have hs := sub_any (R b).2 (R c).2
      rw [hyy] at hs
      have HS := hid hs
      have HYY := hid hyy
      clear hs hyy
      go_wp2_with fail
      go_region_with (first | (go_at_call 89; refine (HS.out _).mono ?_; rintro e w5 ⟨rfl, rfl⟩) | (go_at_call 61; refine (number_any y _).mono ?_; rintro e w6 ⟨rfl, rfl⟩) | (go_at_call 149; refine (set_any op a b c fb tb eb cb L nx rb nr back R (0, y) _ (KF.out.kept (by repeat (first | exact KG5.out | refine grown_drew ?_ | refine grown_alloc ?_ _))).1 (KF.out.kept (by repeat (first | exact KG5.out | refine grown_drew ?_ | refine grown_alloc ?_ _))).2.1 ha).mono ?_; rintro e w7 ⟨rfl, hg7, hf7⟩))
      all_goals
        have hg : w.grownBy w7 (some rb) := grown_trans (by repeat (first | exact grown_of_none KG5.out | refine grown_drew ?_ | refine grown_alloc ?_ _)) hg7
        have HH := hid (And.intro hg (And.intro (grown_heap hg KF.out.1 (by intro e; injection e with e; exact KF.out.2.2 e)) hf7))
        clear hg hg7 hf7
        go_wp2_with fail
        go_ret
        exact Or.inl ⟨HP.out, rfl, HH.out.1, HH.out.2.1, by rw [HYY.out]; exact HH.out.2.2, KF.out.2.2⟩
    · have d1 : decide ((R b).1 = 0) = true := by simpa using h1
      have d2 : decide ((R c).1 = 0) = false := by simpa using h2
      simp only [d1, d2]
      have HP := hid (show ¬ ((R b).1 = 0 ∧ (R c).1 = 0) from fun h => h2 h.2)
      clear h1 h2 d1 d2
      go_wp2_with fail
      go_ret
      exact Or.inr ⟨HP.out, rfl, KG5.out⟩
  · have d1 : decide ((R b).1 = 0) = false := by simpa using h1
    simp only [d1]
    have HP := hid (show ¬ ((R b).1 = 0 ∧ (R c).1 = 0) from fun h => h1 h.1)
    clear h1 d1
    go_wp2_with fail
    go_ret
    exact Or.inr ⟨HP.out, rfl, KG5.out⟩
end Go.Proofs.YtnjiinbhbjpfkaaGreatDoor

/-
  What the closures of the table do: those that go on elsewhere.
-/
namespace Go.Proofs.YtnjiinbhbjpfkaaGreatDoor
open Go.RowKit

theorem true_any (op a b c fb tb eb : Nat) (w : World) : Calls Tryz.prog 96 #[stepV op a b c fb tb eb] w fun e w' => e = .returned (.bool true) ∧ w.grownBy w' none := by
  go_enter Tryz.func96, Tryz.ntmps96
  go_wp2_with fail
  go_ret
  exact ⟨rfl, World.grownBy_alloc _ _ _⟩

set_option maxRecDepth 100000 in
theorem zero_any (op a b c fb tb eb cb L nx rb nr : Nat) (back : Value) (R : Nat → B.V) (ha : a < nr) (w : World) (hF : Fr w fb cb L nx rb nr back R) : Calls Tryz.prog 97 #[stepV op a b c fb tb eb] w fun e w' => e = .returned (.bool (decide (R a = (0, 0)))) ∧ w.grownBy w' none := by
  have KF := hid hF
  clear hF
  have heq := eqV (R a) (0, 0)
  generalize decide (R a = (0, 0)) = d at *
  go_enter Tryz.func97, Tryz.ntmps97
  go_wp2_with fail
  refine (a_any op a b c fb tb eb cb L nx rb nr back R _ (KF.out.kept (World.grownBy_alloc _ _ _)).1 (KF.out.kept (World.grownBy_alloc _ _ _)).2.1 ha).mono ?_
  rintro e w1 ⟨rfl, hg1⟩
  have KG1 := hid (grown_trans (World.grownBy_alloc w _ none) hg1)
  clear hg1
  go_wp2_with fail
  refine (number_any 0 _).mono ?_
  rintro e w2 ⟨rfl, rfl⟩
  go_wp2_with fail
  go_ret
  exact ⟨rfl, grown_alloc KG1.out _⟩


set_option maxRecDepth 100000 in
set_option maxHeartbeats 2000000 in
theorem goes89_any (op a b c fb tb eb cb L nx rb nr vb : Nat) (back : Value) (R : Nat → B.V) (d : Bool) (y : Nat) (hy : Hid (y = if d = true then 256 * b + c else nx)) (hb : b < 256) (hc : c < 256) (w : World) (hF : Fr w fb cb L nx rb nr back R) (hv : w.cell? ⟨vb, 0, none⟩ = some (Fv 96 #[])) (hvb : vb < w.heap.size)
    (hn : Hid (∀ w', w.grownBy w' none → Calls Tryz.prog 96 #[stepV op a b c fb tb eb] w' fun e w'' => e = .returned (.bool d) ∧ w'.grownBy w'' none)) :
    Calls Tryz.prog 153 #[stepV op a b c fb tb eb, P0 vb] w fun e w' => e = .returned (.tuple #[]) ∧ w.grownBy w' (some fb) ∧ Fr w' fb cb L y rb nr back R := by
  have KF := hid hF
  clear hF
  have ht := target_any op a b c hb hc
  go_enter Tryz.func153, Tryz.ntmps153
  go_wp2_with fail
  refine (hn.out _ (World.grownBy_alloc _ _ _)).mono ?_
  rintro e w1 ⟨rfl, hg1⟩
  have KG1 := hid (grown_trans (World.grownBy_alloc w _ none) hg1)
  have HX1 := hid (grown_out hg1 (s7_new w op a b c fb tb eb))
  clear hg1
  have HF1 := hid (KF.out.kept KG1.out)
  cases d
  · have hy' : y = nx := by have := hy.out; simpa using this
    subst hy'
    go_wp2_with fail
    go_end0
    exact ⟨rfl, grown_of_none KG1.out, HF1.out⟩
  · have hy' : 256 * b + c = y := by have := hy.out; simpa using this.symm
    rw [hy'] at ht
    clear hy hy'
    have HT := hid ht
    clear ht
    obtain ⟨x0, x1, x2, x3, x4, x5, x6⟩ := s7_of HX1.out
    have lx := heap_lt HX1.out
    go_wp2_with fail
    go_region_with (go_at_call 154; refine (HT.out w1.drew).mono ?_; rintro e w2 ⟨rfl, hg2'⟩; have hg2 : w1.grownBy w2 none := ⟨hg2'.os, hg2'.tape, hg2'.output, hg2'.size, hg2'.block⟩; clear hg2'; have HF2 := hid (HF1.out.kept hg2); have HG2 := hid (grown_trans KG1.out hg2); obtain ⟨x0, x1, x2, x3, x4, x5, x6⟩ := s7_of (grown_out hg2 HX1.out); obtain ⟨_, f1, _, _, z1⟩ := frm_cells HF2.out.1; have lf := heap_lt HF2.out.1; clear hg2)
    all_goals
      go_wp2_with fail
      go_end0
      refine ⟨rfl, grown_setCell (grown_of_none HG2.out) (Or.inl rfl) _, frm_next HF2.out.1 y, HF2.out.2.1.off (fun e => HF2.out.2.2 e.symm), HF2.out.2.2⟩

set_option maxRecDepth 100000 in
theorem actj89_any (op a b c fb tb eb cb L nx rb nr wb vb : Nat) (back : Value) (R : Nat → B.V) (d : Bool) (y : Nat) (hy : Hid (y = if d = true then 256 * b + c else nx)) (hb : b < 256) (hc : c < 256) (w : World) (hF : Fr w fb cb L nx rb nr back R) (hw : w.cell? ⟨wb, 0, none⟩ = some (Fv 153 #[P0 vb])) (hv : w.cell? ⟨vb, 0, none⟩ = some (Fv 96 #[])) (hwb : wb < w.heap.size) (hvb : vb < w.heap.size)
    (hn : Hid (∀ w', w.grownBy w' none → Calls Tryz.prog 96 #[stepV op a b c fb tb eb] w' fun e w'' => e = .returned (.bool d) ∧ w'.grownBy w'' none)) :
    Calls Tryz.prog 163 #[stepV op a b c fb tb eb, P0 wb] w fun e w' => e = .returned (.int .i64 0) ∧ w.grownBy w' (some fb) ∧ Fr w' fb cb L y rb nr back R := by
  have KF := hid hF
  clear hF
  go_enter Tryz.func163, Tryz.ntmps163
  go_wp2_with fail
  refine (goes89_any op a b c fb tb eb cb L nx rb nr vb back R d y hy hb hc _ (KF.out.kept (World.grownBy_alloc _ _ _)) (by simp [go_sem, hvb, hv]) (by simp; omega) (fun w' hg => hn.out w' (grown_trans (World.grownBy_alloc _ _ _) hg))).mono ?_
  rintro e w1 ⟨rfl, hg1, hF1⟩
  have KF1 := hid hF1
  have KG1 : Hid (w.grownBy w1 (some fb)) := grown_trans (World.grownBy_alloc _ _ _) hg1
  clear hF1 hg1
  go_wp2_with fail
  go_ret
  exact ⟨rfl, KG1.out, KF1.out⟩

set_option maxRecDepth 100000 in
set_option maxHeartbeats 2000000 in
theorem goes90_any (op a b c fb tb eb cb L nx rb nr vb : Nat) (back : Value) (R : Nat → B.V) (d : Bool) (y : Nat) (hy : Hid (y = if d = true then 256 * b + c else nx)) (hb : b < 256) (hc : c < 256) (w : World) (hF : Fr w fb cb L nx rb nr back R) (hv : w.cell? ⟨vb, 0, none⟩ = some (Fv 97 #[])) (hvb : vb < w.heap.size)
    (hn : Hid (∀ w', w.grownBy w' none → Calls Tryz.prog 97 #[stepV op a b c fb tb eb] w' fun e w'' => e = .returned (.bool d) ∧ w'.grownBy w'' none)) :
    Calls Tryz.prog 153 #[stepV op a b c fb tb eb, P0 vb] w fun e w' => e = .returned (.tuple #[]) ∧ w.grownBy w' (some fb) ∧ Fr w' fb cb L y rb nr back R := by
  have KF := hid hF
  clear hF
  have ht := target_any op a b c hb hc
  go_enter Tryz.func153, Tryz.ntmps153
  go_wp2_with fail
  refine (hn.out _ (World.grownBy_alloc _ _ _)).mono ?_
  rintro e w1 ⟨rfl, hg1⟩
  have KG1 := hid (grown_trans (World.grownBy_alloc w _ none) hg1)
  have HX1 := hid (grown_out hg1 (s7_new w op a b c fb tb eb))
  clear hg1
  have HF1 := hid (KF.out.kept KG1.out)
  cases d
  · have hy' : y = nx := by have := hy.out; simpa using this
    subst hy'
    go_wp2_with fail
    go_end0
    exact ⟨rfl, grown_of_none KG1.out, HF1.out⟩
  · have hy' : 256 * b + c = y := by have := hy.out; simpa using this.symm
    rw [hy'] at ht
    clear hy hy'
    have HT := hid ht
    clear ht
    obtain ⟨x0, x1, x2, x3, x4, x5, x6⟩ := s7_of HX1.out
    have lx := heap_lt HX1.out
    go_wp2_with fail
    go_region_with (go_at_call 154; refine (HT.out w1.drew).mono ?_; rintro e w2 ⟨rfl, hg2'⟩; have hg2 : w1.grownBy w2 none := ⟨hg2'.os, hg2'.tape, hg2'.output, hg2'.size, hg2'.block⟩; clear hg2'; have HF2 := hid (HF1.out.kept hg2); have HG2 := hid (grown_trans KG1.out hg2); obtain ⟨x0, x1, x2, x3, x4, x5, x6⟩ := s7_of (grown_out hg2 HX1.out); obtain ⟨_, f1, _, _, z1⟩ := frm_cells HF2.out.1; have lf := heap_lt HF2.out.1; clear hg2)
    all_goals
      go_wp2_with fail
      go_end0
      refine ⟨rfl, grown_setCell (grown_of_none HG2.out) (Or.inl rfl) _, frm_next HF2.out.1 y, HF2.out.2.1.off (fun e => HF2.out.2.2 e.symm), HF2.out.2.2⟩

set_option maxRecDepth 100000 in
theorem actj90_any (op a b c fb tb eb cb L nx rb nr wb vb : Nat) (back : Value) (R : Nat → B.V) (d : Bool) (y : Nat) (hy : Hid (y = if d = true then 256 * b + c else nx)) (hb : b < 256) (hc : c < 256) (w : World) (hF : Fr w fb cb L nx rb nr back R) (hw : w.cell? ⟨wb, 0, none⟩ = some (Fv 153 #[P0 vb])) (hv : w.cell? ⟨vb, 0, none⟩ = some (Fv 97 #[])) (hwb : wb < w.heap.size) (hvb : vb < w.heap.size)
    (hn : Hid (∀ w', w.grownBy w' none → Calls Tryz.prog 97 #[stepV op a b c fb tb eb] w' fun e w'' => e = .returned (.bool d) ∧ w'.grownBy w'' none)) :
    Calls Tryz.prog 163 #[stepV op a b c fb tb eb, P0 wb] w fun e w' => e = .returned (.int .i64 0) ∧ w.grownBy w' (some fb) ∧ Fr w' fb cb L y rb nr back R := by
  have KF := hid hF
  clear hF
  go_enter Tryz.func163, Tryz.ntmps163
  go_wp2_with fail
  refine (goes90_any op a b c fb tb eb cb L nx rb nr vb back R d y hy hb hc _ (KF.out.kept (World.grownBy_alloc _ _ _)) (by simp [go_sem, hvb, hv]) (by simp; omega) (fun w' hg => hn.out w' (grown_trans (World.grownBy_alloc _ _ _) hg))).mono ?_
  rintro e w1 ⟨rfl, hg1, hF1⟩
  have KF1 := hid hF1
  have KG1 : Hid (w.grownBy w1 (some fb)) := grown_trans (World.grownBy_alloc _ _ _) hg1
  clear hF1 hg1
  go_wp2_with fail
  go_ret
  exact ⟨rfl, KG1.out, KF1.out⟩

end Go.Proofs.YtnjiinbhbjpfkaaGreatDoor

/-
  What the closures of the table do: those whose a is a value that can always be told (the function's number is 79).
-/
namespace Go.Proofs.YtnjiinbhbjpfkaaGreatDoor
open Go.RowKit

set_option maxRecDepth 100000 in
set_option maxHeartbeats 2000000 in
theorem gives79_any (op a b c fb tb eb cb L nx rb nr vb : Nat) (back : Value) (R : Nat → B.V) (y : B.V) (ha : a < nr) (w : World) (hF : Fr w fb cb L nx rb nr back R) (hv : w.cell? ⟨vb, 0, none⟩ = some (Fv 86 #[])) (hvb : vb < w.heap.size)
    (hn : Hid (∀ w', w.grownBy w' none → Calls Tryz.prog 86 #[stepV op a b c fb tb eb] w' fun e w'' => e = .returned (vA y) ∧ w'.grownBy w'' none)) :
    Calls Tryz.prog 148 #[stepV op a b c fb tb eb, P0 vb] w fun e w' => e = .returned (.tuple #[]) ∧ w.grownBy w' (some rb) ∧ Fr w' fb cb L nx rb nr back (B.set R a y) := by
  have KF : Hid (Fr w fb cb L nx rb nr back R) := hF
  clear hF
  go_enter Tryz.func148, Tryz.ntmps148
  go_wp2_with fail
  go_region_with (first | (go_at_call 86; refine (hn.out _ (by repeat (first | exact grown_refl _ _ | refine grown_drew ?_ | refine grown_alloc ?_ _))).mono ?_; rintro e w1 ⟨rfl, hg1⟩; obtain ⟨s0, s1, s2, s3, s4, s5, s6, s7⟩ := box7 hg1; have KG1 : Hid (w.grownBy w1 none) := grown_trans (by repeat (first | exact grown_refl _ _ | refine grown_drew ?_ | refine grown_alloc ?_ _)) hg1; clear hg1) | (go_at_call 149; refine (set_any op a b c fb tb eb cb L nx rb nr back R y w1 (KF.out.kept KG1.out).1 (KF.out.kept KG1.out).2.1 ha).mono ?_; rintro e w2 ⟨rfl, hg2, hf2⟩))
  all_goals
    go_wp2_with fail
    go_end0
    refine ⟨rfl, grown_trans (grown_of_none KG1.out) hg2, grown_heap hg2 (KF.out.kept KG1.out).1 (by intro e; injection e with e; exact KF.out.2.2 e), hf2, KF.out.2.2⟩

set_option maxRecDepth 100000 in
theorem actg79_any (op a b c fb tb eb cb L nx rb nr wb vb : Nat) (back : Value) (R : Nat → B.V) (y : B.V) (ha : a < nr) (w : World) (hF : Fr w fb cb L nx rb nr back R) (hw : w.cell? ⟨wb, 0, none⟩ = some (Fv 148 #[P0 vb])) (hv : w.cell? ⟨vb, 0, none⟩ = some (Fv 86 #[])) (hwb : wb < w.heap.size) (hvb : vb < w.heap.size)
    (hn : Hid (∀ w', w.grownBy w' none → Calls Tryz.prog 86 #[stepV op a b c fb tb eb] w' fun e w'' => e = .returned (vA y) ∧ w'.grownBy w'' none)) :
    Calls Tryz.prog 163 #[stepV op a b c fb tb eb, P0 wb] w fun e w' => e = .returned (.int .i64 0) ∧ w.grownBy w' (some rb) ∧ Fr w' fb cb L nx rb nr back (B.set R a y) := by
  have KF : Hid (Fr w fb cb L nx rb nr back R) := hF
  clear hF
  go_enter Tryz.func163, Tryz.ntmps163
  go_wp2_with fail
  refine (gives79_any op a b c fb tb eb cb L nx rb nr vb back R y ha _ (KF.out.kept (World.grownBy_alloc _ _ _)) (by simp [go_sem, hvb, hv]) (by simp; omega) (fun w' hg => hn.out w' (grown_trans (World.grownBy_alloc _ _ _) hg))).mono ?_
  rintro e w1 ⟨rfl, hg1, hF1⟩
  have KF1 := hid hF1
  have KG1 : Hid (w.grownBy w1 (some rb)) := grown_trans (World.grownBy_alloc _ _ _) hg1
  clear hF1 hg1
  go_wp2_with fail
  go_ret
  exact ⟨rfl, KG1.out, KF1.out⟩

end Go.Proofs.YtnjiinbhbjpfkaaGreatDoor

/-
  What the closures of the table do: those whose a is a value that can always be told (the function's number is 86).
-/
namespace Go.Proofs.YtnjiinbhbjpfkaaGreatDoor
open Go.RowKit

set_option maxRecDepth 100000 in
set_option maxHeartbeats 2000000 in
theorem gives86_any (op a b c fb tb eb cb L nx rb nr vb : Nat) (back : Value) (R : Nat → B.V) (y : B.V) (ha : a < nr) (w : World) (hF : Fr w fb cb L nx rb nr back R) (hv : w.cell? ⟨vb, 0, none⟩ = some (Fv 93 #[])) (hvb : vb < w.heap.size)
    (hn : Hid (∀ w', w.grownBy w' none → Calls Tryz.prog 93 #[stepV op a b c fb tb eb] w' fun e w'' => e = .returned (vA y) ∧ w'.grownBy w'' none)) :
    Calls Tryz.prog 148 #[stepV op a b c fb tb eb, P0 vb] w fun e w' => e = .returned (.tuple #[]) ∧ w.grownBy w' (some rb) ∧ Fr w' fb cb L nx rb nr back (B.set R a y) := by
  have KF : Hid (Fr w fb cb L nx rb nr back R) := hF
  clear hF
  go_enter Tryz.func148, Tryz.ntmps148
  go_wp2_with fail
  go_region_with (first | (go_at_call 93; refine (hn.out _ (by repeat (first | exact grown_refl _ _ | refine grown_drew ?_ | refine grown_alloc ?_ _))).mono ?_; rintro e w1 ⟨rfl, hg1⟩; obtain ⟨s0, s1, s2, s3, s4, s5, s6, s7⟩ := box7 hg1; have KG1 : Hid (w.grownBy w1 none) := grown_trans (by repeat (first | exact grown_refl _ _ | refine grown_drew ?_ | refine grown_alloc ?_ _)) hg1; clear hg1) | (go_at_call 149; refine (set_any op a b c fb tb eb cb L nx rb nr back R y w1 (KF.out.kept KG1.out).1 (KF.out.kept KG1.out).2.1 ha).mono ?_; rintro e w2 ⟨rfl, hg2, hf2⟩))
  all_goals
    go_wp2_with fail
    go_end0
    refine ⟨rfl, grown_trans (grown_of_none KG1.out) hg2, grown_heap hg2 (KF.out.kept KG1.out).1 (by intro e; injection e with e; exact KF.out.2.2 e), hf2, KF.out.2.2⟩

set_option maxRecDepth 100000 in
theorem actg86_any (op a b c fb tb eb cb L nx rb nr wb vb : Nat) (back : Value) (R : Nat → B.V) (y : B.V) (ha : a < nr) (w : World) (hF : Fr w fb cb L nx rb nr back R) (hw : w.cell? ⟨wb, 0, none⟩ = some (Fv 148 #[P0 vb])) (hv : w.cell? ⟨vb, 0, none⟩ = some (Fv 93 #[])) (hwb : wb < w.heap.size) (hvb : vb < w.heap.size)
    (hn : Hid (∀ w', w.grownBy w' none → Calls Tryz.prog 93 #[stepV op a b c fb tb eb] w' fun e w'' => e = .returned (vA y) ∧ w'.grownBy w'' none)) :
    Calls Tryz.prog 163 #[stepV op a b c fb tb eb, P0 wb] w fun e w' => e = .returned (.int .i64 0) ∧ w.grownBy w' (some rb) ∧ Fr w' fb cb L nx rb nr back (B.set R a y) := by
  have KF : Hid (Fr w fb cb L nx rb nr back R) := hF
  clear hF
  go_enter Tryz.func163, Tryz.ntmps163
  go_wp2_with fail
  refine (gives86_any op a b c fb tb eb cb L nx rb nr vb back R y ha _ (KF.out.kept (World.grownBy_alloc _ _ _)) (by simp [go_sem, hvb, hv]) (by simp; omega) (fun w' hg => hn.out w' (grown_trans (World.grownBy_alloc _ _ _) hg))).mono ?_
  rintro e w1 ⟨rfl, hg1, hF1⟩
  have KF1 := hid hF1
  have KG1 : Hid (w.grownBy w1 (some rb)) := grown_trans (World.grownBy_alloc _ _ _) hg1
  clear hF1 hg1
  go_wp2_with fail
  go_ret
  exact ⟨rfl, KG1.out, KF1.out⟩

end Go.Proofs.YtnjiinbhbjpfkaaGreatDoor
