/-
  The collector's work at a turn.
-/
import Derived.Test.YtnjiinbhbjpfkaaGreatDoorRoomG
namespace Go.Proofs.YtnjiinbhbjpfkaaGreatDoor
open Go.RowKit

theorem cyV_some {kd : B.Kd} {vb : Vs} {c : B.Cy} (h : kd.cy = some c) : cyV kd vb = P0 vb.cb := by unfold cyV; rw [h]; rfl
theorem cyV_none {kd : B.Kd} {vb : Vs} (h : kd.cy = none) : cyV kd vb = .pointer none := by unfold cyV; rw [h]; rfl
/-- The store's blocks, all of them. -/
def Sbk (sb pb n : Nat) (kd : B.Kd) (vb : Vs) (k : Nat) : Prop := k = sb ∨ k = pb ∨ Own n kd vb k
/-- The blocks of a store are those of before, or new. -/
def Grew (n : Nat) (kd : B.Kd) (vb : Vs) (kd' : B.Kd) (vb' : Vs) (sz : Nat) : Prop := ∀ k, Own n kd' vb' k → Own n kd vb k ∨ sz ≤ k
theorem Grew.refl (n : Nat) (kd : B.Kd) (vb : Vs) (sz : Nat) : Grew n kd vb kd vb sz := fun _ h => Or.inl h
theorem Grew.trans {n : Nat} {kd kd' kd'' : B.Kd} {vb vb' vb'' : Vs} {sz sz' : Nat} (h : Grew n kd vb kd' vb' sz) (h' : Grew n kd' vb' kd'' vb'' sz') (hs : sz ≤ sz') : Grew n kd vb kd'' vb'' sz := fun k hk => by
  rcases h' k hk with h1 | h1
  · exact h k h1
  · exact Or.inr (by omega)
theorem Grew.sbk {sb pb n : Nat} {kd kd' : B.Kd} {vb vb' : Vs} {sz k : Nat} (h : Grew n kd vb kd' vb' sz) (hk : Sbk sb pb n kd' vb' k) (hl : k < sz) : Sbk sb pb n kd vb k := by
  rcases hk with h1 | h1 | h1
  · exact Or.inl h1
  · exact Or.inr (Or.inl h1)
  · exact Or.inr (Or.inr ((h k h1).resolve_right (by omega)))

/-- The collector works: so far. -/
def Wkd (w wr : World) (eb sb pb n : Nat) (kd : B.Kd) (vb : Vs) (s : B.St) (nr : Nat) (kd' : B.Kd) : Prop :=
  ∃ vb', Str wr sb pb eb n kd' vb' s.2.2 ∧ B.Held kd' nr n s ∧ Only (Sbk sb pb n kd vb) w wr ∧ Grew n kd vb kd' vb' w.heap.size
/-- The store's own block is none of the cycle's, nor is the places'. -/
theorem Str.sb_ne {w : World} {sb pb eb n : Nat} {kd : B.Kd} {vb : Vs} {M : Nat → List B.V} (h : Str w sb pb eb n kd vb M) : sb ≠ pb ∧ ∀ k, Own n kd vb k → k ≠ sb ∧ k ≠ pb := by
  obtain ⟨cu, hp, _⟩ := id h.p.p
  refine ⟨cells_ne h.b hp (by decide), fun k hk => ?_⟩
  obtain ⟨cur, T, h1, h2⟩ := h.ty k hk
  refine ⟨cells_ne h1 h.b ?_, cells_ne h1 hp ?_⟩
  · rcases h2 with rfl | rfl | rfl | rfl <;> decide
  · rcases h2 with rfl | rfl | rfl | rfl <;> decide

/-- The store behind a unit. -/
theorem str_step {w : World} {sb pb eb n : Nat} {kd : B.Kd} {vb : Vs} {M : Nat → List B.V} {c : B.Cy} {ad : Option Addr} {cap : Nat} {x : Value} {cc : Nat}
    (hb : w.heap[sb]? = some (.cells #[.slice (some ⟨pb, 0, none⟩) n n, .func (.func 59) #[P0 eb] #[], x, .int .i64 (wrap64 ((kd.un + 1 : Nat) : Int)), .int .i64 (wrap64 (kd.fo : Int)), .int .i64 (wrap64 (cc : Int))] 207 (0, 0)))
    (hx : ((B.unit M kd.on c).2.nx = n ∧ x = .pointer none ∧ cc = kd.cc + 1) ∨ ((B.unit M kd.on c).2.nx ≠ n ∧ x = P0 vb.cb ∧ cc = kd.cc)) (h1 : Plc w pb n (B.unit M kd.on c).1 vb.f M) (h2 : Cym w vb.cb vb.rd sb n ad cap (B.unit M kd.on c).2) :
    Str w sb pb eb n (B.stepK M n kd c) { vb with ad := ad, cap := cap } M := by
  rcases hx with ⟨e, rfl, rfl⟩ | ⟨e, rfl, rfl⟩
  · have hk : B.stepK M n kd c = ⟨(B.unit M kd.on c).1, none, kd.un + 1, kd.fo, kd.cc + 1⟩ := by unfold B.stepK; rw [if_pos e]
    rw [hk]
    exact ⟨hb, h1, fun c hc => by cases hc⟩
  · have hk : B.stepK M n kd c = ⟨(B.unit M kd.on c).1, some (B.unit M kd.on c).2, kd.un + 1, kd.fo, kd.cc⟩ := by unfold B.stepK; rw [if_neg e]
    rw [hk]
    refine ⟨hb, h1, fun c' hc => ?_⟩
    have e : (B.unit M kd.on c).2 = c' := by injection hc
    subst e; exact h2
theorem own_step {n k : Nat} {kd : B.Kd} {vb : Vs} {M : Nat → List B.V} {c : B.Cy} {ad : Option Addr} {cap sz : Nat} (hc : kd.cy = some c) (hN : Nad vb.ad ad sz) (hk : Own n (B.stepK M n kd c) { vb with ad := ad, cap := cap } k) : Own n kd vb k ∨ sz ≤ k := by
  have hon : ∀ p, (B.stepK M n kd c).on p = true → kd.on p = true := fun p hp => by
    have e : (B.stepK M n kd c).on = (B.unit M kd.on c).1 := by unfold B.stepK; split <;> rfl
    rw [e] at hp; exact B.unit_dn hp
  rcases hk with ⟨p, a, b, d, e⟩ | ⟨_, hk⟩
  · exact Or.inl (Or.inl ⟨p, a, b, hon p d, e⟩)
  · exact (hN.cyb hk).imp (fun h => Or.inr ⟨by rw [hc]; rfl, h⟩) id

set_option maxRecDepth 100000 in
set_option maxHeartbeats 4000000 in
theorem work_any (Q : Nat → Prop) (eb sb pb n nr u : Nat) (kd : B.Kd) (vb : Vs) (s : B.St) (w : World) (hR : Rts w Q eb sb pb n nr kd vb s) (hu : u ≤ 50) :
    Calls Tryz.prog 69 #[P0 sb, .int .i64 u] w fun e w' => e = .returned (.tuple #[]) ∧ Wkd w w' eb sb pb n kd vb s nr (B.work s.2.1 nr s.2.2 n u kd) := by
  have KR := hid hR
  obtain ⟨c1, c2, _⟩ := hR.hs.cells
  have c0 := hR.hs.c0
  have ls := heap_lt hR.hs.b
  have hn := hR.n2
  clear hR
  cases hcy : kd.cy with
  | none =>
    rw [cyV_none hcy] at c2
    have HCY := hid hcy
    clear hcy
    go_enter Tryz.func69, Tryz.ntmps69
    go_wp2_with fail
    refine (beginc_any Q eb sb pb n nr s.2.1 w c0 c1 KR.out.hv (fun k hk => (KR.out.hq k hk).1) hn KR.out.roots).mono ?_
    rintro e w1 ⟨cb, rd, ad, cap, rfl, hB1, hC1, hY1⟩
    have hb1 := (hB1.block sb ls).trans KR.out.hs.b
    have x2 : w1.cell? ⟨sb, 2, none⟩ = some (.pointer none) := by rw [cyV_none HCY.out] at hb1; simp [World.cell?, hb1]
    have y2 : w1.frozen? ⟨sb, 2, none⟩ = false := by simp [World.frozen?, hb1]
    have ls1 := heap_lt hb1
    have HW0 : Hid (Wkd w (w1.setCell ⟨sb, 2, none⟩ (P0 cb)) eb sb pb n kd vb s nr { kd with cy := some (B.begun s.2.1 nr) }) := by
      have hS := KR.out.hs
      have hne := hS.sb_ne
      have hsC : ∀ k, CyB cb rd ad k → k ≠ sb := fun k hk => by have := hC1 k hk; omega
      refine ⟨{ vb with cb := cb, rd := rd, ad := ad, cap := cap }, ⟨?_, ?_, ?_⟩, B.held_begun KR.out.hh KR.out.n1, ?_, ?_⟩
      · simp [World.setCell, Array.getElem?_modify, hb1, cyV]
      · exact (hS.p.block (hB1.block pb hS.p.p.lt) (fun p a b d => hB1.block _ (hS.p.s p a b d).lt)).block (Below.heap_setCell _ _ _ _ (fun e => hne.1 e.symm)) (fun p a b d => Below.heap_setCell _ _ _ _ (hne.2 _ (Or.inl ⟨p, a, b, d, rfl⟩)).1)
      · intro c hc
        have e : B.begun s.2.1 nr = c := by injection hc
        subst e
        exact hY1.block (fun k hk => Below.heap_setCell _ _ _ _ (hsC k hk))
      · exact only_setCell ⟨hB1.os, hB1.tape, hB1.output, hB1.size, fun k hk _ => hB1.block k hk⟩ (Or.inl (Or.inl rfl)) _
      · intro k hk
        rcases hk with ⟨p, a, b, d, e⟩ | ⟨_, hk⟩
        · exact Or.inl (Or.inl ⟨p, a, b, d, e⟩)
        · exact Or.inr (hC1 k hk)
    have HU : Hid (B.units s.2.2 n u { kd with cy := some (B.begun s.2.1 nr) } = B.work s.2.1 nr s.2.2 n u kd) := by
      show _ = _
      unfold B.work
      rw [HCY.out]
    clear hB1 hC1 hY1 hb1
    clear c0 c1 c2
    go_wp2_with fail
    go_loopw [4] (fun i wr => ∃ j : Nat, j ≤ u ∧ i = .int .i64 j ∧ Hid (∃ kd', Wkd w wr eb sb pb n kd vb s nr kd' ∧ B.units s.2.2 n (u - j) kd' = B.work s.2.1 nr s.2.2 n u kd)) (fun i _ => u - (intOf i).toNat)
    case atStart => exact ⟨0, by omega, rfl, _, HW0.out, HU.out⟩
    case round =>
      obtain ⟨j, hj, rfl, hX⟩ := hrel
      obtain ⟨kd', ⟨vb', hS, hH, hO, hG⟩, hU⟩ := hX.out
      obtain ⟨_, d2, _, _, _, _, _, _, _⟩ := hS.cells
      have lw := heap_lt hS.b
      have HS := hid hS
      have HQ := hid (And.intro hH (And.intro hO (And.intro hG hU)))
      clear hS hH hO hG hU
      by_cases hlt : j < u
      · have hlt2 : (j : Int) < (u : Int) := by omega
        cases hcy' : kd'.cy with
        | none =>
          rw [cyV_none hcy'] at d2
          have HC' := hid hcy'
          clear hcy'
          go_wp2_with fail
          go_end0
          obtain ⟨hH, hO, hG, hU⟩ := HQ.out
          rw [B.units_none HC'.out] at hU
          exact ⟨rfl, by rw [← hU]; exact ⟨vb', HS.out, hH, hO, hG⟩⟩
        | some c =>
          rw [cyV_some hcy'] at d2
          have HC' := hid hcy'
          clear hcy'
          obtain ⟨hx, T, hT, hSn⟩ := HQ.out.1.h3 c HC'.out
          have HSN := hid hSn
          have HUN := hid (unitc_any vb'.cb vb'.rd sb pb n vb'.ad vb'.cap c kd'.on vb'.f s.2.2 T wr (HS.out.c c HC'.out) HS.out.p HS.out.c0 (fun h => (HS.out.sb_ne.2 sb (Or.inr ⟨by rw [HC'.out]; rfl, h⟩)).1 rfl) hSn hSn.sum hx hn)
          have HXX := hid hx
          clear hSn hT hx
          go_wp2_with fail
          refine HUN.out.mono ?_
          rintro e w5 ⟨rfl, u1, u2, ad2, cap2, u3, u4⟩
          have hb5 : w5.heap[sb]? = _ := (u2.same lw (fun h => by
            rcases h with h | h
            · exact HS.out.sb_ne.1 h
            · exact (HS.out.sb_ne.2 sb (Or.inr ⟨by rw [HC'.out]; rfl, h⟩)).1 rfl)).trans HS.out.b
          rw [cyV_some HC'.out] at hb5
          generalize hun : wrap64 (kd'.un : Int) = yu at hb5
          generalize hcc : wrap64 (kd'.cc : Int) = yc at hb5
          have x2 : w5.cell? ⟨sb, 2, none⟩ = some (P0 vb'.cb) := by simp [World.cell?, hb5]
          have x3 : w5.cell? ⟨sb, 3, none⟩ = some (.int .i64 yu) := by simp [World.cell?, hb5]
          have y3 : w5.frozen? ⟨sb, 3, none⟩ = false := by simp [World.frozen?, hb5]
          have l5 := heap_lt hb5
          have HB5 := hid hb5
          have HYU := hid (And.intro hun hcc)
          have HU4 := hid (And.intro u1 (And.intro u2 (And.intro u3 u4)))
          clear u1 u2 u3 u4 hb5 hun hcc d2 HUN
          go_wp2_with fail
          have hb6 : (w5.setCell ⟨sb, 3, none⟩ (.int .i64 (wrap64 (yu + 1)))).heap[sb]? = some (.cells #[.slice (some ⟨pb, 0, none⟩) n n, .func (.func 59) #[P0 eb] #[], P0 vb'.cb, .int .i64 (wrap64 (yu + 1)), .int .i64 (wrap64 (kd'.fo : Int)), .int .i64 yc] 207 (0, 0)) := by
            have := HB5.out
            simp [World.setCell, Array.getElem?_modify, this]
          have hnC : ∀ k, CyB vb'.cb vb'.rd ad2 k → k ≠ sb := fun k hk e => by
            rcases HU4.out.2.2.1.cyb hk with h | h
            · exact (HS.out.sb_ne.2 k (Or.inr ⟨by rw [HC'.out]; rfl, h⟩)).1 e
            · omega
          have hP6 : Plc (w5.setCell ⟨sb, 3, none⟩ (.int .i64 (wrap64 (yu + 1)))) pb n (B.unit s.2.2 kd'.on c).1 vb'.f s.2.2 := HU4.out.1.block (Below.heap_setCell _ _ _ _ (fun e => HS.out.sb_ne.1 e.symm)) (fun p a b d => Below.heap_setCell _ _ _ _ (HS.out.sb_ne.2 _ (Or.inl ⟨p, a, b, B.unit_dn d, rfl⟩)).1)
          have hC6 : Cym (w5.setCell ⟨sb, 3, none⟩ (.int .i64 (wrap64 (yu + 1)))) vb'.cb vb'.rd sb n ad2 cap2 (B.unit s.2.2 kd'.on c).2 := HU4.out.2.2.2.block (fun k hk => Below.heap_setCell _ _ _ _ (hnC k hk))
          have HNC := hid hnC
          have KP6 := hid hP6
          have KC6 := hid hC6
          have HB6 := hid hb6
          have hsz6 : (w5.setCell ⟨sb, 3, none⟩ (.int .i64 (wrap64 (yu + 1)))).heap.size = w5.heap.size := by simp [World.setCell]
          have KO6 : Hid (Only (Sbk sb pb n kd vb) w (w5.setCell ⟨sb, 3, none⟩ (.int .i64 (wrap64 (yu + 1))))) := by
            refine only_setCell (HQ.out.2.1.trans HU4.out.2.1 (fun k hk hl => ?_)) (Or.inl (Or.inl rfl)) _
            rcases hk with h | h
            · exact Or.inr (Or.inl h)
            · exact Or.inr (Or.inr ((HQ.out.2.2.1 k (Or.inr ⟨by rw [HC'.out]; rfl, h⟩)).resolve_right (by omega)))
          clear hb6 hnC hP6 hC6 x2 x3 y3 hsz6
          generalize hw6 : w5.setCell ⟨sb, 3, none⟩ (.int .i64 (wrap64 (yu + 1))) = w6 at *
          clear hw6
          refine (endedc_any vb'.cb vb'.rd sb n ad2 cap2 _ w6 KC6.out).mono ?_
          rintro e w7 ⟨rfl, hg7⟩
          have KG7 := hid hg7
          have hb7 := grown_heap hg7 HB6.out (by intro e; cases e)
          have HB7 := hid hb7
          have HGR : Hid (Grew n kd vb (B.stepK s.2.2 n kd' c) { vb' with ad := ad2, cap := cap2 } w.heap.size) := fun k hk => by
            rcases own_step HC'.out HU4.out.2.2.1 hk with h | h
            · exact HQ.out.2.2.1 k h
            · have := HQ.out.2.1.size
              exact Or.inr (by omega)
          have HNX : Hid (B.units s.2.2 n (u - (j + 1)) (B.stepK s.2.2 n kd' c) = B.work s.2.1 nr s.2.2 n u kd) := by
            have := HQ.out.2.2.2
            rw [show u - j = (u - (j + 1)) + 1 by omega, B.units_succ HC'.out] at this
            exact this
          clear hg7
          by_cases hend : (B.unit s.2.2 kd'.on c).2.nx = n
          · have hd : decide ((B.unit s.2.2 kd'.on c).2.nx = n) = true := by simpa using hend
            rw [hd]
            have HEND := hid hend
            have z2 : w7.cell? ⟨sb, 2, none⟩ = some (P0 vb'.cb) := by simp [World.cell?, hb7]
            have z5 : w7.cell? ⟨sb, 5, none⟩ = some (.int .i64 yc) := by simp [World.cell?, hb7]
            have q2 : w7.frozen? ⟨sb, 2, none⟩ = false := by simp [World.frozen?, hb7]
            have q5 : w7.frozen? ⟨sb, 5, none⟩ = false := by simp [World.frozen?, hb7]
            have l7 := heap_lt hb7
            clear hd hend hb7
            go_wp2_with fail
            go_roundw
            case rel =>
              refine ⟨j + 1, by omega, by go_num, _, ⟨{ vb' with ad := ad2, cap := cap2 }, str_step (cc := kd'.cc + 1) (x := .pointer none) ?_ (Or.inl ⟨HEND.out, rfl, rfl⟩) ?_ ?_, B.held_step HQ.out.1 HC'.out, ?_, HGR.out⟩, HNX.out⟩
              · have := HB7.out
                rw [← HYU.out.1, ← HYU.out.2] at *
                simp [World.setCell, Array.getElem?_modify, this, wrap_succ]
              · exact ((KP6.out.kept KG7.out).block (Below.heap_setCell _ _ _ _ (fun e => HS.out.sb_ne.1 e.symm)) (fun p a b d => Below.heap_setCell _ _ _ _ (HS.out.sb_ne.2 _ (Or.inl ⟨p, a, b, B.unit_dn d, rfl⟩)).1)).block (Below.heap_setCell _ _ _ _ (fun e => HS.out.sb_ne.1 e.symm)) (fun p a b d => Below.heap_setCell _ _ _ _ (HS.out.sb_ne.2 _ (Or.inl ⟨p, a, b, B.unit_dn d, rfl⟩)).1)
              · exact ((KC6.out.kept KG7.out).block (fun k hk => Below.heap_setCell _ _ _ _ (HNC.out k hk))).block (fun k hk => Below.heap_setCell _ _ _ _ (HNC.out k hk))
              · exact only_setCell (only_setCell (KO6.out.then0 KG7.out) (Or.inl (Or.inl rfl)) _) (Or.inl (Or.inl rfl)) _
            case measure => simp [intOf]; omega
          · have hd : decide ((B.unit s.2.2 kd'.on c).2.nx = n) = false := by simpa using hend
            rw [hd]
            have HEND := hid hend
            clear hd hend hb7
            go_wp2_with fail
            go_roundw
            case rel =>
              refine ⟨j + 1, by omega, by go_num, _, ⟨{ vb' with ad := ad2, cap := cap2 }, str_step (cc := kd'.cc) (x := P0 vb'.cb) ?_ (Or.inr ⟨HEND.out, rfl, rfl⟩) (KP6.out.kept KG7.out) (KC6.out.kept KG7.out), B.held_step HQ.out.1 HC'.out, KO6.out.then0 KG7.out, HGR.out⟩, HNX.out⟩
              rw [HB7.out, ← HYU.out.1, ← HYU.out.2, wrap_succ]
            case measure => simp [intOf]; omega
      · have hlt2 : ¬ ((j : Int) < (u : Int)) := by omega
        have hge : decide ((j : Int) < (u : Int)) = false := by simpa using hlt2
        have HJ : Hid (u - j = 0) := by show _ = _; omega
        go_wp2_with fail
        go_end0
        obtain ⟨hH, hO, hG, hU⟩ := HQ.out
        rw [HJ.out] at hU
        exact ⟨rfl, by rw [← hU]; exact ⟨vb', HS.out, hH, hO, hG⟩⟩
  | some c0' =>
    rw [cyV_some hcy] at c2
    have HCY := hid hcy
    clear hcy
    have HW0 : Hid (Wkd w w eb sb pb n kd vb s nr kd) := ⟨vb, KR.out.hs, KR.out.hh, only_refl _ _, Grew.refl _ _ _ _⟩
    have HU : Hid (B.units s.2.2 n u kd = B.work s.2.1 nr s.2.2 n u kd) := by
      show _ = _
      unfold B.work
      rw [HCY.out]
    go_enter Tryz.func69, Tryz.ntmps69
    go_wp2_with fail
    clear c0 c1 c2
    go_loopw [4] (fun i wr => ∃ j : Nat, j ≤ u ∧ i = .int .i64 j ∧ Hid (∃ kd', Wkd w wr eb sb pb n kd vb s nr kd' ∧ B.units s.2.2 n (u - j) kd' = B.work s.2.1 nr s.2.2 n u kd)) (fun i _ => u - (intOf i).toNat)
    case atStart => exact ⟨0, by omega, rfl, _, HW0.out, HU.out⟩
    case round =>
      obtain ⟨j, hj, rfl, hX⟩ := hrel
      obtain ⟨kd', ⟨vb', hS, hH, hO, hG⟩, hU⟩ := hX.out
      obtain ⟨_, d2, _, _, _, _, _, _, _⟩ := hS.cells
      have lw := heap_lt hS.b
      have HS := hid hS
      have HQ := hid (And.intro hH (And.intro hO (And.intro hG hU)))
      clear hS hH hO hG hU
      by_cases hlt : j < u
      · have hlt2 : (j : Int) < (u : Int) := by omega
        cases hcy' : kd'.cy with
        | none =>
          rw [cyV_none hcy'] at d2
          have HC' := hid hcy'
          clear hcy'
          go_wp2_with fail
          go_end0
          obtain ⟨hH, hO, hG, hU⟩ := HQ.out
          rw [B.units_none HC'.out] at hU
          exact ⟨rfl, by rw [← hU]; exact ⟨vb', HS.out, hH, hO, hG⟩⟩
        | some c =>
          rw [cyV_some hcy'] at d2
          have HC' := hid hcy'
          clear hcy'
          obtain ⟨hx, T, hT, hSn⟩ := HQ.out.1.h3 c HC'.out
          have HSN := hid hSn
          have HUN := hid (unitc_any vb'.cb vb'.rd sb pb n vb'.ad vb'.cap c kd'.on vb'.f s.2.2 T wr (HS.out.c c HC'.out) HS.out.p HS.out.c0 (fun h => (HS.out.sb_ne.2 sb (Or.inr ⟨by rw [HC'.out]; rfl, h⟩)).1 rfl) hSn hSn.sum hx hn)
          have HXX := hid hx
          clear hSn hT hx
          go_wp2_with fail
          refine HUN.out.mono ?_
          rintro e w5 ⟨rfl, u1, u2, ad2, cap2, u3, u4⟩
          have hb5 : w5.heap[sb]? = _ := (u2.same lw (fun h => by
            rcases h with h | h
            · exact HS.out.sb_ne.1 h
            · exact (HS.out.sb_ne.2 sb (Or.inr ⟨by rw [HC'.out]; rfl, h⟩)).1 rfl)).trans HS.out.b
          rw [cyV_some HC'.out] at hb5
          generalize hun : wrap64 (kd'.un : Int) = yu at hb5
          generalize hcc : wrap64 (kd'.cc : Int) = yc at hb5
          have x2 : w5.cell? ⟨sb, 2, none⟩ = some (P0 vb'.cb) := by simp [World.cell?, hb5]
          have x3 : w5.cell? ⟨sb, 3, none⟩ = some (.int .i64 yu) := by simp [World.cell?, hb5]
          have y3 : w5.frozen? ⟨sb, 3, none⟩ = false := by simp [World.frozen?, hb5]
          have l5 := heap_lt hb5
          have HB5 := hid hb5
          have HYU := hid (And.intro hun hcc)
          have HU4 := hid (And.intro u1 (And.intro u2 (And.intro u3 u4)))
          clear u1 u2 u3 u4 hb5 hun hcc d2 HUN
          go_wp2_with fail
          have hb6 : (w5.setCell ⟨sb, 3, none⟩ (.int .i64 (wrap64 (yu + 1)))).heap[sb]? = some (.cells #[.slice (some ⟨pb, 0, none⟩) n n, .func (.func 59) #[P0 eb] #[], P0 vb'.cb, .int .i64 (wrap64 (yu + 1)), .int .i64 (wrap64 (kd'.fo : Int)), .int .i64 yc] 207 (0, 0)) := by
            have := HB5.out
            simp [World.setCell, Array.getElem?_modify, this]
          have hnC : ∀ k, CyB vb'.cb vb'.rd ad2 k → k ≠ sb := fun k hk e => by
            rcases HU4.out.2.2.1.cyb hk with h | h
            · exact (HS.out.sb_ne.2 k (Or.inr ⟨by rw [HC'.out]; rfl, h⟩)).1 e
            · omega
          have hP6 : Plc (w5.setCell ⟨sb, 3, none⟩ (.int .i64 (wrap64 (yu + 1)))) pb n (B.unit s.2.2 kd'.on c).1 vb'.f s.2.2 := HU4.out.1.block (Below.heap_setCell _ _ _ _ (fun e => HS.out.sb_ne.1 e.symm)) (fun p a b d => Below.heap_setCell _ _ _ _ (HS.out.sb_ne.2 _ (Or.inl ⟨p, a, b, B.unit_dn d, rfl⟩)).1)
          have hC6 : Cym (w5.setCell ⟨sb, 3, none⟩ (.int .i64 (wrap64 (yu + 1)))) vb'.cb vb'.rd sb n ad2 cap2 (B.unit s.2.2 kd'.on c).2 := HU4.out.2.2.2.block (fun k hk => Below.heap_setCell _ _ _ _ (hnC k hk))
          have HNC := hid hnC
          have KP6 := hid hP6
          have KC6 := hid hC6
          have HB6 := hid hb6
          have hsz6 : (w5.setCell ⟨sb, 3, none⟩ (.int .i64 (wrap64 (yu + 1)))).heap.size = w5.heap.size := by simp [World.setCell]
          have KO6 : Hid (Only (Sbk sb pb n kd vb) w (w5.setCell ⟨sb, 3, none⟩ (.int .i64 (wrap64 (yu + 1))))) := by
            refine only_setCell (HQ.out.2.1.trans HU4.out.2.1 (fun k hk hl => ?_)) (Or.inl (Or.inl rfl)) _
            rcases hk with h | h
            · exact Or.inr (Or.inl h)
            · exact Or.inr (Or.inr ((HQ.out.2.2.1 k (Or.inr ⟨by rw [HC'.out]; rfl, h⟩)).resolve_right (by omega)))
          clear hb6 hnC hP6 hC6 x2 x3 y3 hsz6
          generalize hw6 : w5.setCell ⟨sb, 3, none⟩ (.int .i64 (wrap64 (yu + 1))) = w6 at *
          clear hw6
          refine (endedc_any vb'.cb vb'.rd sb n ad2 cap2 _ w6 KC6.out).mono ?_
          rintro e w7 ⟨rfl, hg7⟩
          have KG7 := hid hg7
          have hb7 := grown_heap hg7 HB6.out (by intro e; cases e)
          have HB7 := hid hb7
          have HGR : Hid (Grew n kd vb (B.stepK s.2.2 n kd' c) { vb' with ad := ad2, cap := cap2 } w.heap.size) := fun k hk => by
            rcases own_step HC'.out HU4.out.2.2.1 hk with h | h
            · exact HQ.out.2.2.1 k h
            · have := HQ.out.2.1.size
              exact Or.inr (by omega)
          have HNX : Hid (B.units s.2.2 n (u - (j + 1)) (B.stepK s.2.2 n kd' c) = B.work s.2.1 nr s.2.2 n u kd) := by
            have := HQ.out.2.2.2
            rw [show u - j = (u - (j + 1)) + 1 by omega, B.units_succ HC'.out] at this
            exact this
          clear hg7
          by_cases hend : (B.unit s.2.2 kd'.on c).2.nx = n
          · have hd : decide ((B.unit s.2.2 kd'.on c).2.nx = n) = true := by simpa using hend
            rw [hd]
            have HEND := hid hend
            have z2 : w7.cell? ⟨sb, 2, none⟩ = some (P0 vb'.cb) := by simp [World.cell?, hb7]
            have z5 : w7.cell? ⟨sb, 5, none⟩ = some (.int .i64 yc) := by simp [World.cell?, hb7]
            have q2 : w7.frozen? ⟨sb, 2, none⟩ = false := by simp [World.frozen?, hb7]
            have q5 : w7.frozen? ⟨sb, 5, none⟩ = false := by simp [World.frozen?, hb7]
            have l7 := heap_lt hb7
            clear hd hend hb7
            go_wp2_with fail
            go_roundw
            case rel =>
              refine ⟨j + 1, by omega, by go_num, _, ⟨{ vb' with ad := ad2, cap := cap2 }, str_step (cc := kd'.cc + 1) (x := .pointer none) ?_ (Or.inl ⟨HEND.out, rfl, rfl⟩) ?_ ?_, B.held_step HQ.out.1 HC'.out, ?_, HGR.out⟩, HNX.out⟩
              · have := HB7.out
                rw [← HYU.out.1, ← HYU.out.2] at *
                simp [World.setCell, Array.getElem?_modify, this, wrap_succ]
              · exact ((KP6.out.kept KG7.out).block (Below.heap_setCell _ _ _ _ (fun e => HS.out.sb_ne.1 e.symm)) (fun p a b d => Below.heap_setCell _ _ _ _ (HS.out.sb_ne.2 _ (Or.inl ⟨p, a, b, B.unit_dn d, rfl⟩)).1)).block (Below.heap_setCell _ _ _ _ (fun e => HS.out.sb_ne.1 e.symm)) (fun p a b d => Below.heap_setCell _ _ _ _ (HS.out.sb_ne.2 _ (Or.inl ⟨p, a, b, B.unit_dn d, rfl⟩)).1)
              · exact ((KC6.out.kept KG7.out).block (fun k hk => Below.heap_setCell _ _ _ _ (HNC.out k hk))).block (fun k hk => Below.heap_setCell _ _ _ _ (HNC.out k hk))
              · exact only_setCell (only_setCell (KO6.out.then0 KG7.out) (Or.inl (Or.inl rfl)) _) (Or.inl (Or.inl rfl)) _
            case measure => simp [intOf]; omega
          · have hd : decide ((B.unit s.2.2 kd'.on c).2.nx = n) = false := by simpa using hend
            rw [hd]
            have HEND := hid hend
            clear hd hend hb7
            go_wp2_with fail
            go_roundw
            case rel =>
              refine ⟨j + 1, by omega, by go_num, _, ⟨{ vb' with ad := ad2, cap := cap2 }, str_step (cc := kd'.cc) (x := P0 vb'.cb) ?_ (Or.inr ⟨HEND.out, rfl, rfl⟩) (KP6.out.kept KG7.out) (KC6.out.kept KG7.out), B.held_step HQ.out.1 HC'.out, KO6.out.then0 KG7.out, HGR.out⟩, HNX.out⟩
              rw [HB7.out, ← HYU.out.1, ← HYU.out.2, wrap_succ]
            case measure => simp [intOf]; omega
      · have hlt2 : ¬ ((j : Int) < (u : Int)) := by omega
        have hge : decide ((j : Int) < (u : Int)) = false := by simpa using hlt2
        have HJ : Hid (u - j = 0) := by show _ = _; omega
        go_wp2_with fail
        go_end0
        obtain ⟨hH, hO, hG, hU⟩ := HQ.out
        rw [HJ.out] at hU
        exact ⟨rfl, by rw [← hU]; exact ⟨vb', HS.out, hH, hO, hG⟩⟩
end Go.Proofs.YtnjiinbhbjpfkaaGreatDoor

/-
  The roots of a machine whose task lives no more: none, or the cell that it gave.
-/
namespace Go.Proofs.YtnjiinbhbjpfkaaGreatDoor
open Go.RowKit

set_option maxRecDepth 100000 in
set_option maxHeartbeats 2000000 in
theorem vis_off0 (eb c : Nat) (a : Option Addr) (R : Nat → B.V) (w : World) (h29 : w.cell? ⟨eb, 29, none⟩ = some (.slice a 0 c)) (h31 : w.cell? ⟨eb, 31, none⟩ = some (.slice none 0 0)) : Vis (fun k => k = eb) w eb 0 R := by
  intro w1 cb rd sb n ad cap cy hk hC hQ hn hs hR
  have c1 := (World.cell?_of_block (a := ⟨eb, 29, none⟩) (hk eb rfl)).trans h29
  have c3 := (World.cell?_of_block (a := ⟨eb, 31, none⟩) (hk eb rfl)).trans h31
  have HV0 := hid (vsd_nil hC)
  clear hk hC hQ hs hR h29 h31
  go_enter Tryz.func59, Tryz.ntmps59
  go_wp2_with fail
  go_loopw [13] (fun i wr => i = .int .i64 0 ∧ wr = w1) (fun _ _ => 0)
  case atStart => exact ⟨rfl, rfl⟩
  case round =>
    obtain ⟨rfl, rfl⟩ := hrel
    go_wp2_with fail
    go_loopw [26] (fun i wr' => i = .int .i64 0 ∧ wr' = wr) (fun _ _ => 0)
    case atStart => exact ⟨rfl, rfl⟩
    case round =>
      obtain ⟨rfl, rfl⟩ := hrel
      go_wp2_with fail
      go_end0
      exact ⟨rfl, HV0.out⟩

set_option maxRecDepth 100000 in
set_option maxHeartbeats 2000000 in
theorem vis_off1 (eb c g cg : Nat) (a : Option Addr) (v : B.V) (w : World) (h29 : w.cell? ⟨eb, 29, none⟩ = some (.slice a 0 c)) (h31 : w.cell? ⟨eb, 31, none⟩ = some (.slice (some ⟨g, 0, none⟩) 1 cg)) (g0 : w.cell? ⟨g, 0, none⟩ = some (.int .i64 (v.1 : Int))) (g1 : w.cell? ⟨g, 1, none⟩ = some (.int .i64 v.2)) : Vis (fun k => k = eb ∨ k = g) w eb 1 (fun _ => v) := by
  intro w1 cb rd sb n ad cap cy hk hC hQ hn hs hR
  have c1 := (World.cell?_of_block (a := ⟨eb, 29, none⟩) (hk eb (Or.inl rfl))).trans h29
  have c3 := (World.cell?_of_block (a := ⟨eb, 31, none⟩) (hk eb (Or.inl rfl))).trans h31
  have d0 := (World.cell?_of_block (a := ⟨g, 0, none⟩) (hk g (Or.inr rfl))).trans g0
  have d1 := (World.cell?_of_block (a := ⟨g, 1, none⟩) (hk g (Or.inr rfl))).trans g1
  have HV0 := hid (vsd_nil hC)
  have lg := cell_lt d0
  have HN := hid hs
  have hv := hR 0 (by omega)
  have HVV := hid hv
  clear hk hC hQ hs hR h29 h31 g0 g1 hv
  go_enter Tryz.func59, Tryz.ntmps59
  go_wp2_with fail
  go_loopw [13] (fun i wr => i = .int .i64 0 ∧ wr = w1) (fun _ _ => 0)
  case atStart => exact ⟨rfl, rfl⟩
  case round =>
    obtain ⟨rfl, rfl⟩ := hrel
    go_wp2_with fail
    go_loopw [26] (fun i wr' => ∃ j : Nat, j ≤ 1 ∧ i = .int .i64 j ∧ Hid (j = 0 → wr' = wr) ∧ Hid (Vsd wr wr' cb rd sb n ad cy (B.regs (fun _ => v) j))) (fun i _ => 1 - (intOf i).toNat)
    case atStart => exact ⟨0, by omega, rfl, fun _ => rfl, HV0.out⟩
    case round =>
      obtain ⟨j, hj, rfl, hW, hX⟩ := hrel
      by_cases hj0 : j = 0
      · subst hj0
        have hw := hW.out rfl
        subst hw
        go_wp2_with fail
        refine (vsd_step v (hX.out.kept (World.grownBy_alloc _ _ _)) hn HN.out (fun u hu h0 => by simp [B.regs] at hu) HVV.out).mono ?_
        rintro e w5 ⟨rfl, hV5⟩
        have KV5 := hid hV5
        clear hV5
        go_wp2_with fail
        go_roundw
        case rel => exact ⟨1, by omega, by go_num, fun h => (by omega), KV5⟩
        case measure => simp [intOf]
      · obtain rfl : j = 1 := by omega
        go_wp2_with fail
        go_end0
        exact ⟨rfl, hX.out⟩
end Go.Proofs.YtnjiinbhbjpfkaaGreatDoor

/-
  A new cell is laid at a free place, if need be behind a forced collection.
-/
namespace Go.Proofs.YtnjiinbhbjpfkaaGreatDoor
open Go.RowKit

set_option maxRecDepth 100000 in
theorem at_any (k : Nat) (hk : k ≤ 200) (w : World) : Calls Tryz.prog 220 #[.int .i64 k] w fun e w' => e = .returned (vA (k + 1, 0)) ∧ w.grownBy w' none := by
  have hwr : IntKind.i64.wrap ((k : Int) + 1) = ((k : Int) + 1) := by simp [IntKind.wrap, IntKind.bits, IntKind.signed]; omega
  have hwr2 : wrap64 ((k : Int) + 1) = ((k : Int) + 1) := IntWalk.wrap64_in _ ⟨by omega, by omega⟩
  go_enter Tryz.func220, Tryz.ntmps220
  go_wp2_with fail
  refine bodyPost_ret (v := vA (k + 1, 0)) (by simp [results, Tryz.results220, go_sem]) rfl ⟨rfl, ?_⟩
  repeat (first | exact grown_refl _ _ | refine grown_drew ?_ | refine grown_alloc ?_ _ | refine grown_setCell ?_ (Or.inr (by simp)) _)

/-- The slots of the cell at a place lie in another block. -/
def Vs.put (vb : Vs) (p vg : Nat) : Vs := { vb with f := fun q => if q = p then vg else vb.f q }
theorem plc_new (kd : Nat → Bool) (vb : Nat → Nat) (M : Nat → List B.V) (k vg b j : Nat) :
    upd (upd (upd (plcP kd vb M) (k * 3) (.int .u8 1)) (k * 3 + 1) (.int .i64 0)) (k * 3 + 2) (.slice (some ⟨vg, 0, none⟩) b b) j = plcP (B.mark kd (k + 1)) (fun p => if p = k + 1 then vg else vb p) (B.lay M (k + 1) (List.replicate b (0, 0))) j := by
  by_cases e2 : j = k * 3 + 2
  · subst e2; rw [upd_at, plc_2, B.mark_at, B.lay_at]; simp [slV]
  · rw [upd_off _ _ _ _ e2]
    by_cases e1 : j = k * 3 + 1
    · subst e1; rw [upd_at, plc_1]
    · rw [upd_off _ _ _ _ e1]
      by_cases e0 : j = k * 3
      · subst e0; rw [upd_at, plc_0, B.mark_at]; rfl
      · rw [upd_off _ _ _ _ e0]
        have hne : j / 3 + 1 ≠ k + 1 := by omega
        unfold plcP
        rw [B.mark_off _ _ _ hne, B.lay_off _ _ _ _ hne]
        simp only [if_neg hne]
/-- A new cell at a place. -/
theorem plc_laid {w w' : World} {pb n k vg b : Nat} {on : Nat → Bool} {f : Nat → Nat} {M : Nat → List B.V} (h : Plc w pb n on f M) (hb : b ≤ 8) (hv : Full w' vg 149 (b * 2) (b * 2) (regP (fun _ => (0, 0)))) (hn : ∀ p, 1 ≤ p → p ≤ n → on p = true → f p ≠ vg)
    (hP : Full w' pb 228 (n * 3) (n * 3) (upd (upd (upd (plcP on f M) (k * 3) (.int .u8 1)) (k * 3 + 1) (.int .i64 0)) (k * 3 + 2) (.slice (some ⟨vg, 0, none⟩) b b))) (hs : ∀ p, 1 ≤ p → p ≤ n → on p = true → w'.heap[f p]? = w.heap[f p]?) :
    Plc w' pb n (B.mark on (k + 1)) (fun p => if p = k + 1 then vg else f p) (B.lay M (k + 1) (List.replicate b (0, 0))) := by
  refine ⟨hP.congr (fun j _ => plc_new on f M k vg b j), fun p a c d => ?_, fun p q a c d e g i j => ?_, fun p a => ?_⟩
  · by_cases e : p = k + 1
    · subst e
      simp only [if_true, B.lay_at, List.length_replicate]
      refine hv.congr (fun j _ => ?_)
      unfold regP slots
      rw [B.lay_at]
      have : (List.replicate b ((0, 0) : B.V)).getD (j / 2) (0, 0) = (0, 0) := by
        rw [List.getD_eq_getElem?_getD, List.getElem?_replicate]; split <;> rfl
      rw [this]
    · rw [B.mark_off _ _ _ e] at d
      simp only [if_neg e]
      unfold slots
      rw [B.lay_off _ _ _ _ e]
      exact (h.s p a c d).block (hs p a c d)
  · by_cases e1 : p = k + 1
    · by_cases e2 : q = k + 1
      · omega
      · rw [if_pos e1, if_neg e2] at j
        rw [B.mark_off _ _ _ e2] at i
        exact absurd j.symm (hn q d e i)
    · by_cases e2 : q = k + 1
      · rw [if_neg e1, if_pos e2] at j
        rw [B.mark_off _ _ _ e1] at g
        exact absurd j (hn p a c g)
      · rw [if_neg e1, if_neg e2] at j
        rw [B.mark_off _ _ _ e1] at g
        rw [B.mark_off _ _ _ e2] at i
        exact h.i p q a c d e g i j
  · by_cases e : p = k + 1
    · subst e; rw [B.lay_at]; simpa using hb
    · rw [B.mark_off _ _ _ e] at a
      rw [B.lay_off _ _ _ _ e]
      exact h.l p a

/-- What a request for a new cell finds: the collector as it was, or behind a forced collection. -/
def KdF (nr n : Nat) (s : B.St) (kd kd1 : B.Kd) : Prop :=
  kd1 = kd ∨ ((∀ p, 1 ≤ p → p ≤ n → kd.on p = true) ∧ kd1.cy = none ∧ kd1.un = kd.un ∧ kd1.fo = kd.fo + 1 ∧ kd1.cc = kd.cc ∧ ∀ p, 1 ≤ p → p ≤ n → (kd1.on p = true ↔ B.Reach nr s p))
/-- What lay leaves: a new cell, or nothing. -/
def LayP (w w' : World) (sb pb eb n nr vg b : Nat) (kd : B.Kd) (vb : Vs) (s : B.St) (e : Ending) : Prop :=
  Only (Sbk sb pb n kd vb) w w' ∧
  ((∃ (k : Nat) (kd1 : B.Kd), k < n ∧ kd1.on (k + 1) = false ∧ B.Held kd1 nr n s ∧ KdF nr n s kd kd1 ∧ e = .returned (.tuple #[.agg #[.int .i64 ((k : Int) + 1), .int .i64 0], .bool true]) ∧ Str w' sb pb eb n (B.laid kd1 (k + 1)) (vb.put (k + 1) vg) (B.lay s.2.2 (k + 1) (List.replicate b (0, 0))) ∧ ∀ x, Own n (B.laid kd1 (k + 1)) (vb.put (k + 1) vg) x → Own n kd vb x ∨ x = vg) ∨
   (e = .returned (.tuple #[.agg #[.int .i64 0, .int .i64 0], .bool false]) ∧ (∀ p, 1 ≤ p → p ≤ n → B.Reach nr s p) ∧ ∃ kd1, Str w' sb pb eb n kd1 vb s.2.2 ∧ B.Held kd1 nr n s ∧ ∀ x, Own n kd1 vb x → Own n kd vb x))
theorem own_laid {n k vg x : Nat} {kd : B.Kd} {vb : Vs} (h : Own n (B.laid kd (k + 1)) (vb.put (k + 1) vg) x) : Own n kd vb x ∨ x = vg := by
  rcases h with ⟨p, a, b, d, e⟩ | ⟨hc, hk⟩
  · by_cases hp : p = k + 1
    · subst hp
      right
      have e' : (if k + 1 = k + 1 then vg else vb.f (k + 1)) = x := e
      rw [if_pos rfl] at e'; exact e'.symm
    · left
      have d' : B.mark kd.on (k + 1) p = true := d
      rw [B.mark_off _ _ _ hp] at d'
      have e' : (if p = k + 1 then vg else vb.f p) = x := e
      rw [if_neg hp] at e'
      exact Or.inl ⟨p, a, b, d', e'⟩
  · left
    refine Or.inr ⟨?_, hk⟩
    have hc' : (kd.cy.map (fun c : B.Cy => (⟨B.mark c.m (k + 1), c.st, c.nx⟩ : B.Cy))).isSome = true := hc
    rw [Option.isSome_map] at hc'; exact hc'

theorem cyV_laid (kd : B.Kd) (vb : Vs) (p vg : Nat) : cyV (B.laid kd p) (vb.put p vg) = cyV kd vb := by
  unfold cyV B.laid Vs.put
  simp only [Option.isSome_map]

set_option maxRecDepth 100000 in
set_option maxHeartbeats 4000000 in
theorem lay_any (Q : Nat → Prop) (eb sb pb n nr vg b : Nat) (kd : B.Kd) (vb : Vs) (s : B.St) (w : World) (hR : Rts w Q eb sb pb n nr kd vb s) (hv : Full w vg 149 (b * 2) (b * 2) (regP (fun _ => (0, 0)))) (hb8 : b ≤ 8) (hnv : ¬ Own n kd vb vg) :
    Calls Tryz.prog 199 #[P0 sb, .agg #[.int .u8 1, .int .i64 0, .slice (some ⟨vg, 0, none⟩) b b]] w fun e w' => LayP w w' sb pb eb n nr vg b kd vb s e := by
  have KR := hid hR
  have hn := hR.n2
  have lp : pb < w.heap.size := hR.hs.p.p.lt
  have ls : sb < w.heap.size := heap_lt hR.hs.b
  have HV := hid hv
  have HNV := hid hnv
  clear hR hv hnv
  go_enter Tryz.func199, Tryz.ntmps199
  go_wp2_with fail
  generalize hW : (w.alloc (.cells #[.int .u8 1, .int .i64 0, .slice (some ⟨vg, 0, none⟩) b b] 228)).alloc (.cells #[.int .i64 0, .int .i64 0] 149) = w1
  have KG1 : Hid (w.grownBy w1 none) := by rw [← hW]; exact grown_alloc (World.grownBy_alloc _ _ _) _
  have x0 : w1.heap[w.heap.size]? = some (.cells #[.int .u8 1, .int .i64 0, .slice (some ⟨vg, 0, none⟩) b b] 228 (0, 0)) := by rw [← hW, Below.heap_alloc _ _ _ (by simp)]; exact heap_alloc_new w _
  have x1 : w1.heap[w.heap.size + 1]? = some (.cells #[.int .i64 0, .int .i64 0] 149 (0, 0)) := by
    rw [← hW]
    have := heap_alloc_new (w.alloc (.cells #[.int .u8 1, .int .i64 0, .slice (some ⟨vg, 0, none⟩) b b] 228)) (.cells #[.int .i64 0, .int .i64 0] 149)
    simpa using this
  have HX1 := hid (And.intro x0 x1)
  have KR1 := hid (KR.out.kept KG1.out)
  clear hW x0 x1
  refine (freePlace_any sb pb n kd.on vb.f s.2.2 w1 KR1.out.hs.c0 KR1.out.hs.p hn).mono ?_
  rintro e w2 ⟨hg2, ⟨k, hk, hkd, rfl⟩ | ⟨hfull, rfl⟩⟩
  · have KG2 := hid (grown_trans KG1.out hg2)
    have HS2 := hid (KR1.out.hs.kept hg2)
    have HX2 := hid (And.intro (grown_heap hg2 HX1.out.1 (by intro e; cases e)) (grown_heap hg2 HX1.out.2 (by intro e; cases e)))
    have HQ : Hid (k < n ∧ kd.on (k + 1) = false ∧ B.Held kd nr n s ∧ KdF nr n s kd kd) := ⟨hk, hkd, KR.out.hh, Or.inl rfl⟩
    have KO2 : Hid (Only (Sbk sb pb n kd vb) w w2) := only_none KG2.out
    have HV2 := hid (HV.out.block (KG2.out.block vg HV.out.lt (by intro e; cases e)))
    have HOW : Hid (∀ x, Own n kd vb x → Own n kd vb x) := fun _ h => h
    clear hg2 hkd HX1 KR1 KG1
    obtain ⟨p0, z0⟩ := HS2.out.p.p.cells (k * 3) (by omega)
    obtain ⟨p1, z1⟩ := HS2.out.p.p.cells (k * 3 + 1) (by omega)
    obtain ⟨p2, z2⟩ := HS2.out.p.p.cells (k * 3 + 2) (by omega)
    generalize plcP kd.on vb.f s.2.2 (k * 3) = y0 at p0
    generalize plcP kd.on vb.f s.2.2 (k * 3 + 1) = y1 at p1
    generalize plcP kd.on vb.f s.2.2 (k * 3 + 2) = y2 at p2
    have s0 := HS2.out.c0
    have lsw := heap_lt HS2.out.b
    have lpw := HS2.out.p.p.lt
    have hki : (k : Int) < (n : Int) := by omega
    have hk0 : ¬ ((k : Int) < 0) := by omega
    have hx0 := HX2.out.1
    have hx1 := HX2.out.2
    have b0 : w2.cell? ⟨w.heap.size, 0, none⟩ = some (.int .u8 1) := by simp [World.cell?, hx0]
    have b1 : w2.cell? ⟨w.heap.size, 1, none⟩ = some (.int .i64 0) := by simp [World.cell?, hx0]
    have b2 : w2.cell? ⟨w.heap.size, 2, none⟩ = some (.slice (some ⟨vg, 0, none⟩) b b) := by simp [World.cell?, hx0]
    have lb0 := heap_lt hx0
    have lb1 := heap_lt hx1
    have np : ¬ w.heap.size + 1 = pb := by omega
    have np' : ¬ w.heap.size = pb := by omega
    have np2 : ¬ pb = w.heap.size + 1 := by omega
    have np3 : ¬ pb = w.heap.size := by omega
    clear hx0
    go_wp2_with fail
    go_region
    generalize hw5 : World.drew (((w2.setCell ⟨pb, k * 3, none⟩ (.int .u8 1)).setCell ⟨pb, k * 3 + 1, none⟩ (.int .i64 0)).setCell ⟨pb, k * 3 + 2, none⟩ (.slice (some ⟨vg, 0, none⟩) b b)) = w5
    have hb5 : ∀ x, x ≠ pb → w5.heap[x]? = w2.heap[x]? := by
      intro x hx
      rw [← hw5]
      show (World.setCell _ _ _).heap[x]? = _
      rw [Below.heap_setCell _ _ _ _ hx, Below.heap_setCell _ _ _ _ hx, Below.heap_setCell _ _ _ _ hx]
    have HP5 : Hid (Full w5 pb 228 (n * 3) (n * 3) (upd (upd (upd (plcP kd.on vb.f s.2.2) (k * 3) (.int .u8 1)) (k * 3 + 1) (.int .i64 0)) (k * 3 + 2) (.slice (some ⟨vg, 0, none⟩) b b))) := by
      show Full _ _ _ _ _ _
      rw [← hw5]
      exact ((HS2.out.p.p.upd (k * 3) (.int .u8 1)).upd (k * 3 + 1) (.int .i64 0)).upd (k * 3 + 2) (.slice (some ⟨vg, 0, none⟩) b b)
    have KO5 : Hid (Only (Sbk sb pb n kd vb) w w5) := by
      show Only _ _ _
      rw [← hw5]
      exact only_drew (only_setCell (only_setCell (only_setCell KO2.out (Or.inl (Or.inr (Or.inl rfl))) _) (Or.inl (Or.inr (Or.inl rfl))) _) (Or.inl (Or.inr (Or.inl rfl))) _)
    have hz5 : w5.heap.size = w2.heap.size := by rw [← hw5]; simp [World.setCell, World.drew]
    have HX5 := hid ((hb5 _ np).trans hx1)
    have HSB5 := hid ((hb5 sb HS2.out.sb_ne.1).trans HS2.out.b)
    have HB5 := hid hb5
    have HV5 := hid (HV2.out.block (hb5 vg (by obtain ⟨cu, h, _⟩ := HV2.out; obtain ⟨cu', h', _⟩ := HS2.out.p.p; exact cells_ne h h' (by decide))))
    have KP5 : Hid (Plc w5 pb n (B.mark kd.on (k + 1)) (fun p => if p = k + 1 then vg else vb.f p) (B.lay s.2.2 (k + 1) (List.replicate b (0, 0)))) := plc_laid HS2.out.p hb8 HV5.out (fun p a c d e => HNV.out (by rw [← e]; exact HOW.out _ (Or.inl ⟨p, a, c, d, rfl⟩))) HP5.out (fun p a c d => hb5 _ (HS2.out.sb_ne.2 _ (Or.inl ⟨p, a, c, d, rfl⟩)).2)
    clear hw5 hb5 hx1 p0 p1 p2 z0 z1 z2 s0 lsw lpw b0 b1 b2 lb0 lb1
    go_wp2_with fail
    refine (at_any k (by omega) _).mono ?_
    rintro e w6 ⟨rfl, hg6⟩
    have hsb6 := grown_heap hg6 HSB5.out (by intro e; cases e)
    have hx6 := grown_heap hg6 HX5.out (by intro e; cases e)
    have KG6 := hid hg6
    have HSB6 := hid hsb6
    have d2 : w6.cell? ⟨sb, 2, none⟩ = some (cyV kd vb) := by simp [World.cell?, hsb6]
    have r0 : w6.cell? ⟨w.heap.size + 1, 0, none⟩ = some (.int .i64 0) := by simp [World.cell?, hx6]
    have r1 : w6.cell? ⟨w.heap.size + 1, 1, none⟩ = some (.int .i64 0) := by simp [World.cell?, hx6]
    have t0 : w6.frozen? ⟨w.heap.size + 1, 0, none⟩ = false := by simp [World.frozen?, hx6]
    have t1 : w6.frozen? ⟨w.heap.size + 1, 1, none⟩ = false := by simp [World.frozen?, hx6]
    have lsb6 := heap_lt hsb6
    have lx6 := heap_lt hx6
    clear hg6 hsb6 hx6
    rcases hcy : kd.cy with _ | c
    · rw [cyV_none hcy] at d2
      have HCY := hid hcy
      clear hcy
      go_wp2_with fail
      refine bodyPost_ret (v := .tuple #[.agg #[.int .i64 ((k : Int) + 1), .int .i64 0], .bool true]) (by simp [results, Tryz.results199, go_sem, r0, r1, lx6]) rfl ?_
      have hbW : ∀ x, x ≠ w.heap.size + 1 → x < w6.heap.size → (((w6.setCell ⟨w.heap.size + 1, 0, none⟩ (.int .i64 ((k : Int) + 1))).setCell ⟨w.heap.size + 1, 1, none⟩ (.int .i64 0)).alloc (.cells #[.int .i64 ((k : Int) + 1), .int .i64 0] 149)).heap[x]? = w6.heap[x]? := fun x hx hl => by
        rw [Below.heap_alloc _ _ _ (by simp [World.setCell]; exact hl), Below.heap_setCell _ _ _ _ hx, Below.heap_setCell _ _ _ _ hx]
      have hlt : ∀ x, Own n kd vb x → x < w.heap.size := fun x h => KR.out.hs.lt x (HOW.out x h)
      have hz6 := KG6.out.size
      have hz2 := KO2.out.size
      have lvg := HV.out.lt
      refine ⟨?_, Or.inl ⟨k, kd, HQ.out.1, HQ.out.2.1, HQ.out.2.2.1, HQ.out.2.2.2, rfl, ⟨?_, ?_, fun c hc => ?_⟩, fun x hx => (own_laid hx).imp (HOW.out x) id⟩⟩
      · exact only_alloc (only_setCell (only_setCell (KO5.out.then0 KG6.out) (Or.inr (by simp)) _) (Or.inr (by simp)) _) _
      · rw [cyV_laid]
        exact (hbW sb (by omega) (by omega)).trans HSB6.out
      · refine (KP5.out.kept KG6.out).block (hbW pb np2 (by omega)) (fun p a c d => ?_)
        by_cases e : p = k + 1
        · simp only [if_pos e]; exact hbW vg (by omega) (by omega)
        · simp only [if_neg e]
          rw [B.mark_off _ _ _ e] at d
          have := hlt _ (Or.inl ⟨p, a, c, d, rfl⟩)
          exact hbW _ (by omega) (by omega)
      · have hc' : kd.cy.map (fun c : B.Cy => (⟨B.mark c.m (k + 1), c.st, c.nx⟩ : B.Cy)) = some c := hc
        rw [HCY.out] at hc'; cases hc'
    · rw [cyV_some hcy] at d2
      have HCY := hid hcy
      clear hcy
      have hC6 : Cym w6 vb.cb vb.rd sb n vb.ad vb.cap c := ((HS2.out.c c HCY.out).block (fun x hx => HB5.out x (HS2.out.sb_ne.2 x (Or.inr ⟨by rw [HCY.out]; rfl, hx⟩)).2)).kept KG6.out
      have HC6 := hid hC6
      have hlt : ∀ x, Own n kd vb x → x < w.heap.size := fun x h => KR.out.hs.lt x (HOW.out x h)
      have HLT := hid hlt
      have hz6 := KG6.out.size
      have hz2 := KO2.out.size
      have lrd : vb.rd < w.heap.size := hlt _ (Or.inr ⟨by rw [HCY.out]; rfl, Or.inr (Or.inl rfl)⟩)
      have HX6 := hid (grown_heap KG6.out HX5.out (by intro e; cases e))
      have HC7 : Hid (Cym (w6.alloc (.cells #[.int .i64 ((k : Int) + 1), .int .i64 0] 149)).drew vb.cb vb.rd sb n vb.ad vb.cap c) := (hC6.kept (World.grownBy_alloc w6 (.cells #[.int .i64 ((k : Int) + 1), .int .i64 0] 149) none)).block (fun _ _ => rfl)
      have HK8 : Hid (∀ w8 : World, (w6.alloc (.cells #[.int .i64 ((k : Int) + 1), .int .i64 0] 149)).drew.grownBy w8 (some vb.rd) → w6.grownBy w8 (some vb.rd) ∧ w8.cell? ⟨w.heap.size + 1, 0, none⟩ = some (.int .i64 0) ∧ w8.cell? ⟨w.heap.size + 1, 1, none⟩ = some (.int .i64 0) ∧ w8.frozen? ⟨w.heap.size + 1, 0, none⟩ = false ∧ w8.frozen? ⟨w.heap.size + 1, 1, none⟩ = false ∧ w.heap.size + 1 < w8.heap.size ∧ w8.cell? ⟨w6.heap.size, 0, none⟩ = some (.int .i64 ((k : Int) + 1)) ∧ w8.cell? ⟨w6.heap.size, 1, none⟩ = some (.int .i64 0) ∧ w6.heap.size < w8.heap.size) := by
        intro w8 hg8
        have hg8' : w6.grownBy w8 (some vb.rd) := grown_trans (World.grownBy_alloc w6 (.cells #[.int .i64 ((k : Int) + 1), .int .i64 0] 149) _) ⟨hg8.os, hg8.tape, hg8.output, hg8.size, hg8.block⟩
        have hx8 := grown_heap hg8' HX6.out (by intro e; injection e with e; omega)
        have hz8 : w6.heap.size + 1 ≤ w8.heap.size := by have := hg8.size; simpa [World.drew] using this
        have hn8 : w8.heap[w6.heap.size]? = some (.cells #[.int .i64 ((k : Int) + 1), .int .i64 0] 149 (0, 0)) := (hg8.block w6.heap.size (by simp [World.drew]) (by intro e; injection e with e; omega)).trans (heap_alloc_new w6 _)
        exact ⟨hg8', by simp [World.cell?, hx8], by simp [World.cell?, hx8], by simp [World.frozen?, hx8], by simp [World.frozen?, hx8], heap_lt hx8, by simp [World.cell?, hn8], by simp [World.cell?, hn8], by omega⟩
      clear hC6 hlt
      go_wp2_with fail
      go_region_with (go_at_call 221; refine (keepc_any vb.cb vb.rd sb n k vb.ad vb.cap c 0 _ HC7.out hk hn).mono ?_; rintro e w8 ⟨rfl, hC8, hg8⟩; obtain ⟨hg8', q0, q1, v0, v1, lx8, n0, n1, lv8⟩ := HK8.out w8 hg8; have HG8 := hid hg8'; have HC8 := hid hC8; clear hg8 hg8' hC8)
      all_goals
        go_wp2_with fail
        refine bodyPost_ret (v := .tuple #[.agg #[.int .i64 ((k : Int) + 1), .int .i64 0], .bool true]) (by simp [results, Tryz.results199, go_sem, q0, q1]) rfl ?_
        have hbW : ∀ x, x ≠ w.heap.size + 1 → ((w8.setCell ⟨w.heap.size + 1, 0, none⟩ (.int .i64 ((k : Int) + 1))).setCell ⟨w.heap.size + 1, 1, none⟩ (.int .i64 0)).heap[x]? = w8.heap[x]? := fun x hx => by
          rw [Below.heap_setCell _ _ _ _ hx, Below.heap_setCell _ _ _ _ hx]
        have hb8 : ∀ x, x < w6.heap.size → x ≠ vb.rd → w8.heap[x]? = w6.heap[x]? := fun x hx hn => HG8.out.block x hx (by intro e; injection e with e; exact hn e)
        have lvg := HV.out.lt
        have hrd : ∀ (x : Nat) (cur : Array Value) (T : TypeId), w6.heap[x]? = some (.cells cur T (0, 0)) → T ≠ 4 → x ≠ vb.rd := fun x cur T hx hT => by
          obtain ⟨cu, h, _⟩ := HC6.out.r
          exact cells_ne hx h hT
        refine ⟨?_, Or.inl ⟨k, kd, HQ.out.1, HQ.out.2.1, HQ.out.2.2.1, HQ.out.2.2.2, rfl, ⟨?_, ?_, fun c' hc => ?_⟩, fun x hx => (own_laid hx).imp (HOW.out x) id⟩⟩
        · refine only_setCell (only_setCell ((KO5.out.then0 KG6.out).then HG8.out (Or.inl (Or.inr (Or.inr (HOW.out _ (Or.inr ⟨by rw [HCY.out]; rfl, Or.inr (Or.inl rfl)⟩)))))) (Or.inr (by simp)) _) (Or.inr (by simp)) _
        · rw [cyV_laid]
          exact ((hbW sb (by omega)).trans (hb8 sb (by omega) (hrd _ _ _ HSB6.out (by decide)))).trans HSB6.out
        · have hP6 := KP5.out.kept KG6.out
          refine hP6.block ((hbW pb np2).trans (hb8 pb (by omega) ?_)) (fun p a c d => ?_)
          · obtain ⟨cu, h, _⟩ := hP6.p; exact hrd _ _ _ h (by decide)
          · obtain ⟨cu, h, _⟩ := hP6.s p a c d
            have hl : (if p = k + 1 then vg else vb.f p) < w.heap.size := by
              by_cases e : p = k + 1
              · rw [if_pos e]; exact lvg
              · rw [if_neg e]
                rw [B.mark_off _ _ _ e] at d
                exact HLT.out _ (Or.inl ⟨p, a, c, d, rfl⟩)
            exact (hbW _ (by omega)).trans (hb8 _ (by omega) (hrd _ _ _ h (by decide)))
        · have hc' : kd.cy.map (fun c : B.Cy => (⟨B.mark c.m (k + 1), c.st, c.nx⟩ : B.Cy)) = some c' := hc
          rw [HCY.out] at hc'
          have e : (⟨B.mark c.m (k + 1), c.st, c.nx⟩ : B.Cy) = c' := by injection hc'
          subst e
          exact HC8.out.block (fun x hx => hbW x (by
            have := HLT.out x (Or.inr ⟨by rw [HCY.out]; rfl, hx⟩)
            omega))
  · have KG2 := hid (grown_trans KG1.out hg2)
    have HX2 := hid (And.intro (grown_heap hg2 HX1.out.1 (by intro e; cases e)) (grown_heap hg2 HX1.out.2 (by intro e; cases e)))
    have KR2 := hid (KR1.out.kept hg2)
    have HFL := hid hfull
    clear hg2 hfull HX1 KR1 KG1
    go_wp2_with fail
    refine (force_any Q eb sb pb n nr kd vb s w2 KR2.out).mono ?_
    rintro e w3 ⟨rfl, on, hm, hdn, hup, hO3, hS3⟩
    have Km := hid (And.intro hm (And.intro hdn hup))
    have HS3 := hid hS3
    have KO3 : Hid (Only (Sbk sb pb n kd vb) w w3) := (only_none KG2.out).trans hO3 (fun x h _ => h.elim Or.inl (fun h => Or.inr (Or.inl h)))
    have hz2' := KG2.out.size
    have HX3 := hid (And.intro (hO3.block HX2.out.1 (by omega)) (hO3.block HX2.out.2 (by omega)))
    have HV3 : Hid (Full w3 vg 149 (b * 2) (b * 2) (regP (fun _ => (0, 0)))) := by
      have hv2 := HV.out.block (KG2.out.block vg HV.out.lt (by intro e; cases e))
      refine hv2.block (hO3.same hv2.lt ?_)
      obtain ⟨curV, hV', _⟩ := hv2
      rintro (h | h)
      · exact cells_ne hV' KR2.out.hs.b (by decide) h
      · obtain ⟨curP, hP', _⟩ := KR2.out.hs.p.p
        exact cells_ne hV' hP' (by decide) h
    have HOW : Hid (∀ x, Own n ⟨on, none, kd.un, kd.fo + 1, kd.cc⟩ vb x → Own n kd vb x) := fun x hx => by
      rcases hx with ⟨p, a, b, d, e⟩ | ⟨h, _⟩
      · exact Or.inl ⟨p, a, b, hdn p d, e⟩
      · cases h
    have HHK : Hid (B.Held ⟨on, none, kd.un, kd.fo + 1, kd.cc⟩ nr n s) := B.held_force KR.out.hh hup
    clear hm hdn hup hO3 hS3 HX2 KR2
    go_wp2_with fail
    refine (freePlace_any sb pb n on vb.f s.2.2 w3 HS3.out.c0 HS3.out.p hn).mono ?_
    rintro e w4 ⟨hg4, ⟨k, hk, hkd, rfl⟩ | ⟨hfull, rfl⟩⟩
    · generalize hkd1 : (⟨on, none, kd.un, kd.fo + 1, kd.cc⟩ : B.Kd) = kd1 at *
      have hon : kd1.on = on := by rw [← hkd1]
      have HCY1 : Hid (kd1.cy = none) := by show _ = _; rw [← hkd1]
      have HQ : Hid (k < n ∧ kd1.on (k + 1) = false ∧ B.Held kd1 nr n s ∧ KdF nr n s kd kd1) := ⟨hk, by rw [hon]; exact hkd, HHK.out, Or.inr ⟨HFL.out, HCY1.out, by rw [← hkd1], by rw [← hkd1], by rw [← hkd1], by rw [hon]; exact Km.out.1⟩⟩
      have HS4 := hid (HS3.out.kept hg4)
      have HX4 := hid (And.intro (grown_heap hg4 HX3.out.1 (by intro e; cases e)) (grown_heap hg4 HX3.out.2 (by intro e; cases e)))
      have KO4 := hid (KO3.out.then0 hg4)
      have HV4 := hid (HV3.out.block (hg4.block vg HV3.out.lt (by intro e; cases e)))
      clear hg4 hkd HX3 HS3 KO3 HV3 hkd1 hon Km KG2
      obtain ⟨p0, z0⟩ := HS4.out.p.p.cells (k * 3) (by omega)
      obtain ⟨p1, z1⟩ := HS4.out.p.p.cells (k * 3 + 1) (by omega)
      obtain ⟨p2, z2⟩ := HS4.out.p.p.cells (k * 3 + 2) (by omega)
      generalize plcP kd1.on vb.f s.2.2 (k * 3) = y0 at p0
      generalize plcP kd1.on vb.f s.2.2 (k * 3 + 1) = y1 at p1
      generalize plcP kd1.on vb.f s.2.2 (k * 3 + 2) = y2 at p2
      have s0 := HS4.out.c0
      have lsw := heap_lt HS4.out.b
      have lpw := HS4.out.p.p.lt
      have hki : (k : Int) < (n : Int) := by omega
      have hk0 : ¬ ((k : Int) < 0) := by omega
      have hx0 := HX4.out.1
      have hx1 := HX4.out.2
      have b0 : w4.cell? ⟨w.heap.size, 0, none⟩ = some (.int .u8 1) := by simp [World.cell?, hx0]
      have b1 : w4.cell? ⟨w.heap.size, 1, none⟩ = some (.int .i64 0) := by simp [World.cell?, hx0]
      have b2 : w4.cell? ⟨w.heap.size, 2, none⟩ = some (.slice (some ⟨vg, 0, none⟩) b b) := by simp [World.cell?, hx0]
      have lb0 := heap_lt hx0
      have lb1 := heap_lt hx1
      have np : ¬ w.heap.size + 1 = pb := by omega
      have np' : ¬ w.heap.size = pb := by omega
      have np2 : ¬ pb = w.heap.size + 1 := by omega
      have np3 : ¬ pb = w.heap.size := by omega
      clear hx0
      go_wp2_with fail
      go_region
      generalize hw5 : World.drew (((w4.setCell ⟨pb, k * 3, none⟩ (.int .u8 1)).setCell ⟨pb, k * 3 + 1, none⟩ (.int .i64 0)).setCell ⟨pb, k * 3 + 2, none⟩ (.slice (some ⟨vg, 0, none⟩) b b)) = w5
      have hb5 : ∀ x, x ≠ pb → w5.heap[x]? = w4.heap[x]? := by
        intro x hx
        rw [← hw5]
        show (World.setCell _ _ _).heap[x]? = _
        rw [Below.heap_setCell _ _ _ _ hx, Below.heap_setCell _ _ _ _ hx, Below.heap_setCell _ _ _ _ hx]
      have HP5 : Hid (Full w5 pb 228 (n * 3) (n * 3) (upd (upd (upd (plcP kd1.on vb.f s.2.2) (k * 3) (.int .u8 1)) (k * 3 + 1) (.int .i64 0)) (k * 3 + 2) (.slice (some ⟨vg, 0, none⟩) b b))) := by
        show Full _ _ _ _ _ _
        rw [← hw5]
        exact ((HS4.out.p.p.upd (k * 3) (.int .u8 1)).upd (k * 3 + 1) (.int .i64 0)).upd (k * 3 + 2) (.slice (some ⟨vg, 0, none⟩) b b)
      have KO5 : Hid (Only (Sbk sb pb n kd vb) w w5) := by
        show Only _ _ _
        rw [← hw5]
        exact only_drew (only_setCell (only_setCell (only_setCell KO4.out (Or.inl (Or.inr (Or.inl rfl))) _) (Or.inl (Or.inr (Or.inl rfl))) _) (Or.inl (Or.inr (Or.inl rfl))) _)
      have hz5 : w5.heap.size = w4.heap.size := by rw [← hw5]; simp [World.setCell, World.drew]
      have HX5 := hid ((hb5 _ np).trans hx1)
      have HSB5 := hid ((hb5 sb HS4.out.sb_ne.1).trans HS4.out.b)
      have HB5 := hid hb5
      have HV5 := hid (HV4.out.block (hb5 vg (by obtain ⟨cu, h, _⟩ := HV4.out; obtain ⟨cu', h', _⟩ := HS4.out.p.p; exact cells_ne h h' (by decide))))
      have KP5 : Hid (Plc w5 pb n (B.mark kd1.on (k + 1)) (fun p => if p = k + 1 then vg else vb.f p) (B.lay s.2.2 (k + 1) (List.replicate b (0, 0)))) := plc_laid HS4.out.p hb8 HV5.out (fun p a c d e => HNV.out (by rw [← e]; exact HOW.out _ (Or.inl ⟨p, a, c, d, rfl⟩))) HP5.out (fun p a c d => hb5 _ (HS4.out.sb_ne.2 _ (Or.inl ⟨p, a, c, d, rfl⟩)).2)
      clear hw5 hb5 hx1 p0 p1 p2 z0 z1 z2 s0 lsw lpw b0 b1 b2 lb0 lb1
      go_wp2_with fail
      refine (at_any k (by omega) _).mono ?_
      rintro e w6 ⟨rfl, hg6⟩
      have hsb6 := grown_heap hg6 HSB5.out (by intro e; cases e)
      have hx6 := grown_heap hg6 HX5.out (by intro e; cases e)
      have KG6 := hid hg6
      have HSB6 := hid hsb6
      have d2 : w6.cell? ⟨sb, 2, none⟩ = some (cyV kd1 vb) := by simp [World.cell?, hsb6]
      have r0 : w6.cell? ⟨w.heap.size + 1, 0, none⟩ = some (.int .i64 0) := by simp [World.cell?, hx6]
      have r1 : w6.cell? ⟨w.heap.size + 1, 1, none⟩ = some (.int .i64 0) := by simp [World.cell?, hx6]
      have t0 : w6.frozen? ⟨w.heap.size + 1, 0, none⟩ = false := by simp [World.frozen?, hx6]
      have t1 : w6.frozen? ⟨w.heap.size + 1, 1, none⟩ = false := by simp [World.frozen?, hx6]
      have lsb6 := heap_lt hsb6
      have lx6 := heap_lt hx6
      clear hg6 hsb6 hx6
      have HCY := HCY1
      rw [cyV_none HCY1.out] at d2
      go_wp2_with fail
      refine bodyPost_ret (v := .tuple #[.agg #[.int .i64 ((k : Int) + 1), .int .i64 0], .bool true]) (by simp [results, Tryz.results199, go_sem, r0, r1, lx6]) rfl ?_
      have hbW : ∀ x, x ≠ w.heap.size + 1 → x < w6.heap.size → (((w6.setCell ⟨w.heap.size + 1, 0, none⟩ (.int .i64 ((k : Int) + 1))).setCell ⟨w.heap.size + 1, 1, none⟩ (.int .i64 0)).alloc (.cells #[.int .i64 ((k : Int) + 1), .int .i64 0] 149)).heap[x]? = w6.heap[x]? := fun x hx hl => by
        rw [Below.heap_alloc _ _ _ (by simp [World.setCell]; exact hl), Below.heap_setCell _ _ _ _ hx, Below.heap_setCell _ _ _ _ hx]
      have hlt : ∀ x, Own n kd1 vb x → x < w.heap.size := fun x h => KR.out.hs.lt x (HOW.out x h)
      have hz6 := KG6.out.size
      have hz2 := KO4.out.size
      have lvg := HV.out.lt
      refine ⟨?_, Or.inl ⟨k, kd1, HQ.out.1, HQ.out.2.1, HQ.out.2.2.1, HQ.out.2.2.2, rfl, ⟨?_, ?_, fun c hc => ?_⟩, fun x hx => (own_laid hx).imp (HOW.out x) id⟩⟩
      · exact only_alloc (only_setCell (only_setCell (KO5.out.then0 KG6.out) (Or.inr (by simp)) _) (Or.inr (by simp)) _) _
      · rw [cyV_laid]
        exact (hbW sb (by omega) (by omega)).trans HSB6.out
      · refine (KP5.out.kept KG6.out).block (hbW pb np2 (by omega)) (fun p a c d => ?_)
        by_cases e : p = k + 1
        · simp only [if_pos e]; exact hbW vg (by omega) (by omega)
        · simp only [if_neg e]
          rw [B.mark_off _ _ _ e] at d
          have := hlt _ (Or.inl ⟨p, a, c, d, rfl⟩)
          exact hbW _ (by omega) (by omega)
      · have hc' : kd1.cy.map (fun c : B.Cy => (⟨B.mark c.m (k + 1), c.st, c.nx⟩ : B.Cy)) = some c := hc
        rw [HCY.out] at hc'; cases hc'
    · have KO4 := hid (KO3.out.then0 hg4)
      have hx1 := grown_heap hg4 HX3.out.2 (by intro e; cases e)
      have r0 : w4.cell? ⟨w.heap.size + 1, 0, none⟩ = some (.int .i64 0) := by simp [World.cell?, hx1]
      have r1 : w4.cell? ⟨w.heap.size + 1, 1, none⟩ = some (.int .i64 0) := by simp [World.cell?, hx1]
      have t0 : w4.frozen? ⟨w.heap.size + 1, 0, none⟩ = false := by simp [World.frozen?, hx1]
      have t1 : w4.frozen? ⟨w.heap.size + 1, 1, none⟩ = false := by simp [World.frozen?, hx1]
      have lb1 := heap_lt hx1
      have HQ := hid (And.intro Km.out hfull)
      have HS4 := hid (HS3.out.kept hg4)
      clear hg4 hx1 hfull
      go_wp2_with fail
      refine bodyPost_ret (v := .tuple #[.agg #[.int .i64 0, .int .i64 0], .bool false]) (by simp [results, Tryz.results199, go_sem, r0, r1]) rfl ?_
      have hlt : ∀ x, Own n ⟨on, none, kd.un, kd.fo + 1, kd.cc⟩ vb x → x < w.heap.size := fun x h => KR.out.hs.lt x (HOW.out x h)
      refine ⟨?_, Or.inr ⟨rfl, fun p a c => (HQ.out.1.1 p a c).1 (HQ.out.2 p a c), _, HS4.out.block ?_ ?_ (fun x hx => ?_), HHK.out, HOW.out⟩⟩
      · repeat (first | exact KO4.out | refine only_setCell ?_ (Or.inr (by simp)) _)
      · rw [Below.heap_setCell _ _ _ _ (by show sb ≠ w.heap.size + 1; omega), Below.heap_setCell _ _ _ _ (by show sb ≠ w.heap.size + 1; omega)]
      · rw [Below.heap_setCell _ _ _ _ (by show pb ≠ w.heap.size + 1; omega), Below.heap_setCell _ _ _ _ (by show pb ≠ w.heap.size + 1; omega)]
      · have := hlt x hx
        rw [Below.heap_setCell _ _ _ _ (by show x ≠ w.heap.size + 1; omega), Below.heap_setCell _ _ _ _ (by show x ≠ w.heap.size + 1; omega)]
end Go.Proofs.YtnjiinbhbjpfkaaGreatDoor
