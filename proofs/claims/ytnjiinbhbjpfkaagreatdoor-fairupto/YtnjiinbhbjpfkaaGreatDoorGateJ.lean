/-
  One is taken out of the list of those that live.
-/
import Derived.Test.YtnjiinbhbjpfkaaGreatDoorGateI
namespace Go.Proofs.YtnjiinbhbjpfkaaGreatDoor
open Go.RowKit
set_option maxRecDepth 100000 in
theorem leave1L (x tb xb : Nat) (w : World) (h : w.cell? ⟨xb, 0, none⟩ = some (P0 tb)) (hT : Blk w tb 160 7) (hX : Blk w x 160 7) :
    Calls Tryz.prog 210 #[P0 x, P0 xb] w fun e w' => e = .returned (.bool (decide (x = tb))) ∧ w' = w := by
  obtain ⟨i0, hi, hz0, hz1, hz2⟩ := info_parts Tryz.info160
  by_cases hxt : x = tb
  · subst hxt
    have heq := fun (w : World) => run_eql_ptr_same (P := Tryz.prog) (w := w) (tp := 155) (te := 160) ⟨x, 0, none⟩ Tryz.underlying155 hi
    go_enter Tryz.func210, Tryz.ntmps210
    go_wp2_with fail
    go_ret
    exact ⟨by simp, rfl⟩
  · obtain ⟨ct, bt, _⟩ := hT
    obtain ⟨cx, bx, _⟩ := hX
    have heq2 := run_eql_ptr_other (P := Tryz.prog) (w := w) (tp := 155) (te := 160) (a := ⟨x, 0, none⟩) (b := ⟨tb, 0, none⟩) Tryz.underlying155 hi (by rw [hz1]; decide) (by intro e; injection e with e; exact hxt e) bx bt
    clear bt bx
    go_enter Tryz.func210, Tryz.ntmps210
    go_wp2_with fail
    go_ret
    exact ⟨by simp [hxt], rfl⟩
set_option maxRecDepth 100000 in
theorem sidxF (g c n tb xb : Nat) (xs : List Nat) (w : World) (hn : n = xs.length) (hn2 : n ≤ 1000000000) (hc : ∀ j x, xs[j]? = some x → w.cell? ⟨g, j, none⟩ = some (P0 x)) (hx : w.cell? ⟨xb, 0, none⟩ = some (P0 tb)) (hT : Blk w tb 160 7) (hX : ∀ x, x ∈ xs → Blk w x 160 7) (hm : tb ∈ xs) :
    Calls Tryz.prog 205 #[.slice (some ⟨g, 0, none⟩) n c, Fv 210 #[P0 xb]] w fun e w' => e = .returned (.int .i64 (xs.idxOf tb : Nat)) ∧ w' = w := by
  have hlt : xs.idxOf tb < xs.length := List.idxOf_lt_length_of_mem hm
  have HC := hid hc
  have HT := hid hT
  have HX := hid hX
  have HL := hid hlt
  have HN := hid hn
  have HB := hid hx
  clear hc hT hX hlt hm hn hx
  go_enter Tryz.func205, Tryz.ntmps205
  go_wp2_with fail
  go_loopw [8] (fun i wr => ∃ j : Nat, i = .int .i64 j ∧ j ≤ xs.idxOf tb ∧ wr = w) (fun i _ => xs.idxOf tb - (intOf i).toNat)
  case atStart => exact ⟨0, rfl, by omega, rfl⟩
  case round =>
    obtain ⟨j, rfl, hj, rfl⟩ := hrel
    have hjn : j < n := by have := HL.out; have := HN.out; omega
    obtain ⟨x, hx⟩ : ∃ x, xs[j]? = some x := ⟨_, List.getElem?_eq_getElem (by have := HN.out; omega)⟩
    have cj := HC.out j x hx
    have hl1 := leave1L x tb xb wr HB.out HT.out (HX.out x (List.mem_of_getElem? hx))
    have HL1 := hid hl1
    clear hl1
    by_cases hjt : j = xs.idxOf tb
    · have hxt : x = tb := by
        have := List.getElem_idxOf (x := tb) HL.out
        rw [List.getElem?_eq_some_iff] at hx
        obtain ⟨h1, h2⟩ := hx
        subst hjt
        rw [← h2]; exact this
      have HJ := hid hjt
      have HXT := hid hxt
      clear hjt hxt
      go_wp2_with fail
      refine HL1.out.mono ?_
      rintro e w1 ⟨rfl, rfl⟩
      have hd : decide (x = tb) = true := by simpa using HXT.out
      simp only [hd]
      clear hd
      go_wp2_with fail
      go_ret
      exact ⟨by simp [HJ.out], rfl⟩
    · have hxt : x ≠ tb := by
        intro e
        subst e
        have hle : xs.idxOf x ≤ j := idx_first xs x j hx
        omega
      have HXT := hid hxt
      clear hxt
      go_wp2_with fail
      refine HL1.out.mono ?_
      rintro e w1 ⟨rfl, rfl⟩
      have hd : decide (x = tb) = false := by simpa using HXT.out
      simp only [hd]
      clear hd
      go_wp2_with fail
      go_roundw
      case rel => exact ⟨j + 1, by go_num, by omega, trivial⟩
      case measure => simp [intOf]; omega
def Dlg (w wr : World) (g c ix j : Nat) (xs : List Nat) : Prop :=
  Blk wr g 155 c ∧ w.grownBy wr (some g) ∧ (∀ p x, p + 1 < j → (xs.eraseIdx ix)[p]? = some x → wr.cell? ⟨g, p, none⟩ = some (P0 x)) ∧ (∀ p x, j ≤ p → xs[p]? = some x → wr.cell? ⟨g, p, none⟩ = some (P0 x))
set_option maxRecDepth 100000 in
set_option maxHeartbeats 2000000 in
theorem sdelF (g c n tb xb : Nat) (xs : List Nat) (w : World) (hown : w.ownsRow 0 155 1 (.slice (some ⟨g, 0, none⟩) n c) n (xs.map P0)) (hn2 : n ≤ 1000000000) (hnd : xs.Nodup) (hx : w.cell? ⟨xb, 0, none⟩ = some (P0 tb)) (lx : xb < w.heap.size) (ng : xb ≠ g) (hT : Blk w tb 160 7) (hX : ∀ x, x ∈ xs → Blk w x 160 7) (hm : tb ∈ xs) :
    Calls Tryz.prog 209 #[.slice (some ⟨g, 0, none⟩) n c, Fv 210 #[P0 xb]] w fun e w' => e = .returned (.slice (some ⟨g, 0, none⟩) (n - 1) c) ∧ w'.ownsRow 0 155 1 (.slice (some ⟨g, 0, none⟩) (n - 1) c) (n - 1) ((xs.erase tb).map P0) ∧ w.grownBy w' (some g) := by
  obtain ⟨hb, hc, hcm, hl, hB, hcells⟩ := own_ge hown
  have hlen : xs.length = n := by simpa using hl
  have hcl : ∀ j x, xs[j]? = some x → w.cell? ⟨g, j, none⟩ = some (P0 x) := fun j x h => hcells j (P0 x) (by simp [h])
  have hlt : xs.idxOf tb < n := by rw [← hlen]; exact List.idxOf_lt_length_of_mem hm
  have HIX := hid (sidxF g c n tb xb xs w hlen.symm hn2 hcl hx hT hX hm)
  have htg : tb ≠ g := by
    rintro rfl
    obtain ⟨c1, q1, _⟩ := hT
    obtain ⟨c2, q2, _⟩ := hB
    rw [q1] at q2; injection q2 with q2; injection q2 with _ q2 _; exact absurd q2 (by decide)
  have hxg : ∀ x, x ∈ xs → x ≠ g := fun x hxm => by
    rintro rfl
    obtain ⟨c1, q1, _⟩ := hX x hxm
    obtain ⟨c2, q2, _⟩ := hB
    rw [q1] at q2; injection q2 with q2; injection q2 with _ q2 _; exact absurd q2 (by decide)
  have HL1 : Hid (∀ wr, w.grownBy wr (some g) → ∀ x, x ∈ xs → Calls Tryz.prog 210 #[P0 x, P0 xb] wr fun e w' => e = .returned (.bool (decide (x = tb))) ∧ w' = wr) := fun wr hgr x hxm => by
    refine leave1L x tb xb wr ?_ ?_ ?_
    · simp only [World.cell?] at hx ⊢
      rw [hgr.block xb lx (by intro e; injection e with e; exact ng e)]; exact hx
    · obtain ⟨c1, q1, q2⟩ := hT
      exact ⟨c1, (hgr.block tb (heap_lt q1) (by intro e; injection e with e; exact htg e)).trans q1, q2⟩
    · obtain ⟨c1, q1, q2⟩ := hX x hxm
      exact ⟨c1, (hgr.block x (heap_lt q1) (by intro e; injection e with e; exact hxg x hxm e)).trans q1, q2⟩
  have hne : ∀ j, xs.idxOf tb < j → ∀ x, xs[j]? = some x → x ≠ tb := fun j hj x hxj e => by
    subst e
    obtain ⟨h1, h2⟩ := List.getElem?_eq_some_iff.1 hxj
    have h3 := List.getElem_idxOf (x := x) (List.idxOf_lt_length_of_mem hm)
    have := (List.getElem_inj (h₀ := h1) (h₁ := List.idxOf_lt_length_of_mem hm) hnd).1 (h2.trans h3.symm)
    omega
  obtain ⟨i0, hi, hz0, hz1, hz2⟩ := info_parts Tryz.info155
  have hv : ∀ w, (zeroValue 155).run Tryz.prog w = .ok (.pointer none) w := by intro w; simp [zeroValue, typeInfo, hi, hz0]
  have HRUN : Hid (∀ (ty : TypeId) (w1 : World) (c' : Nat), Blk w1 g 155 c → (Builtin.clear_ #[136] ty #[.slice (some ⟨g, n - 1, none⟩) 1 c']).run Tryz.prog w1 = .ok (.tuple #[]) (w1.setCell ⟨g, n - 1, none⟩ (.pointer none))) := by
    intro ty w1 c' hB1
    refine Go.Lib.run_clear_slice (P := Tryz.prog) w1 136 155 ty (.pointer none) Tryz.underlying136 hv rfl rfl g (n - 1) 1 c' (by omega) ?_ ?_
    · intro j hj
      obtain ⟨⟨v, h⟩, _⟩ := hB1.cell (n - 1 + j) (by omega)
      rw [h]; rfl
    · intro j hj
      exact (hB1.cell (n - 1 + j) (by omega)).2
  have KD : Hid (Dlg w w g c (xs.idxOf tb) (xs.idxOf tb + 1) xs) := ⟨hB, grown_refl _ _, fun p x hp hx => by
      rw [List.getElem?_eraseIdx_of_lt (by omega)] at hx
      exact hcl p x hx, fun p x _ hx => hcl p x hx⟩
  have hci : (n : Int) ≤ (c : Int) := by omega
  have hmi : (c : Int) ≤ 9223372036854775807 := by unfold maxLen at hcm; omega
  have HNE := hid hne
  have HCM := hid hcm
  have HLEN := hid hlen
  have HER := hid (erase_idx xs tb)
  clear hown hl hcells hcl hx hT hX hm hB hcm htg hxg hne hnd hv hi hz0 hz1 hz2 i0
  generalize xs.idxOf tb = ix at *
  go_enter Tryz.func209, Tryz.ntmps209
  go_wp2_with fail
  refine HIX.out.mono ?_
  rintro e w1 ⟨rfl, rfl⟩
  go_wp2_with fail
  have hbx : ((ix : Int) == -1) = false := by rw [beq_eq_false_iff_ne]; omega
  try rw [hbx]
  try simp only [hbx]
  clear hbx
  go_loopw [5, 6] (fun i j wr => ∃ J : Nat, i = .int .i64 (J : Nat) ∧ j = .int .i64 ((J : Int) + 1) ∧ ix ≤ J ∧ J + 1 ≤ n ∧ Hid (Dlg w1 wr g c ix (J + 1) xs)) (fun _ j _ => n - (intOf j).toNat)
  case atStart => exact ⟨ix, rfl, by go_num, by omega, by omega, KD⟩
  case round =>
    obtain ⟨J, rfl, rfl, hJ1, hJ2, rD⟩ := hrel
    obtain ⟨dB, dG, d1, d2⟩ := rD.out
    by_cases hlt2 : J + 1 < n
    · have hlt3 : (J : Int) + 1 < (n : Int) := by omega
      obtain ⟨x, hx⟩ : ∃ x, xs[J + 1]? = some x := ⟨_, List.getElem?_eq_getElem (by have := HLEN.out; omega)⟩
      have cj := d2 (J + 1) x (Nat.le_refl _) hx
      have hcl1 := HL1.out wr dG x (List.mem_of_getElem? hx)
      have hd : decide (x = tb) = false := by simpa using HNE.out (J + 1) (by omega) x hx
      rw [hd] at hcl1
      have HCL := hid hcl1
      obtain ⟨⟨y, cJ⟩, zJ⟩ := dB.cell J (by omega)
      have lg := dB.lt
      have HXX := hid hx
      clear hcl1 hd hx dB dG d1 d2
      go_wp2_with fail
      refine HCL.out.mono ?_
      rintro e w2 ⟨rfl, rfl⟩
      have KD2 : Hid (Dlg w1 (w2.setCell ⟨g, J, none⟩ (P0 x)) g c ix (J + 2) xs) := by
        obtain ⟨dB, dG, d1, d2⟩ := rD.out
        refine ⟨dB.set g J _, grown_setCell dG (Or.inl rfl) _, fun p z hp hz => ?_, fun p z hp hz => ?_⟩
        · by_cases hpJ : p = J
          · subst hpJ
            rw [List.getElem?_eraseIdx_of_ge (by omega)] at hz
            rw [HXX.out] at hz
            injection hz with hz
            subst hz
            exact World.cell?_setCell_same _ _ _ cJ
          · rw [World.cell?_setCell_other _ _ _ _ (by intro e; injection e with _ e; omega)]
            exact d1 p z (by omega) hz
        · rw [World.cell?_setCell_other _ _ _ _ (by intro e; injection e with _ e; omega)]
          exact d2 p z (by omega) hz
      go_wp2_with fail
      go_roundw
      case rel => exact ⟨J + 1, by go_num, by go_num, by omega, by omega, KD2⟩
      case measure => simp [intOf]; omega
    · have hlt3 : ¬ (J : Int) + 1 < (n : Int) := by omega
      obtain rfl : n = J + 1 := by omega
      have cl : ∀ (ty : TypeId) (c' : Nat), (Builtin.clear_ #[136] ty #[.slice (some ⟨g, J, none⟩) 1 c']).run Tryz.prog wr = .ok (.tuple #[]) (wr.setCell ⟨g, J, none⟩ (.pointer none)) := fun ty c' => HRUN.out ty wr c' dB
      clear dB dG d1 d2
      go_wp2_with fail
      go_ret
      obtain ⟨dB, dG, d1, d2⟩ := rD.out
      refine ⟨rfl, own_mk (Nat.zero_le _) (by omega) HCM.out ?_ (dB.set g J _) (fun j y hy => ?_), grown_setCell dG (Or.inl rfl) _⟩
      · rw [List.length_map, ← HER.out, List.length_eraseIdx, if_pos (by rw [HLEN.out]; omega), HLEN.out]; omega
      · have hj : j < J := by
          have := (List.getElem?_eq_some_iff.1 hy).1
          rw [List.length_map, ← HER.out, List.length_eraseIdx, if_pos (by rw [HLEN.out]; omega), HLEN.out] at this
          omega
        rw [List.getElem?_map] at hy
        obtain ⟨z, hz, rfl⟩ := Option.map_eq_some_iff.1 hy
        rw [World.cell?_setCell_other _ _ _ _ (by intro e; injection e with _ e; omega)]
        exact d1 j z (by omega) (by rw [HER.out]; exact hz)
end Go.Proofs.YtnjiinbhbjpfkaaGreatDoor
namespace Go.Proofs.YtnjiinbhbjpfkaaGreatDoor.F
open Go.RowKit
def Tsk.stop (v : Tsk) : Tsk := { v with run := false }
def Pl.wokeAll (s : Pl) (v : B.V) : List Nat → Pl
  | [] => s
  | t :: l => (s.woke t v).wokeAll v l
def Pl.gone (s : Pl) (t : Nat) (v : B.V) (kind : Nat) (x : Int) : Pl := (({ (s.out1 t).setT t ((s.out1 t).T t).stop with lv := s.lv.erase t } : Pl).keep (t - 1) v).told kind t x
def Pl.leave (s : Pl) (t : Nat) (v : B.V) (kind : Nat) (x : Int) : Pl := (s.gone t v kind x).wokeAll v (s.q 5 t)
theorem wokeAll_app (v : B.V) : ∀ (l m : List Nat) (s : Pl), s.wokeAll v (l ++ m) = (s.wokeAll v l).wokeAll v m
  | [], _, _ => rfl
  | _ :: l, m, _ => wokeAll_app v l m _
theorem out1_lv (s : Pl) (t : Nat) : (s.out1 t).lv = s.lv ∧ (s.out1 t).out = s.out ∧ (s.out1 t).kp = s.kp ∧ (s.out1 t).ev = s.ev ∧ (s.out1 t).byt = s.byt ∧ (s.out1 t).sp = s.sp ∧ (s.out1 t).clk = s.clk ∧ (s.out1 t).kd = s.kd ∧ (s.out1 t).M = s.M ∧ (s.out1 t).ck = s.ck := by
  unfold Pl.out1; split <;> exact ⟨rfl, rfl, rfl, rfl, rfl, rfl, rfl, rfl, rfl, rfl⟩
theorem gone_T (s : Pl) {t u : Nat} (v : B.V) (kind : Nat) (x : Int) (h : u ≠ t) : (s.gone t v kind x).T u = s.T u := by
  show ((s.out1 t).setT t _).T u = _
  rw [setT_off _ _ h, out1_T s h]
theorem gone_nt (s : Pl) (t : Nat) (v : B.V) (kind : Nat) (x : Int) : (s.gone t v kind x).nt = s.nt := out1_nt s t
theorem gone_wh (s : Pl) (t : Nat) (v : B.V) (kind : Nat) (x : Int) (u : Nat) : ((s.gone t v kind x).T u).wh = ((s.out1 t).T u).wh := by
  show (((s.out1 t).setT t _).T u).wh = _
  by_cases e : u = t
  · subst e; rw [setT_at]; rfl
  · rw [setT_off _ _ e]
theorem LW.gone {s : Pl} (h : LW s) {t : Nat} (ht : isT s t) (v : B.V) (kind : Nat) (x : Int) : LW (s.gone t v kind x) := (h.out1 ht).same rfl rfl (fun u => gone_wh s t v kind x u)
theorem gone_q {s : Pl} (h : LW s) {t : Nat} (ht : isT s t) (v : B.V) (kind : Nat) (x : Int) : (s.gone t v kind x).q 5 t = s.q 5 t := by
  show (s.out1 t).q 5 t = _
  exact out1_q s (fun e => (h.a t ht 5 t e).2.2 ⟨rfl, rfl⟩)
theorem WW.gone {p : Prm} {s : Pl} (h : WW p s) {t : Nat} (v : B.V) (kind : Nat) (x : Int) : WW p (s.gone t v kind x) := by
  intro u hu a b hab h45
  by_cases e : u = t
  · subst e
    rw [gone_wh, out1_wh] at hab
    cases hab
  · rw [gone_T s v kind x e] at hab ⊢
    have := h u ((isT_nt (gone_nt s t v kind x)).1 hu) a b hab h45
    rw [frAt_fr (s := s) (by rw [gone_T s v kind x e])]
    exact this
theorem woke_q {s : Pl} {t : Nat} {x y : Nat} (hw : (s.T t).wh = some (x, y)) (v : B.V) (hl : (s.T t).lf ≠ none) (h2 : ¬ (x = 2 ∧ y = 0)) : (s.woke t v).q x y = (s.q x y).erase t := by
  cases hk : (s.T t).lf with
  | none => exact absurd hk hl
  | some k =>
    rw [woke_some v hk]
    show (((s.setF t (topN s t) ((frAt s t (topN s t)).set k.2.1 v)).out1 t).setQ 2 0 _).q x y = _
    rw [setQ_off _ _ (fun e => h2 e), out1_some (x := x) (y := y) (by rw [(setF_wh s t _ t _).1]; exact hw)]
    exact setQ_at _ _ _ _
theorem nodup_map {f : Nat → Nat} : ∀ (l : List Nat), l.Nodup → (∀ a, a ∈ l → ∀ b, b ∈ l → f a = f b → a = b) → (l.map f).Nodup
  | [], _, _ => List.nodup_nil
  | a :: l, hd, h => by
    rw [List.map_cons, List.nodup_cons]
    rw [List.nodup_cons] at hd
    refine ⟨fun hm => ?_, nodup_map l hd.2 (fun a ha b hb => h a (by simp [ha]) b (by simp [hb]))⟩
    obtain ⟨b, hb, e⟩ := List.mem_map.1 hm
    exact hd.1 (by rw [h a (by simp) b (by simp [hb]) e.symm]; exact hb)
set_option maxHeartbeats 1000000 in
theorem leaveR {p : Prm} {s : Pl} {g : Geo} {w : World} {t : Nat} (v : B.V) (kind : Nat) (x : Int) (h : Rep p s g w) (hW : LW s) (hWW : WW p s) (ht : isT s t) (hlv : t ∈ s.lv) (hnd : s.lv.Nodup) (hlt : ∀ u, u ∈ s.lv → isT s u) (ho : s.out.length = s.nt) (hk : s.kp.length ≤ 1000000) (hev : s.ev.length ≤ 100000) :
    Calls Tryz.prog 175 #[P0 p.eb, P0 (g.tb t), vA v, .int .i64 kind, .int .i64 x] w fun e w' => e = .returned (.tuple #[]) ∧ ∃ g', Tr p s g w (s.leave t v kind x) g' w' := by
  have hd := hW.d
  have hlvl : s.lv.length ≤ 500000000 := Nat.le_trans (nodup_len s.nt s.lv hnd hlt) hd
  have hbox : ∀ {w1 : World} {s1 : Pl} {g1 : Geo} {w2 : World}, w.grownBy w1 none → Lbx w1 w.heap.size (g.tb t) v → Tr p s g w1 s1 g1 w2 → Lbx w2 w.heap.size (g.tb t) v ∧ ¬ Mine p s1 g1 w.heap.size ∧ ¬ Mine p s1 g1 (w.heap.size + 1) := fun hg hL h2 => by
    have a := h2.other hL.1 (fun hm => by have := h.lt hm; omega)
    have b := h2.other hL.2 (fun hm => by have := h.lt hm; omega)
    exact ⟨⟨a.1, b.1⟩, a.2, b.2⟩
  have hS : ∀ {s1 s2 : Pl} {g1 g2 : Geo} {w1 w2 : World}, (Lbx w1 w.heap.size (g.tb t) v ∧ ¬ Mine p s1 g1 w.heap.size ∧ ¬ Mine p s1 g1 (w.heap.size + 1)) → Tr p s1 g1 w1 s2 g2 w2 → (Lbx w2 w.heap.size (g.tb t) v ∧ ¬ Mine p s2 g2 w.heap.size ∧ ¬ Mine p s2 g2 (w.heap.size + 1)) := fun hb h2 => by
    have a := h2.other hb.1.1 hb.2.1
    have b := h2.other hb.1.2 hb.2.2
    exact ⟨⟨a.1, b.1⟩, a.2, b.2⟩
  let s1 := s.out1 t
  let s1' := s1.setT t (s1.T t).stop
  let s2 : Pl := { s1' with lv := s.lv.erase t }
  let s3 := s2.keep (t - 1) v
  have hn1 : s1.nt = s.nt := out1_nt s t
  have ht1 : isT s1 t := (isT_nt hn1).2 ht
  have hn3 : s3.nt = s.nt := hn1
  have ht3 : isT s3 t := (isT_nt hn3).2 ht
  have hlv1 : s1.lv = s.lv := (out1_lv s t).1
  have hlen6 : rlen s1 6 0 = s.lv.length := by show s1.lv.length = _; rw [hlv1]
  have hlv6 : s.lv.length ≠ 0 := fun e => by rw [List.length_eq_zero_iff] at e; rw [e] at hlv; cases hlv
  obtain ⟨lb, cl, hlb⟩ : ∃ lb cl, g.ro 6 0 = (some ⟨lb, 0, none⟩, cl) := by
    have h6 := h.row (x := 6) (y := 0) (by unfold rowx; omega) (vld_0 (by omega))
    obtain ⟨lb, cl, he⟩ := row_form h6 (by show s.lv.length ≠ 0; exact hlv6)
    unfold sl at he
    injection he with a b c
    exact ⟨lb, cl, Prod.ext a c⟩
  have herase : (s.lv.map g.tb).erase (g.tb t) = (s.lv.erase t).map g.tb := erase_map _ (fun b hb e => h.tb_inj (hlt b hb) ht e)
  have hel : (s.lv.erase t).length = s.lv.length - 1 := List.length_erase_of_mem hlv
  let S1 : World → Prop := fun w1 => Tr p s g w s1 g w1 ∧ (Lbx w1 w.heap.size (g.tb t) v ∧ ¬ Mine p s1 g w.heap.size ∧ ¬ Mine p s1 g (w.heap.size + 1))
  let S2 : Value → World → Prop := fun lv w2 => lv = .slice (some ⟨lb, 0, none⟩) (s.lv.length - 1) cl ∧ ∃ w1, Tr p s g w s1' g w1 ∧ (Lbx w1 w.heap.size (g.tb t) v ∧ ¬ Mine p s1' g w.heap.size ∧ ¬ Mine p s1' g (w.heap.size + 1)) ∧ w1.grownBy w2 (some lb) ∧ w2.ownsRow 0 155 1 (.slice (some ⟨lb, 0, none⟩) (s.lv.length - 1) cl) (s.lv.length - 1) (((s.lv.erase t).map g.tb).map P0)
  let S3 : World → Prop := fun w3 => ∃ g3, Tr p s g w s3 g3 w3 ∧ g3.tb = g.tb ∧ g3.sx = g.sx ∧ (Lbx w3 w.heap.size (g.tb t) v ∧ ¬ Mine p s3 g3 w.heap.size ∧ ¬ Mine p s3 g3 (w.heap.size + 1))
  have flag : ∀ w1, S1 w1 → Tr p s g w s1' g (w1.setCell ⟨g.tb t, 2, none⟩ (.bool false)) ∧ (Lbx (w1.setCell ⟨g.tb t, 2, none⟩ (.bool false)) w.heap.size (g.tb t) v ∧ ¬ Mine p s1' g w.heap.size ∧ ¬ Mine p s1' g (w.heap.size + 1)) := by
    rintro w1 ⟨h1, hb1⟩
    have h2 : Tr p s1 g w1 s1' g (w1.setCell ⟨g.tb t, 2, none⟩ (.bool false)) := by
      refine h1.r.flag ht1 rfl rfl ?_ (only_setCell (S := fun k => k = g.tb t) (only_refl _ _) (Or.inl rfl) _)
      refine ((h1.r.tk ht1).upd 2 (.bool false)).congr (fun j hj => ?_)
      have hT' : (s1.setT t (s1.T t).stop).T t = (s1.T t).stop := setT_at _ _ _
      have hc : j = 0 ∨ j = 1 ∨ j = 2 ∨ j = 3 ∨ j = 4 ∨ j = 5 ∨ j = 6 := by omega
      have hsl : sl (s1.setT t (s1.T t).stop) g 12 t = sl s1 g 12 t := by unfold sl; rw [rlen_12, rlen_12, hT']; rfl
      rcases hc with rfl | rfl | rfl | rfl | rfl | rfl | rfl
      · rfl
      · exact hsl.symm
      · show Value.bool false = Value.bool ((s1.setT t (s1.T t).stop).T t).run
        rw [hT']; rfl
      · show whV p g (s1.T t).wh = whV p g ((s1.setT t (s1.T t).stop).T t).wh
        rw [hT']; rfl
      · show lfV g t (s1.T t).lf = lfV g t ((s1.setT t (s1.T t).stop).T t).lf
        rw [hT']; rfl
      · show Value.int .i64 (s1.T t).till = Value.int .i64 ((s1.setT t (s1.T t).stop).T t).till
        rw [hT']; rfl
      · rfl
    exact ⟨h1.trans h2, hS hb1 h2⟩
  have lift : ∀ lv w2, S2 lv w2 → Tr p s g w s2 (g.at 6 0 (some ⟨lb, 0, none⟩, cl)) (w2.setCell ⟨p.eb, 29, none⟩ lv) ∧ (Lbx (w2.setCell ⟨p.eb, 29, none⟩ lv) w.heap.size (g.tb t) v ∧ ¬ Mine p s2 (g.at 6 0 (some ⟨lb, 0, none⟩, cl)) w.heap.size ∧ ¬ Mine p s2 (g.at 6 0 (some ⟨lb, 0, none⟩, cl)) (w.heap.size + 1)) := by
    rintro lv w2 ⟨rfl, w1, h1, hb1, hg2, hr2⟩
    have hle : lb ≠ p.eb := own_ne hr2 (h1.r.E.block (hg2.block _ h1.r.E.lt (fun e => by
      injection e with e
      have hr1 := h1.r.row (x := 6) (y := 0) (by unfold rowx; omega) (vld_0 (by omega))
      unfold sl at hr1
      rw [hlb] at hr1
      exact own_ne hr1 h1.r.E (by decide) lb rfl e.symm))) (by decide) lb rfl
    have hE2 : Full w2 p.eb 144 44 44 (engE p s1' g) := h1.r.E.block (hg2.block _ h1.r.E.lt (fun e => by injection e with e; exact hle e.symm))
    have hrl : rlen s2 6 0 = s.lv.length - 1 := hel
    have h2 : Tr p s1' g w1 s2 (g.at 6 0 (some ⟨lb, 0, none⟩, cl)) (w2.setCell ⟨p.eb, 29, none⟩ (.slice (some ⟨lb, 0, none⟩) (s.lv.length - 1) cl)) := by
      refine h1.r.engrow (j0 := 29) (by omega) (vld_0 (by omega)) (by decide) rfl rfl rfl rfl rfl rfl rfl (fun a b c d e => ?_) ?_ ?_ ?_ (fun k hk => Or.inl (by rw [hlb]; exact hk))
      · have ea : a ≠ 6 := by omega
        exact ⟨by unfold rlen; simp only [if_neg ea]; rfl, by unfold rcon; simp only [if_neg ea]; rfl⟩
      · rw [hrl]; exact hE2.upd 29 _
      · rw [hrl]
        exact own_of hr2 (fun k hk => Below.heap_setCell _ _ _ _ (by
          have e : lb = k := by injection hk
          rw [← e]; exact hle))
      · refine only_setCell (only_grown hg2 (Or.inr (by rw [hlb]; rfl))) (Or.inl (Or.inl rfl)) _
    exact ⟨h1.trans h2, hS hb1 h2⟩
  let s4 := s3.told kind t x
  have hs4 : s4 = s.gone t v kind x := rfl
  have hLW4 : LW s4 := hW.gone ht v kind x
  have hWW4 : WW p s4 := hWW.gone v kind x
  obtain ⟨sxf, hsx⟩ : ∃ sxf : Nat → Nat, ∀ u, isT s u → sxf (g.tb u) = g.sx u := by
    classical
    refine ⟨fun b => if hb : ∃ u, isT s u ∧ g.tb u = b then g.sx hb.choose else 0, fun u hu => ?_⟩
    have hb : ∃ u', isT s u' ∧ g.tb u' = g.tb u := ⟨u, hu, rfl⟩
    show (if hb : ∃ u', isT s u' ∧ g.tb u' = g.tb u then g.sx hb.choose else 0) = g.sx u
    rw [dif_pos hb, h.tb_inj hb.choose_spec.1 hu hb.choose_spec.2]
  let I : List Nat → World → Prop := fun bs w4 => ∃ zs ys g4, bs = ys.map g.tb ∧ s.q 5 t = zs ++ ys ∧ Tr p s g w (s4.wokeAll v zs) g4 w4 ∧ g4.tb = g.tb ∧ g4.sx = g.sx ∧ LW (s4.wokeAll v zs) ∧ WW p (s4.wokeAll v zs) ∧ (s4.wokeAll v zs).q 5 t = ys ∧ (s4.wokeAll v zs).nt = s.nt ∧ (Lbx w4 w.heap.size (g.tb t) v ∧ ¬ Mine p (s4.wokeAll v zs) g4 w.heap.size ∧ ¬ Mine p (s4.wokeAll v zs) g4 (w.heap.size + 1))
  have hl5 : ∀ {s' : Pl}, s'.nt = s.nt → lnok s' 5 t := fun e => Or.inr (Or.inr (Or.inr ⟨rfl, (isT_nt e).2 ht⟩))
  refine (leaveL p.eb (g.tb t) kind t s.lv.length cl x v (some ⟨lb, 0, none⟩) S1 S3 S2 I sxf ((s.q 5 t).map g.tb) w ?_ ?_ ?_ ?_ ?_ ?_ ?_ ?_ ?_).mono ?_
  · intro w1 hg hL
    refine (stepOutR (h.kept hg) hW ht).mono ?_
    rintro e w2 ⟨rfl, h2⟩
    exact ⟨rfl, h2.ahead hg, hbox hg hL h2⟩
  · intro w1 h1
    have hf := flag w1 h1
    refine ⟨h1.2.1, ⟨_, h1.1.r.tk ht1⟩, ?_, h1.1.r.E.lt⟩
    rw [hf.1.r.E.cell 29 (by omega)]
    show some (sl s1' g 6 0) = _
    unfold sl
    rw [hlb]
    show some (Value.slice _ s1.lv.length _) = _
    rw [hlv1]
  · intro w1 h1
    obtain ⟨hf1, hf2⟩ := flag w1 h1
    generalize w1.setCell ⟨g.tb t, 2, none⟩ (.bool false) = W at *
    have hr := hf1.r.row (x := 6) (y := 0) (by unfold rowx; omega) (vld_0 (by omega))
    have hr' : W.ownsRow 0 155 1 (.slice (some ⟨lb, 0, none⟩) s.lv.length cl) s.lv.length ((s.lv.map g.tb).map P0) := by
      have e1 : sl s1' g 6 0 = .slice (some ⟨lb, 0, none⟩) s.lv.length cl := by unfold sl; rw [hlb]; show Value.slice _ s1.lv.length _ = _; rw [hlv1]
      have e2 : rlen s1' 6 0 = s.lv.length := hlen6
      have e3 : rcon s1' g 6 0 = (s.lv.map g.tb).map P0 := by show (s1.lv.map g.tb).map P0 = _; rw [hlv1]
      rw [e1, e2, e3] at hr
      exact hr
    have hn1' : s1'.nt = s.nt := hn1
    refine (sdelF lb cl s.lv.length (g.tb t) w.heap.size (s.lv.map g.tb) W hr' (by omega) (nodup_map _ hnd (fun a ha b hb e => h.tb_inj (hlt a ha) (hlt b hb) e)) ?_ (heap_lt hf2.1.1) (fun e => hf2.2.1 ⟨6, 0, 0, ?_⟩) (hf1.r.tk ((isT_nt hn1').2 ht)).blk (fun z hz => ?_) (List.mem_map_of_mem hlv)).mono ?_
    · have := hf2.1.1
      simp [World.cell?, this]
    · rw [bs_row p g (by unfold rowx; omega) (vld_0 (by omega)), hlb, e]; rfl
    · obtain ⟨u, hu, rfl⟩ := List.mem_map.1 hz
      exact (hf1.r.tk ((isT_nt hn1').2 (hlt u hu))).blk
    rintro e w2 ⟨rfl, k1, k2⟩
    rw [herase] at k1
    exact ⟨_, _, _, rfl, rfl, W, hf1, hf2, k2, k1⟩
  · intro lv w2 h2
    obtain ⟨hf1, hf2⟩ := lift lv w2 h2
    obtain ⟨_, w1, k1, _, k3, _⟩ := h2
    have hT := hf1.r.tk (t := t) ((isT_nt (s := s) hn1).2 ht)
    refine ⟨hf2.1, ⟨engE p s1' g, k1.r.E.block (k3.block _ k1.r.E.lt (fun e => ?_))⟩, hT.cell 0 (by omega), ?_⟩
    · injection e with e
      have hr1 := k1.r.row (x := 6) (y := 0) (by unfold rowx; omega) (vld_0 (by omega))
      unfold sl at hr1
      rw [hlb] at hr1
      exact own_ne hr1 k1.r.E (by decide) lb rfl e.symm
    · have hlt2 : g.tb t < (w2.setCell ⟨p.eb, 29, none⟩ lv).heap.size := hT.lt
      simpa [World.setCell] using hlt2
  · intro lv w2 w3 h2 hg3
    obtain ⟨hf1, hf2⟩ := lift lv w2 h2
    have h3 := hf1.kept hg3
    have hb3 : Lbx w3 w.heap.size (g.tb t) v ∧ ¬ Mine p s2 (g.at 6 0 (some ⟨lb, 0, none⟩, cl)) w.heap.size ∧ ¬ Mine p s2 (g.at 6 0 (some ⟨lb, 0, none⟩, cl)) (w.heap.size + 1) :=
      ⟨⟨grown_heap hg3 hf2.1.1 (by intro e; cases e), grown_heap hg3 hf2.1.2 (by intro e; cases e)⟩, hf2.2⟩
    have hol : s2.out.length = s.nt := by show s1.out.length = _; rw [(out1_lv s t).2.1, ho]
    have hkl : s2.kp.length = s.kp.length := by show s1.kp.length = _; rw [(out1_lv s t).2.2.1]
    have htt : (t : Int) = ((t - 1 : Nat) : Int) + 1 := by have := ht.1; omega
    rw [htt]
    refine (keepR (j := t - 1) v h3.r (by rw [hol]; have := ht.1; have := ht.2; omega) (by rw [hol]; omega) (by rw [hkl]; exact hk)).mono ?_
    rintro e w4 ⟨rfl, r, h4⟩
    exact ⟨rfl, _, h3.trans h4, rfl, rfl, hS hb3 h4⟩
  · rintro w3 ⟨g3, _, _, _, hb⟩
    exact hb.1
  · rintro w3 ⟨g3, h3, htb, hsx3, hb3⟩
    have hevl : s3.ev.length ≤ 100000 := by show s1.ev.length ≤ _; rw [(out1_lv s t).2.2.2.1]; exact hev
    have hcall := tellR (t := t) kind x h3.r ht3 hevl
    rw [htb] at hcall
    refine hcall.mono ?_
    rintro e w4 ⟨rfl, r, h4⟩
    exact ⟨rfl, [], s.q 5 t, g3.at 9 0 r, rfl, rfl, h3.trans h4, htb, hsx3, hLW4, hWW4, gone_q hW ht v kind x, hn3, hS hb3 h4⟩
  · rintro bs w4 ⟨zs, ys, g4, rfl, hzy, hT4, htb, hsx4, hLW, hWW', hq, hnt, hb⟩
    have ht4 := (isT_nt hnt).2 ht
    have hTk := hT4.r.tk ht4
    rw [htb] at hTk
    have hr := hT4.r.row (x := 5) (y := t) (by unfold rowx; omega) (vld_t (by omega) ht4)
    have hln : rlen (s4.wokeAll v zs) 5 t = ys.length := by rw [lnok_len _ (hl5 hnt), hq]
    have hcn : rcon (s4.wokeAll v zs) g4 5 t = (ys.map g.tb).map P0 := by rw [lnok_con _ _ (hl5 hnt), hq, htb]
    have hc6 : w4.cell? ⟨g.tb t, 6, none⟩ = some (sl (s4.wokeAll v zs) g4 5 t) := hTk.cell 6 (by omega)
    refine ⟨hb.1, hTk.lt, fun w5 hg => ⟨zs, ys, g4, rfl, hzy, hT4.kept hg, htb, hsx4, hLW, hWW', hq, hnt, ⟨grown_heap hg hb.1.1 (by intro e; cases e), grown_heap hg hb.1.2 (by intro e; cases e)⟩, hb.2⟩, fun e => ?_, fun y r e => ?_⟩
    · have hy : ys = [] := List.map_eq_nil_iff.1 e
      refine ⟨(g4.ro 5 t).1, (g4.ro 5 t).2, ?_⟩
      rw [hc6]
      unfold sl
      rw [hln, hy]; rfl
    · cases ys with
      | nil => cases e
      | cons u us =>
        rw [List.map_cons] at e
        injection e with e1 e2
        subst e1 e2
        have hmem : u ∈ (s4.wokeAll v zs).q 5 t := by rw [hq]; simp
        obtain ⟨hu4, hwh⟩ := hLW.b 5 t (hl5 hnt) u hmem
        obtain ⟨k, hk1, hk2, hk3⟩ := hWW' u hu4 5 t hwh (Or.inr rfl)
        have hu := (isT_nt hnt).1 hu4
        rw [hln, hcn] at hr
        obtain ⟨qb, qc, he⟩ := row_form hr (by simp)
        have hTu := hT4.r.tk hu4
        rw [htb] at hTu
        rw [he] at hr hc6
        refine ⟨qb, qc, ?_, ?_, ?_, hTu.lt⟩
        · rw [List.length_map]; exact hc6
        · exact (own_ge hr).2.2.2.2.2 0 _ rfl
        · rw [hTu.cell 4 (by omega)]
          show some (lfV g4 u ((s4.wokeAll v zs).T u).lf) = _
          rw [hk1, hsx u hu, ← hsx4]
          rfl
  · rintro y r w4 ⟨zs, ys, g4, he, hzy, hT4, htb, hsx4, hLW, hWW', hq, hnt, hb⟩
    cases ys with
    | nil => cases he
    | cons u us =>
      rw [List.map_cons] at he
      injection he with e1 e2
      subst e1 e2
      have hmem : u ∈ (s4.wokeAll v zs).q 5 t := by rw [hq]; simp
      obtain ⟨hu4, hwh⟩ := hLW.b 5 t (hl5 hnt) u hmem
      obtain ⟨k, hk1, hk2, hk3⟩ := hWW' u hu4 5 t hwh (Or.inr rfl)
      have hu := (isT_nt hnt).1 hu4
      have hcall := wokeR v hT4.r hLW hu4 hk1 hk2 hk3 (by rw [hwh]; intro e; injection e with e; injection e with e _; omega)
      rw [hsx4] at hcall
      rw [hsx u hu]
      refine hcall.mono ?_
      rintro e w5 ⟨rfl, r, h5⟩
      have hw : s4.wokeAll v (zs ++ [u]) = (s4.wokeAll v zs).woke u v := wokeAll_app v zs [u] s4
      refine ⟨rfl, zs ++ [u], us, g4.at 2 0 r, rfl, by rw [hzy, List.append_assoc]; rfl, by rw [hw]; exact hT4.trans h5, htb, hsx4, by rw [hw]; exact hLW.woke hu4 v, by rw [hw]; exact hWW'.woke v (by rw [hk1]; intro e; cases e), ?_, by rw [hw, woke_nt]; exact hnt, by rw [hw]; exact hS hb h5⟩
      rw [hw, woke_q hwh v (by rw [hk1]; intro e; cases e) (by omega), hq]
      simp
  · rintro e w' ⟨rfl, zs, ys, g4, he, hzy, hT4, _⟩
    have hy : ys = [] := List.map_eq_nil_iff.1 he.symm
    refine ⟨rfl, g4, ?_⟩
    rw [hy, List.append_nil] at hzy
    unfold Pl.leave
    rw [hzy]
    exact hT4
end Go.Proofs.YtnjiinbhbjpfkaaGreatDoor.F
namespace Go.Proofs.YtnjiinbhbjpfkaaGreatDoor
open Go.RowKit
set_option maxRecDepth 100000 in
theorem topL (tb sb cap m fb : Nat) (w : World) (c1 : w.cell? ⟨tb, 1, none⟩ = some (.slice (some ⟨sb, 0, none⟩) (m + 1) cap)) (hs : w.cell? ⟨sb, m, none⟩ = some (P0 fb)) (hm : m ≤ 1000) :
    Calls Tryz.prog 164 #[P0 tb] w fun e w' => e = .returned (P0 fb) ∧ w.grownBy w' none := by
  go_enter Tryz.func164, Tryz.ntmps164
  go_wp2_with fail
  go_quiet (fail)
  go_wp2_with fail
  go_ret
  exact ⟨rfl, grown_drewN (grown_refl _ _) _⟩
set_option maxRecDepth 100000 in
set_option maxHeartbeats 2000000 in
theorem fdelL (g c m base : Nat) (xs : List Value) (w : World) (hown : w.ownsRow base 184 1 (.slice (some ⟨g, 0, none⟩) (m + 1) c) (m + 1) xs) (hm2 : m ≤ 1000) :
    Calls Tryz.prog 165 #[.slice (some ⟨g, 0, none⟩) (m + 1) c, .int .i64 (m : Int), .int .i64 ((m : Int) + 1)] w fun e w' => e = .returned (.slice (some ⟨g, 0, none⟩) m c) ∧ w'.ownsRow base 184 1 (.slice (some ⟨g, 0, none⟩) m c) m xs.dropLast ∧ w.grownBy w' (some g) := by
  obtain ⟨hb, hc, hm, hl, hB, hx⟩ := own_ge hown
  clear hown
  obtain ⟨i0, hi, hz0, hz1, hz2⟩ := info_parts Tryz.info184
  have hv : ∀ w, (zeroValue 184).run Tryz.prog w = .ok (.pointer none) w := by intro w; simp [zeroValue, typeInfo, hi, hz0]
  have cl : ∀ (ty : TypeId) (c' : Nat), (Builtin.clear_ #[156] ty #[.slice (some ⟨g, m, none⟩) 1 c']).run Tryz.prog w.drew = .ok (.tuple #[]) (w.drew.setCell ⟨g, m, none⟩ (.pointer none)) := by
    intro ty c'
    refine Go.Lib.run_clear_slice (P := Tryz.prog) w.drew 156 184 ty (.pointer none) Tryz.underlying156 hv rfl rfl g m 1 c' (by omega) ?_ ?_
    · intro j hj
      obtain ⟨⟨v, h⟩, _⟩ := hB.cell (m + j) (by omega)
      have h' : w.drew.cell? ⟨g, m + j, none⟩ = some v := h
      rw [h']; rfl
    · intro j hj
      exact (hB.cell (m + j) (by omega)).2
  have hic : m ≤ c := by omega
  have h0i : (0 : Int) ≤ (m : Int) + 1 := by omega
  have hi1c : m + 1 ≤ c := by omega
  have hmi : (c : Int) ≤ 9223372036854775807 := by unfold maxLen at hm; omega
  have HB := hid hB
  have HX := hid hx
  have HL := hid hl
  have HM := hid hm
  clear hB hx hl hm
  go_enter Tryz.func165, Tryz.ntmps165
  go_wp2_with fail
  go_region_law (refine step_append_zero rfl (.tmp 22) (.tmp 25) 156 rfl 184 i0 Tryz.underlying156 hi (some ⟨g, 0, none⟩) (if c = m + 1 then some ⟨g, 0, none⟩ else some ⟨g, m + 1, none⟩) m c (c - (m + 1)) (by first | rfl | simp [Act.eval, Act.put]) (by first | rfl | simp [Act.eval, Act.put]) (by omega) ?_)
  all_goals
    go_wp2_with fail
    all_goals
      go_ret
      refine ⟨rfl, own_mk hb (by omega) (by have := HM.out; omega) (by rw [List.length_dropLast, HL.out]; omega) (by obtain ⟨cu, k1, k2⟩ := HB.out.set g m (.pointer none); exact ⟨cu, k1, by omega⟩) (fun j x hx => ?_), ?_⟩
      · have hj : j < m := by
          have := (List.getElem?_eq_some_iff.1 hx).1
          rw [List.length_dropLast, HL.out] at this
          omega
        have hx2 : xs[j]? = some x := by
          rw [List.getElem?_dropLast] at hx
          split at hx
          · exact hx
          · cases hx
        have := HX.out j x hx2
        have h2 : (World.setCell w ⟨g, m, none⟩ (.pointer none)).cell? ⟨g, j, none⟩ = some x := by
          rw [World.cell?_setCell_other _ _ _ _ (by intro e; injection e with _ e; omega)]; exact this
        exact h2
      · repeat (first | exact grown_refl _ _ | refine grown_drew ?_ | refine grown_setCell ?_ (Or.inl rfl) _)
def Pop (w w2 : World) (tb kb ck m : Nat) (fs : List Value) (Tk : Nat → Value) : Prop :=
  Full w2 tb 160 7 7 (upd Tk 1 (.slice (some ⟨kb, 0, none⟩) m ck)) ∧ w2.ownsRow 0 184 1 (.slice (some ⟨kb, 0, none⟩) m ck) m fs ∧ Only (fun k => k = tb ∨ k = kb) w w2
set_option maxRecDepth 100000 in
set_option maxHeartbeats 2000000 in
theorem giveBackL (tb kb ck m fb cb L nx rb nr xe xt : Nat) (v : B.V) (fs : List Value) (Tk : Nat → Value) (R : World → Prop) (w : World) (hT : Full w tb 160 7 7 Tk) (hT1 : Tk 1 = .slice (some ⟨kb, 0, none⟩) (m + 1) ck) (hm : m ≤ 1000)
    (hK : w.ownsRow 0 184 1 (.slice (some ⟨kb, 0, none⟩) (m + 1) ck) (m + 1) (fs ++ [P0 fb])) (hF : w.heap[fb]? = some (frmB cb L nx rb nr (Fv 120 #[P0 xe, P0 xt])))
    (H : ∀ w2, Pop w w2 tb kb ck m fs Tk → Calls Tryz.prog 120 #[vA v, P0 xe, P0 xt] w2 fun e w' => e = .returned (.tuple #[]) ∧ R w') :
    Calls Tryz.prog 107 #[P0 tb, vA v] w fun e w' => e = .returned (.tuple #[]) ∧ R w' := by
  have c1 := hT.cell 1 (by omega)
  rw [hT1] at c1
  have lt := hT.lt
  have hfl : fs.length = m := by
    have := (own_ge hK).2.2.2.1
    simp at this; omega
  have k0 : w.cell? ⟨kb, m, none⟩ = some (P0 fb) := (own_ge hK).2.2.2.2.2 m (P0 fb) (by rw [List.getElem?_append_right (by omega), hfl]; simp)
  have kt : kb ≠ tb := own_ne hK hT (by decide) kb rfl
  have lk : kb < w.heap.size := (own_ty hK kb rfl).2.1
  have HT := hid hT
  have HK := hid hK
  have HF := hid hF
  have HH := hid H
  clear hT hK hF H
  have lt1 : tb < w.heap.size + 1 := by omega
  have lk1 : kb < w.heap.size + 1 := by omega
  obtain ⟨v1, v2⟩ := v
  go_enter Tryz.func107, Tryz.ntmps107
  go_wp2_with fail
  refine (topL tb kb ck m fb _ (by simp [go_sem, lt, c1]) (by simp [go_sem, lk, k0]) hm).mono ?_
  rintro e w1 ⟨rfl, hg1⟩
  have hz1 := hg1.size
  simp at hz1
  have b0 := grown_heap hg1 (show (w.alloc (.cells #[.int .i64 (v1 : Int), .int .i64 v2] 149)).heap[w.heap.size]? = _ from heap_alloc_new w _) (by intro e; cases e)
  have KG : Hid (w.grownBy w1 none) := grown_trans (World.grownBy_alloc _ _ _) hg1
  have hbk : ∀ k, k < w.heap.size → w1.heap[k]? = w.heap[k]? := fun k hk => KG.out.block k hk (by intro e; cases e)
  have HT1 := hid (HT.out.block (hbk tb lt))
  have HK1 := hid (own_of HK.out (fun k h => hbk k (own_ty HK.out k h).2.1))
  have HF1 := hid ((hbk fb (heap_lt HF.out)).trans HF.out)
  have p0 : w1.cell? ⟨w.heap.size, 0, none⟩ = some (.int .i64 (v1 : Int)) := by simp [World.cell?, b0]
  have p1 : w1.cell? ⟨w.heap.size, 1, none⟩ = some (.int .i64 v2) := by simp [World.cell?, b0]
  have c1' := HT1.out.cell 1 (by omega)
  rw [hT1] at c1'
  have lw : w.heap.size < w1.heap.size := by omega
  have lt2 : tb < w1.heap.size := by omega
  have hwr : IntKind.i64.wrap (m : Int) = (m : Int) := IntWalk.i64_in _ ⟨by omega, by omega⟩
  clear hg1 hbk c1 k0 lk lk1 lt1
  go_wp2_with fail
  go_cut [] from 7 to 25 (fun wx => ∃ w2 : World, wx = w2.setCell ⟨tb, 1, none⟩ (.slice (some ⟨kb, 0, none⟩) m ck) ∧ Hid (w1.grownBy w2 (some kb)) ∧ Hid (w2.ownsRow 0 184 1 (.slice (some ⟨kb, 0, none⟩) m ck) m fs))
  case first =>
    go_region_with (go_at_call 165; refine (fdelL kb ck m 0 (fs ++ [P0 fb]) w1.drew (own_of HK1.out (fun _ _ => rfl)) hm).mono ?_; rintro e w2 ⟨rfl, ho2, hg2⟩; have HG2 : Hid (w1.grownBy w2 (some kb)) := ⟨hg2.os, hg2.tape, hg2.output, hg2.size, hg2.block⟩; have HO2 : Hid (w2.ownsRow 0 184 1 (.slice (some ⟨kb, 0, none⟩) m ck) m fs) := (List.dropLast_concat (l₁ := fs) (b := P0 fb)) ▸ ho2; have HT2 := hid (HT1.out.kept HG2.out (fun e => kt e.symm)); obtain ⟨d1, e1⟩ := HT2.out.cells 1 (by omega); have lt3 := HT2.out.lt; clear hg2 ho2)
    all_goals
      rw [hT1] at d1
      go_wp2_with fail
      go_meet
      case rel => exact ⟨w2, rfl, HG2, HO2⟩
  case rest =>
    obtain ⟨w2, rfl, HG2, HO2⟩ := hcut
    have hz2 := HG2.out.size
    have HG3 : Hid (Only (fun k => k = tb ∨ k = kb) w (w2.setCell ⟨tb, 1, none⟩ (.slice (some ⟨kb, 0, none⟩) m ck))) :=
      only_setCell ((only_none KG.out).then HG2.out (Or.inl (Or.inr rfl))) (Or.inl (Or.inl rfl)) _
    generalize hw3 : w2.setCell ⟨tb, 1, none⟩ (.slice (some ⟨kb, 0, none⟩) m ck) = w3 at *
    have hz3 : w3.heap.size = w2.heap.size := by rw [← hw3]; simp [World.setCell]
    have hb3 : ∀ k, k ≠ tb → k ≠ kb → k < w1.heap.size → w3.heap[k]? = w1.heap[k]? := by
      intro k h1 h2 h3
      rw [← hw3, Below.heap_setCell _ _ _ _ h1]
      exact HG2.out.block k h3 (by intro e; injection e with e; exact h2 e)
    have HT3 : Hid (Full w3 tb 160 7 7 (upd Tk 1 (.slice (some ⟨kb, 0, none⟩) m ck))) := by
      show Full _ _ _ _ _ _
      rw [← hw3]
      exact (HT1.out.kept HG2.out (fun e => kt e.symm)).upd 1 _
    have HO3 : Hid (w3.ownsRow 0 184 1 (.slice (some ⟨kb, 0, none⟩) m ck) m fs) := by
      show World.ownsRow _ _ _ _ _ _ _
      rw [← hw3]
      exact own_of HO2.out (fun k h => by
        have : k = kb := by injection h with h; exact h.symm
        subst this
        exact Below.heap_setCell _ _ _ _ kt)
    have hty : ∀ {k : Nat} {cur : Array Value} {T : TypeId}, w1.heap[k]? = some (.cells cur T (0, 0)) → T ≠ 184 → T ≠ 160 → w3.heap[k]? = w1.heap[k]? := by
      intro k cur T hk h1 h2
      refine hb3 k ?_ ?_ (heap_lt hk)
      · rintro rfl
        obtain ⟨cur', h', _⟩ := HT1.out
        rw [hk] at h'; injection h' with h'; injection h' with _ h' _; exact h2 h'
      · rintro rfl
        obtain ⟨_, _, cur', h'⟩ := own_ty HK1.out k rfl
        rw [hk] at h'; injection h' with h'; injection h' with _ h' _; exact h1 h'
    have f3 : w3.heap[fb]? = some (frmB cb L nx rb nr (Fv 120 #[P0 xe, P0 xt])) := (hty HF1.out (by decide) (by decide)).trans HF1.out
    obtain ⟨_, _, _, f3', _⟩ := frm_cells f3
    have lf := heap_lt f3
    have b3 : w3.heap[w.heap.size]? = some (.cells #[.int .i64 (v1 : Int), .int .i64 v2] 149 (0, 0)) := (hty b0 (by decide) (by decide)).trans b0
    have q0 : w3.cell? ⟨w.heap.size, 0, none⟩ = some (.int .i64 (v1 : Int)) := by simp [World.cell?, b3]
    have q1 : w3.cell? ⟨w.heap.size, 1, none⟩ = some (.int .i64 v2) := by simp [World.cell?, b3]
    have lw3 := heap_lt b3
    have HP : Hid (∀ w4, w3.grownBy w4 none → Pop w w4 tb kb ck m fs Tk) := fun w4 hg => ⟨HT3.out.block (hg.block tb HT3.out.lt (by intro e; cases e)), own_of HO3.out (fun k h => hg.block k (own_ty HO3.out k h).2.1 (by intro e; cases e)), HG3.out.then0 hg⟩
    clear hw3 hb3 hty hz2 hz3 f3 b3 HG2 HO2 b0 p0 p1 c1'
    go_wp2_with fail
    go_region_with (go_at_call 120; refine (HH.out w3.drew (HP.out _ (grown_drew (grown_refl _ _)))).mono ?_; rintro e w4 ⟨rfl, hR4⟩; have HR4 := hid hR4; clear hR4)
    all_goals
      go_wp2_with fail
      go_end0
      exact ⟨rfl, HR4.out⟩
set_option maxRecDepth 100000 in
set_option maxHeartbeats 2000000 in
theorem giveBackS (tb kb ck m fb cb L nx rb nr op a b c fc eb : Nat) (v : B.V) (fs : List Value) (Tk : Nat → Value) (R : World → Prop) (w : World) (hT : Full w tb 160 7 7 Tk) (hT1 : Tk 1 = .slice (some ⟨kb, 0, none⟩) (m + 1) ck) (hm : m ≤ 1000)
    (hK : w.ownsRow 0 184 1 (.slice (some ⟨kb, 0, none⟩) (m + 1) ck) (m + 1) (fs ++ [P0 fb])) (hF : w.heap[fb]? = some (frmB cb L nx rb nr (.func (.func 149) #[stepV op a b c fc tb eb] #[])))
    (H : ∀ w2, Pop w w2 tb kb ck m fs Tk → Calls Tryz.prog 149 #[stepV op a b c fc tb eb, vA v] w2 fun e w' => e = .returned (.tuple #[]) ∧ R w') :
    Calls Tryz.prog 107 #[P0 tb, vA v] w fun e w' => e = .returned (.tuple #[]) ∧ R w' := by
  have c1 := hT.cell 1 (by omega)
  rw [hT1] at c1
  have lt := hT.lt
  have hfl : fs.length = m := by
    have := (own_ge hK).2.2.2.1
    simp at this; omega
  have k0 : w.cell? ⟨kb, m, none⟩ = some (P0 fb) := (own_ge hK).2.2.2.2.2 m (P0 fb) (by rw [List.getElem?_append_right (by omega), hfl]; simp)
  have kt : kb ≠ tb := own_ne hK hT (by decide) kb rfl
  have lk : kb < w.heap.size := (own_ty hK kb rfl).2.1
  have HT := hid hT
  have HK := hid hK
  have HF := hid hF
  have HH := hid H
  clear hT hK hF H
  have lt1 : tb < w.heap.size + 1 := by omega
  have lk1 : kb < w.heap.size + 1 := by omega
  obtain ⟨v1, v2⟩ := v
  go_enter Tryz.func107, Tryz.ntmps107
  go_wp2_with fail
  refine (topL tb kb ck m fb _ (by simp [go_sem, lt, c1]) (by simp [go_sem, lk, k0]) hm).mono ?_
  rintro e w1 ⟨rfl, hg1⟩
  have hz1 := hg1.size
  simp at hz1
  have b0 := grown_heap hg1 (show (w.alloc (.cells #[.int .i64 (v1 : Int), .int .i64 v2] 149)).heap[w.heap.size]? = _ from heap_alloc_new w _) (by intro e; cases e)
  have KG : Hid (w.grownBy w1 none) := grown_trans (World.grownBy_alloc _ _ _) hg1
  have hbk : ∀ k, k < w.heap.size → w1.heap[k]? = w.heap[k]? := fun k hk => KG.out.block k hk (by intro e; cases e)
  have HT1 := hid (HT.out.block (hbk tb lt))
  have HK1 := hid (own_of HK.out (fun k h => hbk k (own_ty HK.out k h).2.1))
  have HF1 := hid ((hbk fb (heap_lt HF.out)).trans HF.out)
  have p0 : w1.cell? ⟨w.heap.size, 0, none⟩ = some (.int .i64 (v1 : Int)) := by simp [World.cell?, b0]
  have p1 : w1.cell? ⟨w.heap.size, 1, none⟩ = some (.int .i64 v2) := by simp [World.cell?, b0]
  have c1' := HT1.out.cell 1 (by omega)
  rw [hT1] at c1'
  have lw : w.heap.size < w1.heap.size := by omega
  have lt2 : tb < w1.heap.size := by omega
  have hwr : IntKind.i64.wrap (m : Int) = (m : Int) := IntWalk.i64_in _ ⟨by omega, by omega⟩
  clear hg1 hbk c1 k0 lk lk1 lt1
  go_wp2_with fail
  go_cut [] from 7 to 25 (fun wx => ∃ w2 : World, wx = w2.setCell ⟨tb, 1, none⟩ (.slice (some ⟨kb, 0, none⟩) m ck) ∧ Hid (w1.grownBy w2 (some kb)) ∧ Hid (w2.ownsRow 0 184 1 (.slice (some ⟨kb, 0, none⟩) m ck) m fs))
  case first =>
    go_region_with (go_at_call 165; refine (fdelL kb ck m 0 (fs ++ [P0 fb]) w1.drew (own_of HK1.out (fun _ _ => rfl)) hm).mono ?_; rintro e w2 ⟨rfl, ho2, hg2⟩; have HG2 : Hid (w1.grownBy w2 (some kb)) := ⟨hg2.os, hg2.tape, hg2.output, hg2.size, hg2.block⟩; have HO2 : Hid (w2.ownsRow 0 184 1 (.slice (some ⟨kb, 0, none⟩) m ck) m fs) := (List.dropLast_concat (l₁ := fs) (b := P0 fb)) ▸ ho2; have HT2 := hid (HT1.out.kept HG2.out (fun e => kt e.symm)); obtain ⟨d1, e1⟩ := HT2.out.cells 1 (by omega); have lt3 := HT2.out.lt; clear hg2 ho2)
    all_goals
      rw [hT1] at d1
      go_wp2_with fail
      go_meet
      case rel => exact ⟨w2, rfl, HG2, HO2⟩
  case rest =>
    obtain ⟨w2, rfl, HG2, HO2⟩ := hcut
    have hz2 := HG2.out.size
    have HG3 : Hid (Only (fun k => k = tb ∨ k = kb) w (w2.setCell ⟨tb, 1, none⟩ (.slice (some ⟨kb, 0, none⟩) m ck))) :=
      only_setCell ((only_none KG.out).then HG2.out (Or.inl (Or.inr rfl))) (Or.inl (Or.inl rfl)) _
    generalize hw3 : w2.setCell ⟨tb, 1, none⟩ (.slice (some ⟨kb, 0, none⟩) m ck) = w3 at *
    have hz3 : w3.heap.size = w2.heap.size := by rw [← hw3]; simp [World.setCell]
    have hb3 : ∀ k, k ≠ tb → k ≠ kb → k < w1.heap.size → w3.heap[k]? = w1.heap[k]? := by
      intro k h1 h2 h3
      rw [← hw3, Below.heap_setCell _ _ _ _ h1]
      exact HG2.out.block k h3 (by intro e; injection e with e; exact h2 e)
    have HT3 : Hid (Full w3 tb 160 7 7 (upd Tk 1 (.slice (some ⟨kb, 0, none⟩) m ck))) := by
      show Full _ _ _ _ _ _
      rw [← hw3]
      exact (HT1.out.kept HG2.out (fun e => kt e.symm)).upd 1 _
    have HO3 : Hid (w3.ownsRow 0 184 1 (.slice (some ⟨kb, 0, none⟩) m ck) m fs) := by
      show World.ownsRow _ _ _ _ _ _ _
      rw [← hw3]
      exact own_of HO2.out (fun k h => by
        have : k = kb := by injection h with h; exact h.symm
        subst this
        exact Below.heap_setCell _ _ _ _ kt)
    have hty : ∀ {k : Nat} {cur : Array Value} {T : TypeId}, w1.heap[k]? = some (.cells cur T (0, 0)) → T ≠ 184 → T ≠ 160 → w3.heap[k]? = w1.heap[k]? := by
      intro k cur T hk h1 h2
      refine hb3 k ?_ ?_ (heap_lt hk)
      · rintro rfl
        obtain ⟨cur', h', _⟩ := HT1.out
        rw [hk] at h'; injection h' with h'; injection h' with _ h' _; exact h2 h'
      · rintro rfl
        obtain ⟨_, _, cur', h'⟩ := own_ty HK1.out k rfl
        rw [hk] at h'; injection h' with h'; injection h' with _ h' _; exact h1 h'
    have f3 : w3.heap[fb]? = some (frmB cb L nx rb nr (.func (.func 149) #[stepV op a b c fc tb eb] #[])) := (hty HF1.out (by decide) (by decide)).trans HF1.out
    obtain ⟨_, _, _, f3', _⟩ := frm_cells f3
    have lf := heap_lt f3
    have b3 : w3.heap[w.heap.size]? = some (.cells #[.int .i64 (v1 : Int), .int .i64 v2] 149 (0, 0)) := (hty b0 (by decide) (by decide)).trans b0
    have q0 : w3.cell? ⟨w.heap.size, 0, none⟩ = some (.int .i64 (v1 : Int)) := by simp [World.cell?, b3]
    have q1 : w3.cell? ⟨w.heap.size, 1, none⟩ = some (.int .i64 v2) := by simp [World.cell?, b3]
    have lw3 := heap_lt b3
    have HP : Hid (∀ w4, w3.grownBy w4 none → Pop w w4 tb kb ck m fs Tk) := fun w4 hg => ⟨HT3.out.block (hg.block tb HT3.out.lt (by intro e; cases e)), own_of HO3.out (fun k h => hg.block k (own_ty HO3.out k h).2.1 (by intro e; cases e)), HG3.out.then0 hg⟩
    clear hw3 hb3 hty hz2 hz3 f3 b3 HG2 HO2 b0 p0 p1 c1'
    go_wp2_with fail
    go_region_with (go_at_call 149; refine (HH.out w3.drew (HP.out _ (grown_drew (grown_refl _ _)))).mono ?_; rintro e w4 ⟨rfl, hR4⟩; have HR4 := hid hR4; clear hR4)
    all_goals
      go_wp2_with fail
      go_end0
      exact ⟨rfl, HR4.out⟩
set_option maxRecDepth 100000 in
theorem endL (eb tb : Nat) (v : B.V) (R : World → Prop) (w : World) (H : ∀ w1, w.grownBy w1 none → Calls Tryz.prog 175 #[P0 eb, P0 tb, vA v, .int .i64 2, .int .i64 v.2] w1 fun e w' => e = .returned (.tuple #[]) ∧ R w') :
    Calls Tryz.prog 121 #[P0 eb, P0 tb, vA v] w fun e w' => e = .returned (.tuple #[]) ∧ R w' := by
  have HL := hid H
  clear H
  obtain ⟨v1, v2⟩ := v
  go_enter Tryz.func121, Tryz.ntmps121
  go_wp2_with fail
  refine (vnumber_any (v1, v2) _).mono ?_
  rintro e w1 ⟨rfl, hg1⟩
  have hz := hg1.size
  simp at hz
  obtain ⟨k0, _⟩ := grown_cell hg1 (a := ⟨w.heap.size, 0, none⟩) (by simp)
  obtain ⟨k1, _⟩ := grown_cell hg1 (a := ⟨w.heap.size, 1, none⟩) (by simp)
  simp [go_sem] at k0 k1
  have KG : Hid (w.grownBy w1 none) := grown_trans (World.grownBy_alloc _ _ _) hg1
  clear hg1
  go_wp2_with fail
  refine (HL.out w1 KG.out).mono ?_
  rintro e w2 ⟨rfl, hL2⟩
  have HL2 := hid hL2
  clear hL2
  go_wp2_with fail
  go_end0
  exact ⟨rfl, HL2.out⟩
set_option maxRecDepth 100000 in
theorem failL (eb tb why : Nat) (hw : why ≤ 8) (R : World → Prop) (w : World) (H : ∀ w1, w.grownBy w1 none → Calls Tryz.prog 175 #[P0 eb, P0 tb, vA (0, -(why : Int)), .int .i64 3, .int .i64 (why : Int)] w1 fun e w' => e = .returned (.tuple #[]) ∧ R w') :
    Calls Tryz.prog 187 #[P0 eb, P0 tb, .int .i64 why] w fun e w' => e = .returned (.tuple #[]) ∧ R w' := by
  have HL := hid H
  clear H
  have hw1 : IntKind.i64.wrap (-(why : Int)) = -(why : Int) := by simp [IntKind.wrap, IntKind.bits, IntKind.signed]; omega
  have hw2 : wrap64 (-(why : Int)) = -(why : Int) := IntWalk.wrap64_in _ ⟨by omega, by omega⟩
  go_enter Tryz.func187, Tryz.ntmps187
  go_wp2_with fail
  refine (number_any _ _).mono ?_
  rintro e w1 ⟨rfl, rfl⟩
  go_wp2_with fail
  refine (HL.out _ (World.grownBy_alloc _ _ _)).mono ?_
  rintro e w2 ⟨rfl, hL2⟩
  have HL2 := hid hL2
  clear hL2
  go_wp2_with fail
  go_end0
  exact ⟨rfl, HL2.out⟩
set_option maxRecDepth 100000 in
theorem ecancelL (eb tb : Nat) (R : World → Prop) (w : World) (H : ∀ w1, w.grownBy w1 none → Calls Tryz.prog 175 #[P0 eb, P0 tb, vA (0, -100), .int .i64 4, .int .i64 0] w1 fun e w' => e = .returned (.tuple #[]) ∧ R w') :
    Calls Tryz.prog 172 #[P0 eb, P0 tb] w fun e w' => e = .returned (.tuple #[]) ∧ R w' := by
  have HL := hid H
  clear H
  go_enter Tryz.func172, Tryz.ntmps172
  go_wp2_with fail
  refine (number_any _ _).mono ?_
  rintro e w1 ⟨rfl, rfl⟩
  go_wp2_with fail
  refine (HL.out _ (World.grownBy_alloc _ _ _)).mono ?_
  rintro e w2 ⟨rfl, hL2⟩
  have HL2 := hid hL2
  clear hL2
  go_wp2_with fail
  go_end0
  exact ⟨rfl, HL2.out⟩
set_option maxRecDepth 100000 in
theorem begin1L (eb tb xe xt : Nat) (v : B.V) (R : World → Prop) (w : World) (he : w.cell? ⟨xe, 0, none⟩ = some (P0 eb)) (ht : w.cell? ⟨xt, 0, none⟩ = some (P0 tb)) (le : xe < w.heap.size) (lt : xt < w.heap.size)
    (H : ∀ w1, w.grownBy w1 none → Calls Tryz.prog 175 #[P0 eb, P0 tb, vA v, .int .i64 2, .int .i64 v.2] w1 fun e w' => e = .returned (.tuple #[]) ∧ R w') :
    Calls Tryz.prog 120 #[vA v, P0 xe, P0 xt] w fun e w' => e = .returned (.tuple #[]) ∧ R w' := by
  have HL := hid (endL eb tb v R)
  have HH := hid H
  clear H
  obtain ⟨v1, v2⟩ := v
  go_enter Tryz.func120, Tryz.ntmps120
  go_wp2_with fail
  refine (HL.out _ (fun w1 hg => HH.out w1 (grown_trans (World.grownBy_alloc _ _ _) hg))).mono ?_
  rintro e w2 ⟨rfl, hL2⟩
  have HL2 := hid hL2
  clear hL2
  go_wp2_with fail
  go_end0
  exact ⟨rfl, HL2.out⟩
end Go.Proofs.YtnjiinbhbjpfkaaGreatDoor
