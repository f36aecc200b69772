/-
  Has, or had, a task this number?
-/
import Derived.Test.YtnjiinbhbjpfkaaGreatDoorGateO
import Derived.Shelf.Spec.SlicesInsertGrow
namespace Go.Proofs.YtnjiinbhbjpfkaaGreatDoor
open Go.RowKit
set_option maxRecDepth 100000 in
theorem isTaskL (eb m c : Nat) (ad : Option Addr) (z : Int) (w : World) (h : w.cell? ⟨eb, 30, none⟩ = some (.slice ad m c)) :
    Calls Tryz.prog 169 #[P0 eb, .int .i64 z] w fun e w' => e = .returned (.bool (decide (1 ≤ z ∧ z ≤ (m : Int)))) ∧ w.grownBy w' none := by
  by_cases h1 : 1 ≤ z
  · by_cases h2 : z ≤ (m : Int)
    · have hd : decide (1 ≤ z ∧ z ≤ (m : Int)) = true := by simp [h1, h2]
      rw [hd]
      clear hd
      go_enter Tryz.func169, Tryz.ntmps169
      go_wp2_with fail
      go_ret
      exact ⟨by simp, grown_refl _ _⟩
    · have hd : decide (1 ≤ z ∧ z ≤ (m : Int)) = false := by simp [h1, h2]
      rw [hd]
      clear hd
      go_enter Tryz.func169, Tryz.ntmps169
      go_wp2_with fail
      go_ret
      exact ⟨by simp, grown_refl _ _⟩
  · have hd : decide (1 ≤ z ∧ z ≤ (m : Int)) = false := by simp [h1]
    rw [hd]
    clear hd
    go_enter Tryz.func169, Tryz.ntmps169
    go_wp2_with fail
    go_ret
    exact ⟨rfl, grown_refl _ _⟩
def foundV (y : Option Nat) : Value :=
  match y with
  | some y => .tuple #[P0 y, .bool true]
  | none => .tuple #[.pointer none, .bool false]
set_option maxRecDepth 100000 in
set_option maxHeartbeats 1000000 in
theorem cancelL (op a b c fb tb eb : Nat) (z : Int) (p : Bool) (y : Option Nat) (R : World → Prop) (w : World)
    (H1 : ∀ w1, w.grownBy w1 none → Calls Tryz.prog 169 #[P0 eb, .int .i64 z] w1 fun e w' => e = .returned (.bool p) ∧ w1.grownBy w' none)
    (H2 : ∀ w1, w.grownBy w1 none → Calls Tryz.prog 170 #[P0 eb, .int .i64 z] w1 fun e w' => e = .returned (foundV y) ∧ w1.grownBy w' none)
    (H3 : ∀ w1 x, w.grownBy w1 none → y = some x → Calls Tryz.prog 172 #[P0 eb, P0 x] w1 fun e w' => e = .returned (.tuple #[]) ∧ R w')
    (H4 : ∀ w1, w.grownBy w1 none → p = false ∨ y = none → R w1) :
    Calls Tryz.prog 114 #[stepV op a b c fb tb eb, .int .i64 z] w fun e w' => e = .returned (.int .i64 (if p = true then 0 else 6)) ∧ R w' := by
  have K1 := hid H1
  have K2 := hid H2
  have K3 := hid H3
  have K4 := hid H4
  clear H1 H2 H3 H4
  go_enter Tryz.func114, Tryz.ntmps114
  go_wp2_with fail
  have HX1 := hid (s7_new w op a b c fb tb eb)
  have KG1 := hid (World.grownBy_alloc w (.cells #[.int .u8 (op : Int), .int .u8 (a : Int), .int .u8 (b : Int), .int .u8 (c : Int), P0 fb, P0 tb, P0 eb] 186) none)
  generalize hW : w.alloc (.cells #[.int .u8 (op : Int), .int .u8 (a : Int), .int .u8 (b : Int), .int .u8 (c : Int), P0 fb, P0 tb, P0 eb] 186) = w1 at *
  clear hW
  refine (K1.out w1 KG1.out).mono ?_
  rintro e w2 ⟨rfl, hg2⟩
  have KG2 := hid (grown_trans KG1.out hg2)
  have hx2 := grown_heap hg2 HX1.out (by intro e; cases e)
  obtain ⟨x0, x1, x2, x3, x4, x5, x6⟩ := s7_of hx2
  have lx := heap_lt hx2
  have HX2 := hid hx2
  clear hg2 hx2
  cases p with
  | false =>
    go_wp2_with fail
    go_ret
    exact ⟨rfl, K4.out _ KG2.out (by simp)⟩
  | true =>
    go_wp2_with fail
    refine (K2.out w2 KG2.out).mono ?_
    rintro e w3 ⟨rfl, hg3⟩
    have KG3 := hid (grown_trans KG2.out hg3)
    have hx3 := grown_heap hg3 HX2.out (by intro e; cases e)
    obtain ⟨y0, y1, y2, y3, y4, y5, y6⟩ := s7_of hx3
    have ly := heap_lt hx3
    clear hg3 hx3 x0 x1 x2 x3 x4 x5 x6
    cases y with
    | none =>
      simp only [foundV]
      go_wp2_with fail
      go_ret
      exact ⟨rfl, K4.out _ KG3.out (by simp)⟩
    | some x =>
      simp only [foundV]
      go_wp2_with fail
      refine (K3.out w3 x KG3.out rfl).mono ?_
      rintro e w4 ⟨rfl, hR⟩
      have HR := hid hR
      clear hR
      go_wp2_with fail
      go_ret
      exact ⟨rfl, HR.out⟩
def AwOk (p : Bool) (z : Int) (t : Nat) : Prop := p = true ∧ ¬ z = (t : Int)
def awR (p : Bool) (z t : Int) : Int := if p = true ∧ z ≠ t then 0 else 6
theorem awR_no (z t : Int) : awR false z t = 6 := by unfold awR; rw [if_neg (by simp)]
theorem awR_own (p : Bool) {z t : Int} (h : z = t) : awR p z t = 6 := by unfold awR; rw [if_neg (by simp [h])]
theorem awR_yes {z t : Int} (h : ¬ z = t) : awR true z t = 0 := by unfold awR; rw [if_pos ⟨rfl, h⟩]
set_option maxRecDepth 100000 in
set_option maxHeartbeats 2000000 in
theorem awaitL (op a b c fb tb eb t m co ob j : Nat) (z : Int) (p : Bool) (y : Option Nat) (v : B.V) (R : World → Prop) (w : World)
    (H1 : ∀ w1, w.grownBy w1 none → Calls Tryz.prog 169 #[P0 eb, .int .i64 z] w1 fun e w' => e = .returned (.bool p) ∧ w1.grownBy w' none)
    (H2 : ∀ w1, w.grownBy w1 none → Calls Tryz.prog 170 #[P0 eb, .int .i64 z] w1 fun e w' => e = .returned (foundV y) ∧ w1.grownBy w' none)
    (H3 : ∀ w1 x, w.grownBy w1 none → y = some x → AwOk p z t → Calls Tryz.prog 171 #[stepV op a b c fb tb eb, Pt x 6] w1 fun e w' => e = .returned (.tuple #[]) ∧ R w')
    (H5 : ∀ w1, w.grownBy w1 none → y = none → AwOk p z t → Calls Tryz.prog 149 #[stepV op a b c fb tb eb, vA v] w1 fun e w' => e = .returned (.tuple #[]) ∧ R w')
    (H4 : ∀ w1, w.grownBy w1 none → p = false ∨ z = (t : Int) → R w1)
    (ht : w.cell? ⟨tb, 0, none⟩ = some (.int .i64 (t : Int))) (lt : tb < w.heap.size) (le : eb < w.heap.size) (hy : ∀ x, y = some x → x < w.heap.size)
    (hz : p = true → z = (j : Int) + 1 ∧ j < m) (hm : m ≤ 1000000000) (he : w.cell? ⟨eb, 30, none⟩ = some (.slice (some ⟨ob, 0, none⟩) m co)) (lo : ob < w.heap.size) (hv : p = true → w.cell? ⟨ob, j * 2, none⟩ = some (.int .i64 (v.1 : Int)) ∧ w.cell? ⟨ob, j * 2 + 1, none⟩ = some (.int .i64 v.2)) :
    Calls Tryz.prog 113 #[stepV op a b c fb tb eb, .int .i64 z] w fun e w' => e = .returned (.int .i64 (awR p z (t : Int))) ∧ R w' := by
  have K1 := hid H1
  have K2 := hid H2
  have K3 := hid H3
  have K4 := hid H4
  have K5 := hid H5
  have KC := hid (And.intro ht (And.intro he hv))
  have KY := hid hy
  have KZ := hid hz
  clear H1 H2 H3 H4 H5 ht he hv hy hz
  obtain ⟨v1, v2⟩ := v
  go_enter Tryz.func113, Tryz.ntmps113
  go_wp2_with fail
  have HX1 := hid (s7_new w op a b c fb tb eb)
  have KG1 := hid (World.grownBy_alloc w (.cells #[.int .u8 (op : Int), .int .u8 (a : Int), .int .u8 (b : Int), .int .u8 (c : Int), P0 fb, P0 tb, P0 eb] 186) none)
  generalize hW : w.alloc (.cells #[.int .u8 (op : Int), .int .u8 (a : Int), .int .u8 (b : Int), .int .u8 (c : Int), P0 fb, P0 tb, P0 eb] 186) = w1 at *
  clear hW
  refine (K1.out w1 KG1.out).mono ?_
  rintro e w2 ⟨rfl, hg2⟩
  have KG2 := hid (grown_trans KG1.out hg2)
  have hx2 := grown_heap hg2 HX1.out (by intro e; cases e)
  obtain ⟨x0, x1, x2, x3, x4, x5, x6⟩ := s7_of hx2
  have lx := heap_lt hx2
  have HX2 := hid hx2
  have t2 : w2.cell? ⟨tb, 0, none⟩ = some (.int .i64 (t : Int)) := (grown_cell KG2.out (a := ⟨tb, 0, none⟩) lt).1.trans KC.out.1
  have lt2 : tb < w2.heap.size := Nat.lt_of_lt_of_le lt KG2.out.size
  clear hg2 hx2
  cases p with
  | false =>
    go_wp2_with fail
    go_ret
    exact ⟨by rw [awR_no]; rfl, K4.out _ KG2.out (by simp)⟩
  | true =>
    by_cases hzt : z = (t : Int)
    · have hb : (z == (t : Int)) = true := by simpa using hzt
      have HZT := hid hzt
      clear hzt
      go_wp2_with fail
      go_ret
      exact ⟨by rw [awR_own _ HZT.out]; rfl, K4.out _ KG2.out (by first | exact Or.inr HZT.out | simp [HZT.out])⟩
    · have hb : (z == (t : Int)) = false := by simpa using hzt
      have HZT := hid hzt
      clear hzt
      go_wp2_with fail
      refine (K2.out w2 KG2.out).mono ?_
      rintro e w3 ⟨rfl, hg3⟩
      have KG3 := hid (grown_trans KG2.out hg3)
      have hx3 := grown_heap hg3 HX2.out (by intro e; cases e)
      obtain ⟨y0, y1, y2, y3, y4, y5, y6⟩ := s7_of hx3
      have ly := heap_lt hx3
      clear hg3 hx3 x0 x1 x2 x3 x4 x5 x6 hb t2 lt2
      cases y with
      | some x =>
        simp only [foundV]
        have lx3 : x < w3.heap.size := Nat.lt_of_lt_of_le (KY.out x rfl) KG3.out.size
        go_wp2_with fail
        go_region_with (go_at_call 171; refine (K3.out w3.drew x (grown_drew KG3.out) rfl ⟨rfl, HZT.out⟩).mono ?_; rintro e w4 ⟨rfl, hR⟩; have HR := hid hR; clear hR)
        all_goals
          go_wp2_with fail
          go_ret
          exact ⟨by rw [awR_yes HZT.out]; rfl, HR.out⟩
      | none =>
        simp only [foundV]
        obtain ⟨rfl, hjm⟩ := KZ.out (by simp)
        obtain ⟨o1, o2⟩ := KC.out.2.2 (by simp)
        have e3 : w3.cell? ⟨eb, 30, none⟩ = some (.slice (some ⟨ob, 0, none⟩) m co) := (grown_cell KG3.out (a := ⟨eb, 30, none⟩) le).1.trans KC.out.2.1
        have p1 : w3.cell? ⟨ob, j * 2, none⟩ = some (.int .i64 (v1 : Int)) := (grown_cell KG3.out (a := ⟨ob, j * 2, none⟩) lo).1.trans o1
        have p2 : w3.cell? ⟨ob, j * 2 + 1, none⟩ = some (.int .i64 v2) := (grown_cell KG3.out (a := ⟨ob, j * 2 + 1, none⟩) lo).1.trans o2
        have le3 : eb < w3.heap.size := Nat.lt_of_lt_of_le le KG3.out.size
        have hji : (j : Int) < (m : Int) := by omega
        have h0j : (0 : Int) ≤ (j : Int) := by omega
        have hwr : IntKind.i64.wrap (j : Int) = (j : Int) := IntWalk.i64_in _ ⟨by omega, by omega⟩
        clear o1 o2
        go_wp2_with fail
        go_region_with (go_at_call 149; refine (K5.out w3.drew (grown_drew KG3.out) (by simp) ⟨rfl, HZT.out⟩).mono ?_; rintro e w4 ⟨rfl, hR⟩; have HR := hid hR; clear hR)
        all_goals
          go_wp2_with fail
          go_ret
          exact ⟨by rw [awR_yes HZT.out]; rfl, HR.out⟩
end Go.Proofs.YtnjiinbhbjpfkaaGreatDoor
namespace Go.Proofs.YtnjiinbhbjpfkaaGreatDoor.F
open Go.RowKit
theorem i22 {p : Prm} {s : Pl} {g : Geo} {w : World} {t op a b c : Nat} (h : Rep p s g w) (hP : PW p) (hI : In s t) (ha : a < p.rg (topF s t).f) :
    Calls Tryz.prog 163 #[stpV p s g t (op, a, b, c), P0 (p.ac + 31)] w fun e w' => e = .returned (.int .i64 0) ∧ Tr p s g w (numS s t a s.clk) g w' := by
  have h1 := hP.box h.fix (j := 31) (by omega) rfl
  have h0 := hP.box h.fix (j := 30) (by omega) rfl
  refine (actg110_any op a b c _ _ _ _ _ _ _ _ (p.ac + 31) (p.ac + 30) _ _ _ ha w (In.fr h hI) h1.1 h0.1 (heap_lt h1.2) (heap_lt h0.2) (fun w1 hg => now_any op a b c _ _ p.eb s.clk w1 ((h.kept hg).E.cell 28 (by omega)) (h.kept hg).E.lt)).mono ?_
  rintro e w' ⟨rfl, k1, k2⟩
  exact ⟨rfl, In.set h hI k1 k2⟩
def findT (s : Pl) (z : Int) : Option Nat := s.lv.find? (fun u => (u : Int) == z)
theorem find_congr {q r : Nat → Bool} : ∀ (l : List Nat), (∀ u, u ∈ l → q u = r u) → l.find? q = l.find? r
  | [], _ => rfl
  | u :: l, h => by
    rw [List.find?_cons, List.find?_cons, h u (by simp), find_congr l (fun v hv => h v (by simp [hv]))]
theorem findT_mem {s : Pl} {z : Int} {u : Nat} (h : findT s z = some u) : u ∈ s.lv ∧ (u : Int) = z := by
  refine ⟨List.mem_of_find?_eq_some h, ?_⟩
  have := List.find?_some h
  simpa using this
theorem aliveR {p : Prm} {s : Pl} {g : Geo} {w : World} (h : Rep p s g w) (hlt : ∀ u, u ∈ s.lv → isT s u) (hll : s.lv.length ≤ 1000000000) (z : Int) :
    Calls Tryz.prog 170 #[P0 p.eb, .int .i64 z] w fun e w' => e = .returned (foundV ((findT s z).map g.tb)) ∧ w.grownBy w' none := by
  obtain ⟨nm, hnm⟩ : ∃ nm : Nat → Int, ∀ u, isT s u → nm (g.tb u) = (u : Int) := by
    classical
    refine ⟨fun b => if hb : ∃ u, isT s u ∧ g.tb u = b then (hb.choose : Int) else 0, fun u hu => ?_⟩
    have hb : ∃ u', isT s u' ∧ g.tb u' = g.tb u := ⟨u, hu, rfl⟩
    show (if hb : ∃ u', isT s u' ∧ g.tb u' = g.tb u then (hb.choose : Int) else 0) = (u : Int)
    rw [dif_pos hb, h.tb_inj hb.choose_spec.1 hu hb.choose_spec.2]
  have hr := h.row (x := 6) (y := 0) (by unfold rowx; omega) (vld_0 (by omega))
  have hl6 : rlen s 6 0 = s.lv.length := rfl
  obtain ⟨lb, hlb⟩ : ∃ lb, s.lv ≠ [] → (g.ro 6 0).1 = some ⟨lb, 0, none⟩ ∧ lb < w.heap.size ∧ ∀ j x, (s.lv.map g.tb)[j]? = some x → w.cell? ⟨lb, j, none⟩ = some (P0 x) := by
    by_cases e : s.lv = []
    · exact ⟨0, fun h => absurd e h⟩
    · obtain ⟨lb, lc, he⟩ := row_form hr (by rw [hl6]; exact fun e' => e (List.length_eq_zero_iff.1 e'))
      rw [he, hl6] at hr
      have hr2 : w.ownsRow 0 155 1 (.slice (some ⟨lb, 0, none⟩) s.lv.length lc) s.lv.length ((s.lv.map g.tb).map P0) := hr
      unfold sl at he
      injection he with a1 _ _
      exact ⟨lb, fun _ => ⟨a1, (own_ty hr2 lb rfl).2.1, fun j x hx => (own_ge hr2).2.2.2.2.2 j (P0 x) (by rw [List.getElem?_map, hx]; rfl)⟩⟩
  have hne : ∀ {j : Nat} {x : Nat}, (s.lv.map g.tb)[j]? = some x → s.lv ≠ [] := fun hx e => by rw [e] at hx; simp at hx
  refine (aliveL p.eb lb (g.ro 6 0).2 s.lv.length (g.ro 6 0).1 z nm (s.lv.map g.tb) w (h.E.cell 29 (by omega)) h.E.lt (by rw [List.length_map]) hll (fun j x hx => ⟨(hlb (hne hx)).1, (hlb (hne hx)).2.2 j x hx⟩) (fun e => (hlb (fun e' => e (by rw [e']; rfl))).2.1) (fun x hx => ?_)).mono ?_
  · obtain ⟨u, hu, rfl⟩ := List.mem_map.1 hx
    have hT := h.tk (hlt u hu)
    refine ⟨?_, hT.lt⟩
    rw [hT.cell 0 (by omega), hnm u (hlt u hu)]
    rfl
  · rintro e w' ⟨rfl, hg⟩
    refine ⟨?_, hg⟩
    have : (s.lv.map g.tb).find? (fun x => nm x == z) = (findT s z).map g.tb := by
      rw [List.find?_map]
      unfold findT
      rw [find_congr s.lv (q := (fun x => nm x == z) ∘ g.tb) (r := fun u => (u : Int) == z) (fun u hu => by show (nm (g.tb u) == z) = _; rw [hnm u (hlt u hu)])]
    unfold aliveV foundV
    rw [this]
    cases (findT s z).map g.tb <;> rfl
def isN (s : Pl) (z : Int) : Bool := decide (1 ≤ z ∧ z ≤ (s.nt : Int))
theorem isTaskR {p : Prm} {s : Pl} {g : Geo} {w : World} (h : Rep p s g w) (ho : s.out.length = s.nt) (z : Int) : Calls Tryz.prog 169 #[P0 p.eb, .int .i64 z] w fun e w' => e = .returned (.bool (isN s z)) ∧ w.grownBy w' none := by
  have := isTaskL p.eb s.out.length (g.ro 7 0).2 (g.ro 7 0).1 z w (h.E.cell 30 (by omega))
  rw [ho] at this
  exact this
theorem isN_find {s : Pl} (hlt : ∀ u, u ∈ s.lv → isT s u) {z : Int} {u : Nat} (h : findT s z = some u) : isN s z = true := by
  have hm := findT_mem h
  have := hlt u hm.1
  unfold isN isT at *
  exact decide_eq_true (by omega)
def cancelS (s : Pl) (t a : Nat) : Int × Pl := if ((topF s t).R a).1 = 0 then (if isN s ((topF s t).R a).2 = true then (0, match findT s ((topF s t).R a).2 with | some u => s.leave u (0, -100) 4 0 | none => s) else (6, s)) else (1, s)
theorem i19 {p : Prm} {s : Pl} {g : Geo} {w : World} {t op a b c : Nat} (h : Rep p s g w) (hP : PW p) (hI : In s t) (ha : a < p.rg (topF s t).f) (hW : LW s) (hWW : WW p s) (hnd : s.lv.Nodup) (hlt : ∀ u, u ∈ s.lv → isT s u) (ho : s.out.length = s.nt) (hk : s.kp.length ≤ 1000000) (hev : s.ev.length ≤ 100000) :
    Calls Tryz.prog 167 #[stpV p s g t (op, a, b, c), P0 (p.ac + 24), P0 (p.ac + 25)] w fun e w' => ∃ why : Int, e = .returned (.int .i64 why) ∧ why = (cancelS s t a).1 ∧ ∃ g', Tr p s g w (cancelS s t a).2 g' w' := by
  have h1 := hP.box h.fix (j := 24) (by omega) rfl
  have h2 := hP.box h.fix (j := 25) (by omega) rfl
  have hll : s.lv.length ≤ 1000000000 := by have := nodup_len s.nt s.lv hnd hlt; have := hW.d; omega
  refine takes98_114 op a b c _ _ _ (p.ac + 24) (p.ac + 25) ((topF s t).R a) (fun why w' => why = (cancelS s t a).1 ∧ ∃ g', Tr p s g w (cancelS s t a).2 g' w') w h1.1 h2.1 (In.a h hI op a b c _ _ ha) (fun h0 w1 hg1 => ?_) (fun h0 w1 hg1 => ?_)
  · generalize hz : ((topF s t).R a).2 = z
    have hS : cancelS s t a = (if isN s z = true then (0, match findT s z with | some u => s.leave u (0, -100) 4 0 | none => s) else (6, s)) := by unfold cancelS; rw [if_pos h0, hz]
    refine (cancelL op a b c _ (g.tb t) p.eb z (isN s z) ((findT s z).map g.tb) (fun w' => ∃ g', Tr p s g w (cancelS s t a).2 g' w') w1 (fun w2 hg2 => isTaskR (h.kept (grown_trans hg1 hg2)) ho z) ?_ ?_ ?_).mono ?_
    · exact fun w2 hg2 => aliveR (h.kept (grown_trans hg1 hg2)) hlt hll z
    · intro w2 x hg2 hx
      cases hf : findT s z with
      | none => rw [hf] at hx; cases hx
      | some u =>
        rw [hf] at hx
        injection hx with hx
        subst hx
        have hm := findT_mem hf
        have hn := isN_find hlt hf
        refine (ecancelR (h.kept (grown_trans hg1 hg2)) hW hWW (hlt u hm.1) hm.1 hnd hlt ho hk hev).mono ?_
        rintro e w' ⟨rfl, g', h3⟩
        refine ⟨rfl, g', ?_⟩
        rw [hS, if_pos hn, hf]
        exact h3.ahead (grown_trans hg1 hg2)
    · intro w2 hg2 hno
      refine ⟨g, ?_⟩
      rw [hS]
      by_cases hn : isN s z = true
      · rw [if_pos hn]
        have hf : findT s z = none := by
          rcases hno with e | e
          · rw [hn] at e; cases e
          · cases hf : findT s z with
            | none => rfl
            | some u => rw [hf] at e; cases e
        rw [hf]
        exact (Tr.refl h).kept (grown_trans hg1 hg2)
      · rw [if_neg hn]
        exact (Tr.refl h).kept (grown_trans hg1 hg2)
    · rintro e w' ⟨rfl, h3⟩
      refine ⟨_, rfl, ?_, h3⟩
      rw [hS]
      by_cases hn : isN s z = true
      · rw [if_pos hn, if_pos hn]
      · rw [if_neg hn, if_neg hn]
  · unfold cancelS
    rw [if_neg h0]
    exact ⟨rfl, g, (Tr.refl h).kept hg1⟩
def awaitS (s : Pl) (t : Nat) (k : Nat × Nat × Nat × Nat) : Int × Pl :=
  if ((topF s t).R k.2.2.1).1 = 0 then
    (if isN s ((topF s t).R k.2.2.1).2 = true ∧ ((topF s t).R k.2.2.1).2 ≠ (t : Int) then (0, match findT s ((topF s t).R k.2.2.1).2 with | some u => s.wait 5 u t k | none => s.setF t (topN s t) ((topF s t).set k.2.1 (s.out.getD (((topF s t).R k.2.2.1).2.toNat - 1) (0, 0)))) else (6, s)) else (1, s)
theorem i18 {p : Prm} {s : Pl} {g : Geo} {w : World} {t op a b c : Nat} (h : Rep p s g w) (hP : PW p) (hI : In s t) (ha : a < p.rg (topF s t).f) (hb : b < p.rg (topF s t).f) (hW : LW s) (hwh : (s.T t).wh = none) (hnd : s.lv.Nodup) (hlt : ∀ u, u ∈ s.lv → isT s u) (ho : s.out.length = s.nt) :
    Calls Tryz.prog 167 #[stpV p s g t (op, a, b, c), P0 (p.ac + 22), P0 (p.ac + 23)] w fun e w' => ∃ why : Int, e = .returned (.int .i64 why) ∧ why = (awaitS s t (op, a, b, c)).1 ∧ ∃ g', Tr p s g w (awaitS s t (op, a, b, c)).2 g' w' := by
  have h1 := hP.box h.fix (j := 22) (by omega) rfl
  have h2 := hP.box h.fix (j := 23) (by omega) rfl
  have hll : s.lv.length ≤ 1000000000 := by have := nodup_len s.nt s.lv hnd hlt; have := hW.d; omega
  have hnt := hW.d
  have hnt1 : 1 ≤ s.nt := Nat.le_trans hI.ht.1 hI.ht.2
  refine takes86_113 op a b c _ _ _ (p.ac + 22) (p.ac + 23) ((topF s t).R b) (fun why w' => why = (awaitS s t (op, a, b, c)).1 ∧ ∃ g', Tr p s g w (awaitS s t (op, a, b, c)).2 g' w') w h1.1 h2.1 (In.b h hI op a b c _ _ hb) (fun h0 w1 hg1 => ?_) (fun h0 w1 hg1 => ?_)
  · generalize hz : ((topF s t).R b).2 = z
    have hS : awaitS s t (op, a, b, c) = (if isN s z = true ∧ z ≠ (t : Int) then (0, match findT s z with | some u => s.wait 5 u t (op, a, b, c) | none => s.setF t (topN s t) ((topF s t).set a (s.out.getD (z.toNat - 1) (0, 0)))) else (6, s)) := by unfold awaitS; rw [if_pos h0, hz]
    have hr1 := h.kept hg1
    have h7 := hr1.row (x := 7) (y := 0) (by unfold rowx; omega) (vld_0 (by omega))
    have hl7 : rlen s 7 0 = s.out.length := rfl
    obtain ⟨ob, co, he⟩ := row_form h7 (by rw [hl7, ho]; omega)
    rw [he, hl7] at h7
    have h7' : w1.ownsRow 0 149 2 (.slice (some ⟨ob, 0, none⟩) s.out.length co) s.out.length (valL s.out) := h7
    have hcell := (own2_ge h7').2.2.2.2.2
    have hisz : isN s z = true → 1 ≤ z ∧ z ≤ (s.nt : Int) := fun e => of_decide_eq_true e
    have hN : ¬ (isN s z = true ∧ z ≠ (t : Int)) → (awaitS s t (op, a, b, c)).2 = s := fun hn => by rw [hS, if_neg hn]
    refine (awaitL op a b c (g.fb t (topN s t)) (g.tb t) p.eb t s.out.length co ob (z.toNat - 1) z (isN s z) ((findT s z).map g.tb) (s.out.getD (z.toNat - 1) (0, 0)) (fun w' => ∃ g', Tr p s g w (awaitS s t (op, a, b, c)).2 g' w') w1 (fun w2 hg2 => isTaskR (hr1.kept hg2) ho z) (fun w2 hg2 => aliveR (hr1.kept hg2) hlt hll z) ?_ ?_ ?_ ((hr1.tk hI.ht).cell 0 (by omega)) (hr1.tk hI.ht).lt hr1.E.lt ?_ ?_ (by omega) ?_ ((own_ty h7' ob rfl).2.1) ?_).mono ?_
    · intro w2 x hg2 hx hok
      cases hf : findT s z with
      | none => rw [hf] at hx; cases hx
      | some u =>
        rw [hf] at hx
        injection hx with hx
        subst hx
        have hm := findT_mem hf
        have hut : u ≠ t := fun e => hok.2 (by rw [← hm.2, e])
        have hcall := waitR (x := 5) (y := u) (t := t) (op, a, b, c) (hr1.kept hg2) hW hI.ht (Or.inr (Or.inr (Or.inr ⟨rfl, hlt u hm.1⟩))) (fun e => hut e.2) hwh
        refine hcall.mono ?_
        rintro e w' ⟨rfl, g', h3⟩
        refine ⟨rfl, g', ?_⟩
        rw [hS, if_pos ⟨hok.1, hok.2⟩, hf]
        exact h3.ahead (grown_trans hg1 hg2)
    · intro w2 hg2 hx hok
      have hf : findT s z = none := by
        cases hf : findT s z with
        | none => rfl
        | some u => rw [hf] at hx; cases hx
      refine (setR (t := t) (i := topN s t) (a := a) op b c (g.tb t) p.eb (s.out.getD (z.toNat - 1) (0, 0)) (hr1.kept hg2) hI.ht hI.hi ha).mono ?_
      rintro e w' ⟨rfl, h3⟩
      refine ⟨rfl, g, ?_⟩
      rw [hS, if_pos ⟨hok.1, hok.2⟩, hf]
      exact h3.ahead (grown_trans hg1 hg2)
    · intro w2 hg2 hno
      refine ⟨g, ?_⟩
      rw [hN (fun e => hno.elim (fun h => by rw [h] at e; exact absurd e.1 (by decide)) (fun h => e.2 h))]
      exact (Tr.refl h).kept (grown_trans hg1 hg2)
    · intro x hx
      cases hf : findT s z with
      | none => rw [hf] at hx; cases hx
      | some u =>
        rw [hf] at hx
        injection hx with hx
        subst hx
        exact (hr1.tk (hlt u (findT_mem hf).1)).lt
    · intro e
      have := hisz e
      exact ⟨by omega, by rw [ho]; omega⟩
    · rw [hr1.E.cell 30 (by omega), ← hl7, ← he]; rfl
    · intro e
      have := hisz e
      have hlt2 : z.toNat - 1 < s.out.length := by rw [ho]; omega
      exact hcell (z.toNat - 1) _ (by rw [List.getD_eq_getElem?_getD, List.getElem?_eq_getElem hlt2]; rfl)
    · rintro e w' ⟨rfl, h3⟩
      refine ⟨_, rfl, ?_, h3⟩
      rw [hS]
      unfold awR
      by_cases hn : isN s z = true ∧ z ≠ (t : Int)
      · rw [if_pos hn, if_pos hn]
      · rw [if_neg hn, if_neg hn]
  · unfold awaitS
    rw [if_neg h0]
    exact ⟨rfl, g, (Tr.refl h).kept hg1⟩
end Go.Proofs.YtnjiinbhbjpfkaaGreatDoor.F
namespace Go.Proofs.YtnjiinbhbjpfkaaGreatDoor
open Go.RowKit
def Tmd (w w2 : World) (tb : Nat) (u : Int) : Prop := ∃ w1, w.grownBy w1 none ∧ w2 = w1.setCell ⟨tb, 5, none⟩ (.int .i64 u) ∧ w2.heap[w.heap.size]? = some (.cells #[P0 tb] 155 (0, 0))
set_option maxRecDepth 100000 in
set_option maxHeartbeats 2000000 in
theorem sleepL (eb tb n sc : Nat) (sa : Option Addr) (clk x j : Int) (Tk : Nat → Value) (R : World → Prop) (w : World) (ne : eb ≠ tb) (c28 : w.cell? ⟨eb, 28, none⟩ = some (.int .i64 clk)) (c33 : w.cell? ⟨eb, 33, none⟩ = some (.slice sa n sc)) (hT : Full w tb 160 7 7 Tk) (c0 : 0 ≤ clk) (c1 : clk ≤ 9223372036854775807)
    (HI : ∀ w2 w3, Tmd w w2 tb (B.aft clk x) → w2.grownBy w3 none → Calls Tryz.prog 205 #[.slice sa n sc, Fv 204 #[P0 w.heap.size]] w3 fun e w' => e = .returned (.int .i64 j) ∧ w3.grownBy w' none)
    (HN : ∀ w2 w3, Tmd w w2 tb (B.aft clk x) → w2.grownBy w3 none → Calls Tryz.prog 166 #[Pt eb 33, .int .i64 (if j < 0 then (n : Int) else j), P0 tb] w3 fun e w' => e = .returned (.tuple #[]) ∧ R w' ∧ w'.heap[w.heap.size]? = some (.cells #[P0 tb] 155 (0, 0))) :
    Calls Tryz.prog 168 #[P0 eb, P0 tb, .int .i64 x] w fun e w' => e = .returned (.tuple #[]) ∧ R w' := by
  have HHI := hid HI
  have HHN := hid HN
  have le := cell_lt c28
  have lt := hT.lt
  have KT := hid hT
  have HC := hid (And.intro c0 c1)
  clear HI HN hT c0 c1
  go_enter Tryz.func168, Tryz.ntmps168
  go_wp2_with fail
  have KG1 := hid (World.grownBy_alloc w (.cells #[P0 tb] 155) none)
  have hx := heap_alloc_new w (.cells #[P0 tb] 155)
  have hz1 : (w.alloc (.cells #[P0 tb] 155)).heap.size = w.heap.size + 1 := by simp
  generalize hW : w.alloc (.cells #[P0 tb] 155) = w1 at *
  have x0 : w1.cell? ⟨w.heap.size, 0, none⟩ = some (P0 tb) := by simp [World.cell?, hx]
  have HX := hid hx
  clear hW hx
  have KT1 := hid (KT.out.block (KG1.out.block tb lt (by intro e; cases e)))
  have c28' := (grown_cell KG1.out (a := ⟨eb, 28, none⟩) le).1.trans c28
  have c33' := (grown_cell KG1.out (a := ⟨eb, 33, none⟩) le).1.trans c33
  obtain ⟨d5, z5⟩ := KT1.out.cells 5 (by omega)
  generalize Tk 5 = y5 at d5
  have le1 : eb < w1.heap.size := by omega
  have lt1 := KT1.out.lt
  have hxt : w.heap.size ≠ tb := by omega
  have hxt2 : ¬ tb = w.heap.size := by omega
  have haf := hid (fun w' h => after_gen eb clk x w' h HC.out.1 HC.out.2)
  have HN5 := hid ne
  clear c28 c33
  go_region_with (go_at_call 64; refine (haf.out _ (by first | exact c28' | (show w1.cell? _ = _; exact c28'))).mono ?_; rintro e w2 ⟨rfl, rfl⟩)
  all_goals
    have hT2 : Tmd w (w1.setCell ⟨tb, 5, none⟩ (.int .i64 (B.aft clk x))) tb (B.aft clk x) := ⟨w1, KG1.out, rfl, (Below.heap_setCell _ _ _ _ hxt).trans HX.out⟩
    have HT2 := hid hT2
    have d33 : (w1.setCell ⟨tb, 5, none⟩ (.int .i64 (B.aft clk x))).cell? ⟨eb, 33, none⟩ = some (.slice sa n sc) := by rw [World.cell?_of_block (a := ⟨eb, 33, none⟩) (Below.heap_setCell _ _ _ _ HN5.out)]; exact c33'
    have x2 : (w1.setCell ⟨tb, 5, none⟩ (.int .i64 (B.aft clk x))).cell? ⟨w.heap.size, 0, none⟩ = some (P0 tb) := by rw [World.cell?_of_block (a := ⟨w.heap.size, 0, none⟩) (Below.heap_setCell _ _ _ _ hxt)]; exact x0
    have hz2 : (w1.setCell ⟨tb, 5, none⟩ (.int .i64 (B.aft clk x))).heap.size = w1.heap.size := by simp [World.setCell]
    generalize hw2 : w1.setCell ⟨tb, 5, none⟩ (.int .i64 (B.aft clk x)) = w2 at *
    have le2 : eb < w2.heap.size := by omega
    have lx2 : w.heap.size < w2.heap.size := by omega
    clear hw2 c28' d5 z5 c33' x0 haf hT2 hz2 hz1
    go_wp2_with fail
    refine (HHI.out w2 _ HT2.out (grown_drew (grown_refl w2 none))).mono ?_
    rintro e w3 ⟨rfl, hg3'⟩
    have hg3 : w2.grownBy w3 none := grown_trans (grown_drew (grown_refl w2 none)) hg3'
    clear hg3'
    have KG3 := hid hg3
    have e33 := (grown_cell hg3 (a := ⟨eb, 33, none⟩) le2).1.trans d33
    have x3 := (grown_cell hg3 (a := ⟨w.heap.size, 0, none⟩) lx2).1.trans x2
    have le3 : eb < w3.heap.size := Nat.lt_of_lt_of_le le2 hg3.size
    have lx3 : w.heap.size < w3.heap.size := Nat.lt_of_lt_of_le lx2 hg3.size
    clear hg3 d33 x2
    by_cases hj : j < 0
    · have HJ := hid hj
      rw [if_pos hj] at HHN
      have hdj : decide (j < 0) = true := by simpa using hj
      clear hj
      go_wp2_with fail
      go_region_with (go_at_call 166; refine (HHN.out w2 w3.drew HT2.out (grown_drew KG3.out)).mono ?_; rintro e w4 ⟨rfl, hR4, hx4⟩; have HR4 := hid hR4; have x4 : w4.cell? ⟨w.heap.size, 0, none⟩ = some (P0 tb) := (by simp [World.cell?, hx4]); have lx4 := heap_lt hx4; clear hR4 hx4)
      all_goals
        go_wp2_with fail
        go_end0
        exact ⟨rfl, HR4.out⟩
    · have HJ := hid hj
      rw [if_neg hj] at HHN
      have hdj : decide (j < 0) = false := by simpa using hj
      clear hj
      go_wp2_with fail
      go_region_with (go_at_call 166; refine (HHN.out w2 w3.drew HT2.out (grown_drew KG3.out)).mono ?_; rintro e w4 ⟨rfl, hR4, hx4⟩; have HR4 := hid hR4; have x4 : w4.cell? ⟨w.heap.size, 0, none⟩ = some (P0 tb) := (by simp [World.cell?, hx4]); have lx4 := heap_lt hx4; clear hR4 hx4)
      all_goals
        go_wp2_with fail
        go_end0
        exact ⟨rfl, HR4.out⟩
set_option maxRecDepth 100000 in
set_option maxHeartbeats 2000000 in
theorem read_no (op a b c fb tb eb : Nat) (z : Int) (w : World) (H1 : ∀ w1, w.grownBy w1 none → Calls Tryz.prog 130 #[P0 eb, .int .i64 z] w1 fun e w' => e = .returned (.tuple #[.pointer none, .bool false]) ∧ w' = w1) :
    Calls Tryz.prog 116 #[stepV op a b c fb tb eb, .int .i64 z] w fun e w' => e = .returned (.int .i64 8) ∧ w.grownBy w' none := by
  have HH1 := hid H1
  clear H1
  go_enter Tryz.func116, Tryz.ntmps116
  go_wp2_with fail
  refine (HH1.out _ (World.grownBy_alloc _ _ _)).mono ?_
  rintro e w2 ⟨rfl, rfl⟩
  go_wp2_with fail
  go_ret
  exact ⟨rfl, World.grownBy_alloc _ _ _⟩
set_option maxRecDepth 100000 in
set_option maxHeartbeats 2000000 in
theorem read_byte (op a b c fb tb eb o x : Nat) (z : Int) (hx : x < 256) (R1 R : World → Prop) (w : World) (H1 : ∀ w1, w.grownBy w1 none → Calls Tryz.prog 130 #[P0 eb, .int .i64 z] w1 fun e w' => e = .returned (.tuple #[Pt eb o, .bool true]) ∧ w' = w1)
    (H2 : ∀ w1, w.grownBy w1 none → Calls Tryz.prog 174 #[Pt eb o] w1 fun e w' => e = .returned (.tuple #[.int .u8 (x : Int), .bool true]) ∧ R1 w' ∧ (∀ k, w.heap.size ≤ k → k < w1.heap.size → w'.heap[k]? = w1.heap[k]?))
    (H3 : ∀ w1 w2, R1 w1 → w1.grownBy w2 none → Calls Tryz.prog 149 #[stepV op a b c fb tb eb, vA (0, (x : Int))] w2 fun e w' => e = .returned (.tuple #[]) ∧ R w' ∧ (∀ k, w.heap.size ≤ k → k < w2.heap.size → w'.heap[k]? = w2.heap[k]?)) :
    Calls Tryz.prog 116 #[stepV op a b c fb tb eb, .int .i64 z] w fun e w' => e = .returned (.int .i64 0) ∧ R w' := by
  have HH1 := hid H1
  have HH2 := hid H2
  have HH3 := hid H3
  have hw1 : IntKind.i64.wrap (x : Int) = (x : Int) := by simp [IntKind.wrap, IntKind.bits, IntKind.signed]; omega
  have hw2 : wrap64 (x : Int) = (x : Int) := IntWalk.wrap64_in _ ⟨by omega, by omega⟩
  clear H1 H2 H3
  go_enter Tryz.func116, Tryz.ntmps116
  go_wp2_with fail
  have HX1 := hid (s7_new w op a b c fb tb eb)
  have KG1 := hid (World.grownBy_alloc w (.cells #[.int .u8 (op : Int), .int .u8 (a : Int), .int .u8 (b : Int), .int .u8 (c : Int), P0 fb, P0 tb, P0 eb] 186) none)
  generalize hW : w.alloc (.cells #[.int .u8 (op : Int), .int .u8 (a : Int), .int .u8 (b : Int), .int .u8 (c : Int), P0 fb, P0 tb, P0 eb] 186) = w1 at *
  clear hW
  refine (HH1.out w1 KG1.out).mono ?_
  rintro e w2 ⟨rfl, rfl⟩
  go_wp2_with fail
  refine (HH2.out w2 KG1.out).mono ?_
  rintro e w3 ⟨rfl, hR3, hk3⟩
  have HR3 := hid hR3
  have HX3 : Hid (w3.heap[w.heap.size]? = some (stpB op a b c fb tb eb)) := (hk3 w.heap.size (Nat.le_refl _) (heap_lt HX1.out)).trans HX1.out
  clear hR3 hk3
  obtain ⟨x0, x1, x2, x3, x4, x5, x6⟩ := s7_of HX3.out
  have lx := heap_lt HX3.out
  go_wp2_with fail
  have HY7 : Hid ((w3.drew.alloc (.cells #[.int .i64 0, .int .i64 (x : Int)] 149)).heap[w.heap.size]? = some (stpB op a b c fb tb eb)) := (Below.heap_alloc w3.drew _ _ (show w.heap.size < w3.drew.heap.size from lx)).trans HX3.out
  go_region_held3 (fun w' => w'.cell? ⟨w.heap.size, 0, none⟩ = some (.int .u8 (op : Int)) ∧ w'.cell? ⟨w.heap.size, 1, none⟩ = some (.int .u8 (a : Int)) ∧ w'.cell? ⟨w.heap.size, 2, none⟩ = some (.int .u8 (b : Int)) ∧ w'.cell? ⟨w.heap.size, 3, none⟩ = some (.int .u8 (c : Int)) ∧ w'.cell? ⟨w.heap.size, 4, none⟩ = some (P0 fb) ∧ w'.cell? ⟨w.heap.size, 5, none⟩ = some (P0 tb) ∧ w'.cell? ⟨w.heap.size, 6, none⟩ = some (P0 eb)) (first | exact s7_of (show w3.drew.heap[w.heap.size]? = _ from HX3.out) | exact s7_of HY7.out | exact s7_of HY8.out) (first | (go_at_call 61; refine (number_any _ _).mono ?_; rintro e w7 ⟨rfl, rfl⟩) | (go_at_call 149; refine (HH3.out w3 _ HR3.out (grown_alloc (grown_drew (grown_refl _ _)) _)).mono ?_; rintro e w8 ⟨rfl, hR8, hK8⟩; have HR8 := hid hR8; have HY8 : Hid (w8.heap[w.heap.size]? = some (stpB op a b c fb tb eb)) := (hK8 w.heap.size (Nat.le_refl _) (heap_lt HY7.out)).trans HY7.out; clear hR8 hK8))
  all_goals
    go_wp2_with fail
    go_ret
    exact ⟨rfl, HR8.out⟩
set_option maxRecDepth 100000 in
set_option maxHeartbeats 2000000 in
theorem read_wait (op a b c fb tb eb o : Nat) (z : Int) (R : World → Prop) (w : World) (le : eb < w.heap.size) (H1 : ∀ w1, w.grownBy w1 none → Calls Tryz.prog 130 #[P0 eb, .int .i64 z] w1 fun e w' => e = .returned (.tuple #[Pt eb o, .bool true]) ∧ w' = w1)
    (H2 : ∀ w1, w.grownBy w1 none → Calls Tryz.prog 174 #[Pt eb o] w1 fun e w' => e = .returned (.tuple #[.int .u8 0, .bool false]) ∧ w' = w1)
    (H3 : ∀ w1, w.grownBy w1 none → Calls Tryz.prog 171 #[stepV op a b c fb tb eb, Pt eb (o + 1)] w1 fun e w' => e = .returned (.tuple #[]) ∧ R w') :
    Calls Tryz.prog 116 #[stepV op a b c fb tb eb, .int .i64 z] w fun e w' => e = .returned (.int .i64 0) ∧ R w' := by
  have HH1 := hid H1
  have HH2 := hid H2
  have HH3 := hid H3
  clear H1 H2 H3
  go_enter Tryz.func116, Tryz.ntmps116
  go_wp2_with fail
  have HX1 := hid (s7_new w op a b c fb tb eb)
  have KG1 := hid (World.grownBy_alloc w (.cells #[.int .u8 (op : Int), .int .u8 (a : Int), .int .u8 (b : Int), .int .u8 (c : Int), P0 fb, P0 tb, P0 eb] 186) none)
  generalize hW : w.alloc (.cells #[.int .u8 (op : Int), .int .u8 (a : Int), .int .u8 (b : Int), .int .u8 (c : Int), P0 fb, P0 tb, P0 eb] 186) = w1 at *
  clear hW
  refine (HH1.out w1 KG1.out).mono ?_
  rintro e w2 ⟨rfl, rfl⟩
  go_wp2_with fail
  refine (HH2.out w2 KG1.out).mono ?_
  rintro e w3 ⟨rfl, rfl⟩
  obtain ⟨x0, x1, x2, x3, x4, x5, x6⟩ := s7_of HX1.out
  have lx := heap_lt HX1.out
  have le3 : eb < w3.heap.size := Nat.lt_of_lt_of_le le KG1.out.size
  go_wp2_with fail
  first
    | (refine (HH3.out w3 KG1.out).mono ?_
       rintro e w4 ⟨rfl, hR4⟩
       have HR4 := hid hR4
       clear hR4
       go_wp2_with fail
       go_ret
       exact ⟨rfl, HR4.out⟩)
    | (go_region_with (go_at_call 171; refine (HH3.out w3.drew (grown_drew KG1.out)).mono ?_; rintro e w4 ⟨rfl, hR4⟩; have HR4 := hid hR4; clear hR4)
       all_goals
         go_wp2_with fail
         go_ret
         exact ⟨rfl, HR4.out⟩)
end Go.Proofs.YtnjiinbhbjpfkaaGreatDoor
set_option linter.unusedVariables false
namespace Go.Proofs.YtnjiinbhbjpfkaaGreatDoor
open Go.RowKit Go.Lib
theorem size155 : ∀ w : World, (sizeOf 155).run Tryz.prog w = .ok 1 w := by
  intro w
  obtain ⟨i0, hi, hz0, hz1, hz2⟩ := info_parts Tryz.info155
  simp [sizeOf, typeInfo, hi, hz1]
set_option maxHeartbeats 4000000 in
set_option maxRecDepth 100000 in
theorem sins_room (b n c i vb : Nat) (cs : List Value) (y : Value) (w : World) (hi : i < n) (hroom : n + 1 ≤ c) (hc63 : c ≤ 9223372036854775807) (hvb : vb ≠ b) (hcl : cs.length = n)
    (hcs : ∀ j v, cs[j]? = some v → w.cell? ⟨b, j, none⟩ = some v) (hsp : ∀ j, j < n + 1 → (w.cell? ⟨b, j, none⟩).isSome = true) (hfz : ∀ j, j < n + 1 → w.frozen? ⟨b, j, none⟩ = false)
    (hvs : w.cell? ⟨vb, 0, none⟩ = some y) (h1c : ∀ v ∈ cs, v.oneCell' = true) (h1v : y.oneCell' = true)
    (tA tB : TypeId) (kA kB : Nat) (hsa : w.shape? vb = some (tA, kA)) (hsb : w.shape? b = some (tB, kB)) (hkB : kB ≠ 0) (hfa : w.frozen? ⟨vb, 0, none⟩ = false) (hfe : w.frozen? ⟨vb, kA, none⟩ = false) :
    Calls Tryz.prog 203 #[.slice (some ⟨b, 0, none⟩) n c, .int .i64 i, .slice (some ⟨vb, 0, none⟩) 1 1] w fun e w' =>
      e = .returned (.slice (some ⟨b, 0, none⟩) (n + 1) c) ∧ w' = (w.drew.setCells b (i + 1) (cs.drop i)).setCells b i [y] := by
  have hz2 : ¬ ((i : Int) = (n : Int)) := by omega
  have hsz : (Tryz.prog.info? 155).map (·.size) = some 1 := by
    obtain ⟨i0, hi0, h0, h1, h2⟩ := info_parts Tryz.info155
    rw [hi0]; simp [h1]
  have hov : ∀ lb cb, (callFunc 222 #[.slice (some ⟨vb, 0, none⟩) 1 1, .slice (some ⟨b, i + 1, none⟩) lb cb]).run Tryz.prog w = .ok (.value (.bool false)) w := fun lb cb => by
    rw [run_callFunc_extern Tryz.func222 (by kernel_rfl) (by kernel_rfl) (by kernel_rfl) (e := Extern.SlicesOverlaps.overlaps #[136, 136] #[4]) (by kernel_rfl),
      Lib.run_overlaps_apart w 136 4 155 Tryz.underlying136 1 size155 ⟨vb, 0, none⟩ ⟨b, i + 1, none⟩ 1 1 lb cb hvb tA tB kA kB hsa hsb hkB hfa hfe]
    rfl
  have hdl : (cs.drop i).length = n - i := by rw [List.length_drop, hcl]
  have hw1 : IntKind.i64.wrap ((i : Int) + 1) = (i : Int) + 1 := by rw [IntKind.wrap_i64]; omega
  have hw2 : wrap64 ((i : Int) + 1) = (i : Int) + 1 := IntWalk.wrap64_in _ ⟨by omega, by omega⟩
  have hb1 : (0 : Int) ≤ (i : Int) + 1 := by omega
  have hin : i ≤ n := by omega
  have htn : ((i : Int) + 1).toNat = i + 1 := by omega
  have hb2 : ¬ (c = i + 1) := by omega
  have hb3 : (i : Int) ≤ (n : Int) + 1 := by omega
  have hb4 : ¬ (c = i) := by omega
  have hcp1 : ∀ ty dc sc, (Builtin.copy_ #[136, 136] ty #[.slice (some ⟨b, i + 1, none⟩) (n - i) dc, .slice (some ⟨b, i, none⟩) (n + 1 - i) sc]).run Tryz.prog w.drew = .ok (goInt (cs.drop i).length) (w.drew.setCells b (i + 1) (cs.drop i)) := fun ty dc sc =>
    run_copy_cells w.drew _ _ ty 155 b (i + 1) (n - i) dc ⟨b, i, none⟩ (n + 1 - i) sc (cs.drop i) Tryz.underlying136 hsz (by rw [hdl]; show n - i = min _ _; omega)
      (fun j v hj => by rw [Addr.add_lit]; exact hcs (i + j) v (by rwa [List.getElem?_drop] at hj))
      (fun j hj => hsp _ (by omega)) (fun j hj => hfz _ (by omega)) (fun v hv => h1c v (List.mem_of_mem_drop hv))
  obtain ⟨W1, hW1⟩ : ∃ W1, W1 = w.drew.setCells b (i + 1) (cs.drop i) := ⟨_, rfl⟩
  have hsp1 : ∀ k, k < n + 1 → (W1.cell? ⟨b, k, none⟩).isSome = true := fun k hk => by
    rw [hW1]
    exact isSome_setCells b (cs.drop i) (i + 1) w.drew (fun j hj => hsp (i + 1 + j) (by omega)) k (hsp k hk)
  have hcp2 : ∀ (W : World), (∀ x, W.cell? x = W1.cell? x) → (∀ x, W.frozen? x = W1.frozen? x) → ∀ ty dc, (Builtin.copy_ #[136, 136] ty #[.slice (some ⟨b, i, none⟩) (n + 1 - i) dc, .slice (some ⟨vb, 0, none⟩) 1 1]).run Tryz.prog W = .ok (goInt [y].length) (W.setCells b i [y]) := fun W hWc hWf ty dc =>
    run_copy_cells W _ _ ty 155 b i (n + 1 - i) dc ⟨vb, 0, none⟩ 1 1 [y] Tryz.underlying136 hsz (by simp only [Nat.min_def, List.length_singleton]; split <;> omega)
      (fun j v hj => by
        rw [Addr.add_lit, hWc, hW1, World.cell?_setCells_out b _ _ _ _ (fun h _ => absurd h hvb)]
        match j, hj with
        | 0, hj => simp at hj; subst hj; exact hvs)
      (fun j hj => by rw [hWc]; simp at hj; exact hsp1 _ (by omega)) (fun j hj => by rw [hWf, hW1, World.frozen?_setCells]; simp at hj; exact hfz _ (by omega)) (fun v hv => by simp at hv; subst hv; exact h1v)
  rw [← hW1] at hcp1
  go_enter Tryz.func203, Tryz.ntmps203
  go_wp2_with (simp only [hov])
  go_region_law (refine step_copy_runI rfl _ _ 136 136 rfl _ _ (by simp [Act.eval, Act.put]) (by simp [Act.eval, Act.put]) (hcp1 _ _ _) ?_)
  go_wp2_with (at_builtin; refine wpList_copy_runI _ rfl _ _ 136 136 rfl _ _ rfl rfl (hcp2 _ (fun _ => rfl) (fun _ => rfl) _ _) ?_)
  go_ret
  first | exact ⟨rfl, rfl⟩ | exact ⟨rfl, by rw [hW1]⟩
end Go.Proofs.YtnjiinbhbjpfkaaGreatDoor
set_option linter.unusedVariables false
namespace Go.Proofs.YtnjiinbhbjpfkaaGreatDoor
open Go.RowKit Go.Lib
set_option maxHeartbeats 4000000 in
set_option maxRecDepth 100000 in
theorem sins_grow (b n c i vb : Nat) (cs : List Value) (y : Value) (w : World) (hi : i < n) (hnc : n ≤ c) (hroom : c < n + 1) (hbig : n ≤ 1000000000) (hcl : cs.length = n)
    (hcs : ∀ j v, cs[j]? = some v → w.cell? ⟨b, j, none⟩ = some v) (hvs : w.cell? ⟨vb, 0, none⟩ = some y) (h1c : ∀ v ∈ cs, v.oneCell' = true) (h1v : y.oneCell' = true) :
    Calls Tryz.prog 203 #[.slice (some ⟨b, 0, none⟩) n c, .int .i64 i, .slice (some ⟨vb, 0, none⟩) 1 1] w fun e w' =>
      e = .returned (.slice (some ⟨w.heap.size, 0, none⟩) (n + 1) (grownCap w (n + 1) c 155)) ∧
      w' = (((w.alloc (.cells ((cs.take i).toArray ++ Builtin.zeroCells (Value.pointer none).cells (n + 1 - i) ++ Builtin.zeroCells (Value.pointer none).cells (grownCap w (n + 1) c 155 - (n + 1))) 155)).drew.setCells w.heap.size i [y]).drew).setCells w.heap.size (i + 1) (cs.drop i) := by
  obtain ⟨i0, hi0, hz0, hzs, hzb⟩ := info_parts Tryz.info155
  have hz2 : ¬ ((i : Int) = (n : Int)) := by omega
  have hz3 : (c : Int) < (n : Int) + 1 := by omega
  have hw1 : IntKind.i64.wrap ((i : Int) + 1) = (i : Int) + 1 := by rw [IntKind.wrap_i64]; omega
  have hw2 : wrap64 ((i : Int) + 1) = (i : Int) + 1 := IntWalk.wrap64_in _ ⟨by omega, by omega⟩
  have hw3 : wrap64 ((n : Int) + 1) = (n : Int) + 1 := IntWalk.wrap64_in _ ⟨by omega, by omega⟩
  have hw4 : wrap64 ((n : Int) + 1 - (i : Int)) = (n : Int) + 1 - (i : Int) := IntWalk.wrap64_in _ ⟨by omega, by omega⟩
  have hb1 : (0 : Int) ≤ (i : Int) + 1 := by omega
  have hin : i ≤ n := by omega
  have htn : ((i : Int) + 1).toNat = i + 1 := by omega
  have hb3 : (i : Int) ≤ (n : Int) := by omega
  have hsz : (Tryz.prog.info? 155).map (·.size) = some 1 := by rw [hi0]; simp [hzs]
  have hbw : b < w.heap.size := block_lt_of_cell (hcs 0 _ (List.getElem?_eq_getElem (by omega)))
  have hvw : vb < w.heap.size := block_lt_of_cell hvs
  have hkk : (n : Int) + 1 - (i : Int) = ((n + 1 - i : Nat) : Int) := by omega
  have hik : i + (n + 1 - i) = n + 1 := by omega
  have hold : (Builtin.firstCells i0.size i (.slice (some ⟨b, 0, none⟩) i c)).run Tryz.prog w.drew = .ok (cs.take i).toArray w.drew := by
    rw [hzs]
    exact run_firstCells_some w.drew 1 i ⟨b, 0, none⟩ i c (cs.take i) (by rw [List.length_take]; omega) (fun j v hj => by
      rw [Addr.add_lit]
      rw [List.getElem?_take] at hj
      split at hj
      · rw [Nat.zero_add]; exact hcs j v hj
      · cases hj)
  have hrz : ∀ ty, (Builtin.append_ #[136, 3] ty #[.slice (some ⟨b, 0, none⟩) i c, .int .i64 ((n : Int) + 1 - (i : Int))]).run Tryz.prog w =
      .ok (.slice (some ⟨w.heap.size, 0, none⟩) (n + 1) (grownCap w (n + 1) c 155)) (w.drew.alloc (.cells ((cs.take i).toArray ++ Builtin.zeroCells (Value.pointer none).cells (n + 1 - i) ++ Builtin.zeroCells (Value.pointer none).cells (grownCap w (n + 1) c 155 - (n + 1))) 155)) := fun ty => by
    have h := Lib.run_append_grow_zeros w 136 3 ty 155 i0 _ .i64 .i64 Tryz.underlying136 Tryz.underlying3 hi0 hz0 (some ⟨b, 0, none⟩) i c (cs.take i) hold (n + 1 - i) (by omega) (by omega) (by omega) (by omega) (by rw [hzb]; omega) (by rw [hzb, hik]; exact growslice_fits hroom (by omega))
    rw [hik] at h
    rw [hkk]
    exact h
  obtain ⟨G, hG⟩ : ∃ G, G = grownCap w (n + 1) c 155 := ⟨_, rfl⟩
  obtain ⟨ROW, hROW⟩ : ∃ ROW : Array Value, ROW = (cs.take i).toArray ++ Builtin.zeroCells (Value.pointer none).cells (n + 1 - i) ++ Builtin.zeroCells (Value.pointer none).cells (G - (n + 1)) := ⟨_, rfl⟩
  rw [← hG] at hrz ⊢
  rw [← hROW] at hrz ⊢
  have hRl : n + 1 ≤ ROW.size := by
    rw [hROW]
    simp [Builtin.zeroCells, Value.cells]
    omega
  obtain ⟨W1, hW1⟩ : ∃ W1, W1 = w.drew.alloc (.cells ROW 155) := ⟨_, rfl⟩
  rw [← hW1] at hrz
  have hN : ∀ j, j < n + 1 → (W1.cell? ⟨w.heap.size, j, none⟩).isSome = true := fun j hj => by
    rw [hW1, World.cell?_alloc_at (w := w.drew) ROW _ w.heap.size j rfl, Array.getElem?_eq_getElem (by omega)]; rfl
  have hNf : ∀ j, W1.frozen? ⟨w.heap.size, j, none⟩ = false := fun j => by rw [hW1]; exact World.frozen?_alloc_at (w := w.drew) ROW _ w.heap.size j rfl
  have hOb : ∀ j v, w.cell? ⟨b, j, none⟩ = some v → W1.cell? ⟨b, j, none⟩ = some v := fun j v h => by rw [hW1, World.cell?_alloc_past (w := w.drew) _ b j hbw]; exact h
  have hOv : ∀ j v, w.cell? ⟨vb, j, none⟩ = some v → W1.cell? ⟨vb, j, none⟩ = some v := fun j v h => by rw [hW1, World.cell?_alloc_past (w := w.drew) _ vb j hvw]; exact h
  have hcpA : ∀ (W : World), (∀ x, W.cell? x = W1.cell? x) → (∀ x, W.frozen? x = W1.frozen? x) → ∀ ty dc, (Builtin.copy_ #[136, 136] ty #[.slice (some ⟨w.heap.size, i, none⟩) (n + 1 - i) dc, .slice (some ⟨vb, 0, none⟩) 1 1]).run Tryz.prog W = .ok (goInt [y].length) (W.setCells w.heap.size i [y]) := fun W hWc hWf ty dc =>
    run_copy_cells W _ _ ty 155 w.heap.size i (n + 1 - i) dc ⟨vb, 0, none⟩ 1 1 [y] Tryz.underlying136 hsz (by simp only [Nat.min_def, List.length_singleton]; split <;> omega)
      (fun j v hj => by
        match j, hj with
        | 0, hj => simp at hj; subst hj; rw [Addr.add_lit, hWc]; exact hOv _ _ hvs)
      (fun j hj => by rw [hWc]; simp at hj; exact hN _ (by omega)) (fun j hj => by rw [hWf]; exact hNf _) (fun v hv => by simp at hv; subst hv; exact h1v)
  have hGn : n + 1 ≤ G := by rw [hG]; exact grownCap_ge w _ _ _
  have hG63 : G ≤ 9223372036854775807 := by
    have := grownCap_le_maxLen w (n + 1) c 155 (by unfold maxLen; omega)
    rw [← hG] at this
    unfold maxLen at this
    omega
  have hGi : ¬ (G = i) := by omega
  have hGim : ¬ (G = i + 1) := by omega
  have hci : ¬ (c = i) := by omega
  have hbN : b ≠ w.heap.size := by omega
  have hdl : (cs.drop i).length = n - i := by rw [List.length_drop, hcl]
  have hcpB : ∀ (W : World), (∀ x, W.cell? x = (W1.setCells w.heap.size i [y]).cell? x) → (∀ x, W.frozen? x = (W1.setCells w.heap.size i [y]).frozen? x) → ∀ ty dc sc, (Builtin.copy_ #[136, 136] ty #[.slice (some ⟨w.heap.size, i + 1, none⟩) (n - i) dc, .slice (some ⟨b, i, none⟩) (n - i) sc]).run Tryz.prog W = .ok (goInt (cs.drop i).length) (W.setCells w.heap.size (i + 1) (cs.drop i)) := fun W hWc hWf ty dc sc =>
    run_copy_cells W _ _ ty 155 w.heap.size (i + 1) (n - i) dc ⟨b, i, none⟩ (n - i) sc (cs.drop i) Tryz.underlying136 hsz (by rw [hdl]; show n - i = min _ _; omega)
      (fun j v hj => by
        rw [Addr.add_lit, hWc, World.cell?_setCells_out _ _ _ _ _ (fun h _ => absurd h hbN)]
        exact hOb _ v (hcs (i + j) v (by rwa [List.getElem?_drop] at hj)))
      (fun j hj => by rw [hWc]; exact isSome_setCells w.heap.size [y] i W1 (fun t ht => by simp at ht; exact hN _ (by omega)) _ (hN _ (by omega)))
      (fun j hj => by rw [hWf, World.frozen?_setCells]; exact hNf _) (fun v hv => h1c v (List.mem_of_mem_drop hv))
  subst hW1
  have hE1 : ∀ x, ((w.alloc (.cells ROW 155)).drew).cell? x = (w.drew.alloc (.cells ROW 155)).cell? x := fun x => rfl
  have hE2 : ∀ x, ((w.alloc (.cells ROW 155)).drew).frozen? x = (w.drew.alloc (.cells ROW 155)).frozen? x := fun x => rfl
  have hF1 : ∀ x, (((w.alloc (.cells ROW 155)).drew.setCells w.heap.size i [y]).drew).cell? x = ((w.drew.alloc (.cells ROW 155)).setCells w.heap.size i [y]).cell? x := fun x => rfl
  have hF2 : ∀ x, (((w.alloc (.cells ROW 155)).drew.setCells w.heap.size i [y]).drew).frozen? x = ((w.drew.alloc (.cells ROW 155)).setCells w.heap.size i [y]).frozen? x := fun x => rfl
  clear hkk hik hold hROW hG hRl
  go_enter Tryz.func203, Tryz.ntmps203
  go_wp2_with (first
    | (at_builtin; refine Lib.wpList_append_run _ rfl _ _ _ _ rfl _ _ rfl rfl _ _ (hrz _) ?_)
    | (at_builtin; refine wpList_copy_runI _ rfl _ _ 136 136 rfl _ _ rfl rfl (hcpA _ hE1 hE2 _ _) ?_)
    | (at_builtin; refine wpList_copy_runI _ rfl _ _ 136 136 rfl _ _ rfl rfl (hcpB _ (fun _ => rfl) (fun _ => rfl) _ _ _) ?_))
  go_region_law (refine step_copy_runI rfl _ _ 136 136 rfl (.slice (some ⟨w.heap.size, i + 1, none⟩) (n - i) (G - (i + 1))) (.slice (some ⟨b, i, none⟩) (n - i) (c - i)) (by simp [Act.eval, Act.put]) (by simp [Act.eval, Act.put]) (hcpB _ hF1 hF2 155 (G - (i + 1)) (c - i)) ?_)
  go_wp2
  go_ret
  exact ⟨rfl, rfl⟩
end Go.Proofs.YtnjiinbhbjpfkaaGreatDoor
