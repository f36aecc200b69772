/-
  What a task has given stays: keep.
-/
import Derived.Test.YtnjiinbhbjpfkaaGreatDoorGateH
import Derived.Deep.LoopGhost
namespace Go.Proofs.YtnjiinbhbjpfkaaGreatDoor
open Go.RowKit
def keptL (kv : List B.V) (v : B.V) : List B.V := if v.1 ≠ 0 ∧ v ∉ kv then kv ++ [v] else kv
def Keep (w w' : World) (eb ob m co j k c : Nat) (ad : Option Addr) (ov kv : List B.V) (v : B.V) (E : Nat → Value) : Prop :=
  ∃ vv, Full w' eb 144 44 44 (upd E 31 vv) ∧ w'.ownsRow 0 149 2 (.slice (some ⟨ob, 0, none⟩) m co) m (valL (ov.set j v)) ∧ w'.ownsRow 0 149 2 vv (keptL kv v).length (valL (keptL kv v)) ∧ Only (fun x => x = eb ∨ x = ob ∨ (Value.slice ad k c).ownBlock = some x) w w' ∧ (vv.ownBlock = (Value.slice ad k c).ownBlock ∨ ∃ g, vv.ownBlock = some g ∧ w.heap.size ≤ g)
set_option maxRecDepth 100000 in
set_option maxHeartbeats 4000000 in
theorem keepL (eb ob m co j k c : Nat) (ad : Option Addr) (v : B.V) (ov kv : List B.V) (E : Nat → Value) (w : World) (hE : Full w eb 144 44 44 E) (hE30 : E 30 = .slice (some ⟨ob, 0, none⟩) m co) (ho : w.ownsRow 0 149 2 (.slice (some ⟨ob, 0, none⟩) m co) m (valL ov)) (hE31 : E 31 = .slice ad k c) (hk : w.ownsRow 0 149 2 (.slice ad k c) k (valL kv)) (hj : j < m) (hm : m ≤ 1000000000) (hk2 : k ≤ 1000000) (no : ∀ x, (Value.slice ad k c).ownBlock = some x → x ≠ ob) :
    Calls Tryz.prog 211 #[P0 eb, .int .i64 ((j : Int) + 1), vA v] w fun e w' => e = .returned (.tuple #[]) ∧ Keep w w' eb ob m co j k c ad ov kv v E := by
  obtain ⟨i0, hi, hz0, hz1, hz2⟩ := info_parts Tryz.info149
  obtain ⟨c29, z29⟩ := hE.cells 30 (by omega)
  obtain ⟨c30, z30⟩ := hE.cells 31 (by omega)
  rw [hE30] at c29
  rw [hE31] at c30
  have le := hE.lt
  have oe : ob ≠ eb := own_ne ho hE (by decide) ob rfl
  obtain ⟨_, hmc, hcm, hlo, hBo, hco⟩ := own2_ge ho
  have lo := hBo.lt
  obtain ⟨⟨y0, o0⟩, p0⟩ := hBo.cell (j * 2) (by omega)
  obtain ⟨⟨y1, o1⟩, p1⟩ := hBo.cell (j * 2 + 1) (by omega)
  have hlk : kv.length = k := by
    have := hk.1
    rw [valL_len] at this; omega
  have HE := hid hE
  have H31 := hid hE31
  have HO := hid (And.intro hmc (And.intro hcm (And.intro hlo (And.intro hBo hco))))
  have HK := hid hk
  have HNO := hid no
  have HLK := hid hlk
  clear hE hE30 hE31 ho hk hmc hcm hlo hBo hco no hlk
  have oe' : ¬ eb = ob := fun e => oe e.symm
  have le1 : eb < w.heap.size + 1 := by omega
  have lo1 : ob < w.heap.size + 1 := by omega
  have hji : (j : Int) < (m : Int) := by omega
  have hwr : IntKind.i64.wrap (j : Int) = (j : Int) := IntWalk.i64_in _ ⟨by omega, by omega⟩
  have h0j : (0 : Int) ≤ (j : Int) := by omega
  obtain ⟨v1, v2⟩ := v
  go_enter Tryz.func211, Tryz.ntmps211
  go_wp2_with fail
  go_region
  generalize hw2 : World.drew (((w.setCell ⟨ob, j * 2, none⟩ (.int .i64 (v1 : Int))).setCell ⟨ob, j * 2 + 1, none⟩ (.int .i64 v2)).alloc (.cells #[.int .i64 (v1 : Int), .int .i64 v2] 149)) = w2
  have hbx : w2.heap[w.heap.size]? = some (.cells #[.int .i64 (v1 : Int), .int .i64 v2] 149 (0, 0)) := by
    have hz : ((w.setCell ⟨ob, j * 2, none⟩ (.int .i64 (v1 : Int))).setCell ⟨ob, j * 2 + 1, none⟩ (.int .i64 v2)).heap.size = w.heap.size := by simp [World.setCell]
    rw [← hw2, ← hz]; exact heap_alloc_new _ _
  have hz2' : w2.heap.size = w.heap.size + 1 := by rw [← hw2]; simp [World.setCell]
  have hoth : ∀ x, x ≠ ob → x < w.heap.size → w2.heap[x]? = w.heap[x]? := fun x h1 h2 => by
    rw [← hw2]
    show (World.alloc _ _).heap[x]? = _
    rw [Below.heap_alloc _ _ _ (by simp [World.setCell]; exact h2), Below.heap_setCell _ _ _ _ h1, Below.heap_setCell _ _ _ _ h1]
  have HE2 : Hid (Full w2 eb 144 44 44 E) := HE.out.block (hoth eb oe' le)
  have HK2 : Hid (w2.ownsRow 0 149 2 (.slice ad k c) k (valL kv)) := own_of HK.out (fun x h => hoth x (HNO.out x h) (own_ty HK.out x h).2.1)
  have HO2 : Hid (w2.ownsRow 0 149 2 (.slice (some ⟨ob, 0, none⟩) m co) m (valL (ov.set j (v1, v2)))) := by
    obtain ⟨hmc, hcm, hlo, hBo, hco⟩ := HO.out
    have hB1 : Blk ((w.setCell ⟨ob, j * 2, none⟩ (.int .i64 (v1 : Int))).setCell ⟨ob, j * 2 + 1, none⟩ (.int .i64 v2)) ob 149 (co * 2) := (hBo.set ob _ _).set ob _ _
    have hX : w2.heap[ob]? = ((w.setCell ⟨ob, j * 2, none⟩ (.int .i64 (v1 : Int))).setCell ⟨ob, j * 2 + 1, none⟩ (.int .i64 v2)).heap[ob]? := by
      rw [← hw2]
      exact Below.heap_alloc _ _ _ hB1.lt
    have hcell : ∀ o, w2.cell? ⟨ob, o, none⟩ = ((w.setCell ⟨ob, j * 2, none⟩ (.int .i64 (v1 : Int))).setCell ⟨ob, j * 2 + 1, none⟩ (.int .i64 v2)).cell? ⟨ob, o, none⟩ := fun o => by simp only [World.cell?, hX]
    refine own2_mk (Nat.zero_le _) hmc hcm (by rw [List.length_set, hlo]) (by obtain ⟨cu, q1, q2⟩ := hB1; exact ⟨cu, hX.trans q1, q2⟩) (fun i x hx => ?_)
    rw [hcell, hcell]
    by_cases hij : i = j
    · subst hij
      rw [List.getElem?_set_self (by omega)] at hx
      injection hx with hx
      subst hx
      constructor
      · rw [World.cell?_setCell_other _ _ _ _ (by intro e; injection e with _ e; omega)]
        exact World.cell?_setCell_same _ _ _ o0
      · exact World.cell?_setCell_same _ _ _ ((World.cell?_setCell_other _ _ _ _ (by intro e; injection e with _ e; omega)).trans o1)
    · rw [List.getElem?_set_ne (fun e => hij e.symm)] at hx
      obtain ⟨q1, q2⟩ := hco i x hx
      constructor
      · rw [World.cell?_setCell_other _ _ _ _ (by intro e; injection e with _ e; omega), World.cell?_setCell_other _ _ _ _ (by intro e; injection e with _ e; omega)]; exact q1
      · rw [World.cell?_setCell_other _ _ _ _ (by intro e; injection e with _ e; omega), World.cell?_setCell_other _ _ _ _ (by intro e; injection e with _ e; omega)]; exact q2
  have KO2 : Hid (Only (fun x => x = eb ∨ x = ob ∨ (Value.slice ad k c).ownBlock = some x) w w2) := by
    show Only _ _ _
    rw [← hw2]
    exact only_drew (only_alloc (only_setCell (only_setCell (only_refl _ _) (Or.inl (Or.inr (Or.inl rfl))) _) (Or.inl (Or.inr (Or.inl rfl))) _) _)
  have b0 : w2.cell? ⟨w.heap.size, 0, none⟩ = some (.int .i64 (v1 : Int)) := by simp [World.cell?, hbx]
  have b1 : w2.cell? ⟨w.heap.size, 1, none⟩ = some (.int .i64 v2) := by simp [World.cell?, hbx]
  clear hw2 c29 z29 c30 z30 o0 o1 p0 p1 y0 y1 hbx hoth HO HE HK
  obtain ⟨c30, z30⟩ := HE2.out.cells 31 (by omega)
  rw [H31.out] at c30
  have le2 : eb < w2.heap.size := by omega
  have lb2 : w.heap.size < w2.heap.size := by omega
  go_wp2_with fail
  refine (vnumber_any (v1, v2) _).mono ?_
  rintro e w3 ⟨rfl, hg3⟩
  have hz3 := hg3.size
  have KO3 := hid (KO2.out.then0 hg3)
  have HE3 := hid (HE2.out.block (hg3.block eb le2 (by intro e; cases e)))
  have HO3 := hid (own_of HO2.out (fun x h => hg3.block x (own_ty HO2.out x h).2.1 (by intro e; cases e)))
  have HK3 := hid (own_of HK2.out (fun x h => hg3.block x (own_ty HK2.out x h).2.1 (by intro e; cases e)))
  obtain ⟨k0, _⟩ := grown_cell hg3 (a := ⟨w.heap.size, 0, none⟩) lb2
  obtain ⟨k1, _⟩ := grown_cell hg3 (a := ⟨w.heap.size, 1, none⟩) lb2
  rw [b0] at k0
  rw [b1] at k1
  have le3 : eb < w3.heap.size := by omega
  have lb3 : w.heap.size < w3.heap.size := by omega
  obtain ⟨d30, e30⟩ := HE3.out.cells 31 (by omega)
  rw [H31.out] at d30
  clear hg3 c30 z30 b0 b1 HE2 HO2 HK2 KO2
  have hsame : ∀ w4, w3.grownBy w4 none → keptL kv (v1, v2) = kv → Keep w w4 eb ob m co j k c ad ov kv (v1, v2) E := fun w4 hg4 hkk => by
    refine ⟨.slice ad k c, (HE3.out.block (hg4.block eb le3 (by intro e; cases e))).congr (fun i _ => ?_), own_of HO3.out (fun x h => hg4.block x (own_ty HO3.out x h).2.1 (by intro e; cases e)), ?_, KO3.out.then0 hg4, Or.inl rfl⟩
    · by_cases hi31 : i = 31
      · subst hi31; rw [upd_at, H31.out]
      · rw [upd_off _ _ _ _ hi31]
    · rw [hkk, HLK.out]
      exact own_of HK3.out (fun x h => hg4.block x (own_ty HK3.out x h).2.1 (by intro e; cases e))
  have HSM := hid hsame
  clear hsame
  by_cases hv : v1 = 0
  · subst hv
    simp only [decide_true]
    go_wp2_with fail
    go_quiet (fail)
    go_wp2_with fail
    go_end0
    exact ⟨rfl, HSM.out _ (grown_drewN (grown_refl _ _) _) (by unfold keptL; rw [if_neg (by simp)])⟩
  · have hd : decide (v1 = 0) = false := by simpa using hv
    simp only [hd]
    clear hd
    have HCV : Hid (∀ w4, w3.grownBy w4 none → Calls Tryz.prog 224 #[.slice ad k c, vA (v1, v2)] w4 fun e w' => e = .returned (.bool (decide (((v1, v2) : B.V) ∈ kv))) ∧ w4.grownBy w' none) := fun w4 hg4 => by
      have hK4 : w4.ownsRow 0 149 2 (.slice ad k c) k (valL kv) := own_of HK3.out (fun x h => hg4.block x (own_ty HK3.out x h).2.1 (by intro e; cases e))
      rcases hK4.2 with ⟨h, h0⟩ | ⟨g', c', cur, h1, _, h3, _⟩
      · injection h with a1 a2 a3
        subst a1 a2 a3
        obtain rfl : kv = [] := List.eq_nil_of_length_eq_zero HLK.out
        exact containsV (v1, v2) 0 0 0 none [] w4 rfl (by omega) (fun i x hx => by simp at hx) (fun h => absurd rfl h)
      · injection h1 with a1 a2 a3
        subst a1
        obtain ⟨_, _, _, _, hB, hc⟩ := own2_ge hK4
        exact containsV (v1, v2) g' c k _ kv w4 HLK.out.symm (by omega) (fun i x hx => ⟨rfl, hc i x hx⟩) (fun _ => hB.lt)
    go_wp2_with fail
    go_cut [31] from 21 to 31 (fun x wx => x = .bool (!decide (((v1, v2) : B.V) ∈ kv)) ∧ Hid (w3.grownBy wx none))
    case first =>
      go_region_with (go_at_call 224; refine (HCV.out w3.drew (grown_drew (grown_refl _ _))).mono ?_; rintro e w4 ⟨rfl, hg4⟩; have HG4 : Hid (w3.grownBy w4 none) := ⟨hg4.os, hg4.tape, hg4.output, hg4.size, hg4.block⟩; clear hg4)
      all_goals
        go_wp2_with fail
        go_meet
        case rel => exact ⟨rfl, HG4⟩
    case rest =>
      obtain ⟨rfl, HG4⟩ := hcut
      by_cases hin : ((v1, v2) : B.V) ∈ kv
      · have hd : decide (((v1, v2) : B.V) ∈ kv) = true := by simpa using hin
        rw [hd]
        have HIN := hid hin
        clear hin hd
        go_wp2_with fail
        go_end0
        exact ⟨rfl, HSM.out _ HG4.out (by unfold keptL; rw [if_neg (fun h => h.2 HIN.out)])⟩
      · have hd : decide (((v1, v2) : B.V) ∈ kv) = false := by simpa using hin
        rw [hd]
        have HIN := hid hin
        clear hin hd
        have hkk : keptL kv (v1, v2) = kv ++ [(v1, v2)] := by unfold keptL; rw [if_pos ⟨hv, HIN.out⟩]
        have HKK := hid hkk
        have hz4 := HG4.out.size
        obtain ⟨k0', _⟩ := grown_cell HG4.out (a := ⟨w.heap.size, 0, none⟩) lb3
        obtain ⟨k1', _⟩ := grown_cell HG4.out (a := ⟨w.heap.size, 1, none⟩) lb3
        rw [k0] at k0'
        rw [k1] at k1'
        have HE4 := hid (HE3.out.block (HG4.out.block eb le3 (by intro e; cases e)))
        have KO4 := hid (KO3.out.then0 HG4.out)
        have HO4 := hid (own_of HO3.out (fun x h => HG4.out.block x (own_ty HO3.out x h).2.1 (by intro e; cases e)))
        have HK4 := hid (own_of HK3.out (fun x h => HG4.out.block x (own_ty HK3.out x h).2.1 (by intro e; cases e)))
        clear k0 k1 d30 e30 hkk
        obtain ⟨d30, e30⟩ := HE4.out.cells 31 (by omega)
        rw [H31.out] at d30
        have le4 : eb < wc.heap.size := by omega
        have lb4 : w.heap.size < wc.heap.size := by omega
        have hW : ∀ x, x < wc.heap.size → ((wc.alloc (.cells #[.int .i64 (v1 : Int), .int .i64 v2] 149)).drew).heap[x]? = wc.heap[x]? := fun x hx => Below.heap_alloc _ _ _ hx
        have hWz : ((wc.alloc (.cells #[.int .i64 (v1 : Int), .int .i64 v2] 149)).drew).heap.size = wc.heap.size + 1 := by show (World.alloc _ _).heap.size = _; simp
        have hWx : ((wc.alloc (.cells #[.int .i64 (v1 : Int), .int .i64 v2] 149)).drew).heap[wc.heap.size]? = some (.cells #[.int .i64 (v1 : Int), .int .i64 v2] 149 (0, 0)) := heap_alloc_new wc _
        have q0 : ((wc.alloc (.cells #[.int .i64 (v1 : Int), .int .i64 v2] 149)).drew).cell? ⟨wc.heap.size, 0, none⟩ = some (.int .i64 (v1 : Int)) := by simp only [World.cell?, hWx]; rfl
        have q1 : ((wc.alloc (.cells #[.int .i64 (v1 : Int), .int .i64 v2] 149)).drew).cell? ⟨wc.heap.size, 0 + 1, none⟩ = some (.int .i64 v2) := by simp only [World.cell?, hWx]; rfl
        have hWn : ∀ i u, [Value.int .i64 (v1 : Int), .int .i64 v2][i]? = some u → ((wc.alloc (.cells #[.int .i64 (v1 : Int), .int .i64 v2] 149)).drew).cell? ((⟨wc.heap.size, 0, none⟩ : Addr).add i) = some u := fun i u hj => by
          match i, hj with
          | 0, hj => (simp at hj; subst hj; exact q0)
          | 1, hj => (simp at hj; subst hj; exact q1)
        have hWg : wc.grownBy ((wc.alloc (.cells #[.int .i64 (v1 : Int), .int .i64 v2] 149)).drew) none := grown_drew (grown_alloc (grown_refl _ _) _)
        have hke : ∀ x, (Value.slice ad k c).ownBlock = some x → x ≠ eb := fun x h => own_ne HK4.out HE4.out (by decide) x h
        have hform : (c < k + 1 ∧ (ad = none → k = 0 ∧ c = 0)) ∨ (k + 1 ≤ c ∧ ∃ kb, ad = some ⟨kb, 0, none⟩) := by
          rcases HK4.out.2 with ⟨h, h0⟩ | ⟨g', c', cur, h1, _, _, h4, _⟩
          · injection h with a1 a2 a3; exact Or.inl ⟨by omega, fun _ => ⟨a2, a3⟩⟩
          · injection h1 with a1 a2 a3
            by_cases hlt : k + 1 ≤ c
            · exact Or.inr ⟨hlt, g', a1⟩
            · exact Or.inl ⟨by omega, fun e => by rw [a1] at e; cases e⟩
        rcases hform with ⟨hful, hnone⟩ | ⟨hroom, kb, rfl⟩
        · have hlo : (valL kv).length = k * 2 := HK4.out.1
          have holds : ∀ b, ad = some b → ∀ i u, (valL kv)[i]? = some u → ((wc.alloc (.cells #[.int .i64 (v1 : Int), .int .i64 v2] 149)).drew).cell? (b.add i) = some u := fun b hb i u hu => by
            subst hb
            rcases HK4.out.2 with ⟨h, _⟩ | ⟨g', c', cur, h1, _, h3, _, _, _, h7⟩
            · cases h
            · injection h1 with h1 _ _
              injection h1 with h1
              subst h1
              have hil : i < k * 2 := by
                have := (List.getElem?_eq_some_iff.1 hu).1
                omega
              rw [← h7, List.getElem?_take, if_pos hil] at hu
              have h4 : ((wc.alloc (.cells #[.int .i64 (v1 : Int), .int .i64 v2] 149)).drew).cell? ⟨g', i, none⟩ = some u := by
                simp only [World.cell?, hW g' (heap_lt h3), h3]
                simpa using hu
              cases i with
              | zero => simpa [Addr.add] using h4
              | succ i => simpa [Addr.add] using h4
          have HHL := hid (And.intro hnone (And.intro hlo holds))
          have HWW := hid (And.intro hWz (And.intro hWn hWg))
          clear hnone hlo holds hW hWz hWx hWn hWg
          go_wp2_with fail
          go_region_law (refine step_append_grows rfl (.tmp 36) (.tmp 38) 137 rfl 149 i0 (.agg #[.int .i64 0, .int .i64 0]) 2 16 Tryz.underlying137 hi hz0 hz1 hz2 rfl (by decide) ad k c (valL kv) (by first | rfl | simp [Act.eval, Act.put]) HHL.out.1 HHL.out.2.1 HHL.out.2.2 ⟨wc.heap.size, 0, none⟩ 1 1 [.int .i64 (v1 : Int), .int .i64 v2] (by first | rfl | simp [Act.eval, Act.put]) rfl HWW.out.2.1 (by simp [Value.oneCell']) hful (by unfold maxLen; omega) (by omega) ?_; intro v' w6 ho hg; obtain ⟨g, c', rfl⟩ := row_form ho (by omega); have HOO : Hid (w6.ownsRow 0 149 2 (.slice (some ⟨g, 0, none⟩) (k + 1) c') (k + 1) (valL (kv ++ [(v1, v2)]))) := (valL_app kv [(v1, v2)]) ▸ own_base ho (Nat.zero_le _); have hge : wc.heap.size + 1 ≤ g := HWW.out.1 ▸ (by rcases ho.2 with ⟨h, _⟩ | ⟨g', c', cur, h1, h2, _⟩; cases h; cases h1; exact h2); have HG6 : Hid (wc.grownBy w6 none) := grown_trans HWW.out.2.2 hg; have HE6 := hid (HE4.out.block (HG6.out.block eb le4 (by intro e; cases e))); obtain ⟨f30, g30⟩ := HE6.out.cells 31 (by omega); have le6 := HE6.out.lt; clear ho hg)
          all_goals
            rw [H31.out] at f30
            go_wp2_with fail
            go_end0
            refine ⟨rfl, .slice (some ⟨g, 0, none⟩) (k + 1) c', HE6.out.upd 31 _, own_of HO4.out (fun x h => ?_), ?_, only_setCell (KO4.out.then0 HG6.out) (Or.inl (Or.inl rfl)) _, Or.inr ⟨g, rfl, by omega⟩⟩
            · have hxo : x = ob := by injection h with h; exact h.symm
              subst hxo
              exact (Below.heap_setCell _ _ _ _ oe).trans (HG6.out.block x (own_ty HO4.out x rfl).2.1 (by intro e; cases e))
            · rw [HKK.out, List.length_append, HLK.out]
              exact own_of HOO.out (fun x h => Below.heap_setCell _ _ _ _ (own_ne HOO.out HE6.out (by decide) x h))
        · obtain ⟨_, hkc, hcm, hlf, hB4, hc4⟩ := own2_ge HK4.out
          have hsp : ∀ i, i < [Value.int .i64 (v1 : Int), .int .i64 v2].length → (((wc.alloc (.cells #[.int .i64 (v1 : Int), .int .i64 v2] 149)).drew).cell? ⟨kb, 0 + k * 2 + i, none⟩).isSome = true ∧ ((wc.alloc (.cells #[.int .i64 (v1 : Int), .int .i64 v2] 149)).drew).frozen? ⟨kb, 0 + k * 2 + i, none⟩ = false := fun i hi2 => by
            have hi3 : i < 2 := hi2
            obtain ⟨⟨v, h⟩, hf⟩ := hB4.cell (0 + k * 2 + i) (by omega)
            have hk := hW kb hB4.lt
            constructor
            · simp only [World.cell?] at h ⊢
              rw [hk, h]; rfl
            · simp only [World.frozen?] at hf ⊢
              rw [hk]; exact hf
          have HWW := hid (And.intro hWz (And.intro hWn (And.intro hWg (And.intro hsp hW))))
          have HB4 := hid (And.intro hcm (And.intro hlf (And.intro hB4 hc4)))
          have hkbe : kb ≠ eb := hke kb rfl
          have hkbo : kb ≠ ob := HNO.out kb rfl
          have lkb := hB4.lt
          clear hW hWz hWx hWn hWg hsp hcm hlf hB4 hc4 q0 q1
          go_wp2_with fail
          go_region_law (refine step_append_room rfl (.tmp 36) (.tmp 38) 137 rfl 149 i0 2 Tryz.underlying137 hi hz1 kb 0 k c (by first | rfl | simp [Act.eval, Act.put]) ⟨wc.heap.size, 0, none⟩ 1 1 [.int .i64 (v1 : Int), .int .i64 v2] (by first | rfl | simp [Act.eval, Act.put]) rfl HWW.out.2.1 (by simp [Value.oneCell']) hroom HWW.out.2.2.2.1 ?_; generalize hw6 : World.setCells _ kb _ _ = w6; have HS6 : Hid (w6 = ((wc.alloc (.cells #[.int .i64 (v1 : Int), .int .i64 v2] 149)).drew).setCells kb (0 + k * 2) [.int .i64 (v1 : Int), .int .i64 v2]) := hw6.symm; clear hw6; have HK6 : Hid (∀ x, x ≠ kb → w6.heap[x]? = ((wc.alloc (.cells #[.int .i64 (v1 : Int), .int .i64 v2] 149)).drew).heap[x]?) := (fun x hx => by rw [HS6.out]; exact heap_setCells kb x hx _ _ _); have HE6 := hid (HE4.out.block ((HK6.out eb (fun e => hkbe e.symm)).trans (HWW.out.2.2.2.2 eb le4))); obtain ⟨f30, g30⟩ := HE6.out.cells 31 (by omega); have le6 := HE6.out.lt)
          all_goals
            rw [H31.out] at f30
            go_wp2_with fail
            go_end0
            have hOO : w6.ownsRow 0 149 2 (.slice (some ⟨kb, 0, none⟩) (k + 1) c) (k + 1) (valL (kv ++ [(v1, v2)])) := by
              refine own2_mk (Nat.zero_le _) hroom HB4.out.1 (by simp [HLK.out]) ?_ (fun i x hx => ?_)
              · rw [HS6.out]
                refine Blk.sets kb _ _ _ ?_
                obtain ⟨cu, q1, q2⟩ := HB4.out.2.2.1
                exact ⟨cu, (HWW.out.2.2.2.2 kb lkb).trans q1, q2⟩
              · rw [HS6.out]
                by_cases hik : i < k
                · rw [List.getElem?_append_left (by rw [HLK.out]; exact hik)] at hx
                  obtain ⟨q1, q2⟩ := HB4.out.2.2.2 i x hx
                  rw [World.cell?_setCells_out kb _ _ _ _ (fun _ _ => Or.inl (by show i * 2 < 0 + k * 2; omega)), World.cell?_setCells_out kb _ _ _ _ (fun _ _ => Or.inl (by show i * 2 + 1 < 0 + k * 2; omega))]
                  simp only [World.cell?] at q1 q2 ⊢
                  rw [HWW.out.2.2.2.2 kb lkb]; exact ⟨q1, q2⟩
                · have hik2 : i = k := by
                    have := (List.getElem?_eq_some_iff.1 hx).1
                    simp [HLK.out] at this
                    omega
                  subst hik2
                  rw [List.getElem?_append_right (by rw [HLK.out]; exact Nat.le_refl _), HLK.out, Nat.sub_self] at hx
                  have hxe : x = (v1, v2) := by
                    have : some (v1, v2) = some x := hx
                    injection this with this; exact this.symm
                  subst hxe
                  have s0 := World.cell?_setCells_in kb [.int .i64 (v1 : Int), .int .i64 v2] (0 + i * 2) ((wc.alloc (.cells #[.int .i64 (v1 : Int), .int .i64 v2] 149)).drew) (fun t ht => (HWW.out.2.2.2.1 t ht).1) 0 (by simp)
                  have s1 := World.cell?_setCells_in kb [.int .i64 (v1 : Int), .int .i64 v2] (0 + i * 2) ((wc.alloc (.cells #[.int .i64 (v1 : Int), .int .i64 v2] 149)).drew) (fun t ht => (HWW.out.2.2.2.1 t ht).1) 1 (by simp)
                  rw [show (0 + i * 2 + 0) = i * 2 by omega] at s0
                  rw [show (0 + i * 2 + 1) = i * 2 + 1 by omega] at s1
                  exact ⟨s0, s1⟩
            have hG6 : Only (fun x => x = eb ∨ x = ob ∨ (Value.slice (some ⟨kb, 0, none⟩) k c).ownBlock = some x) w w6 := by
              rw [HS6.out]
              exact only_sets kb (Or.inr (Or.inr rfl)) _ _ (KO4.out.then0 HWW.out.2.2.1)
            refine ⟨rfl, .slice (some ⟨kb, 0, none⟩) (k + 1) c, HE6.out.upd 31 _, own_of HO4.out (fun x h => ?_), ?_, only_setCell hG6 (Or.inl (Or.inl rfl)) _, Or.inl rfl⟩
            · have hxo : x = ob := by injection h with h; exact h.symm
              subst hxo
              exact (Below.heap_setCell _ _ _ _ oe).trans ((HK6.out x (fun e => hkbo e.symm)).trans (HWW.out.2.2.2.2 x (own_ty HO4.out x rfl).2.1))
            · rw [HKK.out, List.length_append, HLK.out]
              exact own_of hOO (fun x h => Below.heap_setCell _ _ _ _ (own_ne hOO HE6.out (by decide) x h))
end Go.Proofs.YtnjiinbhbjpfkaaGreatDoor
namespace Go.Proofs.YtnjiinbhbjpfkaaGreatDoor.F
open Go.RowKit
theorem rows_ev {s : Pl} {g : Geo} (l : List Evt) (a b : Nat) (_ : rowx a) (h2 : a = 4 ∨ a = 5 ∨ a = 10 ∨ a = 12 ∨ b = 0) (h : ¬ (a = 9 ∧ b = 0)) : rlen { s with ev := l } a b = rlen s a b ∧ rcon { s with ev := l } g a b = rcon s g a b := by
  have e : a ≠ 9 := by omega
  exact ⟨by unfold rlen; simp only [if_neg e], by unfold rcon; simp only [if_neg e]⟩
theorem adB_slice (a : Option Addr) (n c k : Nat) : (Value.slice a n c).ownBlock = some k ↔ adB a = some k := by rw [own_adB]
def Pl.told (s : Pl) (kind t : Nat) (x : Int) : Pl := { s with ev := s.ev ++ [(kind, t, x)] }
theorem tellR {p : Prm} {s : Pl} {g : Geo} {w : World} {t : Nat} (kind : Nat) (x : Int) (h : Rep p s g w) (ht : isT s t) (hn : s.ev.length ≤ 100000) :
    Calls Tryz.prog 173 #[P0 p.eb, .int .i64 kind, P0 (g.tb t), .int .i64 x] w fun e w' => e = .returned (.tuple #[]) ∧ ∃ r, Tr p s g w (s.told kind t x) (g.at 9 0 r) w' := by
  have hv : vld s 9 0 0 = true := vld_0 (by omega)
  have hr := h.row (x := 9) (y := 0) (by unfold rowx; omega) hv
  refine (tellM p.eb (g.tb t) kind t x (g.ro 9 0).1 s.ev.length (g.ro 9 0).2 s.ev (engE p s g) (tskE p s g t) w h.E rfl (h.tk ht) rfl hr hn).mono ?_
  rintro e w' ⟨rfl, gb, c, h1, h2, h3, h4⟩
  have hl : rlen (s.told kind t x) 9 0 = s.ev.length + 1 := by show (s.ev ++ [(kind, t, x)]).length = _; rw [List.length_append]; rfl
  refine ⟨rfl, (some ⟨gb, 0, none⟩, c), h.engrow (j0 := 43) (by omega) hv (by decide) rfl rfl rfl rfl rfl rfl rfl (fun a b c d e => rows_ev _ a b c d e) ?_ ?_ (h3.mono (fun k hk _ => ?_)) (fun k hk => ?_)⟩
  · rw [hl]; exact h2
  · rw [hl]; exact h1
  · rw [adB_slice] at hk; exact hk
  · have e : gb = k := by injection hk
    subst e
    rw [adB_slice] at h4; exact h4
def Frm.set (f : Frm) (a : Nat) (v : B.V) : Frm := { f with R := B.set f.R a v }
theorem fb_rb {p : Prm} {s : Pl} {g : Geo} {w : World} (h : Rep p s g w) {t i : Nat} (ht : isT s t) (hi : i < (s.T t).fr.length) : g.fb t i ≠ g.rb t i := by
  obtain ⟨cu, h2, _⟩ := h.rg ht hi
  exact fun e => cells_ne h2 (h.fr ht hi) (by decide) e.symm
theorem setR {p : Prm} {s : Pl} {g : Geo} {w : World} {t i a : Nat} (op b c tb eb : Nat) (v : B.V) (h : Rep p s g w) (ht : isT s t) (hi : i < (s.T t).fr.length) (ha : a < p.rg (frAt s t i).f) :
    Calls Tryz.prog 149 #[stepV op a b c (g.fb t i) tb eb, vA v] w fun e w' => e = .returned (.tuple #[]) ∧ Tr p s g w (s.setF t i ((frAt s t i).set a v)) g w' := by
  refine (set_any op a b c (g.fb t i) tb eb _ _ _ _ _ _ (frAt s t i).R v w (h.fr ht hi) (h.rg ht hi) ha).mono ?_
  rintro e w' ⟨rfl, hg, hF⟩
  refine ⟨rfl, h.frm ht hi ?_ hF (only_grown hg (Or.inr rfl))⟩
  exact grown_heap hg (h.fr ht hi) (by intro e; injection e with e; exact fb_rb h ht hi e)
theorem frR {p : Prm} {s : Pl} {g : Geo} {w w' : World} {t i : Nat} {f : Frm} (h : Rep p s g w) (ht : isT s t) (hi : i < (s.T t).fr.length) (hf : f.f = (frAt s t i).f) (hb : f.bk = (frAt s t i).bk) (hF : Fr w' (g.fb t i) (p.cb (frAt s t i).f) (p.len (frAt s t i).f) f.nx (g.rb t i) (p.rg (frAt s t i).f) (bkV p g t i (frAt s t i).bk) f.R) (hO : Only (fun k => k = g.fb t i ∨ k = g.rb t i) w w') : Tr p s g w (s.setF t i f) g w' := by
  refine h.frm ht hi ?_ ?_ hO
  · unfold frO; rw [hf, hb]; exact hF.1
  · rw [hf]; exact hF.2.1
theorem Rep.Fr {p : Prm} {s : Pl} {g : Geo} {w : World} {t i : Nat} (h : Rep p s g w) (ht : isT s t) (hi : i < (s.T t).fr.length) : Fr w (g.fb t i) (p.cb (frAt s t i).f) (p.len (frAt s t i).f) (frAt s t i).nx (g.rb t i) (p.rg (frAt s t i).f) (bkV p g t i (frAt s t i).bk) (frAt s t i).R := ⟨h.fr ht hi, h.rg ht hi, fb_rb h ht hi⟩
theorem row_val {w : World} {base size n : Nat} {e : TypeId} {v : Value} {xs : List Value} (h : w.ownsRow base e size v n xs) : ∃ a c, v = .slice a n c := by
  rcases h.2 with ⟨h1, h2⟩ | ⟨g, c, cur, h1, _⟩
  · exact ⟨none, 0, by rw [h1, h2]⟩
  · exact ⟨_, _, h1⟩
def Pl.keep (s : Pl) (j : Nat) (v : B.V) : Pl := { s with out := s.out.set j v, kp := keptL s.kp v }
theorem rows_kp {s : Pl} {g : Geo} (j : Nat) (v : B.V) (a b : Nat) (_ : rowx a) (h2 : a = 4 ∨ a = 5 ∨ a = 10 ∨ a = 12 ∨ b = 0) (h : ¬ (a = 8 ∧ b = 0)) : rlen (s.keep j v) a b = rlen s a b ∧ (¬ (a = 7 ∧ b = 0) → rcon (s.keep j v) g a b = rcon s g a b) := by
  have e : a ≠ 8 := by omega
  by_cases e7 : a = 7
  · subst e7
    refine ⟨?_, fun h => absurd ⟨rfl, by omega⟩ h⟩
    show (s.out.set j v).length = s.out.length
    exact List.length_set
  · exact ⟨by unfold rlen Pl.keep; simp only [if_neg e, if_neg e7], fun _ => by unfold rcon Pl.keep; simp only [if_neg e, if_neg e7]⟩
theorem keepR {p : Prm} {s : Pl} {g : Geo} {w : World} {j : Nat} (v : B.V) (h : Rep p s g w) (hj : j < s.out.length) (hm : s.out.length ≤ 1000000000) (hk : s.kp.length ≤ 1000000) :
    Calls Tryz.prog 211 #[P0 p.eb, .int .i64 ((j : Int) + 1), vA v] w fun e w' => e = .returned (.tuple #[]) ∧ ∃ r, Tr p s g w (s.keep j v) (g.at 8 0 r) w' := by
  have hv7 : vld s 7 0 0 = true := vld_0 (by omega)
  have hv8 : vld s 8 0 0 = true := vld_0 (by omega)
  have h7 := h.row (x := 7) (y := 0) (by unfold rowx; omega) hv7
  have h8 := h.row (x := 8) (y := 0) (by unfold rowx; omega) hv8
  have hl7 : rlen s 7 0 = s.out.length := rfl
  obtain ⟨ob, co, hob⟩ := row_form h7 (by rw [hl7]; omega)
  have hsl : sl s g 7 0 = .slice (some ⟨ob, 0, none⟩) s.out.length co := hob
  have hro : g.ro 7 0 = (some ⟨ob, 0, none⟩, co) := by
    unfold sl at hsl
    injection hsl with a b c
    exact Prod.ext a c
  have h7' : w.ownsRow 0 149 2 (.slice (some ⟨ob, 0, none⟩) s.out.length co) s.out.length (valL s.out) := by rw [← hsl]; exact h7
  refine (keepL p.eb ob s.out.length co j s.kp.length (g.ro 8 0).2 (g.ro 8 0).1 v s.out s.kp (engE p s g) w h.E hsl h7' rfl h8 hj hm hk (fun x hx => ?_)).mono ?_
  · rw [adB_slice] at hx
    exact h.ne (x := 8) (y := 0) (z := 0) (x' := 7) (y' := 0) (z' := 0) (by rw [bs_row p g (by unfold rowx; omega) hv8]; exact hx) (by rw [bs_row p g (by unfold rowx; omega) hv7, hro]; rfl) (by omega)
  rintro e w' ⟨rfl, vv, k1, k2, k3, k4, k5⟩
  obtain ⟨a', c', rfl⟩ := row_val k3
  refine ⟨rfl, (a', c'), h.engrow2 (x2 := 7) (y2 := 0) (j0 := 31) (by omega) hv8 (by omega) hv7 (by decide) rfl rfl rfl rfl rfl rfl rfl (fun a b c d e => rows_kp j v a b c d e) k1 k3 (fun _ => ?_) (k4.mono (fun k hk _ => ?_)) (fun k hk => ?_)⟩
  · rw [hsl]; exact k2
  · rw [adB_slice] at hk
    rw [hro]
    rcases hk with hk | hk | hk
    · exact Or.inl hk
    · exact Or.inr (Or.inr (by rw [hk]; rfl))
    · exact Or.inr (Or.inl hk)
  · rw [own_adB, own_adB] at k5
    rcases k5 with k5 | ⟨gb, k5, k6⟩
    · exact Or.inl (by rw [← k5]; exact hk)
    · rw [k5] at hk
      have e : gb = k := by injection hk
      exact Or.inr (by omega)
theorem LW.same {s s' : Pl} (h : LW s) (hn : s'.nt = s.nt) (hq : s'.q = s.q) (hw : ∀ u, (s'.T u).wh = (s.T u).wh) : LW s' := by
  refine ⟨fun t ht x y hx => ?_, fun x y hl t ht => ?_, fun x y hl => ?_, by rw [hn]; exact h.d⟩
  · rw [hw] at hx
    have := h.a t ((isT_nt hn).1 ht) x y hx
    exact ⟨(lnok_nt hn).2 this.1, by rw [hq]; exact this.2.1, this.2.2⟩
  · rw [hq] at ht
    have := h.b x y ((lnok_nt hn).1 hl) t ht
    exact ⟨(isT_nt hn).2 this.1, by rw [hw]; exact this.2⟩
  · rw [hq]; exact h.c x y ((lnok_nt hn).1 hl)
theorem out1_none {s : Pl} {t : Nat} (h : (s.T t).wh = none) : s.out1 t = s := by unfold Pl.out1; rw [h]
theorem out1_some {s : Pl} {t x y : Nat} (h : (s.T t).wh = some (x, y)) : s.out1 t = (s.setQ x y ((s.q x y).erase t)).setT t (s.T t).off := by unfold Pl.out1; rw [h]
theorem out1_wh (s : Pl) (t : Nat) : ((s.out1 t).T t).wh = none := by
  cases h : (s.T t).wh with
  | none => rw [out1_none h]; exact h
  | some xy => rw [out1_some (x := xy.1) (y := xy.2) h, setT_at]; rfl
theorem out1_T (s : Pl) {t u : Nat} (h : u ≠ t) : (s.out1 t).T u = s.T u := by
  cases hw : (s.T t).wh with
  | none => rw [out1_none hw]
  | some xy => rw [out1_some (x := xy.1) (y := xy.2) hw, setT_off _ _ h]; rfl
theorem LW.out1 {s : Pl} (h : LW s) {t : Nat} (ht : isT s t) : LW (s.out1 t) := by
  cases hw : (s.T t).wh with
  | none => rw [out1_none hw]; exact h
  | some xy =>
    obtain ⟨x, y⟩ := xy
    obtain ⟨hl, hm, hxt⟩ := h.a t ht x y hw
    rw [out1_some hw]
    have hn : ((s.setQ x y ((s.q x y).erase t)).setT t (s.T t).off).nt = s.nt := rfl
    refine ⟨fun u hu a b hab => ?_, fun a b hl' u hu => ?_, fun a b hl' => ?_, h.d⟩
    · have e : u ≠ t := fun e => by
        subst e
        rw [setT_at] at hab
        cases hab
      rw [setT_off _ _ e] at hab
      obtain ⟨k1, k2, k3⟩ := h.a u ((isT_nt hn).1 hu) a b hab
      refine ⟨(lnok_nt hn).2 k1, ?_, k3⟩
      show u ∈ (s.setQ x y ((s.q x y).erase t)).q a b
      by_cases e2 : a = x ∧ b = y
      · obtain ⟨rfl, rfl⟩ := e2
        rw [setQ_at]
        exact (List.mem_erase_of_ne e).2 k2
      · rw [setQ_off _ _ e2]; exact k2
    · have hu' : u ∈ (s.setQ x y ((s.q x y).erase t)).q a b := hu
      have hl2 := (lnok_nt hn).1 hl'
      by_cases e2 : a = x ∧ b = y
      · obtain ⟨rfl, rfl⟩ := e2
        rw [setQ_at] at hu'
        have hne := (h.c a b hl).mem_erase_iff.1 hu'
        rw [setT_off _ _ hne.1]
        exact h.b a b hl2 u hne.2
      · rw [setQ_off _ _ e2] at hu'
        have hb := h.b a b hl2 u hu'
        have e : u ≠ t := fun e => by
          subst e
          have h2 := hb.2
          rw [hw] at h2
          injection h2 with h2
          injection h2 with h2 h3
          exact e2 ⟨h2.symm, h3.symm⟩
        rw [setT_off _ _ e]
        exact hb
    · show ((s.setQ x y ((s.q x y).erase t)).q a b).Nodup
      have hl2 := (lnok_nt hn).1 hl'
      by_cases e2 : a = x ∧ b = y
      · obtain ⟨rfl, rfl⟩ := e2
        rw [setQ_at]
        exact (h.c a b hl).erase _
      · rw [setQ_off _ _ e2]; exact h.c a b hl2
def Pl.into0 (s : Pl) (x y t : Nat) (l : List Nat) : Pl := (s.setQ x y l).setT t ((s.T t).to x y)
def Pl.into (s : Pl) (x y t : Nat) (l : List Nat) : Pl := (s.out1 t).into0 x y t l
theorem join1_into (s : Pl) (x y t : Nat) : s.join1 x y t = s.into x y t ((s.out1 t).q x y ++ [t]) := rfl
theorem LW.into0 {s : Pl} (h : LW s) {x y t : Nat} {l : List Nat} (ht : isT s t) (hw : (s.T t).wh = none) (hl : lnok s x y) (hxt : ¬ (x = 5 ∧ y = t)) (hd : l.Nodup) (hm : ∀ u, u ∈ l ↔ (u ∈ s.q x y ∨ u = t)) : LW (s.into0 x y t l) := by
  have hn : (s.into0 x y t l).nt = s.nt := rfl
  have hq : ∀ a b, ¬ (a = x ∧ b = y) → (s.into0 x y t l).q a b = s.q a b := fun a b e => setQ_off s l e
  have hqx : (s.into0 x y t l).q x y = l := setQ_at s x y l
  have hTt : (s.into0 x y t l).T t = (s.T t).to x y := setT_at _ _ _
  have hT : ∀ u, u ≠ t → (s.into0 x y t l).T u = s.T u := fun u e => setT_off _ _ e
  refine ⟨fun u hu a b hab => ?_, fun a b hl' u hu => ?_, fun a b hl' => ?_, h.d⟩
  · by_cases e : u = t
    · subst e
      rw [hTt] at hab
      injection hab with hab
      injection hab with h1 h2
      subst h1 h2
      exact ⟨(lnok_nt hn).2 hl, by rw [hqx]; exact (hm u).2 (Or.inr rfl), hxt⟩
    · rw [hT u e] at hab
      obtain ⟨k1, k2, k3⟩ := h.a u ((isT_nt hn).1 hu) a b hab
      refine ⟨(lnok_nt hn).2 k1, ?_, k3⟩
      by_cases e2 : a = x ∧ b = y
      · obtain ⟨rfl, rfl⟩ := e2
        rw [hqx]; exact (hm u).2 (Or.inl k2)
      · rw [hq a b e2]; exact k2
  · have hl2 := (lnok_nt hn).1 hl'
    by_cases e2 : a = x ∧ b = y
    · obtain ⟨rfl, rfl⟩ := e2
      rw [hqx] at hu
      rcases (hm u).1 hu with h1 | rfl
      · have hb := h.b a b hl2 u h1
        have e : u ≠ t := fun e => by
          subst e
          have h2 := hb.2
          rw [hw] at h2
          cases h2
        rw [hT u e]; exact hb
      · refine ⟨ht, ?_⟩
        rw [hTt]; rfl
    · rw [hq a b e2] at hu
      have hb := h.b a b hl2 u hu
      have e : u ≠ t := fun e => by
        subst e
        have h2 := hb.2
        rw [hw] at h2
        cases h2
      rw [hT u e]; exact hb
  · have hl2 := (lnok_nt hn).1 hl'
    by_cases e2 : a = x ∧ b = y
    · obtain ⟨rfl, rfl⟩ := e2
      rw [hqx]; exact hd
    · rw [hq a b e2]; exact h.c a b hl2
theorem LW.into {s : Pl} (h : LW s) {x y t : Nat} {l : List Nat} (ht : isT s t) (hl : lnok s x y) (hxt : ¬ (x = 5 ∧ y = t)) (hd : l.Nodup) (hm : ∀ u, u ∈ l ↔ (u ∈ (s.out1 t).q x y ∨ u = t)) : LW (s.into x y t l) :=
  (h.out1 ht).into0 ((isT_nt (out1_nt s t)).2 ht) (out1_wh s t) ((lnok_nt (out1_nt s t)).2 hl) hxt hd hm
theorem LW.out {s : Pl} (h : LW s) {x y t : Nat} (hl : lnok s x y) (hw : (s.T t).wh ≠ some (x, y)) : t ∉ s.q x y := fun hm => hw (h.b x y hl t hm).2
theorem nodup_snoc {l : List Nat} {t : Nat} (h : l.Nodup) (ht : t ∉ l) : (l ++ [t]).Nodup := by
  rw [List.nodup_append]
  refine ⟨h, by simp, fun a ha b hb => ?_⟩
  simp at hb
  subst hb
  exact fun e => ht (e ▸ ha)
theorem LW.join1 {s : Pl} (h : LW s) {x y t : Nat} (ht : isT s t) (hl : lnok s x y) (hxt : ¬ (x = 5 ∧ y = t)) : LW (s.join1 x y t) := by
  have h1 := h.out1 ht
  have hl1 := (lnok_nt (out1_nt s t)).2 hl
  exact h.into ht hl hxt (nodup_snoc (h1.c x y hl1) (h1.out hl1 (by rw [out1_wh]; intro e; cases e))) (fun u => by simp)
theorem join1_nt (s : Pl) (x y t : Nat) : (s.join1 x y t).nt = s.nt := out1_nt s t
theorem join1_T (s : Pl) {x y t u : Nat} (h : u ≠ t) : (s.join1 x y t).T u = s.T u := by
  rw [join1_into]
  exact (setT_off _ _ h).trans (out1_T s h)
theorem join1_fr (s : Pl) (x y t u : Nat) : ((s.join1 x y t).T u).fr = (s.T u).fr := by
  by_cases e : u = t
  · subst e
    show (((((s.out1 u).setQ x y _).setT u _).T u).fr) = _
    rw [setT_at]
    exact out1_fr s u u
  · rw [join1_T s e]
theorem join1_at (s : Pl) (x y t : Nat) : (s.join1 x y t).T t = ((s.out1 t).T t).to x y := setT_at _ _ _
theorem join1_wh (s : Pl) (x y t : Nat) : ((s.join1 x y t).T t).wh = some (x, y) := by rw [join1_at]; rfl
theorem frAt_fr {s s' : Pl} {t i : Nat} (h : (s'.T t).fr = (s.T t).fr) : frAt s' t i = frAt s t i := by unfold frAt; rw [h]
def WW (p : Prm) (s : Pl) : Prop := ∀ t, isT s t → ∀ x y, (s.T t).wh = some (x, y) → (x = 4 ∨ x = 5) → ∃ k, (s.T t).lf = some k ∧ (s.T t).fr ≠ [] ∧ k.2.1 < p.rg (frAt s t ((s.T t).fr.length - 1)).f
def topN (s : Pl) (t : Nat) : Nat := (s.T t).fr.length - 1
def Pl.woke (s : Pl) (t : Nat) (v : B.V) : Pl := match (s.T t).lf with
  | none => s
  | some k => (s.setF t (topN s t) ((frAt s t (topN s t)).set k.2.1 v)).join1 2 0 t
theorem setF_T (s : Pl) {t i u : Nat} (f : Frm) (h : u ≠ t) : (s.setF t i f).T u = s.T u := setT_off _ _ h
theorem setF_wh (s : Pl) (t i u : Nat) (f : Frm) : ((s.setF t i f).T u).wh = (s.T u).wh ∧ ((s.setF t i f).T u).lf = (s.T u).lf ∧ ((s.setF t i f).T u).run = (s.T u).run ∧ ((s.setF t i f).T u).till = (s.T u).till ∧ ((s.setF t i f).T u).fr.length = (s.T u).fr.length := by
  by_cases e : u = t
  · subst e
    unfold Pl.setF
    rw [setT_at]
    exact ⟨rfl, rfl, rfl, rfl, List.length_set⟩
  · rw [setF_T s f e]
    exact ⟨rfl, rfl, rfl, rfl, rfl⟩
theorem LW.setF {s : Pl} (h : LW s) (t i : Nat) (f : Frm) : LW (s.setF t i f) := h.same rfl rfl (fun u => (setF_wh s t i u f).1)
theorem woke_T (s : Pl) {t u : Nat} (v : B.V) (h : u ≠ t) : (s.woke t v).T u = s.T u := by
  unfold Pl.woke
  split
  · rfl
  · rw [join1_T _ h, setF_T _ _ h]
theorem woke_nt (s : Pl) (t : Nat) (v : B.V) : (s.woke t v).nt = s.nt := by
  unfold Pl.woke
  split
  · rfl
  · rw [join1_nt]; rfl
theorem woke_some {s : Pl} {t : Nat} {k : Nat × Nat × Nat × Nat} (v : B.V) (h : (s.T t).lf = some k) : s.woke t v = (s.setF t (topN s t) ((frAt s t (topN s t)).set k.2.1 v)).join1 2 0 t := by unfold Pl.woke; rw [h]
theorem LW.woke {s : Pl} (h : LW s) {t : Nat} (ht : isT s t) (v : B.V) : LW (s.woke t v) := by
  unfold Pl.woke
  split
  · exact h
  · exact (h.setF t _ _).join1 ht (Or.inl ⟨rfl, rfl⟩) (by omega)
theorem WW.woke {p : Prm} {s : Pl} (h : WW p s) {t : Nat} (v : B.V) (hl : (s.T t).lf ≠ none) : WW p (s.woke t v) := by
  intro u hu x y hx hxy
  by_cases e : u = t
  · subst e
    exfalso
    unfold Pl.woke at hx
    split at hx
    · rename_i h0; exact hl h0
    · rw [join1_wh] at hx
      injection hx with hx
      injection hx with hx _
      omega
  · rw [woke_T s v e] at hx ⊢
    have := h u ((isT_nt (woke_nt s t v)).1 hu) x y hx hxy
    rw [frAt_fr (s := s) (by rw [woke_T s v e])]
    exact this
theorem wokeR {p : Prm} {s : Pl} {g : Geo} {w : World} {t : Nat} {k : Nat × Nat × Nat × Nat} (v : B.V) (h : Rep p s g w) (hW : LW s) (ht : isT s t) (hk : (s.T t).lf = some k) (hfr : (s.T t).fr ≠ []) (ha : k.2.1 < p.rg (frAt s t (topN s t)).f) (hne : (s.T t).wh ≠ some (2, 0)) :
    Calls Tryz.prog 207 #[vA v, P0 (g.sx t)] w fun e w' => e = .returned (.tuple #[]) ∧ ∃ r, Tr p s g w (s.woke t v) (g.at 2 0 r) w' := by
  have hlen : (s.T t).fr.length ≠ 0 := fun e => hfr (List.length_eq_zero_iff.1 e)
  have hi : topN s t < (s.T t).fr.length := by unfold topN; omega
  refine wokeL k.1 k.2.1 k.2.2.1 k.2.2.2 (g.fb t (topN s t)) (g.tb t) p.eb (g.sx t) _ _ _ _ _ _ (frAt s t (topN s t)).R v (fun w2 => ∃ r, Tr p s g w (s.woke t v) (g.at 2 0 r) w2) w (h.sx ht hk) (h.fr ht hi) (h.rg ht hi) ha h.E.lt ?_
  intro w1 hg1 hF1
  have h1 : Tr p s g w (s.setF t (topN s t) ((frAt s t (topN s t)).set k.2.1 v)) g w1 :=
    h.frm ht hi (grown_heap hg1 (h.fr ht hi) (by intro e; injection e with e; exact fb_rb h ht hi e)) hF1 (only_grown hg1 (Or.inr rfl))
  refine (joinR (x := 2) (y := 0) h1.r (hW.setF _ _ _) (Or.inl ⟨rfl, rfl⟩) ht (by omega) (by rw [(setF_wh s t _ t _).1]; exact hne)).mono ?_
  rintro e w2 ⟨rfl, r, h2⟩
  refine ⟨rfl, r, ?_⟩
  rw [woke_some v hk]
  exact h1.trans h2
theorem tskE_at {p : Prm} (s : Pl) (g : Geo) {x y t : Nat} (r : Option Addr × Nat) (h : ¬ (x = 5 ∧ y = t)) (h12 : x ≠ 12) : tskE p s (g.at x y r) t = tskE p s g t := by
  funext j
  unfold tskE sl
  rw [at_off g r (a := 12) (b := t) (fun e => h12 e.1.symm), at_off g r (a := 5) (b := t) (fun e => h ⟨e.1.symm, e.2.symm⟩)]
  rfl
def Pl.wait (s : Pl) (x y t : Nat) (k : Nat × Nat × Nat × Nat) : Pl := (s.join1 x y t).setT t (((s.join1 x y t).T t).lft k)
theorem waitR {p : Prm} {s : Pl} {g : Geo} {w : World} {x y t : Nat} (k : Nat × Nat × Nat × Nat) (h : Rep p s g w) (hW : LW s) (ht : isT s t) (hl : lnok s x y) (hxt : ¬ (x = 5 ∧ y = t)) (hwh : (s.T t).wh = none) :
    Calls Tryz.prog 171 #[stepV k.1 k.2.1 k.2.2.1 k.2.2.2 (g.fb t (topN s t)) (g.tb t) p.eb, Pt (lnB p g x y) (lnO x y)] w fun e w' => e = .returned (.tuple #[]) ∧ ∃ g', Tr p s g w (s.wait x y t k) g' w' := by
  refine (waitL k.1 k.2.1 k.2.2.1 k.2.2.2 (g.fb t (topN s t)) (g.tb t) p.eb (lnB p g x y) (lnO x y) (tskE p (s.join1 x y t) g t) (fun w2 => ∃ r, Tr p s g w (s.join1 x y t) (g.at x y r) w2 ∧ ¬ Mine p (s.join1 x y t) (g.at x y r) w.heap.size) w ?_).mono ?_
  · intro w1 hg1 hb1
    have h1 := h.kept hg1
    have hz := hg1.size
    refine (joinR h1 hW hl ht hxt (by rw [hwh]; intro e; cases e)).mono ?_
    rintro e w2 ⟨rfl, r, h2⟩
    have hT := h2.r.tk (t := t) ((isT_nt (join1_nt s x y t)).2 ht)
    rw [tskE_at _ _ r hxt (by have := lnok_le hl; omega)] at hT
    have ho := h2.other hb1 (fun hm => by have := h.lt hm; omega)
    exact ⟨rfl, hT, ho.1, r, h2.ahead hg1, ho.2⟩
  · rintro e w' ⟨rfl, w2, ⟨r, h2, hnm⟩, hT, hb, rfl⟩
    have ht2 : isT (s.join1 x y t) t := (isT_nt (join1_nt s x y t)).2 ht
    refine ⟨rfl, (g.at x y r).left t w.heap.size, h2.left (b := w.heap.size) (k4 := k) ht2 ?_ ?_ hnm (Nat.le_refl _) (only_setCell (S := fun k => k = g.tb t) (only_refl _ _) (Or.inl rfl) _)⟩
    · rw [tskE_at _ _ r hxt (by have := lnok_le hl; omega)]
      exact hT.upd 4 _
    · have hlen : ((s.join1 x y t).T t).fr.length = (s.T t).fr.length := by rw [join1_fr]
      rw [hlen, Below.heap_setCell _ _ _ _ (by
        show w.heap.size ≠ g.tb t
        have := (h.tk ht).lt
        omega)]
      exact hb
end Go.Proofs.YtnjiinbhbjpfkaaGreatDoor.F
namespace Go.Proofs.YtnjiinbhbjpfkaaGreatDoor
open Go.RowKit
def Lbx (w : World) (xb tb : Nat) (v : B.V) : Prop := w.heap[xb]? = some (.cells #[P0 tb] 155 (0, 0)) ∧ w.heap[xb + 1]? = some (.cells #[.int .i64 (v.1 : Int), .int .i64 v.2] 149 (0, 0))
set_option maxRecDepth 100000 in
set_option maxHeartbeats 4000000 in
theorem leaveL (eb tb kind t n c : Nat) (x : Int) (v : B.V) (ad : Option Addr) (S1 S3 : World → Prop) (S2 : Value → World → Prop) (I : List Nat → World → Prop) (sx : Nat → Nat) (xs : List Nat) (w : World)
    (H1 : ∀ w1, w.grownBy w1 none → Lbx w1 w.heap.size tb v → Calls Tryz.prog 133 #[P0 tb] w1 fun e w2 => e = .returned (.tuple #[]) ∧ S1 w2)
    (hS1 : ∀ w1, S1 w1 → Lbx w1 w.heap.size tb v ∧ (∃ Tk, Full w1 tb 160 7 7 Tk) ∧ (w1.setCell ⟨tb, 2, none⟩ (.bool false)).cell? ⟨eb, 29, none⟩ = some (.slice ad n c) ∧ eb < w1.heap.size)
    (H2 : ∀ w1, S1 w1 → Calls Tryz.prog 209 #[.slice ad n c, Fv 210 #[P0 w.heap.size]] (w1.setCell ⟨tb, 2, none⟩ (.bool false)) fun e w2 => ∃ a' n' c', e = .returned (.slice a' n' c') ∧ S2 (.slice a' n' c') w2)
    (hS2 : ∀ lv w2, S2 lv w2 → Lbx (w2.setCell ⟨eb, 29, none⟩ lv) w.heap.size tb v ∧ (∃ E, Full w2 eb 144 44 44 E) ∧ (w2.setCell ⟨eb, 29, none⟩ lv).cell? ⟨tb, 0, none⟩ = some (.int .i64 (t : Int)) ∧ tb < w2.heap.size)
    (H3 : ∀ lv w2 w3, S2 lv w2 → (w2.setCell ⟨eb, 29, none⟩ lv).grownBy w3 none → Calls Tryz.prog 211 #[P0 eb, .int .i64 (t : Int), vA v] w3 fun e w4 => e = .returned (.tuple #[]) ∧ S3 w4)
    (hS3 : ∀ w3, S3 w3 → Lbx w3 w.heap.size tb v)
    (H4 : ∀ w3, S3 w3 → Calls Tryz.prog 173 #[P0 eb, .int .i64 kind, P0 tb, .int .i64 x] w3 fun e w4 => e = .returned (.tuple #[]) ∧ I xs w4)
    (hI : ∀ ys w4, I ys w4 → Lbx w4 w.heap.size tb v ∧ tb < w4.heap.size ∧ (∀ w5, w4.grownBy w5 none → I ys w5) ∧ (ys = [] → ∃ a' c', w4.cell? ⟨tb, 6, none⟩ = some (.slice a' 0 c')) ∧ (∀ y r, ys = y :: r → ∃ q c', w4.cell? ⟨tb, 6, none⟩ = some (.slice (some ⟨q, 0, none⟩) (r.length + 1) c') ∧ w4.cell? ⟨q, 0, none⟩ = some (P0 y) ∧ w4.cell? ⟨y, 4, none⟩ = some (Fv 207 #[P0 (sx y)]) ∧ y < w4.heap.size))
    (HL : ∀ y r w4, I (y :: r) w4 → Calls Tryz.prog 207 #[vA v, P0 (sx y)] w4 fun e w5 => e = .returned (.tuple #[]) ∧ I r w5) :
    Calls Tryz.prog 175 #[P0 eb, P0 tb, vA v, .int .i64 kind, .int .i64 x] w fun e w' => e = .returned (.tuple #[]) ∧ I [] w' := by
  have K1 := hid H1
  have KS1 := hid hS1
  have K2 := hid H2
  have KS2 := hid hS2
  have K3 := hid H3
  have KS3 := hid hS3
  have K4 := hid H4
  have KI := hid hI
  have KL := hid HL
  clear H1 hS1 H2 hS2 H3 hS3 H4 hI HL
  obtain ⟨v1, v2⟩ := v
  go_enter Tryz.func175, Tryz.ntmps175
  go_wp2_with fail
  generalize hw1 : (w.alloc (.cells #[P0 tb] 155)).alloc (.cells #[.int .i64 (v1 : Int), .int .i64 v2] 149) = w1
  have hg1 : w.grownBy w1 none := by rw [← hw1]; exact grown_alloc (grown_alloc (grown_refl _ _) _) _
  have hb1 : Lbx w1 w.heap.size tb (v1, v2) := by
    rw [← hw1]
    constructor
    · rw [Below.heap_alloc _ _ _ (by simp)]; exact heap_alloc_new _ _
    · have h1 := heap_alloc_new (w.alloc (.cells #[P0 tb] 155)) (.cells #[.int .i64 (v1 : Int), .int .i64 v2] 149)
      have h2 : (w.alloc (.cells #[P0 tb] 155)).heap.size = w.heap.size + 1 := by simp
      rw [h2] at h1
      exact h1
  have KX := hid (K1.out w1 hg1 hb1)
  clear hw1 hg1 hb1
  refine KX.out.mono ?_
  rintro e w2 ⟨rfl, hs1⟩
  obtain ⟨hb2, ⟨Tk, hT⟩, c29, le2⟩ := KS1.out w2 hs1
  have x0 : w2.cell? ⟨w.heap.size, 0, none⟩ = some (P0 tb) := by simp [World.cell?, hb2.1]
  have lx2 := heap_lt hb2.1
  obtain ⟨t2, z2⟩ := hT.cells 2 (by omega)
  generalize Tk 2 = y2 at t2
  have lt2 := hT.lt
  have HS1 := hid hs1
  clear hs1 hb2 hT
  go_wp2_with fail
  refine (K2.out w2 HS1.out).mono ?_
  rintro e w3 ⟨a', n', c', rfl, hs2⟩
  obtain ⟨hb3, ⟨E3, hE3⟩, c30, lt3⟩ := KS2.out _ w3 hs2
  obtain ⟨d29, f29⟩ := hE3.cells 29 (by omega)
  generalize E3 29 = y29 at d29
  have le3 := hE3.lt
  have HS2 := hid hs2
  have HB3 := hid hb3
  clear hs2 hE3 hb3 x0 lx2 t2 z2
  go_wp2_with fail
  generalize hw4 : w3.setCell ⟨eb, 29, none⟩ (.slice a' n' c') = w4 at *
  have hz4 : w4.heap.size = w3.heap.size := by rw [← hw4]; simp [World.setCell]
  have x0 : w4.cell? ⟨w.heap.size, 0, none⟩ = some (P0 tb) := by simp [World.cell?, HB3.out.1]
  have x1 : w4.cell? ⟨w.heap.size + 1, 0, none⟩ = some (.int .i64 (v1 : Int)) := by simp [World.cell?, HB3.out.2]
  have x2 : w4.cell? ⟨w.heap.size + 1, 1, none⟩ = some (.int .i64 v2) := by simp [World.cell?, HB3.out.2]
  have lx4 := heap_lt HB3.out.1
  have lx5 := heap_lt HB3.out.2
  have lt4 : tb < w4.heap.size := by omega
  have K3' : Hid (∀ w5, w4.grownBy w5 none → Calls Tryz.prog 211 #[P0 eb, .int .i64 (t : Int), vA (v1, v2)] w5 fun e w6 => e = .returned (.tuple #[]) ∧ S3 w6) := fun w5 hg => K3.out _ w3 w5 HS2.out (by rw [hw4]; exact hg)
  clear hw4 hz4 d29 f29 le3 lt3
  go_wp2_with fail
  go_cut [] (fun wx => Hid (S3 wx))
  case first =>
    go_region_with (go_at_call 211; refine (K3'.out w4.drew (grown_drew (grown_refl _ _))).mono ?_; rintro e w6 ⟨rfl, hs3⟩; have HS3 := hid hs3; clear hs3)
    all_goals
      go_wp2_with fail
      go_meet
      case rel => exact HS3
  case rest =>
    have HS3 : Hid (S3 wc) := hcut
    have hb5 := KS3.out wc HS3.out
    have q0 : wc.cell? ⟨w.heap.size, 0, none⟩ = some (P0 tb) := by simp [World.cell?, hb5.1]
    have lq := heap_lt hb5.1
    clear hb5
    go_wp2_with fail
    refine (K4.out wc HS3.out).mono ?_
    rintro e w6 ⟨rfl, hi6⟩
    have HI6 := hid hi6
    clear hi6 q0 lq x0 x1 x2
    go_wp2_with fail
    go_loopg [] (xs.length) (fun n wr => ∃ ys : List Nat, ys.length = n ∧ Hid (I ys wr))
    case atStart => exact ⟨xs, rfl, HI6⟩
    case round =>
      obtain ⟨ys, hlen, rI⟩ := hrel
      obtain ⟨hb7, lt7, hgr, hnone, hsome⟩ := KI.out ys wr rI.out
      have q0 : wr.cell? ⟨w.heap.size, 0, none⟩ = some (P0 tb) := by simp [World.cell?, hb7.1]
      have q1 : wr.cell? ⟨w.heap.size + 1, 0, none⟩ = some (.int .i64 (v1 : Int)) := by simp [World.cell?, hb7.2]
      have q2 : wr.cell? ⟨w.heap.size + 1, 1, none⟩ = some (.int .i64 v2) := by simp [World.cell?, hb7.2]
      have lq := heap_lt hb7.1
      have lq2 := heap_lt hb7.2
      have HGR := hid hgr
      clear hb7 hgr HI6
      cases ys with
      | nil =>
        obtain ⟨a2, c2, c6⟩ := hnone rfl
        have hE := empty_any tb 6 0 c2 a2 wr c6
        simp only [decide_true] at hE
        have HE := hid hE
        clear hE hnone hsome
        go_wp2_with fail
        refine HE.out.mono ?_
        rintro e w8 ⟨rfl, rfl⟩
        go_wp2_with fail
        go_end0
        exact ⟨rfl, rI.out⟩
      | cons y r =>
        obtain ⟨q, c2, c6, cq, c4, ly⟩ := hsome y r rfl
        have hE := empty_any tb 6 (r.length + 1) c2 (some ⟨q, 0, none⟩) wr c6
        have hd : decide ((r.length + 1 : Nat) = 0) = false := by simp
        rw [hd] at hE
        have HE := hid hE
        have HFF := hid (fun (w' : World) (h : w'.cell? ⟨tb, 6, none⟩ = some (.slice (some ⟨q, 0, none⟩) (r.length + 1) c2)) (h2 : w'.cell? ⟨q, 0, none⟩ = some (P0 y)) => first_any tb 6 r.length c2 q y w' h h2)
        have HLL := hid (fun (w' : World) (hg : wr.grownBy w' none) => KL.out y r w' (HGR.out w' hg))
        clear hE hd hnone hsome
        go_wp2_with fail
        refine HE.out.mono ?_
        rintro e w8 ⟨rfl, rfl⟩
        go_wp2_with fail
        go_region_with (first | (go_at_call 132; refine (HFF.out _ ?_ ?_).mono ?_; exact c6; exact cq; rintro e w9 ⟨rfl, rfl⟩) | (go_at_call 207; refine (HLL.out w8.drew (grown_drew (grown_refl _ _))).mono ?_; rintro e w9 ⟨rfl, hI9⟩; have HI9 := hid hI9; clear hI9))
        all_goals
          go_wp2_with fail
          go_roundg (r.length)
          case measure => first | omega | (simp at hlen; omega)
          case rel => exact ⟨r, rfl, HI9⟩
end Go.Proofs.YtnjiinbhbjpfkaaGreatDoor
