/-
  The machine: a turn.
-/
import Derived.Test.YtnjiinbhbjpfkaaGreatDoorGateW
import Derived.Defers
import Derived.Laws.LoneSync
namespace Go.Proofs.YtnjiinbhbjpfkaaGreatDoor.F
open Go.RowKit
theorem clr_bs {p : Prm} {s : Pl} {g : Geo} {x y z k : Nat} (h : (ob p s.clr (g.at 9 0 (none, 0)) x y z).bs k) : (ob p s g x y z).bs k ∧ ¬ (x = 9 ∧ y = 0 ∧ z = 0) := by
  by_cases hV : vld s x y z = true
  · rw [ob_v (show vld s.clr x y z = true from hV)] at h
    rw [ob_v hV]
    by_cases hx : rowx x
    · rw [obk_row hx] at h ⊢
      have h' : adB ((g.at 9 0 (none, 0)).ro x y).1 = some k := h
      by_cases e : x = 9 ∧ y = 0
      · rw [e.1, e.2, at_at] at h'
        cases h'
      · rw [at_off g _ e] at h'
        exact ⟨h', fun e' => e ⟨e'.1, e'.2.1⟩⟩
    · have hle := vld_le hV
      have hc : x = 0 ∨ x = 1 ∨ x = 11 ∨ x = 13 ∨ x = 14 ∨ x = 15 ∨ x = 16 ∨ x = 17 ∨ x = 18 := by unfold rowx at hx; omega
      rcases hc with rfl | rfl | rfl | rfl | rfl | rfl | rfl | rfl | rfl <;> exact ⟨h, by omega⟩
  · rw [ob_n (show ¬ vld s.clr x y z = true from hV)] at h
    exact h.elim
theorem clrR {p : Prm} {s : Pl} {g : Geo} {w : World} (h : Rep p s g w) : Tr p s g w s.clr (g.at 9 0 (none, 0)) (w.setCell ⟨p.eb, 43, none⟩ (.slice none 0 0)) := by
  refine h.engrow (s' := s.clr) (x := 9) (y := 0) (r := (none, 0)) (j0 := 43) (by omega) (vld_0 (by omega)) (by decide) rfl rfl rfl rfl rfl rfl rfl (fun a b c d e => rows_ev _ a b c d e) (h.E.upd 43 _) (World.ownsRow_nil _ _ _ _) (only_setCell (S := fun k => k = p.eb ∨ adB (g.ro 9 0).1 = some k) (only_refl _ _) (Or.inl (Or.inl rfl)) _) (fun k hk => ?_)
  cases hk
theorem setCR {p : Prm} {s : Pl} {g : Geo} {w : World} (h : Rep p s g w) (c : Int) : Tr p s g w (s.setC c) g (w.setCell ⟨p.eb, 28, none⟩ (.int .i64 c)) := by
  refine h.eng0 (s' := s.setC c) rfl rfl rfl rfl rfl (fun a b => ⟨rfl, rfl⟩) ?_ (only_setCell (S := fun k => k = p.eb) (only_refl _ _) (Or.inl rfl) _)
  refine (h.E.upd 28 _).congr (fun j hj => ?_)
  by_cases e : j = 28
  · subst e; rw [upd_at]; rfl
  · rw [upd_off _ _ _ _ e]
    unfold engE
    by_cases e1 : j < 28
    · rw [if_pos e1, if_pos e1]
    · rw [if_neg e1, if_neg e1, if_neg e, if_neg e]; rfl
def TurnOut (p : Prm) (s : Pl) (g : Geo) (w : World) (s' : Pl) (w' : World) (v : Value) : Prop :=
  ∃ g' ad c, v = .slice ad s'.ev.length c ∧ w'.ownsRow 0 48 3 (.slice ad s'.ev.length c) s'.ev.length (evT s'.ev) ∧ Tr p s g w s'.clr g' w' ∧ ∀ k, adB ad = some k → ¬ Mine p s'.clr g' k ∧ k < w'.heap.size
theorem turn_out {p : Prm} {s s' : Pl} {g g' : Geo} {w w' : World} (hT : Tr p s g w s' g' w') : TurnOut p s g w s' (w'.setCell ⟨p.eb, 43, none⟩ (.slice none 0 0)) (sl s' g' 9 0) := by
  have hr := hT.r.row (x := 9) (y := 0) (by unfold rowx; omega) (vld_0 (by omega))
  have hr' : w'.ownsRow 0 48 3 (.slice (g'.ro 9 0).1 s'.ev.length (g'.ro 9 0).2) s'.ev.length (evT s'.ev) := hr
  have hne : ∀ k, (Value.slice (g'.ro 9 0).1 s'.ev.length (g'.ro 9 0).2).ownBlock = some k → k ≠ p.eb := fun k hk => own_ne hr' hT.r.E (by decide) k hk
  refine ⟨g'.at 9 0 (none, 0), (g'.ro 9 0).1, (g'.ro 9 0).2, rfl, own_of hr' (fun k hk => Below.heap_setCell _ _ _ _ (hne k hk)), hT.trans (clrR hT.r), fun k hk => ⟨?_, ?_⟩⟩
  · rintro ⟨x, y, z, hb⟩
    obtain ⟨h1, h2⟩ := clr_bs hb
    have h9 : (ob p s' g' 9 0 0).bs k := by
      rw [bs_row p g' (by unfold rowx; omega) (vld_0 (by omega))]
      exact hk
    exact h2 (hT.r.i _ _ _ _ _ _ k h1 h9)
  · have := (own_ty hr' k (by rw [own_adB]; exact hk)).2.1
    simpa [World.setCell] using this
set_option maxRecDepth 100000 in
set_option maxHeartbeats 4000000 in
theorem engTurnR {p : Prm} {s : Pl} {g : Geo} {w : World} {ad0 : Option Addr} {n0 c0 : Nat} {l : List (Int × Nat)} (ticks : Int) (h : Rep p s g w) (hP : PW p) (hPI : PI p) (hO : Ok p s) (he : s.ev = []) (hn : s.nt + p.qn ≤ 500000000) (hqn : p.qn ≤ 50) (hwk : p.wk ≤ 50) (hin : ∀ x, x ∈ l → x.2 < 256)
    (H65 : ∀ s1 g1 w1, Tr p s g w s1 g1 w1 → Ok p s1 → Calls Tryz.prog 65 #[P0 p.eb, .slice ad0 n0 c0] w1 fun e w' => e = .returned (.tuple #[]) ∧ ∃ g', Tr p s1 g1 w1 (s1.recvs l) g' w') :
    Calls Tryz.prog 41 #[P0 p.eb, .int .i64 ticks, .slice ad0 n0 c0] w fun e w' => ∃ v s', e = .returned v ∧ turnR p s ticks l s' ∧ TurnOut p s g w s' w' v := by
  obtain ⟨c28, z28⟩ := h.E.cells 28 (by omega)
  have c28' : w.cell? ⟨p.eb, 28, none⟩ = some (.int .i64 s.clk) := c28
  have le := h.E.lt
  have HAF := hid (after_gen p.eb s.clk ticks w c28' hO.c0 hO.c1)
  have haft := B.aft_in (t := ticks) hO.c0 hO.c1
  have hC : Ok p (s.setC (B.aft s.clk ticks)) := hO.setC haft.1 haft.2
  obtain ⟨hR1, hQ1⟩ := recvs_ok l hin hC
  have hTC := setCR h (B.aft s.clk ticks)
  have H65' := hid (H65 _ _ _ hTC hC)
  have HTC := hid hTC
  have HOK := hid hR1
  have HQ := hid hQ1
  have HP := hid hP
  have HPI := hid hPI
  have HNN : Hid (s.nt + p.qn ≤ 500000000 ∧ s.ev = [] ∧ p.qn ≤ 50 ∧ p.wk ≤ 50) := ⟨hn, he, hqn, hwk⟩
  have HTR : Hid (∀ s', (if ((s.setC (B.aft s.clk ticks)).recvs l).lv ≠ [] ∧ ((s.setC (B.aft s.clk ticks)).recvs l).sp = false then ∃ s1, firstR p (((s.setC (B.aft s.clk ticks)).recvs l).wakes (((s.setC (B.aft s.clk ticks)).recvs l).q 3 0)) s1 ∧ s' = s1.works p else s' = (s.setC (B.aft s.clk ticks)).recvs l) → turnR p s ticks l s') := fun _ h => h
  clear c28 h hP hPI hO he hn hqn hwk hin H65 haft hC hR1 hQ1 hTC
  generalize hs1 : (s.setC (B.aft s.clk ticks)).recvs l = s1 at *
  generalize hcc : B.aft s.clk ticks = cc at *
  have HN1 : Hid (s1.nt = s.nt) := by rw [HQ.out.nt]; rfl
  have HE1 : Hid (s1.ev = []) := by rw [HQ.out.ev]; exact HNN.out.2.1
  clear hs1 hcc
  go_enter Tryz.func41, Tryz.ntmps41
  go_wp2_with fail
  refine HAF.out.mono ?_
  rintro e w1 ⟨rfl, rfl⟩
  go_wp2_with fail
  generalize hw2 : w1.setCell ⟨p.eb, 28, none⟩ (.int .i64 cc) = w2 at *
  clear hw2 c28' z28 HAF
  refine H65'.out.mono ?_
  rintro e w3 ⟨rfl, g3, hT3'⟩
  have hT3 := HTC.out.trans hT3'
  have le3 := hT3.r.E.lt
  have c29 : w3.cell? ⟨p.eb, 29, none⟩ = some (.slice (g3.ro 6 0).1 s1.lv.length (g3.ro 6 0).2) := hT3.r.E.cell 29 (by omega)
  have hlv := lives_any p.eb s1.lv.length (g3.ro 6 0).2 (g3.ro 6 0).1 w3 c29
  have c42 : w3.cell? ⟨p.eb, 42, none⟩ = some (.bool s1.sp) := hT3.r.E.cell 42 (by omega)
  obtain ⟨c43, z43⟩ := hT3.r.E.cells 43 (by omega)
  have c43' : w3.cell? ⟨p.eb, 43, none⟩ = some (.slice (g3.ro 9 0).1 s1.ev.length (g3.ro 9 0).2) := c43
  by_cases hrun : s1.lv ≠ [] ∧ s1.sp = false
  · have hd1 : decide (0 < s1.lv.length) = true := by
      have : s1.lv.length ≠ 0 := fun e => hrun.1 (List.length_eq_zero_iff.1 e)
      exact decide_eq_true (by omega)
    rw [hd1] at hlv
    rw [hrun.2] at c42
    have HLV := hid hlv
    have HRN := hid hrun
    have HT3 := hid hT3
    have HW := hid (wakesR hT3.r HOK.out)
    clear hlv hd1 hrun hT3 hT3' c29 c43 c43' z43
    go_wp2_with fail
    refine HLV.out.mono ?_
    rintro e w4 ⟨rfl, rfl⟩
    go_wp2_with fail
    refine HW.out.mono ?_
    rintro e w5 ⟨rfl, g5, hT5⟩
    obtain ⟨o5, q5⟩ := wakes_ok (s1.q 3 0) HOK.out rfl
    have HT5 := hid (HT3.out.trans hT5)
    have HRF := hid (runFirstR hT5.r HP.out HPI.out o5 (by rw [q5.nt, HN1.out]; exact HNN.out.1) HNN.out.2.2.1 (by rw [q5.ev, HE1.out]; simp))
    have HO5 : Hid (∀ s6, firstR p (s1.wakes (s1.q 3 0)) s6 → Ok p s6) := fun s6 h6 => (first_ok HPI.out o5 (by rw [q5.nt, HN1.out]; exact HNN.out.1) h6).1
    have le5 := hT5.r.E.lt
    clear hT5 o5 q5 HW HLV c42
    go_wp2_with fail
    refine HRF.out.mono ?_
    rintro e w6 ⟨rfl, s6, g6, hf6, hT6⟩
    have hT6' := HT5.out.trans hT6
    have le6 := hT6.r.E.lt
    have k2 : w6.cell? ⟨p.eb, 2, none⟩ = some (.int .i64 p.wk) := by
      rw [hT6.r.E.cell 2 (by omega)]
      show some (p.E0 2) = _
      rw [HP.out.e2]
    have k27 : w6.cell? ⟨p.eb, 27, none⟩ = some (P0 p.sb) := hT6.r.e27 HP.out
    have HT6 := hid hT6'
    have HF6 := hid hf6
    have HWO := hid (workR (hT6'.r.kept (grown_drew (grown_refl w6 none))) HP.out (HO5.out s6 hf6) HNN.out.2.2.2)
    have HO6 : Hid (Ok p s6) := HO5.out s6 hf6
    clear hT6 hT6' hf6 HRF HO5 HT5
    go_wp2_with fail
    go_cut [] from 30 to 38 (fun wx => Hid (∃ g7, Tr p s g w1 (s6.works p) g7 wx))
    case first =>
      go_region_with (go_at_call 69; refine HWO.out.mono ?_; rintro e w7 ⟨rfl, g7, hT7⟩; have HT7 : Hid (∃ g7, Tr p s g w1 (s6.works p) g7 w7) := ⟨g7, (HT6.out.kept (grown_drew (grown_refl w6 none))).trans hT7⟩; clear hT7)
      all_goals
        go_wp2_with fail
        go_meet
        case rel => exact HT7
    case rest =>
      have HT7 : Hid (∃ g7, Tr p s g w1 (s6.works p) g7 wc) := hcut
      obtain ⟨g7, hT7⟩ := HT7.out
      have HOUT := hid (turn_out hT7)
      obtain ⟨d43, z43⟩ := hT7.r.E.cells 43 (by omega)
      have d43' : wc.cell? ⟨p.eb, 43, none⟩ = some (.slice (g7.ro 9 0).1 (s6.works p).ev.length (g7.ro 9 0).2) := d43
      have le7 : p.eb < wc.heap.size := hT7.r.E.lt
      have HRES : Hid (turnR p s ticks l (s6.works p)) := HTR.out _ (by rw [if_pos HRN.out]; exact ⟨s6, HF6.out, rfl⟩)
      clear d43 hT7 HT7 hcut HTR HF6
      go_wp2_with fail
      go_ret
      exact ⟨_, s6.works p, rfl, HRES.out, HOUT.out⟩
  · have HOUT := hid (turn_out hT3)
    have HRES : Hid (turnR p s ticks l s1) := HTR.out _ (by rw [if_neg hrun])
    by_cases hlv0 : s1.lv.length = 0
    · have hd1 : decide (0 < s1.lv.length) = false := by rw [hlv0]; rfl
      rw [hd1] at hlv
      have HLV := hid hlv
      clear hlv hd1 hrun hT3 hT3' c29 c43 HTR c42
      go_wp2_with fail
      refine HLV.out.mono ?_
      rintro e w4 ⟨rfl, rfl⟩
      go_wp2_with fail
      go_ret
      exact ⟨_, s1, rfl, HRES.out, HOUT.out⟩
    · have hd1 : decide (0 < s1.lv.length) = true := decide_eq_true (by omega)
      have hsp : s1.sp = true := by
        cases hsp : s1.sp with
        | true => rfl
        | false => exact absurd ⟨fun e => hlv0 (by rw [e]; rfl), hsp⟩ hrun
      rw [hd1] at hlv
      rw [hsp] at c42
      have HLV := hid hlv
      clear hlv hd1 hrun hT3 hT3' c29 c43 HTR hsp
      go_wp2_with fail
      refine HLV.out.mono ?_
      rintro e w4 ⟨rfl, rfl⟩
      go_wp2_with fail
      go_ret
      exact ⟨_, s1, rfl, HRES.out, HOUT.out⟩
end Go.Proofs.YtnjiinbhbjpfkaaGreatDoor.F
namespace Go.Proofs.YtnjiinbhbjpfkaaGreatDoor
open Go.RowKit
theorem addr_add2 (a : Addr) (m n : Nat) : (a.add m).add n = a.add (m + n) := by
  unfold Addr.add
  by_cases h : m = 0
  · subst h; simp
  · by_cases h' : n = 0
    · subst h'; simp
    · rw [if_neg h', if_neg h, if_neg (by omega)]
      simp [Nat.add_assoc]
set_option maxRecDepth 100000 in
set_option maxHeartbeats 4000000 in
theorem receiveL (eb : Nat) (ad : Option Addr) (n c : Nat) (xs : List (Int × Nat)) (I : List (Int × Nat) → World → Prop) (w : World) (hI : I xs w) (hn : n = xs.length) (hn2 : n ≤ 1000000000) (ha : ad = none → xs = [])
    (HC : ∀ ys w1, I ys w1 → ∀ a, ad = some a → ∀ j x, xs[j]? = some x → w1.cell? (a.add (j * 2)) = some (.int .i64 x.1) ∧ w1.cell? (a.add (j * 2 + 1)) = some (.int .u8 (x.2 : Int)))
    (HG : ∀ ys w1 w2, I ys w1 → w1.grownBy w2 none → I ys w2)
    (HE : ∀ ys w1, I ys w1 → eb < w1.heap.size)
    (HS : ∀ x r w1, I (x :: r) w1 → 0 ≤ x.1 ∧ x.1 < 4 → Calls Tryz.prog 131 #[Pt eb (34 + x.1.toNat * 2), .int .u8 (x.2 : Int)] w1 fun e w' => e = .returned (.tuple #[]) ∧ I r w')
    (HN : ∀ x r w1, I (x :: r) w1 → ¬ (0 ≤ x.1 ∧ x.1 < 4) → I r w1) :
    Calls Tryz.prog 65 #[P0 eb, .slice ad n c] w fun e w' => e = .returned (.tuple #[]) ∧ I [] w' := by
  have KI := hid hI
  have KC := hid HC
  have KG := hid HG
  have KE := hid HE
  have KS := hid HS
  have KN := hid HN
  have KA := hid ha
  have HL := hid hn
  clear hI HC HG HE HS HN ha hn
  go_enter Tryz.func65, Tryz.ntmps65
  go_wp2_with fail
  go_loopw [10] (fun i wr => ∃ j : Nat, i = .int .i64 j ∧ j ≤ n ∧ Hid (I (xs.drop j) wr)) (fun i _ => n - (intOf i).toNat)
  case atStart => exact ⟨0, rfl, by omega, by show I (xs.drop 0) w; rw [List.drop_zero]; exact KI.out⟩
  case round =>
    obtain ⟨j, rfl, hj, rI⟩ := hrel
    have lr := KE.out _ _ rI.out
    by_cases hjn : j < n
    · obtain ⟨x, hx⟩ : ∃ x, xs[j]? = some x := ⟨_, List.getElem?_eq_getElem (by have := HL.out; omega)⟩
      obtain ⟨a, rfl⟩ : ∃ a, ad = some a := by
        cases ad with
        | none => rw [KA.out rfl] at hx; simp at hx
        | some a => exact ⟨a, rfl⟩
      obtain ⟨c0, c1⟩ := KC.out _ _ rI.out a rfl j x hx
      obtain ⟨hxl, hxe⟩ := List.getElem?_eq_some_iff.1 hx
      have hdr : xs.drop j = x :: xs.drop (j + 1) := by rw [← hxe]; exact List.drop_eq_getElem_cons hxl
      rw [hdr] at rI
      have hjn2 : (j : Int) < (n : Int) := by omega
      obtain ⟨z, b⟩ := x
      simp only at c0 c1
      rw [← addr_add2] at c1
      have c1' : wr.cell? ⟨(a.add (j * 2)).block, (a.add (j * 2)).off + 1, none⟩ = some (.int .u8 (b : Int)) := c1
      clear c1
      clear hx hxe hdr hxl
      by_cases hz : 0 ≤ z ∧ z < 4
      · obtain ⟨k, rfl⟩ : ∃ k : Nat, z = (k : Int) := ⟨z.toNat, by omega⟩
        have hk : k < 4 := by omega
        have HSS : Hid (∀ w1, wr.grownBy w1 none → Calls Tryz.prog 131 #[Pt eb (34 + k * 2), .int .u8 (b : Int)] w1 fun e w' => e = .returned (.tuple #[]) ∧ I (xs.drop (j + 1)) w') := fun w1 hg => by
          have h1 := KS.out _ _ w1 (KG.out _ _ _ rI.out hg) hz
          simp only [Int.toNat_natCast] at h1
          exact h1
        clear hz rI
        go_wp2_with fail
        refine (socket_yes eb k _ hk).mono ?_
        rintro e w2 ⟨rfl, rfl⟩
        go_wp2_with fail
        refine (HSS.out _ (World.grownBy_alloc _ _ _)).mono ?_
        rintro e w3 ⟨rfl, hI3⟩
        have HI3 := hid hI3
        clear hI3 HSS c0 c1'
        go_wp2_with fail
        go_roundw
        case rel => exact ⟨j + 1, by simp, by omega, HI3⟩
        case measure => simp [intOf]; omega
      · have HNN : Hid (∀ w1, wr.grownBy w1 none → I (xs.drop (j + 1)) w1) := fun w1 hg => KN.out _ _ w1 (KG.out _ _ _ rI.out hg) hz
        have hz2 : z < 0 ∨ 4 ≤ z := by omega
        clear hz rI
        go_wp2_with fail
        refine (socket_no eb z _ hz2).mono ?_
        rintro e w2 ⟨rfl, rfl⟩
        have HI3 : Hid (I (xs.drop (j + 1)) (wr.alloc (.cells #[.int .i64 z, .int .u8 (b : Int)] 169))) := HNN.out _ (World.grownBy_alloc _ _ _)
        clear HNN c0 c1'
        go_wp2_with fail
        go_roundw
        case rel => exact ⟨j + 1, by simp, by omega, HI3⟩
        case measure => simp [intOf]; omega
    · have hjn2 : ¬ ((j : Int) < (n : Int)) := by omega
      have hjl : j = xs.length := by have := HL.out; omega
      have HI3 : Hid (I [] wr) := by
        have := rI.out
        rw [hjl, List.drop_length] at this
        exact this
      clear rI hjl
      go_wp2_with fail
      go_end0
      exact ⟨rfl, HI3.out⟩
set_option maxRecDepth 100000 in
theorem reads_any (v : Value) (a : Option Addr) (n c : Nat) (hv : ∃ a' n' c', v = .slice a' n' c') (w : World) : Calls Tryz.prog 138 #[.agg #[v, .slice a n c]] w fun e w' => (∃ b : Bool, e = .returned (.bool b)) ∧ w.grownBy w' none := by
  obtain ⟨a', n', c', rfl⟩ := hv
  go_enter Tryz.func138, Tryz.ntmps138
  go_wp2_with fail
  have hx := heap_alloc_new w (.cells #[.slice a' n' c', .slice a n c] 141)
  have KG := hid (World.grownBy_alloc w (.cells #[.slice a' n' c', .slice a n c] 141) none)
  generalize hW : w.alloc (.cells #[.slice a' n' c', .slice a n c] 141) = w1 at *
  clear hW
  have x1 : w1.cell? ⟨w.heap.size, 1, none⟩ = some (.slice a n c) := by simp [World.cell?, hx]
  refine (empty_any w.heap.size 1 n c a w1 x1).mono ?_
  rintro e w2 ⟨rfl, rfl⟩
  cases hd : decide (n = 0)
  · go_wp2_with fail
    go_ret
    exact ⟨⟨_, rfl⟩, KG.out⟩
  · go_wp2_with fail
    go_ret
    exact ⟨⟨_, rfl⟩, KG.out⟩
def Soks (w : World) (eb : Nat) : Prop := eb < w.heap.size ∧ ∀ j, j < 8 → ∃ a n c, w.cell? ⟨eb, 34 + j, none⟩ = some (.slice a n c)
theorem Soks.kept {w w' : World} {eb : Nat} (h : Soks w eb) (hg : w.grownBy w' none) : Soks w' eb := ⟨Nat.lt_of_lt_of_le h.1 hg.size, fun j hj => by
  obtain ⟨a, n, c, e⟩ := h.2 j hj
  exact ⟨a, n, c, (grown_cell hg (a := ⟨eb, 34 + j, none⟩) h.1).1.trans e⟩⟩
set_option maxRecDepth 100000 in
set_option maxHeartbeats 2000000 in
theorem idx191_any (eb : Nat) (w : World) (h : Soks w eb) : Calls Tryz.prog 191 #[.slice (some ⟨eb, 34, none⟩) 4 4, Fv 138 #[]] w fun e w' => (∃ x : Int, e = .returned (.int .i64 x)) ∧ w.grownBy w' none := by
  have HS := hid h
  clear h
  go_enter Tryz.func191, Tryz.ntmps191
  go_wp2_with fail
  go_loopw [8] (fun i wr => ∃ j : Nat, i = .int .i64 j ∧ j ≤ 4 ∧ Hid (w.grownBy wr none)) (fun i _ => 4 - (intOf i).toNat)
  case atStart => exact ⟨0, rfl, by omega, grown_refl _ _⟩
  case round =>
    obtain ⟨j, rfl, hj, rG⟩ := hrel
    have hS := HS.out.kept rG.out
    by_cases hjn : j < 4
    · obtain ⟨a1, n1, c1, e1⟩ := hS.2 (j * 2) (by omega)
      obtain ⟨a2, n2, c2, e2⟩ := hS.2 (j * 2 + 1) (by omega)
      have lr := hS.1
      have hjn2 : (j : Int) < 4 := by omega
      have e2' : wr.cell? ⟨eb, 34 + j * 2 + 1, none⟩ = some (.slice a2 n2 c2) := e2
      clear hS e2
      go_wp2_with fail
      refine (reads_any (.slice a1 n1 c1) a2 n2 c2 ⟨_, _, _, rfl⟩ _).mono ?_
      rintro e w2 ⟨⟨b, rfl⟩, hg2⟩
      have KG2 := hid (grown_trans rG.out hg2)
      clear hg2 e1 e2'
      cases b
      · go_wp2_with fail
        go_roundw
        case rel => exact ⟨j + 1, by simp, by omega, KG2⟩
        case measure => simp [intOf]; omega
      · go_wp2_with fail
        go_ret
        exact ⟨⟨_, rfl⟩, KG2.out⟩
    · have hjn2 : ¬ ((j : Int) < 4) := by omega
      clear hS
      go_wp2_with fail
      go_ret
      exact ⟨⟨_, rfl⟩, rG.out⟩
set_option maxRecDepth 100000 in
theorem contains139_any (eb : Nat) (w : World) (h : Soks w eb) : Calls Tryz.prog 139 #[.slice (some ⟨eb, 34, none⟩) 4 4, Fv 138 #[]] w fun e w' => (∃ b : Bool, e = .returned (.bool b)) ∧ w.grownBy w' none := by
  have HS := hid h
  clear h
  go_enter Tryz.func139, Tryz.ntmps139
  go_wp2_with fail
  refine (idx191_any eb w HS.out).mono ?_
  rintro e w2 ⟨⟨x, rfl⟩, hg2⟩
  have KG2 := hid hg2
  clear hg2
  cases hd : decide (x ≥ 0)
  · go_wp2_with fail
    go_ret
    exact ⟨⟨_, rfl⟩, KG2.out⟩
  · go_wp2_with fail
    go_ret
    exact ⟨⟨_, rfl⟩, KG2.out⟩
set_option maxRecDepth 100000 in
set_option maxHeartbeats 2000000 in
theorem waits_gen (eb n c : Nat) (a : Option Addr) (w : World) (h33 : w.cell? ⟨eb, 33, none⟩ = some (.slice a n c)) (h : Soks w eb) : Calls Tryz.prog 71 #[P0 eb] w fun e w' => (∃ b : Bool, e = .returned (.bool b)) ∧ w.grownBy w' none := by
  have HS := hid h
  have le := h.1
  clear h
  by_cases hn : n = 0
  · have hem := empty_any eb 33 n c a w h33
    rw [show decide (n = 0) = true by simpa using hn] at hem
    have HEM := hid hem
    clear hem hn
    go_enter Tryz.func71, Tryz.ntmps71
    go_wp2_with fail
    refine HEM.out.mono ?_
    rintro e w1 ⟨rfl, rfl⟩
    go_wp2_with fail
    refine (contains139_any eb _ HS.out).mono ?_
    rintro e w2 ⟨⟨b, rfl⟩, hg2⟩
    have KG2 := hid hg2
    clear hg2
    go_wp2_with fail
    go_ret
    exact ⟨⟨_, rfl⟩, KG2.out⟩
  · have hem := empty_any eb 33 n c a w h33
    rw [show decide (n = 0) = false by simpa using hn] at hem
    have HEM := hid hem
    clear hem hn
    go_enter Tryz.func71, Tryz.ntmps71
    go_wp2_with fail
    refine HEM.out.mono ?_
    rintro e w1 ⟨rfl, rfl⟩
    go_wp2_with fail
    go_ret
    exact ⟨⟨_, rfl⟩, grown_refl _ _⟩
set_option maxRecDepth 100000 in
set_option maxHeartbeats 2000000 in
theorem state_gen (eb : Nat) (sp : Bool) (n29 c29 n32 c32 n33 c33 : Nat) (a29 a32 a33 : Option Addr) (w : World) (h42 : w.cell? ⟨eb, 42, none⟩ = some (.bool sp)) (h29 : w.cell? ⟨eb, 29, none⟩ = some (.slice a29 n29 c29)) (h32 : w.cell? ⟨eb, 32, none⟩ = some (.slice a32 n32 c32)) (h33 : w.cell? ⟨eb, 33, none⟩ = some (.slice a33 n33 c33)) (h : Soks w eb) :
    Calls Tryz.prog 42 #[P0 eb] w fun e w' => (∃ x : Int, e = .returned (.int .i64 x) ∧ (x = 5 ↔ sp = true)) ∧ w.grownBy w' none := by
  have HLV := hid (lives_any eb n29 c29 a29 w h29)
  have HEM := hid (empty_any eb 32 n32 c32 a32 w h32)
  have HW := hid (waits_gen eb n33 c33 a33 w h33 h)
  have le := h.1
  clear h h29 h32 h33
  cases sp
  · generalize decide (0 < n29) = b1 at *
    generalize decide (n32 = 0) = b2 at *
    cases b1
    · go_enter Tryz.func42, Tryz.ntmps42
      go_wp2_with fail
      refine HLV.out.mono ?_
      rintro e w4 ⟨rfl, rfl⟩
      go_wp2_with fail
      go_ret
      exact ⟨⟨_, rfl, by simp⟩, grown_refl _ _⟩
    · cases b2
      · go_enter Tryz.func42, Tryz.ntmps42
        go_wp2_with fail
        refine HLV.out.mono ?_
        rintro e w4 ⟨rfl, rfl⟩
        go_wp2_with fail
        refine HEM.out.mono ?_
        rintro e w5 ⟨rfl, rfl⟩
        go_wp2_with fail
        go_ret
        exact ⟨⟨_, rfl, by simp⟩, grown_refl _ _⟩
      · go_enter Tryz.func42, Tryz.ntmps42
        go_wp2_with fail
        refine HLV.out.mono ?_
        rintro e w4 ⟨rfl, rfl⟩
        go_wp2_with fail
        refine HEM.out.mono ?_
        rintro e w5 ⟨rfl, rfl⟩
        go_wp2_with fail
        refine HW.out.mono ?_
        rintro e w6 ⟨⟨b, rfl⟩, hg⟩
        have KG := hid hg
        clear hg
        cases b
        · go_wp2_with fail
          go_ret
          exact ⟨⟨_, rfl, by simp⟩, KG.out⟩
        · go_wp2_with fail
          go_ret
          exact ⟨⟨_, rfl, by simp⟩, KG.out⟩
  · go_enter Tryz.func42, Tryz.ntmps42
    go_wp2_with fail
    go_ret
    exact ⟨⟨_, rfl, by simp⟩, grown_refl _ _⟩
set_option maxRecDepth 100000 in
set_option maxHeartbeats 2000000 in
theorem queueL (eb g c n : Nat) (ad : Option Addr) (nm : Nat → Int) (xs : List Nat) (w : World) (he : w.cell? ⟨eb, 32, none⟩ = some (.slice ad n c)) (le : eb < w.heap.size) (hn : n = xs.length) (hn2 : n ≤ 1000000000) (had : ∀ j x, xs[j]? = some x → ad = some ⟨g, 0, none⟩ ∧ w.cell? ⟨g, j, none⟩ = some (P0 x)) (lg : xs ≠ [] → g < w.heap.size)
    (hnm : ∀ x, x ∈ xs → w.cell? ⟨x, 0, none⟩ = some (.int .i64 (nm x)) ∧ x < w.heap.size) :
    Calls Tryz.prog 43 #[P0 eb] w fun e w' => e = .returned (.slice (some ⟨w.heap.size, 0, none⟩) n n) ∧ w'.ownsRow w.heap.size 3 1 (.slice (some ⟨w.heap.size, 0, none⟩) n n) n (xs.map (fun x => .int .i64 (nm x))) ∧ w.grownBy w' none := by
  obtain ⟨i0, hi, hz0, hz1, hz2⟩ := info_parts Tryz.info3
  have HC := hid had
  have HN := hid hn
  have HG := hid lg
  have HM := hid hnm
  clear had hn lg hnm
  go_enter Tryz.func43, Tryz.ntmps43
  go_wp2_with (at_make; go_loud (refine wpList_make_full _ rfl _ _ 54 rfl w.heap.size 3 i0 _ 1 Tryz.underlying54 hi hz0 hz1 _ _ _ _ n rfl rfl rfl rfl (by rw [hz2]; omega) (by unfold maxLen; omega) (Nat.le_refl _) ?_))
  intro w3 hown hg3
  have hB3 : Blk w3 w.heap.size 3 n := by
    have := Blk.owned hown
    rwa [Nat.mul_one] at this
  have he3 : w3.cell? ⟨eb, 32, none⟩ = some (.slice ad n c) := (grown_cell hg3 (a := ⟨eb, 32, none⟩) le).1.trans he
  have le3 : eb < w3.heap.size := Nat.lt_of_lt_of_le le hg3.size
  have HB3 := hid hB3
  have HG3 := hid hg3
  clear hown hg3 hB3 he hi hz0 hz1 hz2 i0
  go_wp2_with fail
  go_loopw [19] (fun i wr => ∃ j : Nat, i = .int .i64 j ∧ j ≤ n ∧ Hid (Blk wr w.heap.size 3 n) ∧ Hid (w.grownBy wr none) ∧ Hid (∀ p x, p < j → xs[p]? = some x → wr.cell? ⟨w.heap.size, p, none⟩ = some (.int .i64 (nm x)))) (fun i _ => n - (intOf i).toNat)
  case atStart => exact ⟨0, rfl, by omega, HB3, HG3, (fun p x hp => absurd hp (by omega))⟩
  case round =>
    obtain ⟨j, rfl, hj, rB, rG, rC⟩ := hrel
    by_cases hjn : j < n
    · obtain ⟨x, hx⟩ : ∃ x, xs[j]? = some x := ⟨_, List.getElem?_eq_getElem (by have := HN.out; omega)⟩
      obtain ⟨rfl, cj0⟩ := HC.out j x hx
      have hmx := List.mem_of_getElem? hx
      have cj : wr.cell? ⟨g, j, none⟩ = some (P0 x) := (grown_cell rG.out (a := ⟨g, j, none⟩) (HG.out (by intro e; rw [e] at hmx; cases hmx))).1.trans cj0
      obtain ⟨m1, m2⟩ := HM.out x hmx
      have cx : wr.cell? ⟨x, 0, none⟩ = some (.int .i64 (nm x)) := (grown_cell rG.out (a := ⟨x, 0, none⟩) m2).1.trans m1
      have lx : x < wr.heap.size := Nat.lt_of_lt_of_le m2 rG.out.size
      obtain ⟨⟨y, cy⟩, zy⟩ := rB.out.cell j hjn
      have lw := rB.out.lt
      have hjn3 : (j : Int) < (n : Int) := by omega
      have HX := hid hx
      have KB : Hid (Blk (wr.setCell ⟨w.heap.size, j, none⟩ (.int .i64 (nm x))) w.heap.size 3 n) := rB.out.set _ _ _
      have KG : Hid (w.grownBy (wr.setCell ⟨w.heap.size, j, none⟩ (.int .i64 (nm x))) none) := grown_setCell rG.out (Or.inr (by simp)) _
      have KC : Hid (∀ p z, p < j + 1 → xs[p]? = some z → (wr.setCell ⟨w.heap.size, j, none⟩ (.int .i64 (nm x))).cell? ⟨w.heap.size, p, none⟩ = some (.int .i64 (nm z))) := fun p z hp hz => by
        by_cases hpj : p = j
        · subst hpj
          rw [HX.out] at hz
          injection hz with hz
          subst hz
          exact World.cell?_setCell_same _ _ _ cy
        · rw [World.cell?_setCell_other _ _ _ _ (by intro e; injection e with _ e; omega)]
          exact rC.out p z (by omega) hz
      clear cj0 hmx m1 m2 hx
      go_wp2_with fail
      go_roundw
      case rel => exact ⟨j + 1, by go_num, by omega, KB, KG, KC⟩
      case measure => simp [intOf]; omega
    · have hjn2 : ¬ (j : Int) < (n : Int) := by omega
      obtain rfl : j = n := by omega
      go_wp2_with fail
      go_ret
      refine ⟨rfl, own_mk (Nat.le_refl _) (Nat.le_refl _) (by unfold maxLen; omega) (by rw [List.length_map, ← HN.out]) rB.out (fun p y hy => ?_), rG.out⟩
      rw [List.getElem?_map] at hy
      obtain ⟨z, hz, rfl⟩ := Option.map_eq_some_iff.1 hy
      exact rC.out p z (by have := (List.getElem?_eq_some_iff.1 hz).1; have := HN.out; omega) hz
theorem disable (w : World) : (callFunc 122 #[]).run Tryz.prog w = .ok (.value (.tuple #[])) w := run_call_mark0 Tryz.func122 (by kernel_rfl) (by kernel_rfl) (by kernel_rfl) .disable (by kernel_rfl) w
theorem enable (w : World) : (callFunc 124 #[]).run Tryz.prog w = .ok (.value (.tuple #[])) w := run_call_mark0 Tryz.func124 (by kernel_rfl) (by kernel_rfl) (by kernel_rfl) .enable (by kernel_rfl) w
theorem acquire (a : Addr) (w : World) : (callFunc 125 #[.pointer (some a)]).run Tryz.prog w = .ok (.value (.tuple #[])) w := run_call_marked Tryz.func125 (by kernel_rfl) (by kernel_rfl) (by kernel_rfl) .acquire (by kernel_rfl) a w
theorem releaseMerge (a : Addr) (w : World) : (callFunc 127 #[.pointer (some a)]).run Tryz.prog w = .ok (.value (.tuple #[])) w := run_call_marked Tryz.func127 (by kernel_rfl) (by kernel_rfl) (by kernel_rfl) .releaseMerge (by kernel_rfl) a w
set_option maxRecDepth 100000 in
theorem unlock_deferred (a : Addr) (u : FrameMode) (w : World) (hc : w.cell? a = some (.int .i32 1)) (hz : w.frozen? a = false) :
    CallsD Tryz.prog 40 #[.pointer (some a)] u w fun e u' w' => u' = u ∧ (e = .returned (.tuple #[]) ∧ w' = w.setCell a (.int .i32 0)) := by
  have hd := disable
  have he := enable
  have hr := releaseMerge
  have hcv := run_convert_to_unsafe (P := Tryz.prog) (src := 210) (dst := 214) Tryz.underlying210 Tryz.underlying214 (by kernel_rfl) hc
  have hadd := run_call_add (P := Tryz.prog) Tryz.func128 (by kernel_rfl) (by kernel_rfl) (by kernel_rfl) .i32 (by kernel_rfl) (y := -1) (s := 0) hc hz (by simp [go_sem]; rfl)
  go_enter_d Tryz.func40, Tryz.ntmps40
  go_wp2
  go_end0
  go_wp2
  go_end0
  exact ⟨rfl, rfl⟩
set_option maxRecDepth 100000 in
theorem lock_any (b : Nat) (w : World) (h0 : w.cell? ⟨b, 0, none⟩ = some (.int .i32 0)) (f0 : w.frozen? ⟨b, 0, none⟩ = false) :
    Calls Tryz.prog 39 #[P0 b] w fun e w' => e = .returned (.tuple #[]) ∧ w' = w.setCell ⟨b, 0, none⟩ (.int .i32 1) := by
  have hd := disable
  have he := enable
  have ha := acquire
  have hcas := run_call_cas_hit (P := Tryz.prog) Tryz.func123 (by kernel_rfl) (by kernel_rfl) (by kernel_rfl) .i32 (by kernel_rfl) (y := 1) h0 f0
  have h0' : (w.setCell ⟨b, 0, none⟩ (.int .i32 1)).cell? ⟨b, 0, none⟩ = some (.int .i32 1) := by simp [go_sem, h0]
  have hcv := run_convert_to_unsafe (P := Tryz.prog) (src := 210) (dst := 214) Tryz.underlying210 Tryz.underlying214 (by kernel_rfl) h0'
  go_enter Tryz.func39, Tryz.ntmps39
  go_wp2
  first | go_end0 | (simp only [Exit.inBlock, Exit.then]; refine bodyPost_ret (results_none rfl _ _ _) rfl ?_) | refine bodyPost_ret (results_none rfl _ _ _) rfl ?_
  go_wp2
  go_end0
  exact ⟨rfl, rfl⟩
theorem turn_face2 (mb eb n0 c0 : Nat) (ad0 : Option Addr) (ticks : Int) (w : World) (h0 : w.cell? ⟨mb, 0, none⟩ = some (.int .i32 0)) (f0 : w.frozen? ⟨mb, 0, none⟩ = false) (h2 : w.cell? ⟨mb, 2, none⟩ = some (P0 eb)) (R : Value → World → Prop)
    (hE : Hid (Calls Tryz.prog 41 #[P0 eb, .int .i64 ticks, .slice ad0 n0 c0] (w.setCell ⟨mb, 0, none⟩ (.int .i32 1)) fun e w' => ∃ ad n c, e = .returned (.slice ad n c) ∧ w'.cell? ⟨mb, 0, none⟩ = some (.int .i32 1) ∧ w'.frozen? ⟨mb, 0, none⟩ = false ∧ R (.slice ad n c) w')) :
    Calls Tryz.prog 24 #[P0 mb, .int .i64 ticks, .slice ad0 n0 c0] w fun e w' => ∃ v w1, e = .returned v ∧ R v w1 ∧ w' = w1.setCell ⟨mb, 0, none⟩ (.int .i32 0) := by
  go_enter_defers Tryz.func24, Tryz.ntmps24
  go_wp2_with fail
  refine (lock_any mb w h0 f0).mono ?_
  rintro e w1 ⟨rfl, rfl⟩
  go_wp2_with fail
  refine hE.out.mono ?_
  rintro e w2 ⟨ad, n, c, rfl, c0, c1, hR⟩
  have HR : Hid (R (.slice ad n c) w2) := hR
  clear hR
  go_wp2_with fail
  refine leaves_cons (f := 40) (args := #[P0 mb]) (by simp) (by simp [go_sem]) ?_
  refine (unlock_deferred ⟨mb, 0, none⟩ .returning _ c0 c1).mono ?_
  rintro e u' w'' ⟨rfl, rfl, rfl⟩
  exact ⟨_, results_tmp rfl _ _ _, .slice ad n c, w2, rfl, HR.out, rfl⟩
theorem queue_face (mb eb : Nat) (w : World) (h0 : w.cell? ⟨mb, 0, none⟩ = some (.int .i32 0)) (f0 : w.frozen? ⟨mb, 0, none⟩ = false) (h2 : w.cell? ⟨mb, 2, none⟩ = some (P0 eb)) (R : Value → World → Prop)
    (hE : Hid (Calls Tryz.prog 43 #[P0 eb] (w.setCell ⟨mb, 0, none⟩ (.int .i32 1)) fun e w' => ∃ ad n c, e = .returned (.slice ad n c) ∧ w'.cell? ⟨mb, 0, none⟩ = some (.int .i32 1) ∧ w'.frozen? ⟨mb, 0, none⟩ = false ∧ R (.slice ad n c) w')) :
    Calls Tryz.prog 26 #[P0 mb] w fun e w' => ∃ v w1, e = .returned v ∧ R v w1 ∧ w' = w1.setCell ⟨mb, 0, none⟩ (.int .i32 0) := by
  go_enter_defers Tryz.func26, Tryz.ntmps26
  go_wp2_with fail
  refine (lock_any mb w h0 f0).mono ?_
  rintro e w1 ⟨rfl, rfl⟩
  go_wp2_with fail
  refine hE.out.mono ?_
  rintro e w2 ⟨ad, n, c, rfl, c0, c1, hR⟩
  have HR : Hid (R (.slice ad n c) w2) := hR
  clear hR
  go_wp2_with fail
  refine leaves_cons (f := 40) (args := #[P0 mb]) (by simp) (by simp [go_sem]) ?_
  refine (unlock_deferred ⟨mb, 0, none⟩ .returning _ c0 c1).mono ?_
  rintro e u' w'' ⟨rfl, rfl, rfl⟩
  exact ⟨_, results_tmp rfl _ _ _, .slice ad n c, w2, rfl, HR.out, rfl⟩
theorem state_face2 (mb eb : Nat) (w : World) (h0 : w.cell? ⟨mb, 0, none⟩ = some (.int .i32 0)) (f0 : w.frozen? ⟨mb, 0, none⟩ = false) (h2 : w.cell? ⟨mb, 2, none⟩ = some (P0 eb)) (R : Int → World → Prop)
    (hE : Hid (Calls Tryz.prog 42 #[P0 eb] (w.setCell ⟨mb, 0, none⟩ (.int .i32 1)) fun e w' => ∃ x : Int, e = .returned (.int .i64 x) ∧ w'.cell? ⟨mb, 0, none⟩ = some (.int .i32 1) ∧ w'.frozen? ⟨mb, 0, none⟩ = false ∧ R x w')) :
    Calls Tryz.prog 25 #[P0 mb] w fun e w' => ∃ x w1, e = .returned (.int .i64 x) ∧ R x w1 ∧ w' = w1.setCell ⟨mb, 0, none⟩ (.int .i32 0) := by
  go_enter_defers Tryz.func25, Tryz.ntmps25
  go_wp2_with fail
  refine (lock_any mb w h0 f0).mono ?_
  rintro e w1 ⟨rfl, rfl⟩
  go_wp2_with fail
  refine hE.out.mono ?_
  rintro e w2 ⟨x, rfl, c0, c1, hR⟩
  have HR : Hid (R x w2) := hR
  clear hR
  go_wp2_with fail
  refine leaves_cons (f := 40) (args := #[P0 mb]) (by simp) (by simp [go_sem]) ?_
  refine (unlock_deferred ⟨mb, 0, none⟩ .returning _ c0 c1).mono ?_
  rintro e u' w'' ⟨rfl, rfl, rfl⟩
  exact ⟨_, results_tmp rfl _ _ _, x, w2, rfl, HR.out, rfl⟩
end Go.Proofs.YtnjiinbhbjpfkaaGreatDoor
namespace Go.Proofs.YtnjiinbhbjpfkaaGreatDoor.F
open Go.RowKit
theorem addr_block (a : Addr) (m : Nat) : (a.add m).block = a.block := by unfold Addr.add; split <;> rfl
def Inp (w : World) (ad : Option Addr) (n : Nat) (l : List (Int × Nat)) (F : Nat → Prop) : Prop :=
  n = l.length ∧ n ≤ 1000000000 ∧ (∀ x, x ∈ l → x.2 < 256) ∧ (ad = none → l = []) ∧ ∀ a, ad = some a → l ≠ [] → a.block < w.heap.size ∧ ¬ F a.block ∧ ∀ j x, l[j]? = some x → w.cell? (a.add (j * 2)) = some (.int .i64 x.1) ∧ w.cell? (a.add (j * 2 + 1)) = some (.int .u8 (x.2 : Int))
theorem recvsR {p : Prm} {s : Pl} {g : Geo} {w : World} {ad : Option Addr} {n : Nat} (c : Nat) {l : List (Int × Nat)} (h : Rep p s g w) (hO : Ok p s) (hI : Inp w ad n l (Mine p s g)) :
    Calls Tryz.prog 65 #[P0 p.eb, .slice ad n c] w fun e w' => e = .returned (.tuple #[]) ∧ ∃ g', Tr p s g w (s.recvs l) g' w' := by
  obtain ⟨hn, hn2, hx, ha, hC⟩ := hI
  refine (receiveL p.eb ad n c l (fun ys w1 => ∃ s1 g1, Tr p s g w s1 g1 w1 ∧ Ok p s1 ∧ s1.recvs ys = s.recvs l ∧ ∀ x, x ∈ ys → x.2 < 256) w ⟨s, g, Tr.refl h, hO, rfl, hx⟩ hn hn2 ha ?_ ?_ ?_ ?_ ?_).mono ?_
  · rintro ys w1 ⟨s1, g1, k1, k2, k3, _⟩ a rfl j x hj
    have hne : l ≠ [] := fun e => by rw [e] at hj; simp at hj
    obtain ⟨b1, b2, b3⟩ := hC a rfl hne
    have e := k1.o.same b1 b2
    obtain ⟨c0, c1⟩ := b3 j x hj
    exact ⟨(World.cell?_of_block (a := a.add (j * 2)) (by rw [addr_block]; exact e)).trans c0, (World.cell?_of_block (a := a.add (j * 2 + 1)) (by rw [addr_block]; exact e)).trans c1⟩
  · rintro ys w1 w2 ⟨s1, g1, k1, k2, k3⟩ hg
    exact ⟨s1, g1, k1.kept hg, k2, k3⟩
  · rintro ys w1 ⟨s1, g1, k1, _⟩
    exact k1.r.E.lt
  · rintro x r w1 ⟨s1, g1, k1, k2, k3, k4⟩ hz
    have hb := k4 x (by simp)
    refine (recv1R (k := x.1.toNat) (b := x.2) (by omega) hb k1.r k2).mono ?_
    rintro e w' ⟨rfl, g', k5⟩
    refine ⟨rfl, s1.recv1 x.1.toNat x.2, g', k1.trans k5, (recv1_ok (by omega) hb k2).1, ?_, fun y hy => k4 y (by simp [hy])⟩
    rw [← k3]
    show _ = (s1.recv x).recvs r
    unfold Pl.recv
    rw [if_pos hz]
  · rintro x r w1 ⟨s1, g1, k1, k2, k3, k4⟩ hz
    refine ⟨s1, g1, k1, k2, ?_, fun y hy => k4 y (by simp [hy])⟩
    rw [← k3]
    show _ = (s1.recv x).recvs r
    unfold Pl.recv
    rw [if_neg hz]
  · rintro e w' ⟨rfl, s1, g1, k1, k2, k3, _⟩
    refine ⟨rfl, g1, ?_⟩
    rw [← k3]
    exact k1
structure Mch (p : Prm) (s : Pl) (g : Geo) (mb : Nat) (w : World) : Prop where
  r : Rep p s g w
  ok : Ok p s
  ev : s.ev = []
  bx : ∃ x, w.heap[mb]? = some (.cells #[.int .i32 0, x, P0 p.eb] 105 (0, 0))
  nm : ¬ Mine p s g mb
structure Pgm (p : Prm) : Prop where
  pw : PW p
  pi : PI p
  q : p.qn ≤ 50
  k : p.wk ≤ 50
section
variable {p : Prm} {s : Pl} {g : Geo} {mb : Nat} {w : World} (h : Mch p s g mb w)
include h
theorem Mch.cells : w.cell? ⟨mb, 0, none⟩ = some (.int .i32 0) ∧ w.frozen? ⟨mb, 0, none⟩ = false ∧ w.cell? ⟨mb, 2, none⟩ = some (P0 p.eb) ∧ mb < w.heap.size := by
  obtain ⟨x, hx⟩ := h.bx
  exact ⟨by simp [World.cell?, hx], by simp [World.frozen?, hx], by simp [World.cell?, hx], heap_lt hx⟩
theorem Mch.lock : Rep p s g (w.setCell ⟨mb, 0, none⟩ (.int .i32 1)) := h.r.only (S := fun k => k = mb) (only_setCell (S := fun k => k = mb) (only_refl _ _) (Or.inl rfl) _) (fun _ hk e => h.nm (e ▸ hk))
theorem Mch.lcell {w' : World} (hb : w'.heap[mb]? = (w.setCell ⟨mb, 0, none⟩ (.int .i32 1)).heap[mb]?) : w'.cell? ⟨mb, 0, none⟩ = some (.int .i32 1) ∧ w'.frozen? ⟨mb, 0, none⟩ = false ∧ ∃ x, (w'.setCell ⟨mb, 0, none⟩ (.int .i32 0)).heap[mb]? = some (.cells #[.int .i32 0, x, P0 p.eb] 105 (0, 0)) := by
  obtain ⟨x, hx⟩ := h.bx
  have h1 : (w.setCell ⟨mb, 0, none⟩ (.int .i32 1)).heap[mb]? = some (.cells #[.int .i32 1, x, P0 p.eb] 105 (0, 0)) := by
    have hl := heap_lt hx
    have hx' := hx
    rw [Array.getElem?_eq_getElem hl] at hx'
    injection hx' with hx'
    simp [World.setCell, Array.getElem?_modify, hx]
  rw [h1] at hb
  refine ⟨by simp [World.cell?, hb], by simp [World.frozen?, hb], x, ?_⟩
  simp [World.setCell, Array.getElem?_modify, hb]
end
theorem Rep.off {p : Prm} {s : Pl} {g : Geo} {w : World} {mb : Nat} (h : Rep p s g w) (hn : ¬ Mine p s g mb) (o : Nat) (v : Value) : Rep p s g (w.setCell ⟨mb, o, none⟩ v) := h.only (S := fun k => k = mb) (only_setCell (S := fun k => k = mb) (only_refl _ _) (Or.inl rfl) _) (fun _ hk e => hn (e ▸ hk))
structure Goes (p : Prm) (s : Pl) (g : Geo) (mb : Nat) (w : World) (s' : Pl) (g' : Geo) (w' : World) : Prop where
  m : Mch p s' g' mb w'
  o : Only (fun k => Mine p s g k ∨ k = mb) w w'
  n : ∀ k, Mine p s' g' k → Mine p s g k ∨ w.heap.size ≤ k
theorem Mch.turn {p : Prm} {s : Pl} {g : Geo} {mb : Nat} {w : World} {ad : Option Addr} {n : Nat} (c : Nat) {l : List (Int × Nat)} (ticks : Int) (h : Mch p s g mb w) (hP : Pgm p) (hn : s.nt + p.qn ≤ 500000000) (hI : Inp w ad n l (fun k => Mine p s g k ∨ k = mb)) :
    Calls Tryz.prog 24 #[P0 mb, .int .i64 ticks, .slice ad n c] w fun e w' => ∃ s' g' a' c', e = .returned (.slice a' s'.ev.length c') ∧ turnR p s ticks l s' ∧ w'.ownsRow 0 48 3 (.slice a' s'.ev.length c') s'.ev.length (evT s'.ev) ∧ Goes p s g mb w s'.clr g' w' ∧ ∀ k, adB a' = some k → ¬ Mine p s'.clr g' k ∧ k ≠ mb ∧ k < w'.heap.size := by
  obtain ⟨c0, f0, c2, lm⟩ := h.cells
  obtain ⟨i1, i2, i3, i4, i5⟩ := hI
  have hO0 : Only (fun k => Mine p s g k ∨ k = mb) w (w.setCell ⟨mb, 0, none⟩ (.int .i32 1)) := only_setCell (S := fun k => Mine p s g k ∨ k = mb) (only_refl _ _) (Or.inl (Or.inr rfl)) _
  have hz0 : (w.setCell ⟨mb, 0, none⟩ (.int .i32 1)).heap.size = w.heap.size := by simp [World.setCell]
  refine (turn_face2 mb p.eb n c ad ticks w c0 f0 c2 (fun v w' => ∃ s', turnR p s ticks l s' ∧ TurnOut p s g (w.setCell ⟨mb, 0, none⟩ (.int .i32 1)) s' w' v) ?_).mono ?_
  · refine (engTurnR (l := l) ticks h.lock hP.pw hP.pi h.ok h.ev hn hP.q hP.k i3 (fun s1 g1 w1 hT1 hO1 => ?_)).mono ?_
    · refine recvsR c hT1.r hO1 ⟨i1, i2, i3, i4, fun a ha hne => ?_⟩
      obtain ⟨b1, b2, b3⟩ := i5 a ha hne
      have e1 : w1.heap[a.block]? = w.heap[a.block]? := (hT1.o.same (by rw [hz0]; exact b1) (fun hm => b2 (Or.inl hm))).trans (hO0.same b1 b2)
      refine ⟨Nat.lt_of_lt_of_le (by rw [hz0]; exact b1) hT1.o.size, fun hm => ?_, fun j x hj => ?_⟩
      · rcases hT1.m _ hm with h1 | h1
        · exact b2 (Or.inl h1)
        · rw [hz0] at h1; omega
      · obtain ⟨d0, d1⟩ := b3 j x hj
        exact ⟨(World.cell?_of_block (a := a.add (j * 2)) (by rw [addr_block]; exact e1)).trans d0, (World.cell?_of_block (a := a.add (j * 2 + 1)) (by rw [addr_block]; exact e1)).trans d1⟩
    · rintro e w' ⟨v, s', rfl, ht, g', a', c', rfl, k2, k3, k4⟩
      have hb : w'.heap[mb]? = (w.setCell ⟨mb, 0, none⟩ (.int .i32 1)).heap[mb]? := k3.o.same (by rw [hz0]; exact lm) h.nm
      obtain ⟨l1, l2, _⟩ := h.lcell hb
      exact ⟨a', _, c', rfl, l1, l2, s', ht, g', a', c', rfl, k2, k3, k4⟩
  · rintro e w' ⟨v, w1, rfl, ⟨s', ht, g', a', c', rfl, k2, k3, k4⟩, rfl⟩
    have hb : w1.heap[mb]? = (w.setCell ⟨mb, 0, none⟩ (.int .i32 1)).heap[mb]? := k3.o.same (by rw [hz0]; exact lm) h.nm
    obtain ⟨_, _, l3⟩ := h.lcell hb
    have hnm : ¬ Mine p s'.clr g' mb := fun hm => (k3.m mb hm).elim h.nm (fun h1 => by rw [hz0] at h1; omega)
    have hnk : ∀ k, adB a' = some k → k ≠ mb := fun k hk e => by
      obtain ⟨x, hx⟩ := l3
      have ht48 := own_ty k2 k (by rw [own_adB]; exact hk)
      have hk1 : w1.heap[mb]? = (w.setCell ⟨mb, 0, none⟩ (.int .i32 1)).heap[mb]? := hb
      obtain ⟨x0, hx0⟩ := h.bx
      have h1 : (w.setCell ⟨mb, 0, none⟩ (.int .i32 1)).heap[mb]? = some (.cells #[.int .i32 1, x0, P0 p.eb] 105 (0, 0)) := by simp [World.setCell, Array.getElem?_modify, hx0]
      rw [h1] at hk1
      rw [e] at ht48
      obtain ⟨_, _, q0⟩ := ht48
      obtain ⟨cur, q1⟩ := q0
      rw [hk1] at q1
      injection q1 with q1
      injection q1 with _ q2 _
      exact absurd q2 (by decide)
    refine ⟨s', g', a', c', rfl, ht, own_of k2 (fun k hk => Below.heap_setCell _ _ _ _ (hnk k (by rw [← own_adB]; exact hk))), ⟨⟨k3.r.off hnm 0 _, ?_, rfl, l3, hnm⟩, ?_, fun k hk => (k3.m k hk).imp id (fun h1 => by rw [hz0] at h1; exact h1)⟩, fun k hk => ⟨(k4 k hk).1, hnk k hk, by have := (k4 k hk).2; simpa [World.setCell] using this⟩⟩
    · exact (turn_fair hP.pi hP.pw.n1 h.ok h.ev hn i3 ht).ok
    · exact only_setCell (hO0.trans k3.o (fun k hk _ => Or.inl hk)) (Or.inl (Or.inr rfl)) _
theorem queueR {p : Prm} {s : Pl} {g : Geo} {w : World} (h : Rep p s g w) (hO : Ok p s) :
    Calls Tryz.prog 43 #[P0 p.eb] w fun e w' => e = .returned (.slice (some ⟨w.heap.size, 0, none⟩) (s.q 2 0).length (s.q 2 0).length) ∧ w'.ownsRow w.heap.size 3 1 (.slice (some ⟨w.heap.size, 0, none⟩) (s.q 2 0).length (s.q 2 0).length) (s.q 2 0).length ((s.q 2 0).map (fun t : Nat => Value.int .i64 (t : Int))) ∧ w.grownBy w' none := by
  have hl : lnok s 2 0 := Or.inl ⟨rfl, rfl⟩
  have hlen := hO.lw.len hl
  have hmem : ∀ u, u ∈ s.q 2 0 → isT s u := fun u hu => (hO.lw.b 2 0 hl u hu).1
  obtain ⟨nm, hnm⟩ : ∃ nm : Nat → Int, ∀ u, isT s u → nm (g.tb u) = (u : Int) := by
    classical
    refine ⟨fun b => if hb : ∃ u, isT s u ∧ g.tb u = b then (hb.choose : Int) else 0, fun u hu => ?_⟩
    have hb : ∃ u', isT s u' ∧ g.tb u' = g.tb u := ⟨u, hu, rfl⟩
    show (if hb : ∃ u', isT s u' ∧ g.tb u' = g.tb u then (hb.choose : Int) else 0) = (u : Int)
    rw [dif_pos hb, h.tb_inj hb.choose_spec.1 hu hb.choose_spec.2]
  have hL := h.ln hl (by omega)
  have c32 : w.cell? ⟨p.eb, 32, none⟩ = some (.slice (g.ro 2 0).1 (s.q 2 0).length (g.ro 2 0).2) := by
    have := hL.hE.cell _ hL.ho
    rw [hL.e] at this
    exact this
  obtain ⟨lb, hlb⟩ : ∃ lb, s.q 2 0 ≠ [] → (g.ro 2 0).1 = some ⟨lb, 0, none⟩ ∧ lb < w.heap.size ∧ ∀ j x, ((s.q 2 0).map g.tb)[j]? = some x → w.cell? ⟨lb, j, none⟩ = some (P0 x) := by
    by_cases e : s.q 2 0 = []
    · exact ⟨0, fun h => absurd e h⟩
    · have hr := hL.row
      obtain ⟨lb, lc, he⟩ := row_form hr (by exact fun e' => e (List.length_eq_zero_iff.1 e'))
      rw [he] at hr
      injection he with a1 _ _
      exact ⟨lb, fun _ => ⟨a1, (own_ty hr lb rfl).2.1, fun j x hx => (own_ge hr).2.2.2.2.2 j (P0 x) (by rw [List.getElem?_map, hx]; rfl)⟩⟩
  have hne : ∀ {j : Nat} {x : Nat}, ((s.q 2 0).map g.tb)[j]? = some x → s.q 2 0 ≠ [] := fun hx e => by rw [e] at hx; simp at hx
  refine (queueL p.eb lb (g.ro 2 0).2 (s.q 2 0).length (g.ro 2 0).1 nm ((s.q 2 0).map g.tb) w c32 h.E.lt (by rw [List.length_map]) (by omega) (fun j x hx => ⟨(hlb (hne hx)).1, (hlb (hne hx)).2.2 j x hx⟩) (fun e => (hlb (fun e' => e (by rw [e']; rfl))).2.1) (fun x hx => ?_)).mono ?_
  · obtain ⟨u, hu, rfl⟩ := List.mem_map.1 hx
    have hT := h.tk (hmem u hu)
    refine ⟨?_, hT.lt⟩
    rw [hT.cell 0 (by omega), hnm u (hmem u hu)]
    rfl
  · rintro e w' ⟨rfl, k1, k2⟩
    refine ⟨rfl, ?_, k2⟩
    have : ((s.q 2 0).map g.tb).map (fun x => Value.int .i64 (nm x)) = (s.q 2 0).map (fun t : Nat => Value.int .i64 (t : Int)) := by
      rw [List.map_map]
      refine List.map_congr_left (fun u hu => ?_)
      show Value.int .i64 (nm (g.tb u)) = _
      rw [hnm u (hmem u hu)]
    rw [this] at k1
    exact k1
theorem Mch.queue {p : Prm} {s : Pl} {g : Geo} {mb : Nat} {w : World} (h : Mch p s g mb w) :
    Calls Tryz.prog 26 #[P0 mb] w fun e w' => e = .returned (.slice (some ⟨w.heap.size, 0, none⟩) (s.q 2 0).length (s.q 2 0).length) ∧ w'.ownsRow w.heap.size 3 1 (.slice (some ⟨w.heap.size, 0, none⟩) (s.q 2 0).length (s.q 2 0).length) (s.q 2 0).length ((s.q 2 0).map (fun t : Nat => Value.int .i64 (t : Int))) ∧ Goes p s g mb w s g w' := by
  obtain ⟨c0, f0, c2, lm⟩ := h.cells
  have hO0 : Only (fun k => Mine p s g k ∨ k = mb) w (w.setCell ⟨mb, 0, none⟩ (.int .i32 1)) := only_setCell (S := fun k => Mine p s g k ∨ k = mb) (only_refl _ _) (Or.inl (Or.inr rfl)) _
  have hz0 : (w.setCell ⟨mb, 0, none⟩ (.int .i32 1)).heap.size = w.heap.size := by simp [World.setCell]
  refine (queue_face mb p.eb w c0 f0 c2 (fun v w' => v = .slice (some ⟨w.heap.size, 0, none⟩) (s.q 2 0).length (s.q 2 0).length ∧ w'.ownsRow w.heap.size 3 1 (.slice (some ⟨w.heap.size, 0, none⟩) (s.q 2 0).length (s.q 2 0).length) (s.q 2 0).length ((s.q 2 0).map (fun t : Nat => Value.int .i64 (t : Int))) ∧ (w.setCell ⟨mb, 0, none⟩ (.int .i32 1)).grownBy w' none) ?_).mono ?_
  · have := queueR h.lock h.ok
    rw [hz0] at this
    refine this.mono ?_
    rintro e w' ⟨rfl, k1, k2⟩
    have hb : w'.heap[mb]? = (w.setCell ⟨mb, 0, none⟩ (.int .i32 1)).heap[mb]? := k2.block mb (by rw [hz0]; exact lm) (by intro e; cases e)
    obtain ⟨l1, l2, _⟩ := h.lcell hb
    exact ⟨_, _, _, rfl, l1, l2, rfl, k1, k2⟩
  · rintro e w' ⟨v, w1, rfl, ⟨rfl, k1, k2⟩, rfl⟩
    have hb : w1.heap[mb]? = (w.setCell ⟨mb, 0, none⟩ (.int .i32 1)).heap[mb]? := k2.block mb (by rw [hz0]; exact lm) (by intro e; cases e)
    obtain ⟨_, _, l3⟩ := h.lcell hb
    refine ⟨rfl, own_of k1 (fun k hk => Below.heap_setCell _ _ _ _ ?_), ⟨(h.lock.kept k2).off h.nm 0 _, h.ok, h.ev, l3, h.nm⟩, only_setCell (hO0.then0 k2) (Or.inl (Or.inr rfl)) _, fun k hk => Or.inl hk⟩
    have e : w.heap.size = k := by injection hk
    show k ≠ mb
    omega
theorem stateR {p : Prm} {s : Pl} {g : Geo} {w : World} (h : Rep p s g w) :
    Calls Tryz.prog 42 #[P0 p.eb] w fun e w' => (∃ x : Int, e = .returned (.int .i64 x) ∧ (x = 5 ↔ s.sp = true)) ∧ w.grownBy w' none := by
  refine state_gen p.eb s.sp s.lv.length (g.ro 6 0).2 (rlen s 2 0) (g.ro 2 0).2 (rlen s 3 0) (g.ro 3 0).2 (g.ro 6 0).1 (g.ro 2 0).1 (g.ro 3 0).1 w (h.E.cell 42 (by omega)) (h.E.cell 29 (by omega)) (h.E.cell 32 (by omega)) (h.E.cell 33 (by omega)) ⟨h.E.lt, fun j hj => ?_⟩
  have hc := h.E.cell (34 + j) (by omega)
  unfold engE at hc
  rw [if_neg (by omega), if_neg (by omega), if_neg (by omega)] at hc
  exact ⟨_, _, _, hc⟩
theorem Mch.state {p : Prm} {s : Pl} {g : Geo} {mb : Nat} {w : World} (h : Mch p s g mb w) :
    Calls Tryz.prog 25 #[P0 mb] w fun e w' => ∃ x : Int, e = .returned (.int .i64 x) ∧ (x = 5 ↔ s.sp = true) ∧ Goes p s g mb w s g w' := by
  obtain ⟨c0, f0, c2, lm⟩ := h.cells
  have hO0 : Only (fun k => Mine p s g k ∨ k = mb) w (w.setCell ⟨mb, 0, none⟩ (.int .i32 1)) := only_setCell (S := fun k => Mine p s g k ∨ k = mb) (only_refl _ _) (Or.inl (Or.inr rfl)) _
  have hz0 : (w.setCell ⟨mb, 0, none⟩ (.int .i32 1)).heap.size = w.heap.size := by simp [World.setCell]
  refine (state_face2 mb p.eb w c0 f0 c2 (fun x w' => (x = 5 ↔ s.sp = true) ∧ (w.setCell ⟨mb, 0, none⟩ (.int .i32 1)).grownBy w' none) ?_).mono ?_
  · refine (stateR h.lock).mono ?_
    rintro e w' ⟨⟨x, rfl, k1⟩, k2⟩
    have hb : w'.heap[mb]? = (w.setCell ⟨mb, 0, none⟩ (.int .i32 1)).heap[mb]? := k2.block mb (by rw [hz0]; exact lm) (by intro e; cases e)
    obtain ⟨l1, l2, _⟩ := h.lcell hb
    exact ⟨x, rfl, l1, l2, k1, k2⟩
  · rintro e w' ⟨x, w1, rfl, ⟨k1, k2⟩, rfl⟩
    have hb : w1.heap[mb]? = (w.setCell ⟨mb, 0, none⟩ (.int .i32 1)).heap[mb]? := k2.block mb (by rw [hz0]; exact lm) (by intro e; cases e)
    obtain ⟨_, _, l3⟩ := h.lcell hb
    exact ⟨x, rfl, k1, ⟨(h.lock.kept k2).off h.nm 0 _, h.ok, h.ev, l3, h.nm⟩, only_setCell (hO0.then0 k2) (Or.inl (Or.inr rfl)) _, fun k hk => Or.inl hk⟩
theorem fns_at {s : ByteArray} {f : Nat} : ∀ (n k0 : Nat), (M.fns s f (M.pos s k0) n).2 = true → ∀ k, k < n → (M.fn s (M.pos s (k0 + k)) f).2 = true
  | 0, _, _, k, hk => by omega
  | n + 1, k0, h, k, hk => by
    unfold M.fns at h
    by_cases e : (M.fn s (M.pos s k0) f).2 = true
    · rw [if_pos e] at h
      cases k with
      | zero => exact e
      | succ k =>
        have hp : (M.fn s (M.pos s k0) f).1 = M.pos s (k0 + 1) := (M.fn_yes e).1
        rw [hp] at h
        have := fns_at n (k0 + 1) h k (by omega)
        rw [show k0 + (k + 1) = k0 + 1 + k by omega]
        exact this
    · rw [if_neg e] at h; cases h
theorem code_at {s : ByteArray} {r f l : Nat} : ∀ (n p : Nat), (M.code s r f l p n).2 = true → ∀ i, i < n → (M.ins s (p + 4 * i) r f l).2 = true
  | 0, _, _, i, hi => by omega
  | n + 1, p, h, i, hi => by
    unfold M.code at h
    by_cases e : (M.ins s p r f l).2 = true
    · rw [if_pos e] at h
      cases i with
      | zero => exact e
      | succ i =>
        rw [M.ins_yes e] at h
        have := code_at n (p + 4) h i (by omega)
        rw [show p + 4 * (i + 1) = p + 4 + 4 * i by omega]
        exact this
    · rw [if_neg e] at h; cases h
def insAt (s : ByteArray) (q : Nat) : Ins := (M.bt s q, M.bt s (q + 1), M.bt s (q + 2), M.bt s (q + 3))
theorem k_f0 : ∀ op, op < 23 → op ≠ 7 ∧ op ≠ 16 → M.k0 op = 114 := by decide
theorem k_f1 : ∀ op, op < 23 → (op = 1 ∨ (2 ≤ op ∧ op ≤ 6) ∨ op = 10 ∨ op = 11) ∨ (op = 13 ∨ op = 15 ∨ op = 18 ∨ op = 21) → M.k1 op = 114 := by decide
theorem k_f2 : ∀ op, op < 23 → ((2 ≤ op ∧ op ≤ 6) ∨ op = 10 ∨ op = 11 ∨ op = 12 ∨ op = 13 ∨ op = 15) → M.k2 op = 114 := by decide
theorem k_f3 : ∀ op, op < 23 → (op = 7 ∨ op = 8) → M.k1 op = 116 := by decide
theorem k_f4 : ∀ op, op < 23 → op = 9 → M.k1 op = 115 := by decide
theorem k_f5 : ∀ op, op < 23 → op = 12 → M.k1 op = 102 := by decide
theorem k_f6 : ∀ op, op < 23 → op ≠ 7 ∧ op ≠ 8 → M.k1 op ≠ 116 := by decide
theorem k_facts (op : Nat) (h : op < 23) : (op ≠ 7 → op ≠ 16 → M.k0 op = 114) ∧ (op = 1 ∨ (2 ≤ op ∧ op ≤ 6) ∨ op = 10 ∨ op = 11 ∨ op = 13 ∨ op = 15 ∨ op = 18 ∨ op = 21 → M.k1 op = 114) ∧ ((2 ≤ op ∧ op ≤ 6) ∨ op = 10 ∨ op = 11 ∨ op = 12 ∨ op = 13 ∨ op = 15 → M.k2 op = 114) ∧ (op = 7 ∨ op = 8 → M.k1 op = 116) ∧ (op = 9 → M.k1 op = 115) ∧ (op = 12 → M.k1 op = 102) ∧ (op ≠ 7 → op ≠ 8 → M.k1 op ≠ 116) :=
  ⟨fun a b => k_f0 op h ⟨a, b⟩, fun a => k_f1 op h (by omega), k_f2 op h, k_f3 op h, k_f4 op h, k_f5 op h, fun a b => k_f6 op h ⟨a, b⟩⟩
theorem ins_okI {s : ByteArray} {q r f l : Nat} (hr : 2 ≤ r) (hf : 1 ≤ f) (h : (M.ins s q r f l).2 = true) {p : Prm} {k : Nat} (e1 : p.rg k = r) (e2 : p.nf = f) (e3 : p.len k = l) : okI p k (insAt s q) := by
  unfold M.ins at h
  by_cases e : M.tk s q 0 22 = true
  · rw [if_pos e] at h
    have hop := (M.tk_lt e).2.2
    have hb := M.bt_lt s
    obtain ⟨f0, f1, f2, f3, f4, f5, f6⟩ := k_facts (M.bt s q) (by omega)
    unfold M.opn at h
    by_cases e0 : M.tk s (q + 1) 0 (M.hiOf r f (M.k0 (M.bt s q))) = true
    · rw [if_pos e0] at h
      have g0 := (M.tk_lt e0).2.2
      have a0 : M.bt s q ≠ 7 → M.bt s q ≠ 16 → M.bt s (q + 1) < p.rg k := fun n7 n16 => by
        rw [f0 n7 n16] at g0
        have : M.hiOf r f 114 = r - 1 := rfl
        omega
      by_cases e1' : M.k1 (M.bt s q) = 116
      · rw [if_pos e1'] at h
        have hj : M.bt s q = 7 ∨ M.bt s q = 8 := Classical.byContradiction fun hn => f6 (fun e => hn (Or.inl e)) (fun e => hn (Or.inr e)) e1'
        unfold M.tgt at h
        by_cases t1 : s.size < q + 1 + 1 + 2
        · rw [if_pos t1] at h; cases h
        · rw [if_neg t1] at h
          by_cases t2 : l < 256 * M.bt s (q + 1 + 1) + M.bt s (q + 1 + 1 + 1)
          · rw [if_pos t2] at h; cases h
          · refine ⟨by show M.bt s q < 23; omega, hb _, hb _, hb _, a0, fun hh => ?_, fun hh => ?_, fun _ => ?_, fun hh => ?_, fun hh => ?_⟩
            · have hh' : M.bt s q = 1 ∨ (2 ≤ M.bt s q ∧ M.bt s q ≤ 6) ∨ M.bt s q = 10 ∨ M.bt s q = 11 ∨ M.bt s q = 13 ∨ M.bt s q = 15 ∨ M.bt s q = 18 ∨ M.bt s q = 21 := hh
              omega
            · have hh' : (2 ≤ M.bt s q ∧ M.bt s q ≤ 6) ∨ M.bt s q = 10 ∨ M.bt s q = 11 ∨ M.bt s q = 12 ∨ M.bt s q = 13 ∨ M.bt s q = 15 := hh
              omega
            · show 256 * M.bt s (q + 2) + M.bt s (q + 3) ≤ p.len k
              rw [e3]
              exact Nat.le_of_not_lt t2
            · have hh' : M.bt s q = 9 := hh
              omega
            · have hh' : M.bt s q = 12 := hh
              omega
      · rw [if_neg e1'] at h
        have hnj : ¬ (M.bt s q = 7 ∨ M.bt s q = 8) := fun hh => e1' (f3 hh)
        by_cases t1 : M.tk s (q + 1 + 1) 0 (M.hiOf r f (M.k1 (M.bt s q))) = true
        · rw [if_pos t1] at h
          have g1 : M.bt s (q + 2) ≤ M.hiOf r f (M.k1 (M.bt s q)) := (M.tk_lt t1).2.2
          by_cases t2 : M.tk s (q + 1 + 2) 0 (M.hiOf r f (M.k2 (M.bt s q))) = true
          · have g2 : M.bt s (q + 3) ≤ M.hiOf r f (M.k2 (M.bt s q)) := (M.tk_lt t2).2.2
            have hi1 : M.hiOf r f 114 = r - 1 := rfl
            have hi2 : M.hiOf r f 115 = 8 := rfl
            have hi3 : M.hiOf r f 102 = f - 1 := rfl
            refine ⟨by show M.bt s q < 23; omega, hb _, hb _, hb _, a0, fun hh => ?_, fun hh => ?_, fun hh => absurd hh hnj, fun hh => ?_, fun hh => ?_⟩
            · show M.bt s (q + 2) < p.rg k
              rw [f1 hh] at g1; omega
            · show M.bt s (q + 3) < p.rg k
              rw [f2 hh] at g2; omega
            · show M.bt s (q + 2) ≤ 8
              rw [f4 hh] at g1; omega
            · show M.bt s (q + 2) < p.nf
              rw [f5 hh] at g1; omega
          · rw [if_neg t2] at h; cases h
        · rw [if_neg t1] at h; cases h
    · rw [if_neg e0] at h; cases h
  · rw [if_neg e] at h; cases h
theorem prg_fn {s : ByteArray} (h : (M.prg s).2 = true) : 1 ≤ M.bt s 0 ∧ M.bt s 0 ≤ 8 ∧ ∀ k, k < M.bt s 0 → (M.fn s (M.pos s k) (M.bt s 0)).2 = true := by
  unfold M.prg at h
  by_cases e : M.tk s 0 1 8 = true
  · rw [if_pos e] at h
    have hh := M.tk_lt e
    have h' : ((M.fns s (M.bt s 0) 1 (M.bt s 0)).2 && decide ((M.fns s (M.bt s 0) 1 (M.bt s 0)).1 = s.size)) = true := h
    rw [Bool.and_eq_true] at h'
    refine ⟨hh.2.1, hh.2.2, fun k hk => ?_⟩
    have := fns_at (s := s) (f := M.bt s 0) (M.bt s 0) 0 h'.1 k hk
    rw [Nat.zero_add] at this
    exact this
  · rw [if_neg e] at h; cases h
theorem prg_PI {s : ByteArray} (h : (M.prg s).2 = true) {p : Prm} (e1 : ∀ k, p.rg k = M.bt s (M.pos s k)) (e2 : p.nf = M.bt s 0) (e3 : ∀ k, p.len k = M.bt s (M.pos s k + 1)) (e4 : ∀ k i, p.ins k i = insAt s (M.pos s k + 2 + 4 * i)) : PI p := by
  obtain ⟨n1, n2, hf⟩ := prg_fn h
  intro f hfn i hi
  rw [e2] at hfn
  rw [e3] at hi
  have hk := hf f hfn
  have hy := M.fn_yes hk
  have hc : (M.code s (M.bt s (M.pos s f)) (M.bt s 0) (M.bt s (M.pos s f + 1)) (M.pos s f + 2) (M.bt s (M.pos s f + 1))).2 = true := by
    unfold M.fn at hk
    by_cases a : M.tk s (M.pos s f) 2 8 = true
    · rw [if_pos a] at hk
      by_cases b : M.tk s (M.pos s f + 1) 1 200 = true
      · rw [if_pos b] at hk; exact hk
      · rw [if_neg b] at hk; cases hk
    · rw [if_neg a] at hk; cases hk
  rw [e4]
  exact ins_okI hy.2.1 n1 (code_at _ _ hc i hi) (e1 f) e2 (e3 f)
end Go.Proofs.YtnjiinbhbjpfkaaGreatDoor.F
