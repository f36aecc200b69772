/-
  The machine: one instruction, whose closure is of function 151.
-/
import Derived.Test.YtnjiinbhbjpfkaaGreatDoorGateU
namespace Go.Proofs.YtnjiinbhbjpfkaaGreatDoor.F
open Go.RowKit
set_option maxRecDepth 100000 in
set_option maxHeartbeats 4000000 in
theorem one151 {p : Prm} {s : Pl} {g : Geo} {w : World} {t op a b c : Nat} {wb : Nat} (h : Rep p s g w) (hP : PW p) (hR : Rn p s t) (hev : s.ev.length ≤ 1000) (hop : op < 23)
    (hi : ((s.ends p t 21).T t).run = true → p.ins (topF (s.ends p t 21) t).f (topF (s.ends p t 21) t).nx = (op, a, b, c) ∧ p.E0 (4 + op) = Fv 151 #[P0 wb])
    (hc : ((s.ends p t 21).T t).run = true → ∀ g1 w1, Rep p ((s.ends p t 21).took t) g1 w1 → Rn p ((s.ends p t 21).took t) t → Calls Tryz.prog 151 #[stpV p ((s.ends p t 21).took t) g1 t (op, a, b, c), P0 wb] w1 fun e w' => ∃ (why : Int) (s3 : Pl), e = .returned (.int .i64 why) ∧ instR p ((s.ends p t 21).took t) t (op, a, b, c) why s3 ∧ ∃ g', Tr p ((s.ends p t 21).took t) g1 w1 s3 g' w') :
    Calls Tryz.prog 134 #[P0 p.eb, P0 (g.tb t)] w fun e w' => e = .returned (.tuple #[]) ∧ ∃ s' g', stepR p t s s' ∧ Tr p s g w s' g' w' := by
  have HC := hid hc
  have HI := hid hi
  have HE : Hid (s.ev.length ≤ 1000) := hev
  have HP := hid hP
  have HTs := hid hR.ht
  have HI0 : Hid (OneI p s g w t (s.T t).fr.length w) := ⟨s, g, 21, Tr.refl h, hR, rfl, Nat.le_trans hR.fw.n2 (by omega), rfl, rfl⟩
  have HEB : Hid (p.eb < w.heap.size) := h.E.lt
  have HTB : Hid (g.tb t < w.heap.size) := (h.tk hR.ht).lt
  clear hc hi hev hP hR h
  go_enter Tryz.func134, Tryz.ntmps134
  go_wp2_with fail
  go_loopg [] ((s.T t).fr.length) (fun n wr => Hid (OneI p s g w t n wr))
  case atStart => exact HI0
  case round =>
    obtain ⟨s1, g1, k, hT, hR1, he1, hk1, hS, hln⟩ := hrel.out
    have htb := hT.t t HTs.out
    have h164 := topR hT.r hR1
    rw [htb] at h164
    have H164 := hid h164
    have KT := hid hT
    have KR := hid hR1
    have KK := hid (And.intro he1 (And.intro hk1 (And.intro hS hln)))
    have HTb : Hid (g1.tb t = g.tb t) := htb
    clear h164 hT hR1 he1 hk1 hS hln htb HI0
    go_wp2_with fail
    refine H164.out.mono ?_
    rintro e w1 ⟨rfl, hg1⟩
    have KG1 := hid hg1
    clear hg1 H164
    go_wp2_with fail
    refine (atEndR (KT.out.r.kept KG1.out) KR.out).mono ?_
    rintro e w2 ⟨rfl, hg2⟩
    have KG2 := hid (grown_trans KG1.out hg2)
    clear hg2
    by_cases hd : (topF s1 t).nx = p.len (topF s1 t).f
    · have hdd : decide ((topF s1 t).nx = p.len (topF s1 t).f) = true := by simpa using hd
      have HD := hid hd
      simp only [hdd]
      clear hd hdd
      go_wp2_with fail
      refine (number_any 0 _).mono ?_
      rintro e w3 ⟨rfl, rfl⟩
      go_wp2_with fail
      have KG3 := hid (grown_alloc KG2.out (.cells #[.int .i64 0, .int .i64 0] 149))
      have hgb := giveBackQ (0, 0) (KT.out.r.kept KG3.out) HP.out KR.out (by rw [KK.out.1]; have := HE.out; omega)
      rw [HTb.out] at hgb
      refine hgb.mono ?_
      rintro e w4 ⟨rfl, g4, hT4⟩
      have hT5 := (KT.out.kept KG3.out).trans hT4
      have htb4 := hT5.t t HTs.out
      have hB := KR.out.ok.back KR.out.lv KR.out.wh (PGot.num (s := s1) 0)
      have hrr := back_run KR.out.ok.lw KR.out.ht (0, 0)
      have hst := back_st s1 t (0, 0)
      have ht4 : isT (s1.back t (0, 0)) t := by
        by_cases e0 : topN s1 t = 0
        · exact (isT_nt (hst.1 e0).2.2).2 KR.out.ht
        · exact (isT_nt (hst.2 e0).2.2.1).2 KR.out.ht
      have lt4 : g.tb t < w4.heap.size := by
        have := (hT5.r.tk ht4).lt
        rw [htb4] at this
        exact this
      by_cases e0 : topN s1 t = 0
      · have c2 := hT5.r.run ht4 (hrr.1 e0)
        rw [htb4] at c2
        have HT5 := hid hT5
        have hEn : s.ends p t 21 = s1.back t (0, 0) := by
          obtain ⟨_, q2, q3, _⟩ := KK.out
          obtain ⟨k', rfl⟩ : ∃ k', k = k' + 1 := ⟨k - 1, by have := KR.out.hi; omega⟩
          rw [ends_next KR.out.run HD.out, ends_stop k' (hrr.1 e0)] at q3
          exact q3.symm
        have HEn := hid (And.intro hEn (hrr.1 e0))
        clear hgb hT4 hT5 htb4 hB hrr hst ht4 e0 hEn
        go_wp2_with fail
        refine bodyPost_ret (results_none rfl _ _ _) rfl ?_
        refine ⟨rfl, s1.back t (0, 0), g4, ?_, ?_⟩
        · unfold stepR
          rw [HEn.out.1, if_neg (by rw [HEn.out.2]; decide)]
        · first | exact HT5.out | exact HT5.out.kept (grown_drew (grown_refl _ _)) | exact HT5.out.kept (grown_drewN (grown_refl _ _) _)
      · obtain ⟨r1, r2⟩ := hrr.2 e0
        obtain ⟨b1, b2, b3, b4⟩ := hst.2 e0
        have c2 := hT5.r.run ht4 (r1.trans KR.out.run)
        rw [htb4] at c2
        have hIn : ∀ w5, w4.grownBy w5 none → OneI p s g w t ((s1.T t).fr.length - 1) w5 := fun w5 hg5 => by
          obtain ⟨q1, q2, q3, q4⟩ := KK.out
          obtain ⟨k', rfl⟩ : ∃ k', k = k' + 1 := ⟨k - 1, by have := KR.out.hi; omega⟩
          rw [ends_next KR.out.run HD.out] at q3
          exact ⟨s1.back t (0, 0), g4, k', hT5.kept hg5, ⟨hB, by rw [b1]; exact KR.out.lv, r1.trans KR.out.run⟩, b2.trans q1, by rw [r2]; omega, q3, r2⟩
        have HIn := hid hIn
        clear hgb hT4 hT5 htb4 hB hrr hst ht4 e0 r1 r2 b1 b2 b3 b4 hIn
        go_wp2_with fail
        go_roundg ((s1.T t).fr.length - 1)
        case measure =>
          have q4 := KK.out.2.2.2
          have q5 := KR.out.hi
          omega
        case rel => first | exact HIn.out _ (grown_refl _ _) | exact HIn.out _ (grown_drew (grown_refl _ _)) | exact HIn.out _ (grown_drewN (grown_refl _ _) _)
    · have hdd : decide ((topF s1 t).nx = p.len (topF s1 t).f) = false := by simpa using hd
      have hEn : s.ends p t 21 = s1 := by
        obtain ⟨_, q2, q3, _⟩ := KK.out
        rw [← q3]
        exact ends_here (by have := KR.out.hi; omega) hd
      rw [hEn] at HC HI
      have HC2 := hid (HC.out KR.out.run)
      obtain ⟨hi1, hi2⟩ := HI.out KR.out.run
      have HI1 := hid hi1
      have HI2 := hid hi2
      have HD := hid hd
      have HEn := hid hEn
      have h164 := topR (KT.out.r.kept KG2.out) KR.out
      rw [HTb.out] at h164
      have H164 := hid h164
      simp only [hdd]
      clear hd hdd hEn HC HI hi1 hi2 h164
      go_wp2_with fail
      refine H164.out.mono ?_
      rintro e w3 ⟨rfl, hg3⟩
      have KG3 := hid (grown_trans KG2.out hg3)
      clear hg3 H164
      go_wp2_with fail
      refine (tookR (KT.out.r.kept KG3.out) HP.out KR.out HD.out HI1.out).mono ?_
      rintro e w4 ⟨rfl, hT4⟩
      have KT4 := hid ((KT.out.kept KG3.out).trans hT4)
      clear hT4
      have hfbe : g1.fb t (topN (s1.took t) t) = g1.fb t (topN s1 t) := by rw [took_topN]
      generalize hfb : g1.fb t (topN s1 t) = fb at *
      have HFB := hid hfbe
      clear hfbe hfb
      go_wp2_with fail
      have HX := hid (s7_new w4 op a b c fb (g.tb t) p.eb)
      have KG5 := hid (World.grownBy_alloc w4 (.cells #[.int .u8 (op : Int), .int .u8 (a : Int), .int .u8 (b : Int), .int .u8 (c : Int), P0 fb, P0 (g.tb t), P0 p.eb] 186) none)
      have hz5 : (w4.alloc (.cells #[.int .u8 (op : Int), .int .u8 (a : Int), .int .u8 (b : Int), .int .u8 (c : Int), P0 fb, P0 (g.tb t), P0 p.eb] 186)).heap.size = w4.heap.size + 1 := by simp
      generalize hW : w4.alloc (.cells #[.int .u8 (op : Int), .int .u8 (a : Int), .int .u8 (b : Int), .int .u8 (c : Int), P0 fb, P0 (g.tb t), P0 p.eb] 186) = w5 at *
      clear hW
      obtain ⟨x0, x1, x2, x3, x4, x5, x6⟩ := s7_of HX.out
      have lx := heap_lt HX.out
      have KT5 := hid (KT4.out.kept KG5.out)
      have e5 : w5.cell? ⟨p.eb, 4 + op, none⟩ = some (Fv 151 #[P0 wb]) := by
        rw [KT5.out.r.E.cell (4 + op) (by omega)]
        unfold engE
        rw [if_pos (by omega), HI2.out]
      have le5 := KT5.out.r.E.lt
      have hop2 : (op : Int) < 23 := by omega
      have hcall := HC2.out g1 w5.drew (KT5.out.kept (grown_drew (grown_refl _ _))).r (took_ok KR.out HD.out).1
      have hstp : stpV p (s1.took t) g1 t (op, a, b, c) = stepV op a b c fb (g.tb t) p.eb := by
        show stepV op a b c (g1.fb t (topN (s1.took t) t)) (g1.tb t) p.eb = _
        rw [HFB.out, HTb.out]
      rw [hstp] at hcall
      have HCL := hid hcall
      have HP2 := HP
      clear hcall hstp HC2
      go_region_with (go_at_call 151; refine HCL.out.mono ?_; rintro e w6 ⟨why, s3, rfl, hin6, g6, hT6⟩; have HN6 := hid hin6; have HT6 := hid hT6; clear hin6 hT6)
      all_goals
        have KT6 := hid ((KT5.out.kept (grown_drew (grown_refl _ _))).trans HT6.out)
        clear HCL e5 x0 x1 x2 x3 x4 x5 x6 lx le5 HX hz5
        by_cases hwy : why = 0
        · subst hwy
          have HST : Hid (stepR p t s s3) := by
            show stepR p t s s3
            unfold stepR
            rw [HEn.out, if_pos KR.out.run]
            exact ⟨0, s3, by rw [HI1.out]; exact HN6.out, by rw [if_pos rfl]⟩
          go_wp2_with fail
          go_end0
          exact ⟨rfl, s3, g6, HST.out, KT6.out⟩
        · obtain ⟨v1, v2, v3⟩ := inst_why (show ((op, a, b, c) : Ins).1 < 23 from hop) HN6.out
          obtain ⟨n8, hn8⟩ : ∃ n8 : Nat, why = (n8 : Int) := ⟨why.toNat, by omega⟩
          have hs3 := v3 hwy
          subst hs3
          subst hn8
          have HST : Hid (stepR p t s ((s1.took t).leave t (0, -(n8 : Int)) 3 n8)) := by
            show stepR p t s _
            unfold stepR
            rw [HEn.out, if_pos KR.out.run]
            exact ⟨n8, s1.took t, by rw [HI1.out]; exact HN6.out, by rw [if_neg hwy]⟩
          have hfl := failQ (why := n8) (by omega) KT6.out.r HP2.out (took_ok KR.out HD.out).1 (by show s1.ev.length ≤ _; rw [KK.out.1]; have := HE.out; omega)
          rw [show g6.tb t = g.tb t from KT6.out.t t HTs.out] at hfl
          have HFL := hid hfl
          have hwz : ¬ ((n8 : Int) = 0) := hwy
          clear hfl v1 v2 v3 hwy
          go_wp2_with fail
          refine HFL.out.mono ?_
          rintro e w7 ⟨rfl, g7, hT7⟩
          have KT7 := hid (KT6.out.trans hT7)
          clear hT7
          go_wp2_with fail
          go_end0
          exact ⟨rfl, _, g7, HST.out, KT7.out⟩
set_option maxRecDepth 100000 in
set_option maxHeartbeats 4000000 in
theorem one101 {p : Prm} {s : Pl} {g : Geo} {w : World} {t op a b c : Nat} (h : Rep p s g w) (hP : PW p) (hR : Rn p s t) (hev : s.ev.length ≤ 1000) (hop : op < 23)
    (hi : ((s.ends p t 21).T t).run = true → p.ins (topF (s.ends p t 21) t).f (topF (s.ends p t 21) t).nx = (op, a, b, c) ∧ p.E0 (4 + op) = Fv 101 #[])
    (hc : ((s.ends p t 21).T t).run = true → ∀ g1 w1, Rep p ((s.ends p t 21).took t) g1 w1 → Rn p ((s.ends p t 21).took t) t → Calls Tryz.prog 101 #[stpV p ((s.ends p t 21).took t) g1 t (op, a, b, c)] w1 fun e w' => ∃ (why : Int) (s3 : Pl), e = .returned (.int .i64 why) ∧ instR p ((s.ends p t 21).took t) t (op, a, b, c) why s3 ∧ ∃ g', Tr p ((s.ends p t 21).took t) g1 w1 s3 g' w') :
    Calls Tryz.prog 134 #[P0 p.eb, P0 (g.tb t)] w fun e w' => e = .returned (.tuple #[]) ∧ ∃ s' g', stepR p t s s' ∧ Tr p s g w s' g' w' := by
  have HC := hid hc
  have HI := hid hi
  have HE : Hid (s.ev.length ≤ 1000) := hev
  have HP := hid hP
  have HTs := hid hR.ht
  have HI0 : Hid (OneI p s g w t (s.T t).fr.length w) := ⟨s, g, 21, Tr.refl h, hR, rfl, Nat.le_trans hR.fw.n2 (by omega), rfl, rfl⟩
  have HEB : Hid (p.eb < w.heap.size) := h.E.lt
  have HTB : Hid (g.tb t < w.heap.size) := (h.tk hR.ht).lt
  clear hc hi hev hP hR h
  go_enter Tryz.func134, Tryz.ntmps134
  go_wp2_with fail
  go_loopg [] ((s.T t).fr.length) (fun n wr => Hid (OneI p s g w t n wr))
  case atStart => exact HI0
  case round =>
    obtain ⟨s1, g1, k, hT, hR1, he1, hk1, hS, hln⟩ := hrel.out
    have htb := hT.t t HTs.out
    have h164 := topR hT.r hR1
    rw [htb] at h164
    have H164 := hid h164
    have KT := hid hT
    have KR := hid hR1
    have KK := hid (And.intro he1 (And.intro hk1 (And.intro hS hln)))
    have HTb : Hid (g1.tb t = g.tb t) := htb
    clear h164 hT hR1 he1 hk1 hS hln htb HI0
    go_wp2_with fail
    refine H164.out.mono ?_
    rintro e w1 ⟨rfl, hg1⟩
    have KG1 := hid hg1
    clear hg1 H164
    go_wp2_with fail
    refine (atEndR (KT.out.r.kept KG1.out) KR.out).mono ?_
    rintro e w2 ⟨rfl, hg2⟩
    have KG2 := hid (grown_trans KG1.out hg2)
    clear hg2
    by_cases hd : (topF s1 t).nx = p.len (topF s1 t).f
    · have hdd : decide ((topF s1 t).nx = p.len (topF s1 t).f) = true := by simpa using hd
      have HD := hid hd
      simp only [hdd]
      clear hd hdd
      go_wp2_with fail
      refine (number_any 0 _).mono ?_
      rintro e w3 ⟨rfl, rfl⟩
      go_wp2_with fail
      have KG3 := hid (grown_alloc KG2.out (.cells #[.int .i64 0, .int .i64 0] 149))
      have hgb := giveBackQ (0, 0) (KT.out.r.kept KG3.out) HP.out KR.out (by rw [KK.out.1]; have := HE.out; omega)
      rw [HTb.out] at hgb
      refine hgb.mono ?_
      rintro e w4 ⟨rfl, g4, hT4⟩
      have hT5 := (KT.out.kept KG3.out).trans hT4
      have htb4 := hT5.t t HTs.out
      have hB := KR.out.ok.back KR.out.lv KR.out.wh (PGot.num (s := s1) 0)
      have hrr := back_run KR.out.ok.lw KR.out.ht (0, 0)
      have hst := back_st s1 t (0, 0)
      have ht4 : isT (s1.back t (0, 0)) t := by
        by_cases e0 : topN s1 t = 0
        · exact (isT_nt (hst.1 e0).2.2).2 KR.out.ht
        · exact (isT_nt (hst.2 e0).2.2.1).2 KR.out.ht
      have lt4 : g.tb t < w4.heap.size := by
        have := (hT5.r.tk ht4).lt
        rw [htb4] at this
        exact this
      by_cases e0 : topN s1 t = 0
      · have c2 := hT5.r.run ht4 (hrr.1 e0)
        rw [htb4] at c2
        have HT5 := hid hT5
        have hEn : s.ends p t 21 = s1.back t (0, 0) := by
          obtain ⟨_, q2, q3, _⟩ := KK.out
          obtain ⟨k', rfl⟩ : ∃ k', k = k' + 1 := ⟨k - 1, by have := KR.out.hi; omega⟩
          rw [ends_next KR.out.run HD.out, ends_stop k' (hrr.1 e0)] at q3
          exact q3.symm
        have HEn := hid (And.intro hEn (hrr.1 e0))
        clear hgb hT4 hT5 htb4 hB hrr hst ht4 e0 hEn
        go_wp2_with fail
        refine bodyPost_ret (results_none rfl _ _ _) rfl ?_
        refine ⟨rfl, s1.back t (0, 0), g4, ?_, ?_⟩
        · unfold stepR
          rw [HEn.out.1, if_neg (by rw [HEn.out.2]; decide)]
        · first | exact HT5.out | exact HT5.out.kept (grown_drew (grown_refl _ _)) | exact HT5.out.kept (grown_drewN (grown_refl _ _) _)
      · obtain ⟨r1, r2⟩ := hrr.2 e0
        obtain ⟨b1, b2, b3, b4⟩ := hst.2 e0
        have c2 := hT5.r.run ht4 (r1.trans KR.out.run)
        rw [htb4] at c2
        have hIn : ∀ w5, w4.grownBy w5 none → OneI p s g w t ((s1.T t).fr.length - 1) w5 := fun w5 hg5 => by
          obtain ⟨q1, q2, q3, q4⟩ := KK.out
          obtain ⟨k', rfl⟩ : ∃ k', k = k' + 1 := ⟨k - 1, by have := KR.out.hi; omega⟩
          rw [ends_next KR.out.run HD.out] at q3
          exact ⟨s1.back t (0, 0), g4, k', hT5.kept hg5, ⟨hB, by rw [b1]; exact KR.out.lv, r1.trans KR.out.run⟩, b2.trans q1, by rw [r2]; omega, q3, r2⟩
        have HIn := hid hIn
        clear hgb hT4 hT5 htb4 hB hrr hst ht4 e0 r1 r2 b1 b2 b3 b4 hIn
        go_wp2_with fail
        go_roundg ((s1.T t).fr.length - 1)
        case measure =>
          have q4 := KK.out.2.2.2
          have q5 := KR.out.hi
          omega
        case rel => first | exact HIn.out _ (grown_refl _ _) | exact HIn.out _ (grown_drew (grown_refl _ _)) | exact HIn.out _ (grown_drewN (grown_refl _ _) _)
    · have hdd : decide ((topF s1 t).nx = p.len (topF s1 t).f) = false := by simpa using hd
      have hEn : s.ends p t 21 = s1 := by
        obtain ⟨_, q2, q3, _⟩ := KK.out
        rw [← q3]
        exact ends_here (by have := KR.out.hi; omega) hd
      rw [hEn] at HC HI
      have HC2 := hid (HC.out KR.out.run)
      obtain ⟨hi1, hi2⟩ := HI.out KR.out.run
      have HI1 := hid hi1
      have HI2 := hid hi2
      have HD := hid hd
      have HEn := hid hEn
      have h164 := topR (KT.out.r.kept KG2.out) KR.out
      rw [HTb.out] at h164
      have H164 := hid h164
      simp only [hdd]
      clear hd hdd hEn HC HI hi1 hi2 h164
      go_wp2_with fail
      refine H164.out.mono ?_
      rintro e w3 ⟨rfl, hg3⟩
      have KG3 := hid (grown_trans KG2.out hg3)
      clear hg3 H164
      go_wp2_with fail
      refine (tookR (KT.out.r.kept KG3.out) HP.out KR.out HD.out HI1.out).mono ?_
      rintro e w4 ⟨rfl, hT4⟩
      have KT4 := hid ((KT.out.kept KG3.out).trans hT4)
      clear hT4
      have hfbe : g1.fb t (topN (s1.took t) t) = g1.fb t (topN s1 t) := by rw [took_topN]
      generalize hfb : g1.fb t (topN s1 t) = fb at *
      have HFB := hid hfbe
      clear hfbe hfb
      go_wp2_with fail
      have HX := hid (s7_new w4 op a b c fb (g.tb t) p.eb)
      have KG5 := hid (World.grownBy_alloc w4 (.cells #[.int .u8 (op : Int), .int .u8 (a : Int), .int .u8 (b : Int), .int .u8 (c : Int), P0 fb, P0 (g.tb t), P0 p.eb] 186) none)
      have hz5 : (w4.alloc (.cells #[.int .u8 (op : Int), .int .u8 (a : Int), .int .u8 (b : Int), .int .u8 (c : Int), P0 fb, P0 (g.tb t), P0 p.eb] 186)).heap.size = w4.heap.size + 1 := by simp
      generalize hW : w4.alloc (.cells #[.int .u8 (op : Int), .int .u8 (a : Int), .int .u8 (b : Int), .int .u8 (c : Int), P0 fb, P0 (g.tb t), P0 p.eb] 186) = w5 at *
      clear hW
      obtain ⟨x0, x1, x2, x3, x4, x5, x6⟩ := s7_of HX.out
      have lx := heap_lt HX.out
      have KT5 := hid (KT4.out.kept KG5.out)
      have e5 : w5.cell? ⟨p.eb, 4 + op, none⟩ = some (Fv 101 #[]) := by
        rw [KT5.out.r.E.cell (4 + op) (by omega)]
        unfold engE
        rw [if_pos (by omega), HI2.out]
      have le5 := KT5.out.r.E.lt
      have hop2 : (op : Int) < 23 := by omega
      have hcall := HC2.out g1 w5.drew (KT5.out.kept (grown_drew (grown_refl _ _))).r (took_ok KR.out HD.out).1
      have hstp : stpV p (s1.took t) g1 t (op, a, b, c) = stepV op a b c fb (g.tb t) p.eb := by
        show stepV op a b c (g1.fb t (topN (s1.took t) t)) (g1.tb t) p.eb = _
        rw [HFB.out, HTb.out]
      rw [hstp] at hcall
      have HCL := hid hcall
      have HP2 := HP
      clear hcall hstp HC2
      go_region_with (go_at_call 101; refine HCL.out.mono ?_; rintro e w6 ⟨why, s3, rfl, hin6, g6, hT6⟩; have HN6 := hid hin6; have HT6 := hid hT6; clear hin6 hT6)
      all_goals
        have KT6 := hid ((KT5.out.kept (grown_drew (grown_refl _ _))).trans HT6.out)
        clear HCL e5 x0 x1 x2 x3 x4 x5 x6 lx le5 HX hz5
        by_cases hwy : why = 0
        · subst hwy
          have HST : Hid (stepR p t s s3) := by
            show stepR p t s s3
            unfold stepR
            rw [HEn.out, if_pos KR.out.run]
            exact ⟨0, s3, by rw [HI1.out]; exact HN6.out, by rw [if_pos rfl]⟩
          go_wp2_with fail
          go_end0
          exact ⟨rfl, s3, g6, HST.out, KT6.out⟩
        · obtain ⟨v1, v2, v3⟩ := inst_why (show ((op, a, b, c) : Ins).1 < 23 from hop) HN6.out
          obtain ⟨n8, hn8⟩ : ∃ n8 : Nat, why = (n8 : Int) := ⟨why.toNat, by omega⟩
          have hs3 := v3 hwy
          subst hs3
          subst hn8
          have HST : Hid (stepR p t s ((s1.took t).leave t (0, -(n8 : Int)) 3 n8)) := by
            show stepR p t s _
            unfold stepR
            rw [HEn.out, if_pos KR.out.run]
            exact ⟨n8, s1.took t, by rw [HI1.out]; exact HN6.out, by rw [if_neg hwy]⟩
          have hfl := failQ (why := n8) (by omega) KT6.out.r HP2.out (took_ok KR.out HD.out).1 (by show s1.ev.length ≤ _; rw [KK.out.1]; have := HE.out; omega)
          rw [show g6.tb t = g.tb t from KT6.out.t t HTs.out] at hfl
          have HFL := hid hfl
          have hwz : ¬ ((n8 : Int) = 0) := hwy
          clear hfl v1 v2 v3 hwy
          go_wp2_with fail
          refine HFL.out.mono ?_
          rintro e w7 ⟨rfl, g7, hT7⟩
          have KT7 := hid (KT6.out.trans hT7)
          clear hT7
          go_wp2_with fail
          go_end0
          exact ⟨rfl, _, g7, HST.out, KT7.out⟩
set_option maxRecDepth 100000 in
set_option maxHeartbeats 4000000 in
theorem one102 {p : Prm} {s : Pl} {g : Geo} {w : World} {t op a b c : Nat} (h : Rep p s g w) (hP : PW p) (hR : Rn p s t) (hev : s.ev.length ≤ 1000) (hop : op < 23)
    (hi : ((s.ends p t 21).T t).run = true → p.ins (topF (s.ends p t 21) t).f (topF (s.ends p t 21) t).nx = (op, a, b, c) ∧ p.E0 (4 + op) = Fv 102 #[])
    (hc : ((s.ends p t 21).T t).run = true → ∀ g1 w1, Rep p ((s.ends p t 21).took t) g1 w1 → Rn p ((s.ends p t 21).took t) t → Calls Tryz.prog 102 #[stpV p ((s.ends p t 21).took t) g1 t (op, a, b, c)] w1 fun e w' => ∃ (why : Int) (s3 : Pl), e = .returned (.int .i64 why) ∧ instR p ((s.ends p t 21).took t) t (op, a, b, c) why s3 ∧ ∃ g', Tr p ((s.ends p t 21).took t) g1 w1 s3 g' w') :
    Calls Tryz.prog 134 #[P0 p.eb, P0 (g.tb t)] w fun e w' => e = .returned (.tuple #[]) ∧ ∃ s' g', stepR p t s s' ∧ Tr p s g w s' g' w' := by
  have HC := hid hc
  have HI := hid hi
  have HE : Hid (s.ev.length ≤ 1000) := hev
  have HP := hid hP
  have HTs := hid hR.ht
  have HI0 : Hid (OneI p s g w t (s.T t).fr.length w) := ⟨s, g, 21, Tr.refl h, hR, rfl, Nat.le_trans hR.fw.n2 (by omega), rfl, rfl⟩
  have HEB : Hid (p.eb < w.heap.size) := h.E.lt
  have HTB : Hid (g.tb t < w.heap.size) := (h.tk hR.ht).lt
  clear hc hi hev hP hR h
  go_enter Tryz.func134, Tryz.ntmps134
  go_wp2_with fail
  go_loopg [] ((s.T t).fr.length) (fun n wr => Hid (OneI p s g w t n wr))
  case atStart => exact HI0
  case round =>
    obtain ⟨s1, g1, k, hT, hR1, he1, hk1, hS, hln⟩ := hrel.out
    have htb := hT.t t HTs.out
    have h164 := topR hT.r hR1
    rw [htb] at h164
    have H164 := hid h164
    have KT := hid hT
    have KR := hid hR1
    have KK := hid (And.intro he1 (And.intro hk1 (And.intro hS hln)))
    have HTb : Hid (g1.tb t = g.tb t) := htb
    clear h164 hT hR1 he1 hk1 hS hln htb HI0
    go_wp2_with fail
    refine H164.out.mono ?_
    rintro e w1 ⟨rfl, hg1⟩
    have KG1 := hid hg1
    clear hg1 H164
    go_wp2_with fail
    refine (atEndR (KT.out.r.kept KG1.out) KR.out).mono ?_
    rintro e w2 ⟨rfl, hg2⟩
    have KG2 := hid (grown_trans KG1.out hg2)
    clear hg2
    by_cases hd : (topF s1 t).nx = p.len (topF s1 t).f
    · have hdd : decide ((topF s1 t).nx = p.len (topF s1 t).f) = true := by simpa using hd
      have HD := hid hd
      simp only [hdd]
      clear hd hdd
      go_wp2_with fail
      refine (number_any 0 _).mono ?_
      rintro e w3 ⟨rfl, rfl⟩
      go_wp2_with fail
      have KG3 := hid (grown_alloc KG2.out (.cells #[.int .i64 0, .int .i64 0] 149))
      have hgb := giveBackQ (0, 0) (KT.out.r.kept KG3.out) HP.out KR.out (by rw [KK.out.1]; have := HE.out; omega)
      rw [HTb.out] at hgb
      refine hgb.mono ?_
      rintro e w4 ⟨rfl, g4, hT4⟩
      have hT5 := (KT.out.kept KG3.out).trans hT4
      have htb4 := hT5.t t HTs.out
      have hB := KR.out.ok.back KR.out.lv KR.out.wh (PGot.num (s := s1) 0)
      have hrr := back_run KR.out.ok.lw KR.out.ht (0, 0)
      have hst := back_st s1 t (0, 0)
      have ht4 : isT (s1.back t (0, 0)) t := by
        by_cases e0 : topN s1 t = 0
        · exact (isT_nt (hst.1 e0).2.2).2 KR.out.ht
        · exact (isT_nt (hst.2 e0).2.2.1).2 KR.out.ht
      have lt4 : g.tb t < w4.heap.size := by
        have := (hT5.r.tk ht4).lt
        rw [htb4] at this
        exact this
      by_cases e0 : topN s1 t = 0
      · have c2 := hT5.r.run ht4 (hrr.1 e0)
        rw [htb4] at c2
        have HT5 := hid hT5
        have hEn : s.ends p t 21 = s1.back t (0, 0) := by
          obtain ⟨_, q2, q3, _⟩ := KK.out
          obtain ⟨k', rfl⟩ : ∃ k', k = k' + 1 := ⟨k - 1, by have := KR.out.hi; omega⟩
          rw [ends_next KR.out.run HD.out, ends_stop k' (hrr.1 e0)] at q3
          exact q3.symm
        have HEn := hid (And.intro hEn (hrr.1 e0))
        clear hgb hT4 hT5 htb4 hB hrr hst ht4 e0 hEn
        go_wp2_with fail
        refine bodyPost_ret (results_none rfl _ _ _) rfl ?_
        refine ⟨rfl, s1.back t (0, 0), g4, ?_, ?_⟩
        · unfold stepR
          rw [HEn.out.1, if_neg (by rw [HEn.out.2]; decide)]
        · first | exact HT5.out | exact HT5.out.kept (grown_drew (grown_refl _ _)) | exact HT5.out.kept (grown_drewN (grown_refl _ _) _)
      · obtain ⟨r1, r2⟩ := hrr.2 e0
        obtain ⟨b1, b2, b3, b4⟩ := hst.2 e0
        have c2 := hT5.r.run ht4 (r1.trans KR.out.run)
        rw [htb4] at c2
        have hIn : ∀ w5, w4.grownBy w5 none → OneI p s g w t ((s1.T t).fr.length - 1) w5 := fun w5 hg5 => by
          obtain ⟨q1, q2, q3, q4⟩ := KK.out
          obtain ⟨k', rfl⟩ : ∃ k', k = k' + 1 := ⟨k - 1, by have := KR.out.hi; omega⟩
          rw [ends_next KR.out.run HD.out] at q3
          exact ⟨s1.back t (0, 0), g4, k', hT5.kept hg5, ⟨hB, by rw [b1]; exact KR.out.lv, r1.trans KR.out.run⟩, b2.trans q1, by rw [r2]; omega, q3, r2⟩
        have HIn := hid hIn
        clear hgb hT4 hT5 htb4 hB hrr hst ht4 e0 r1 r2 b1 b2 b3 b4 hIn
        go_wp2_with fail
        go_roundg ((s1.T t).fr.length - 1)
        case measure =>
          have q4 := KK.out.2.2.2
          have q5 := KR.out.hi
          omega
        case rel => first | exact HIn.out _ (grown_refl _ _) | exact HIn.out _ (grown_drew (grown_refl _ _)) | exact HIn.out _ (grown_drewN (grown_refl _ _) _)
    · have hdd : decide ((topF s1 t).nx = p.len (topF s1 t).f) = false := by simpa using hd
      have hEn : s.ends p t 21 = s1 := by
        obtain ⟨_, q2, q3, _⟩ := KK.out
        rw [← q3]
        exact ends_here (by have := KR.out.hi; omega) hd
      rw [hEn] at HC HI
      have HC2 := hid (HC.out KR.out.run)
      obtain ⟨hi1, hi2⟩ := HI.out KR.out.run
      have HI1 := hid hi1
      have HI2 := hid hi2
      have HD := hid hd
      have HEn := hid hEn
      have h164 := topR (KT.out.r.kept KG2.out) KR.out
      rw [HTb.out] at h164
      have H164 := hid h164
      simp only [hdd]
      clear hd hdd hEn HC HI hi1 hi2 h164
      go_wp2_with fail
      refine H164.out.mono ?_
      rintro e w3 ⟨rfl, hg3⟩
      have KG3 := hid (grown_trans KG2.out hg3)
      clear hg3 H164
      go_wp2_with fail
      refine (tookR (KT.out.r.kept KG3.out) HP.out KR.out HD.out HI1.out).mono ?_
      rintro e w4 ⟨rfl, hT4⟩
      have KT4 := hid ((KT.out.kept KG3.out).trans hT4)
      clear hT4
      have hfbe : g1.fb t (topN (s1.took t) t) = g1.fb t (topN s1 t) := by rw [took_topN]
      generalize hfb : g1.fb t (topN s1 t) = fb at *
      have HFB := hid hfbe
      clear hfbe hfb
      go_wp2_with fail
      have HX := hid (s7_new w4 op a b c fb (g.tb t) p.eb)
      have KG5 := hid (World.grownBy_alloc w4 (.cells #[.int .u8 (op : Int), .int .u8 (a : Int), .int .u8 (b : Int), .int .u8 (c : Int), P0 fb, P0 (g.tb t), P0 p.eb] 186) none)
      have hz5 : (w4.alloc (.cells #[.int .u8 (op : Int), .int .u8 (a : Int), .int .u8 (b : Int), .int .u8 (c : Int), P0 fb, P0 (g.tb t), P0 p.eb] 186)).heap.size = w4.heap.size + 1 := by simp
      generalize hW : w4.alloc (.cells #[.int .u8 (op : Int), .int .u8 (a : Int), .int .u8 (b : Int), .int .u8 (c : Int), P0 fb, P0 (g.tb t), P0 p.eb] 186) = w5 at *
      clear hW
      obtain ⟨x0, x1, x2, x3, x4, x5, x6⟩ := s7_of HX.out
      have lx := heap_lt HX.out
      have KT5 := hid (KT4.out.kept KG5.out)
      have e5 : w5.cell? ⟨p.eb, 4 + op, none⟩ = some (Fv 102 #[]) := by
        rw [KT5.out.r.E.cell (4 + op) (by omega)]
        unfold engE
        rw [if_pos (by omega), HI2.out]
      have le5 := KT5.out.r.E.lt
      have hop2 : (op : Int) < 23 := by omega
      have hcall := HC2.out g1 w5.drew (KT5.out.kept (grown_drew (grown_refl _ _))).r (took_ok KR.out HD.out).1
      have hstp : stpV p (s1.took t) g1 t (op, a, b, c) = stepV op a b c fb (g.tb t) p.eb := by
        show stepV op a b c (g1.fb t (topN (s1.took t) t)) (g1.tb t) p.eb = _
        rw [HFB.out, HTb.out]
      rw [hstp] at hcall
      have HCL := hid hcall
      have HP2 := HP
      clear hcall hstp HC2
      go_region_with (go_at_call 102; refine HCL.out.mono ?_; rintro e w6 ⟨why, s3, rfl, hin6, g6, hT6⟩; have HN6 := hid hin6; have HT6 := hid hT6; clear hin6 hT6)
      all_goals
        have KT6 := hid ((KT5.out.kept (grown_drew (grown_refl _ _))).trans HT6.out)
        clear HCL e5 x0 x1 x2 x3 x4 x5 x6 lx le5 HX hz5
        by_cases hwy : why = 0
        · subst hwy
          have HST : Hid (stepR p t s s3) := by
            show stepR p t s s3
            unfold stepR
            rw [HEn.out, if_pos KR.out.run]
            exact ⟨0, s3, by rw [HI1.out]; exact HN6.out, by rw [if_pos rfl]⟩
          go_wp2_with fail
          go_end0
          exact ⟨rfl, s3, g6, HST.out, KT6.out⟩
        · obtain ⟨v1, v2, v3⟩ := inst_why (show ((op, a, b, c) : Ins).1 < 23 from hop) HN6.out
          obtain ⟨n8, hn8⟩ : ∃ n8 : Nat, why = (n8 : Int) := ⟨why.toNat, by omega⟩
          have hs3 := v3 hwy
          subst hs3
          subst hn8
          have HST : Hid (stepR p t s ((s1.took t).leave t (0, -(n8 : Int)) 3 n8)) := by
            show stepR p t s _
            unfold stepR
            rw [HEn.out, if_pos KR.out.run]
            exact ⟨n8, s1.took t, by rw [HI1.out]; exact HN6.out, by rw [if_neg hwy]⟩
          have hfl := failQ (why := n8) (by omega) KT6.out.r HP2.out (took_ok KR.out HD.out).1 (by show s1.ev.length ≤ _; rw [KK.out.1]; have := HE.out; omega)
          rw [show g6.tb t = g.tb t from KT6.out.t t HTs.out] at hfl
          have HFL := hid hfl
          have hwz : ¬ ((n8 : Int) = 0) := hwy
          clear hfl v1 v2 v3 hwy
          go_wp2_with fail
          refine HFL.out.mono ?_
          rintro e w7 ⟨rfl, g7, hT7⟩
          have KT7 := hid (KT6.out.trans hT7)
          clear hT7
          go_wp2_with fail
          go_end0
          exact ⟨rfl, _, g7, HST.out, KT7.out⟩
set_option maxRecDepth 100000 in
set_option maxHeartbeats 4000000 in
theorem one104 {p : Prm} {s : Pl} {g : Geo} {w : World} {t op a b c : Nat} (h : Rep p s g w) (hP : PW p) (hR : Rn p s t) (hev : s.ev.length ≤ 1000) (hop : op < 23)
    (hi : ((s.ends p t 21).T t).run = true → p.ins (topF (s.ends p t 21) t).f (topF (s.ends p t 21) t).nx = (op, a, b, c) ∧ p.E0 (4 + op) = Fv 104 #[])
    (hc : ((s.ends p t 21).T t).run = true → ∀ g1 w1, Rep p ((s.ends p t 21).took t) g1 w1 → Rn p ((s.ends p t 21).took t) t → Calls Tryz.prog 104 #[stpV p ((s.ends p t 21).took t) g1 t (op, a, b, c)] w1 fun e w' => ∃ (why : Int) (s3 : Pl), e = .returned (.int .i64 why) ∧ instR p ((s.ends p t 21).took t) t (op, a, b, c) why s3 ∧ ∃ g', Tr p ((s.ends p t 21).took t) g1 w1 s3 g' w') :
    Calls Tryz.prog 134 #[P0 p.eb, P0 (g.tb t)] w fun e w' => e = .returned (.tuple #[]) ∧ ∃ s' g', stepR p t s s' ∧ Tr p s g w s' g' w' := by
  have HC := hid hc
  have HI := hid hi
  have HE : Hid (s.ev.length ≤ 1000) := hev
  have HP := hid hP
  have HTs := hid hR.ht
  have HI0 : Hid (OneI p s g w t (s.T t).fr.length w) := ⟨s, g, 21, Tr.refl h, hR, rfl, Nat.le_trans hR.fw.n2 (by omega), rfl, rfl⟩
  have HEB : Hid (p.eb < w.heap.size) := h.E.lt
  have HTB : Hid (g.tb t < w.heap.size) := (h.tk hR.ht).lt
  clear hc hi hev hP hR h
  go_enter Tryz.func134, Tryz.ntmps134
  go_wp2_with fail
  go_loopg [] ((s.T t).fr.length) (fun n wr => Hid (OneI p s g w t n wr))
  case atStart => exact HI0
  case round =>
    obtain ⟨s1, g1, k, hT, hR1, he1, hk1, hS, hln⟩ := hrel.out
    have htb := hT.t t HTs.out
    have h164 := topR hT.r hR1
    rw [htb] at h164
    have H164 := hid h164
    have KT := hid hT
    have KR := hid hR1
    have KK := hid (And.intro he1 (And.intro hk1 (And.intro hS hln)))
    have HTb : Hid (g1.tb t = g.tb t) := htb
    clear h164 hT hR1 he1 hk1 hS hln htb HI0
    go_wp2_with fail
    refine H164.out.mono ?_
    rintro e w1 ⟨rfl, hg1⟩
    have KG1 := hid hg1
    clear hg1 H164
    go_wp2_with fail
    refine (atEndR (KT.out.r.kept KG1.out) KR.out).mono ?_
    rintro e w2 ⟨rfl, hg2⟩
    have KG2 := hid (grown_trans KG1.out hg2)
    clear hg2
    by_cases hd : (topF s1 t).nx = p.len (topF s1 t).f
    · have hdd : decide ((topF s1 t).nx = p.len (topF s1 t).f) = true := by simpa using hd
      have HD := hid hd
      simp only [hdd]
      clear hd hdd
      go_wp2_with fail
      refine (number_any 0 _).mono ?_
      rintro e w3 ⟨rfl, rfl⟩
      go_wp2_with fail
      have KG3 := hid (grown_alloc KG2.out (.cells #[.int .i64 0, .int .i64 0] 149))
      have hgb := giveBackQ (0, 0) (KT.out.r.kept KG3.out) HP.out KR.out (by rw [KK.out.1]; have := HE.out; omega)
      rw [HTb.out] at hgb
      refine hgb.mono ?_
      rintro e w4 ⟨rfl, g4, hT4⟩
      have hT5 := (KT.out.kept KG3.out).trans hT4
      have htb4 := hT5.t t HTs.out
      have hB := KR.out.ok.back KR.out.lv KR.out.wh (PGot.num (s := s1) 0)
      have hrr := back_run KR.out.ok.lw KR.out.ht (0, 0)
      have hst := back_st s1 t (0, 0)
      have ht4 : isT (s1.back t (0, 0)) t := by
        by_cases e0 : topN s1 t = 0
        · exact (isT_nt (hst.1 e0).2.2).2 KR.out.ht
        · exact (isT_nt (hst.2 e0).2.2.1).2 KR.out.ht
      have lt4 : g.tb t < w4.heap.size := by
        have := (hT5.r.tk ht4).lt
        rw [htb4] at this
        exact this
      by_cases e0 : topN s1 t = 0
      · have c2 := hT5.r.run ht4 (hrr.1 e0)
        rw [htb4] at c2
        have HT5 := hid hT5
        have hEn : s.ends p t 21 = s1.back t (0, 0) := by
          obtain ⟨_, q2, q3, _⟩ := KK.out
          obtain ⟨k', rfl⟩ : ∃ k', k = k' + 1 := ⟨k - 1, by have := KR.out.hi; omega⟩
          rw [ends_next KR.out.run HD.out, ends_stop k' (hrr.1 e0)] at q3
          exact q3.symm
        have HEn := hid (And.intro hEn (hrr.1 e0))
        clear hgb hT4 hT5 htb4 hB hrr hst ht4 e0 hEn
        go_wp2_with fail
        refine bodyPost_ret (results_none rfl _ _ _) rfl ?_
        refine ⟨rfl, s1.back t (0, 0), g4, ?_, ?_⟩
        · unfold stepR
          rw [HEn.out.1, if_neg (by rw [HEn.out.2]; decide)]
        · first | exact HT5.out | exact HT5.out.kept (grown_drew (grown_refl _ _)) | exact HT5.out.kept (grown_drewN (grown_refl _ _) _)
      · obtain ⟨r1, r2⟩ := hrr.2 e0
        obtain ⟨b1, b2, b3, b4⟩ := hst.2 e0
        have c2 := hT5.r.run ht4 (r1.trans KR.out.run)
        rw [htb4] at c2
        have hIn : ∀ w5, w4.grownBy w5 none → OneI p s g w t ((s1.T t).fr.length - 1) w5 := fun w5 hg5 => by
          obtain ⟨q1, q2, q3, q4⟩ := KK.out
          obtain ⟨k', rfl⟩ : ∃ k', k = k' + 1 := ⟨k - 1, by have := KR.out.hi; omega⟩
          rw [ends_next KR.out.run HD.out] at q3
          exact ⟨s1.back t (0, 0), g4, k', hT5.kept hg5, ⟨hB, by rw [b1]; exact KR.out.lv, r1.trans KR.out.run⟩, b2.trans q1, by rw [r2]; omega, q3, r2⟩
        have HIn := hid hIn
        clear hgb hT4 hT5 htb4 hB hrr hst ht4 e0 r1 r2 b1 b2 b3 b4 hIn
        go_wp2_with fail
        go_roundg ((s1.T t).fr.length - 1)
        case measure =>
          have q4 := KK.out.2.2.2
          have q5 := KR.out.hi
          omega
        case rel => first | exact HIn.out _ (grown_refl _ _) | exact HIn.out _ (grown_drew (grown_refl _ _)) | exact HIn.out _ (grown_drewN (grown_refl _ _) _)
    · have hdd : decide ((topF s1 t).nx = p.len (topF s1 t).f) = false := by simpa using hd
      have hEn : s.ends p t 21 = s1 := by
        obtain ⟨_, q2, q3, _⟩ := KK.out
        rw [← q3]
        exact ends_here (by have := KR.out.hi; omega) hd
      rw [hEn] at HC HI
      have HC2 := hid (HC.out KR.out.run)
      obtain ⟨hi1, hi2⟩ := HI.out KR.out.run
      have HI1 := hid hi1
      have HI2 := hid hi2
      have HD := hid hd
      have HEn := hid hEn
      have h164 := topR (KT.out.r.kept KG2.out) KR.out
      rw [HTb.out] at h164
      have H164 := hid h164
      simp only [hdd]
      clear hd hdd hEn HC HI hi1 hi2 h164
      go_wp2_with fail
      refine H164.out.mono ?_
      rintro e w3 ⟨rfl, hg3⟩
      have KG3 := hid (grown_trans KG2.out hg3)
      clear hg3 H164
      go_wp2_with fail
      refine (tookR (KT.out.r.kept KG3.out) HP.out KR.out HD.out HI1.out).mono ?_
      rintro e w4 ⟨rfl, hT4⟩
      have KT4 := hid ((KT.out.kept KG3.out).trans hT4)
      clear hT4
      have hfbe : g1.fb t (topN (s1.took t) t) = g1.fb t (topN s1 t) := by rw [took_topN]
      generalize hfb : g1.fb t (topN s1 t) = fb at *
      have HFB := hid hfbe
      clear hfbe hfb
      go_wp2_with fail
      have HX := hid (s7_new w4 op a b c fb (g.tb t) p.eb)
      have KG5 := hid (World.grownBy_alloc w4 (.cells #[.int .u8 (op : Int), .int .u8 (a : Int), .int .u8 (b : Int), .int .u8 (c : Int), P0 fb, P0 (g.tb t), P0 p.eb] 186) none)
      have hz5 : (w4.alloc (.cells #[.int .u8 (op : Int), .int .u8 (a : Int), .int .u8 (b : Int), .int .u8 (c : Int), P0 fb, P0 (g.tb t), P0 p.eb] 186)).heap.size = w4.heap.size + 1 := by simp
      generalize hW : w4.alloc (.cells #[.int .u8 (op : Int), .int .u8 (a : Int), .int .u8 (b : Int), .int .u8 (c : Int), P0 fb, P0 (g.tb t), P0 p.eb] 186) = w5 at *
      clear hW
      obtain ⟨x0, x1, x2, x3, x4, x5, x6⟩ := s7_of HX.out
      have lx := heap_lt HX.out
      have KT5 := hid (KT4.out.kept KG5.out)
      have e5 : w5.cell? ⟨p.eb, 4 + op, none⟩ = some (Fv 104 #[]) := by
        rw [KT5.out.r.E.cell (4 + op) (by omega)]
        unfold engE
        rw [if_pos (by omega), HI2.out]
      have le5 := KT5.out.r.E.lt
      have hop2 : (op : Int) < 23 := by omega
      have hcall := HC2.out g1 w5.drew (KT5.out.kept (grown_drew (grown_refl _ _))).r (took_ok KR.out HD.out).1
      have hstp : stpV p (s1.took t) g1 t (op, a, b, c) = stepV op a b c fb (g.tb t) p.eb := by
        show stepV op a b c (g1.fb t (topN (s1.took t) t)) (g1.tb t) p.eb = _
        rw [HFB.out, HTb.out]
      rw [hstp] at hcall
      have HCL := hid hcall
      have HP2 := HP
      clear hcall hstp HC2
      go_region_with (go_at_call 104; refine HCL.out.mono ?_; rintro e w6 ⟨why, s3, rfl, hin6, g6, hT6⟩; have HN6 := hid hin6; have HT6 := hid hT6; clear hin6 hT6)
      all_goals
        have KT6 := hid ((KT5.out.kept (grown_drew (grown_refl _ _))).trans HT6.out)
        clear HCL e5 x0 x1 x2 x3 x4 x5 x6 lx le5 HX hz5
        by_cases hwy : why = 0
        · subst hwy
          have HST : Hid (stepR p t s s3) := by
            show stepR p t s s3
            unfold stepR
            rw [HEn.out, if_pos KR.out.run]
            exact ⟨0, s3, by rw [HI1.out]; exact HN6.out, by rw [if_pos rfl]⟩
          go_wp2_with fail
          go_end0
          exact ⟨rfl, s3, g6, HST.out, KT6.out⟩
        · obtain ⟨v1, v2, v3⟩ := inst_why (show ((op, a, b, c) : Ins).1 < 23 from hop) HN6.out
          obtain ⟨n8, hn8⟩ : ∃ n8 : Nat, why = (n8 : Int) := ⟨why.toNat, by omega⟩
          have hs3 := v3 hwy
          subst hs3
          subst hn8
          have HST : Hid (stepR p t s ((s1.took t).leave t (0, -(n8 : Int)) 3 n8)) := by
            show stepR p t s _
            unfold stepR
            rw [HEn.out, if_pos KR.out.run]
            exact ⟨n8, s1.took t, by rw [HI1.out]; exact HN6.out, by rw [if_neg hwy]⟩
          have hfl := failQ (why := n8) (by omega) KT6.out.r HP2.out (took_ok KR.out HD.out).1 (by show s1.ev.length ≤ _; rw [KK.out.1]; have := HE.out; omega)
          rw [show g6.tb t = g.tb t from KT6.out.t t HTs.out] at hfl
          have HFL := hid hfl
          have hwz : ¬ ((n8 : Int) = 0) := hwy
          clear hfl v1 v2 v3 hwy
          go_wp2_with fail
          refine HFL.out.mono ?_
          rintro e w7 ⟨rfl, g7, hT7⟩
          have KT7 := hid (KT6.out.trans hT7)
          clear hT7
          go_wp2_with fail
          go_end0
          exact ⟨rfl, _, g7, HST.out, KT7.out⟩
set_option maxRecDepth 100000 in
set_option maxHeartbeats 4000000 in
theorem one108 {p : Prm} {s : Pl} {g : Geo} {w : World} {t op a b c : Nat} (h : Rep p s g w) (hP : PW p) (hR : Rn p s t) (hev : s.ev.length ≤ 1000) (hop : op < 23)
    (hi : ((s.ends p t 21).T t).run = true → p.ins (topF (s.ends p t 21) t).f (topF (s.ends p t 21) t).nx = (op, a, b, c) ∧ p.E0 (4 + op) = Fv 108 #[])
    (hc : ((s.ends p t 21).T t).run = true → ∀ g1 w1, Rep p ((s.ends p t 21).took t) g1 w1 → Rn p ((s.ends p t 21).took t) t → Calls Tryz.prog 108 #[stpV p ((s.ends p t 21).took t) g1 t (op, a, b, c)] w1 fun e w' => ∃ (why : Int) (s3 : Pl), e = .returned (.int .i64 why) ∧ instR p ((s.ends p t 21).took t) t (op, a, b, c) why s3 ∧ ∃ g', Tr p ((s.ends p t 21).took t) g1 w1 s3 g' w') :
    Calls Tryz.prog 134 #[P0 p.eb, P0 (g.tb t)] w fun e w' => e = .returned (.tuple #[]) ∧ ∃ s' g', stepR p t s s' ∧ Tr p s g w s' g' w' := by
  have HC := hid hc
  have HI := hid hi
  have HE : Hid (s.ev.length ≤ 1000) := hev
  have HP := hid hP
  have HTs := hid hR.ht
  have HI0 : Hid (OneI p s g w t (s.T t).fr.length w) := ⟨s, g, 21, Tr.refl h, hR, rfl, Nat.le_trans hR.fw.n2 (by omega), rfl, rfl⟩
  have HEB : Hid (p.eb < w.heap.size) := h.E.lt
  have HTB : Hid (g.tb t < w.heap.size) := (h.tk hR.ht).lt
  clear hc hi hev hP hR h
  go_enter Tryz.func134, Tryz.ntmps134
  go_wp2_with fail
  go_loopg [] ((s.T t).fr.length) (fun n wr => Hid (OneI p s g w t n wr))
  case atStart => exact HI0
  case round =>
    obtain ⟨s1, g1, k, hT, hR1, he1, hk1, hS, hln⟩ := hrel.out
    have htb := hT.t t HTs.out
    have h164 := topR hT.r hR1
    rw [htb] at h164
    have H164 := hid h164
    have KT := hid hT
    have KR := hid hR1
    have KK := hid (And.intro he1 (And.intro hk1 (And.intro hS hln)))
    have HTb : Hid (g1.tb t = g.tb t) := htb
    clear h164 hT hR1 he1 hk1 hS hln htb HI0
    go_wp2_with fail
    refine H164.out.mono ?_
    rintro e w1 ⟨rfl, hg1⟩
    have KG1 := hid hg1
    clear hg1 H164
    go_wp2_with fail
    refine (atEndR (KT.out.r.kept KG1.out) KR.out).mono ?_
    rintro e w2 ⟨rfl, hg2⟩
    have KG2 := hid (grown_trans KG1.out hg2)
    clear hg2
    by_cases hd : (topF s1 t).nx = p.len (topF s1 t).f
    · have hdd : decide ((topF s1 t).nx = p.len (topF s1 t).f) = true := by simpa using hd
      have HD := hid hd
      simp only [hdd]
      clear hd hdd
      go_wp2_with fail
      refine (number_any 0 _).mono ?_
      rintro e w3 ⟨rfl, rfl⟩
      go_wp2_with fail
      have KG3 := hid (grown_alloc KG2.out (.cells #[.int .i64 0, .int .i64 0] 149))
      have hgb := giveBackQ (0, 0) (KT.out.r.kept KG3.out) HP.out KR.out (by rw [KK.out.1]; have := HE.out; omega)
      rw [HTb.out] at hgb
      refine hgb.mono ?_
      rintro e w4 ⟨rfl, g4, hT4⟩
      have hT5 := (KT.out.kept KG3.out).trans hT4
      have htb4 := hT5.t t HTs.out
      have hB := KR.out.ok.back KR.out.lv KR.out.wh (PGot.num (s := s1) 0)
      have hrr := back_run KR.out.ok.lw KR.out.ht (0, 0)
      have hst := back_st s1 t (0, 0)
      have ht4 : isT (s1.back t (0, 0)) t := by
        by_cases e0 : topN s1 t = 0
        · exact (isT_nt (hst.1 e0).2.2).2 KR.out.ht
        · exact (isT_nt (hst.2 e0).2.2.1).2 KR.out.ht
      have lt4 : g.tb t < w4.heap.size := by
        have := (hT5.r.tk ht4).lt
        rw [htb4] at this
        exact this
      by_cases e0 : topN s1 t = 0
      · have c2 := hT5.r.run ht4 (hrr.1 e0)
        rw [htb4] at c2
        have HT5 := hid hT5
        have hEn : s.ends p t 21 = s1.back t (0, 0) := by
          obtain ⟨_, q2, q3, _⟩ := KK.out
          obtain ⟨k', rfl⟩ : ∃ k', k = k' + 1 := ⟨k - 1, by have := KR.out.hi; omega⟩
          rw [ends_next KR.out.run HD.out, ends_stop k' (hrr.1 e0)] at q3
          exact q3.symm
        have HEn := hid (And.intro hEn (hrr.1 e0))
        clear hgb hT4 hT5 htb4 hB hrr hst ht4 e0 hEn
        go_wp2_with fail
        refine bodyPost_ret (results_none rfl _ _ _) rfl ?_
        refine ⟨rfl, s1.back t (0, 0), g4, ?_, ?_⟩
        · unfold stepR
          rw [HEn.out.1, if_neg (by rw [HEn.out.2]; decide)]
        · first | exact HT5.out | exact HT5.out.kept (grown_drew (grown_refl _ _)) | exact HT5.out.kept (grown_drewN (grown_refl _ _) _)
      · obtain ⟨r1, r2⟩ := hrr.2 e0
        obtain ⟨b1, b2, b3, b4⟩ := hst.2 e0
        have c2 := hT5.r.run ht4 (r1.trans KR.out.run)
        rw [htb4] at c2
        have hIn : ∀ w5, w4.grownBy w5 none → OneI p s g w t ((s1.T t).fr.length - 1) w5 := fun w5 hg5 => by
          obtain ⟨q1, q2, q3, q4⟩ := KK.out
          obtain ⟨k', rfl⟩ : ∃ k', k = k' + 1 := ⟨k - 1, by have := KR.out.hi; omega⟩
          rw [ends_next KR.out.run HD.out] at q3
          exact ⟨s1.back t (0, 0), g4, k', hT5.kept hg5, ⟨hB, by rw [b1]; exact KR.out.lv, r1.trans KR.out.run⟩, b2.trans q1, by rw [r2]; omega, q3, r2⟩
        have HIn := hid hIn
        clear hgb hT4 hT5 htb4 hB hrr hst ht4 e0 r1 r2 b1 b2 b3 b4 hIn
        go_wp2_with fail
        go_roundg ((s1.T t).fr.length - 1)
        case measure =>
          have q4 := KK.out.2.2.2
          have q5 := KR.out.hi
          omega
        case rel => first | exact HIn.out _ (grown_refl _ _) | exact HIn.out _ (grown_drew (grown_refl _ _)) | exact HIn.out _ (grown_drewN (grown_refl _ _) _)
    · have hdd : decide ((topF s1 t).nx = p.len (topF s1 t).f) = false := by simpa using hd
      have hEn : s.ends p t 21 = s1 := by
        obtain ⟨_, q2, q3, _⟩ := KK.out
        rw [← q3]
        exact ends_here (by have := KR.out.hi; omega) hd
      rw [hEn] at HC HI
      have HC2 := hid (HC.out KR.out.run)
      obtain ⟨hi1, hi2⟩ := HI.out KR.out.run
      have HI1 := hid hi1
      have HI2 := hid hi2
      have HD := hid hd
      have HEn := hid hEn
      have h164 := topR (KT.out.r.kept KG2.out) KR.out
      rw [HTb.out] at h164
      have H164 := hid h164
      simp only [hdd]
      clear hd hdd hEn HC HI hi1 hi2 h164
      go_wp2_with fail
      refine H164.out.mono ?_
      rintro e w3 ⟨rfl, hg3⟩
      have KG3 := hid (grown_trans KG2.out hg3)
      clear hg3 H164
      go_wp2_with fail
      refine (tookR (KT.out.r.kept KG3.out) HP.out KR.out HD.out HI1.out).mono ?_
      rintro e w4 ⟨rfl, hT4⟩
      have KT4 := hid ((KT.out.kept KG3.out).trans hT4)
      clear hT4
      have hfbe : g1.fb t (topN (s1.took t) t) = g1.fb t (topN s1 t) := by rw [took_topN]
      generalize hfb : g1.fb t (topN s1 t) = fb at *
      have HFB := hid hfbe
      clear hfbe hfb
      go_wp2_with fail
      have HX := hid (s7_new w4 op a b c fb (g.tb t) p.eb)
      have KG5 := hid (World.grownBy_alloc w4 (.cells #[.int .u8 (op : Int), .int .u8 (a : Int), .int .u8 (b : Int), .int .u8 (c : Int), P0 fb, P0 (g.tb t), P0 p.eb] 186) none)
      have hz5 : (w4.alloc (.cells #[.int .u8 (op : Int), .int .u8 (a : Int), .int .u8 (b : Int), .int .u8 (c : Int), P0 fb, P0 (g.tb t), P0 p.eb] 186)).heap.size = w4.heap.size + 1 := by simp
      generalize hW : w4.alloc (.cells #[.int .u8 (op : Int), .int .u8 (a : Int), .int .u8 (b : Int), .int .u8 (c : Int), P0 fb, P0 (g.tb t), P0 p.eb] 186) = w5 at *
      clear hW
      obtain ⟨x0, x1, x2, x3, x4, x5, x6⟩ := s7_of HX.out
      have lx := heap_lt HX.out
      have KT5 := hid (KT4.out.kept KG5.out)
      have e5 : w5.cell? ⟨p.eb, 4 + op, none⟩ = some (Fv 108 #[]) := by
        rw [KT5.out.r.E.cell (4 + op) (by omega)]
        unfold engE
        rw [if_pos (by omega), HI2.out]
      have le5 := KT5.out.r.E.lt
      have hop2 : (op : Int) < 23 := by omega
      have hcall := HC2.out g1 w5.drew (KT5.out.kept (grown_drew (grown_refl _ _))).r (took_ok KR.out HD.out).1
      have hstp : stpV p (s1.took t) g1 t (op, a, b, c) = stepV op a b c fb (g.tb t) p.eb := by
        show stepV op a b c (g1.fb t (topN (s1.took t) t)) (g1.tb t) p.eb = _
        rw [HFB.out, HTb.out]
      rw [hstp] at hcall
      have HCL := hid hcall
      have HP2 := HP
      clear hcall hstp HC2
      go_region_with (go_at_call 108; refine HCL.out.mono ?_; rintro e w6 ⟨why, s3, rfl, hin6, g6, hT6⟩; have HN6 := hid hin6; have HT6 := hid hT6; clear hin6 hT6)
      all_goals
        have KT6 := hid ((KT5.out.kept (grown_drew (grown_refl _ _))).trans HT6.out)
        clear HCL e5 x0 x1 x2 x3 x4 x5 x6 lx le5 HX hz5
        by_cases hwy : why = 0
        · subst hwy
          have HST : Hid (stepR p t s s3) := by
            show stepR p t s s3
            unfold stepR
            rw [HEn.out, if_pos KR.out.run]
            exact ⟨0, s3, by rw [HI1.out]; exact HN6.out, by rw [if_pos rfl]⟩
          go_wp2_with fail
          go_end0
          exact ⟨rfl, s3, g6, HST.out, KT6.out⟩
        · obtain ⟨v1, v2, v3⟩ := inst_why (show ((op, a, b, c) : Ins).1 < 23 from hop) HN6.out
          obtain ⟨n8, hn8⟩ : ∃ n8 : Nat, why = (n8 : Int) := ⟨why.toNat, by omega⟩
          have hs3 := v3 hwy
          subst hs3
          subst hn8
          have HST : Hid (stepR p t s ((s1.took t).leave t (0, -(n8 : Int)) 3 n8)) := by
            show stepR p t s _
            unfold stepR
            rw [HEn.out, if_pos KR.out.run]
            exact ⟨n8, s1.took t, by rw [HI1.out]; exact HN6.out, by rw [if_neg hwy]⟩
          have hfl := failQ (why := n8) (by omega) KT6.out.r HP2.out (took_ok KR.out HD.out).1 (by show s1.ev.length ≤ _; rw [KK.out.1]; have := HE.out; omega)
          rw [show g6.tb t = g.tb t from KT6.out.t t HTs.out] at hfl
          have HFL := hid hfl
          have hwz : ¬ ((n8 : Int) = 0) := hwy
          clear hfl v1 v2 v3 hwy
          go_wp2_with fail
          refine HFL.out.mono ?_
          rintro e w7 ⟨rfl, g7, hT7⟩
          have KT7 := hid (KT6.out.trans hT7)
          clear hT7
          go_wp2_with fail
          go_end0
          exact ⟨rfl, _, g7, HST.out, KT7.out⟩
set_option maxRecDepth 100000 in
set_option maxHeartbeats 4000000 in
theorem one167 {p : Prm} {s : Pl} {g : Geo} {w : World} {t op a b c : Nat} {wb wb2 : Nat} (h : Rep p s g w) (hP : PW p) (hR : Rn p s t) (hev : s.ev.length ≤ 1000) (hop : op < 23)
    (hi : ((s.ends p t 21).T t).run = true → p.ins (topF (s.ends p t 21) t).f (topF (s.ends p t 21) t).nx = (op, a, b, c) ∧ p.E0 (4 + op) = Fv 167 #[P0 wb, P0 wb2])
    (hc : ((s.ends p t 21).T t).run = true → ∀ g1 w1, Rep p ((s.ends p t 21).took t) g1 w1 → Rn p ((s.ends p t 21).took t) t → Calls Tryz.prog 167 #[stpV p ((s.ends p t 21).took t) g1 t (op, a, b, c), P0 wb, P0 wb2] w1 fun e w' => ∃ (why : Int) (s3 : Pl), e = .returned (.int .i64 why) ∧ instR p ((s.ends p t 21).took t) t (op, a, b, c) why s3 ∧ ∃ g', Tr p ((s.ends p t 21).took t) g1 w1 s3 g' w') :
    Calls Tryz.prog 134 #[P0 p.eb, P0 (g.tb t)] w fun e w' => e = .returned (.tuple #[]) ∧ ∃ s' g', stepR p t s s' ∧ Tr p s g w s' g' w' := by
  have HC := hid hc
  have HI := hid hi
  have HE : Hid (s.ev.length ≤ 1000) := hev
  have HP := hid hP
  have HTs := hid hR.ht
  have HI0 : Hid (OneI p s g w t (s.T t).fr.length w) := ⟨s, g, 21, Tr.refl h, hR, rfl, Nat.le_trans hR.fw.n2 (by omega), rfl, rfl⟩
  have HEB : Hid (p.eb < w.heap.size) := h.E.lt
  have HTB : Hid (g.tb t < w.heap.size) := (h.tk hR.ht).lt
  clear hc hi hev hP hR h
  go_enter Tryz.func134, Tryz.ntmps134
  go_wp2_with fail
  go_loopg [] ((s.T t).fr.length) (fun n wr => Hid (OneI p s g w t n wr))
  case atStart => exact HI0
  case round =>
    obtain ⟨s1, g1, k, hT, hR1, he1, hk1, hS, hln⟩ := hrel.out
    have htb := hT.t t HTs.out
    have h164 := topR hT.r hR1
    rw [htb] at h164
    have H164 := hid h164
    have KT := hid hT
    have KR := hid hR1
    have KK := hid (And.intro he1 (And.intro hk1 (And.intro hS hln)))
    have HTb : Hid (g1.tb t = g.tb t) := htb
    clear h164 hT hR1 he1 hk1 hS hln htb HI0
    go_wp2_with fail
    refine H164.out.mono ?_
    rintro e w1 ⟨rfl, hg1⟩
    have KG1 := hid hg1
    clear hg1 H164
    go_wp2_with fail
    refine (atEndR (KT.out.r.kept KG1.out) KR.out).mono ?_
    rintro e w2 ⟨rfl, hg2⟩
    have KG2 := hid (grown_trans KG1.out hg2)
    clear hg2
    by_cases hd : (topF s1 t).nx = p.len (topF s1 t).f
    · have hdd : decide ((topF s1 t).nx = p.len (topF s1 t).f) = true := by simpa using hd
      have HD := hid hd
      simp only [hdd]
      clear hd hdd
      go_wp2_with fail
      refine (number_any 0 _).mono ?_
      rintro e w3 ⟨rfl, rfl⟩
      go_wp2_with fail
      have KG3 := hid (grown_alloc KG2.out (.cells #[.int .i64 0, .int .i64 0] 149))
      have hgb := giveBackQ (0, 0) (KT.out.r.kept KG3.out) HP.out KR.out (by rw [KK.out.1]; have := HE.out; omega)
      rw [HTb.out] at hgb
      refine hgb.mono ?_
      rintro e w4 ⟨rfl, g4, hT4⟩
      have hT5 := (KT.out.kept KG3.out).trans hT4
      have htb4 := hT5.t t HTs.out
      have hB := KR.out.ok.back KR.out.lv KR.out.wh (PGot.num (s := s1) 0)
      have hrr := back_run KR.out.ok.lw KR.out.ht (0, 0)
      have hst := back_st s1 t (0, 0)
      have ht4 : isT (s1.back t (0, 0)) t := by
        by_cases e0 : topN s1 t = 0
        · exact (isT_nt (hst.1 e0).2.2).2 KR.out.ht
        · exact (isT_nt (hst.2 e0).2.2.1).2 KR.out.ht
      have lt4 : g.tb t < w4.heap.size := by
        have := (hT5.r.tk ht4).lt
        rw [htb4] at this
        exact this
      by_cases e0 : topN s1 t = 0
      · have c2 := hT5.r.run ht4 (hrr.1 e0)
        rw [htb4] at c2
        have HT5 := hid hT5
        have hEn : s.ends p t 21 = s1.back t (0, 0) := by
          obtain ⟨_, q2, q3, _⟩ := KK.out
          obtain ⟨k', rfl⟩ : ∃ k', k = k' + 1 := ⟨k - 1, by have := KR.out.hi; omega⟩
          rw [ends_next KR.out.run HD.out, ends_stop k' (hrr.1 e0)] at q3
          exact q3.symm
        have HEn := hid (And.intro hEn (hrr.1 e0))
        clear hgb hT4 hT5 htb4 hB hrr hst ht4 e0 hEn
        go_wp2_with fail
        refine bodyPost_ret (results_none rfl _ _ _) rfl ?_
        refine ⟨rfl, s1.back t (0, 0), g4, ?_, ?_⟩
        · unfold stepR
          rw [HEn.out.1, if_neg (by rw [HEn.out.2]; decide)]
        · first | exact HT5.out | exact HT5.out.kept (grown_drew (grown_refl _ _)) | exact HT5.out.kept (grown_drewN (grown_refl _ _) _)
      · obtain ⟨r1, r2⟩ := hrr.2 e0
        obtain ⟨b1, b2, b3, b4⟩ := hst.2 e0
        have c2 := hT5.r.run ht4 (r1.trans KR.out.run)
        rw [htb4] at c2
        have hIn : ∀ w5, w4.grownBy w5 none → OneI p s g w t ((s1.T t).fr.length - 1) w5 := fun w5 hg5 => by
          obtain ⟨q1, q2, q3, q4⟩ := KK.out
          obtain ⟨k', rfl⟩ : ∃ k', k = k' + 1 := ⟨k - 1, by have := KR.out.hi; omega⟩
          rw [ends_next KR.out.run HD.out] at q3
          exact ⟨s1.back t (0, 0), g4, k', hT5.kept hg5, ⟨hB, by rw [b1]; exact KR.out.lv, r1.trans KR.out.run⟩, b2.trans q1, by rw [r2]; omega, q3, r2⟩
        have HIn := hid hIn
        clear hgb hT4 hT5 htb4 hB hrr hst ht4 e0 r1 r2 b1 b2 b3 b4 hIn
        go_wp2_with fail
        go_roundg ((s1.T t).fr.length - 1)
        case measure =>
          have q4 := KK.out.2.2.2
          have q5 := KR.out.hi
          omega
        case rel => first | exact HIn.out _ (grown_refl _ _) | exact HIn.out _ (grown_drew (grown_refl _ _)) | exact HIn.out _ (grown_drewN (grown_refl _ _) _)
    · have hdd : decide ((topF s1 t).nx = p.len (topF s1 t).f) = false := by simpa using hd
      have hEn : s.ends p t 21 = s1 := by
        obtain ⟨_, q2, q3, _⟩ := KK.out
        rw [← q3]
        exact ends_here (by have := KR.out.hi; omega) hd
      rw [hEn] at HC HI
      have HC2 := hid (HC.out KR.out.run)
      obtain ⟨hi1, hi2⟩ := HI.out KR.out.run
      have HI1 := hid hi1
      have HI2 := hid hi2
      have HD := hid hd
      have HEn := hid hEn
      have h164 := topR (KT.out.r.kept KG2.out) KR.out
      rw [HTb.out] at h164
      have H164 := hid h164
      simp only [hdd]
      clear hd hdd hEn HC HI hi1 hi2 h164
      go_wp2_with fail
      refine H164.out.mono ?_
      rintro e w3 ⟨rfl, hg3⟩
      have KG3 := hid (grown_trans KG2.out hg3)
      clear hg3 H164
      go_wp2_with fail
      refine (tookR (KT.out.r.kept KG3.out) HP.out KR.out HD.out HI1.out).mono ?_
      rintro e w4 ⟨rfl, hT4⟩
      have KT4 := hid ((KT.out.kept KG3.out).trans hT4)
      clear hT4
      have hfbe : g1.fb t (topN (s1.took t) t) = g1.fb t (topN s1 t) := by rw [took_topN]
      generalize hfb : g1.fb t (topN s1 t) = fb at *
      have HFB := hid hfbe
      clear hfbe hfb
      go_wp2_with fail
      have HX := hid (s7_new w4 op a b c fb (g.tb t) p.eb)
      have KG5 := hid (World.grownBy_alloc w4 (.cells #[.int .u8 (op : Int), .int .u8 (a : Int), .int .u8 (b : Int), .int .u8 (c : Int), P0 fb, P0 (g.tb t), P0 p.eb] 186) none)
      have hz5 : (w4.alloc (.cells #[.int .u8 (op : Int), .int .u8 (a : Int), .int .u8 (b : Int), .int .u8 (c : Int), P0 fb, P0 (g.tb t), P0 p.eb] 186)).heap.size = w4.heap.size + 1 := by simp
      generalize hW : w4.alloc (.cells #[.int .u8 (op : Int), .int .u8 (a : Int), .int .u8 (b : Int), .int .u8 (c : Int), P0 fb, P0 (g.tb t), P0 p.eb] 186) = w5 at *
      clear hW
      obtain ⟨x0, x1, x2, x3, x4, x5, x6⟩ := s7_of HX.out
      have lx := heap_lt HX.out
      have KT5 := hid (KT4.out.kept KG5.out)
      have e5 : w5.cell? ⟨p.eb, 4 + op, none⟩ = some (Fv 167 #[P0 wb, P0 wb2]) := by
        rw [KT5.out.r.E.cell (4 + op) (by omega)]
        unfold engE
        rw [if_pos (by omega), HI2.out]
      have le5 := KT5.out.r.E.lt
      have hop2 : (op : Int) < 23 := by omega
      have hcall := HC2.out g1 w5.drew (KT5.out.kept (grown_drew (grown_refl _ _))).r (took_ok KR.out HD.out).1
      have hstp : stpV p (s1.took t) g1 t (op, a, b, c) = stepV op a b c fb (g.tb t) p.eb := by
        show stepV op a b c (g1.fb t (topN (s1.took t) t)) (g1.tb t) p.eb = _
        rw [HFB.out, HTb.out]
      rw [hstp] at hcall
      have HCL := hid hcall
      have HP2 := HP
      clear hcall hstp HC2
      go_region_with (go_at_call 167; refine HCL.out.mono ?_; rintro e w6 ⟨why, s3, rfl, hin6, g6, hT6⟩; have HN6 := hid hin6; have HT6 := hid hT6; clear hin6 hT6)
      all_goals
        have KT6 := hid ((KT5.out.kept (grown_drew (grown_refl _ _))).trans HT6.out)
        clear HCL e5 x0 x1 x2 x3 x4 x5 x6 lx le5 HX hz5
        by_cases hwy : why = 0
        · subst hwy
          have HST : Hid (stepR p t s s3) := by
            show stepR p t s s3
            unfold stepR
            rw [HEn.out, if_pos KR.out.run]
            exact ⟨0, s3, by rw [HI1.out]; exact HN6.out, by rw [if_pos rfl]⟩
          go_wp2_with fail
          go_end0
          exact ⟨rfl, s3, g6, HST.out, KT6.out⟩
        · obtain ⟨v1, v2, v3⟩ := inst_why (show ((op, a, b, c) : Ins).1 < 23 from hop) HN6.out
          obtain ⟨n8, hn8⟩ : ∃ n8 : Nat, why = (n8 : Int) := ⟨why.toNat, by omega⟩
          have hs3 := v3 hwy
          subst hs3
          subst hn8
          have HST : Hid (stepR p t s ((s1.took t).leave t (0, -(n8 : Int)) 3 n8)) := by
            show stepR p t s _
            unfold stepR
            rw [HEn.out, if_pos KR.out.run]
            exact ⟨n8, s1.took t, by rw [HI1.out]; exact HN6.out, by rw [if_neg hwy]⟩
          have hfl := failQ (why := n8) (by omega) KT6.out.r HP2.out (took_ok KR.out HD.out).1 (by show s1.ev.length ≤ _; rw [KK.out.1]; have := HE.out; omega)
          rw [show g6.tb t = g.tb t from KT6.out.t t HTs.out] at hfl
          have HFL := hid hfl
          have hwz : ¬ ((n8 : Int) = 0) := hwy
          clear hfl v1 v2 v3 hwy
          go_wp2_with fail
          refine HFL.out.mono ?_
          rintro e w7 ⟨rfl, g7, hT7⟩
          have KT7 := hid (KT6.out.trans hT7)
          clear hT7
          go_wp2_with fail
          go_end0
          exact ⟨rfl, _, g7, HST.out, KT7.out⟩
end Go.Proofs.YtnjiinbhbjpfkaaGreatDoor.F
