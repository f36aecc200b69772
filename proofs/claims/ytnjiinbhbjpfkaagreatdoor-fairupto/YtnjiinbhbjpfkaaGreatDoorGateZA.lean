/-
  Fair: the law's walk.
-/
import Derived.Test.YtnjiinbhbjpfkaaGreatDoorGateZ
namespace Go.Proofs.YtnjiinbhbjpfkaaGreatDoor.F
open Go.RowKit
theorem new_cell1 (w : World) (v : Value) (T : TypeId) (b : Nat) (hb : w.heap.size = b) : (w.alloc (.cells #[v] T)).cell? ⟨b, 0, none⟩ = some v := by
  have h := heap_alloc_new w (.cells #[v] T)
  rw [hb] at h
  generalize w.alloc (.cells #[v] T) = W at *
  simp [World.cell?, h]
theorem drewN_size (w : World) (n : Nat) : (w.drewN n).heap.size = w.heap.size := by simp
theorem mch_kept {p : Prm} {s : Pl} {g : Geo} {mb : Nat} {w w' : World} (h : Mch p s g mb w) (hg : w.grownBy w' none) : Mch p s g mb w' := by
  obtain ⟨x, hx⟩ := h.bx
  exact ⟨h.r.kept hg, h.ok, h.ev, ⟨x, grown_out hg hx⟩, h.nm⟩
set_option maxRecDepth 100000 in
set_option maxHeartbeats 16000000 in
theorem fair_any (tx : ByteArray) (c0 c1 c2 c3 : Int) (ad : Option Addr) (len cap : Nat) (tk : Nat → Int) (ia : Nat → Option Addr) (inn ic : Nat → Nat) (il : Nat → List (Int × Nat)) (w : World) (hs : tx.size ≤ maxLen) (hT : Tab w) (hlen : len ≤ 1048576) (hin : Tks w ad len tk ia inn ic il)
    (HEm : ∀ w1, Tab w1 → Calls Tryz.prog 20 #[] w1 fun e w' => e = .returned (.bool true) ∧ Below w1.heap.size w1 w') :
    Calls Tryz.prog 9 #[.string tx, .agg #[.int .i64 c0, .int .i64 c1, .int .i64 c2, .int .i64 c3], .slice ad len cap] w fun e w' => e = .returned (.bool true) ∧ Below w.heap.size w w' := by
  have HS : Hid (tx.size ≤ maxLen) := hs
  have KT : Hid (Tab w) := hT
  have KIN := hid hin
  have KEM := hid HEm
  clear hs hT hin HEm
  go_enter Tryz.func9, Tryz.ntmps9
  go_wp2_with fail
  have KB0 : Hid (Below w.heap.size w (w.alloc (.cells #[.int .i64 c0, .int .i64 c1, .int .i64 c2, .int .i64 c3] 23))) := (Below.refl _ _).alloc (Nat.le_refl _) _
  have hx0 := heap_alloc_new w (.cells #[.int .i64 c0, .int .i64 c1, .int .i64 c2, .int .i64 c3] 23)
  generalize hw0 : w.alloc (.cells #[.int .i64 c0, .int .i64 c1, .int .i64 c2, .int .i64 c3] 23) = w0 at *
  clear hw0
  have lx0 := heap_lt hx0
  refine (KEM.out w0 (KT.out.below KB0.out)).mono ?_
  rintro e w1 ⟨rfl, hB1⟩
  have hx1 : w1.heap[w.heap.size]? = some (.cells #[.int .i64 c0, .int .i64 c1, .int .i64 c2, .int .i64 c3] 23 (0, 0)) := (hB1.block _ lx0).trans hx0
  have hz1 := hB1.size
  have KB1 : Hid (Below w.heap.size w w1) := KB0.out.trans (hB1.mono KB0.out.size)
  have b0 : w1.cell? ⟨w.heap.size, 0, none⟩ = some (.int .i64 c0) := by simp [World.cell?, hx1]
  have b1 : w1.cell? ⟨w.heap.size, 1, none⟩ = some (.int .i64 c1) := by simp [World.cell?, hx1]
  have b2 : w1.cell? ⟨w.heap.size, 2, none⟩ = some (.int .i64 c2) := by simp [World.cell?, hx1]
  have b3 : w1.cell? ⟨w.heap.size, 3, none⟩ = some (.int .i64 c3) := by simp [World.cell?, hx1]
  have lx1 := heap_lt hx1
  clear hB1 hx0 hx1 KB0 hz1 lx0
  go_wp2_with fail
  refine (loadM tx c0 c1 c2 c3 w1 HS.out (KT.out.below KB1.out)).mono ?_
  rintro e w2 ⟨hB2, ⟨x, y, rfl⟩ | ⟨mb, p, s, g, rfl, hP, hM, hnt, hF⟩⟩
  · have KB2 : Hid (Below w.heap.size w w2) := KB1.out.trans (hB2.mono KB1.out.size)
    have hz2 := KB2.out.size
    clear hB2 b0 b1 b2 b3 KB1
    go_wp2_with fail
    go_ret
    refine ⟨rfl, ?_⟩
    exact KB2.out.alloc hz2 _
  · have KB2 : Hid (Below w.heap.size w w2) := KB1.out.trans (hB2.mono KB1.out.size)
    have hz2 := KB2.out.size
    have hz1 := KB1.out.size
    have KF2 : Hid (∀ k, Mine p s g k ∨ k = mb → w.heap.size ≤ k ∧ k < w2.heap.size) := fun k hk => ⟨by have := (hF k hk).1; omega, (hF k hk).2⟩
    have KM := hid hM
    have KP := hid hP
    have HNT := hid hnt
    clear hB2 b0 b1 b2 b3 KB1 hF hM hP hnt hz1
    go_wp2_with fail
    have KI0 : Hid (FairI w p mb 0 (some ⟨w2.heap.size + 1, 0, none⟩) 0 [] s g ((w2.alloc (.cells #[.int .i64 0, .int .i64 0] 42)).alloc (.cells #[] 3))) := by
      have hg : w2.grownBy ((w2.alloc (.cells #[.int .i64 0, .int .i64 0] 42)).alloc (.cells #[] 3)) none := grown_alloc (World.grownBy_alloc _ _ _) _
      have hblk : ((w2.alloc (.cells #[.int .i64 0, .int .i64 0] 42)).alloc (.cells #[] 3)).heap[w2.heap.size + 1]? = some (.cells #[] 3 (0, 0)) := by
        have := heap_alloc_new (w2.alloc (.cells #[.int .i64 0, .int .i64 0] 42)) (.cells #[] 3)
        simpa using this
      refine ⟨(KB2.out.alloc hz2 _).alloc (by simp; omega) _, mch_kept KM.out hg, fun k hk => ⟨(KF2.out k hk).1, Nat.lt_of_lt_of_le (KF2.out k hk).2 hg.size⟩, own_mk (by omega) (Nat.le_refl _) (Nat.zero_le _) rfl ⟨#[], hblk, rfl⟩ (fun j v hj => by simp [nums] at hj), fun k hk hm => ?_, fun u hu => by simp at hu, Nat.zero_le _, by rw [HNT.out]; omega⟩
      have e : w2.heap.size + 1 = k := by injection hk
      have := (KF2.out k hm).2
      omega
    generalize (w2.alloc (.cells #[.int .i64 0, .int .i64 0] 42)).alloc (.cells #[] 3) = w4 at *
    clear KB2 KF2 KM HNT
    go_loopw [10, 11] (fun gv iv wr => ∃ (I : Nat) (ag : Option Addr) (cg : Nat) (gn : List Nat) (s : Pl) (g : Geo), iv = .int .i64 I ∧ I ≤ len ∧ gv = .slice ag gn.length cg ∧ Hid (FairI w p mb I ag cg gn s g wr)) (fun _ iv _ => len - (intOf iv).toNat)
    case atStart => exact ⟨0, some ⟨w2.heap.size + 1, 0, none⟩, 0, [], s, g, rfl, by omega, rfl, KI0⟩
    case round =>
      obtain ⟨I, ag, cg, gn, s1, g1, rfl, hI, rfl, rI⟩ := hrel
      clear KI0
      by_cases hlt : I < len
      · obtain ⟨a, rfl⟩ : ∃ a, ad = some a := by
          cases ad with
          | none => have := KIN.out.n rfl; omega
          | some a => exact ⟨a, rfl⟩
        have hlt2 : (I : Int) < (len : Int) := by omega
        have HQ := hid rI.out.m.queue
        go_wp2_with fail
        refine HQ.out.mono ?_
        rintro e w5 ⟨rfl, hq5, hg5⟩
        have hB5 : Below w.heap.size w w5 := Only.below' rI.out.b hg5.o (fun k hk => (rI.out.f k hk).1) (Nat.le_refl _)
        obtain ⟨z1, z2, z3⟩ := KIN.out.z a rfl I hlt
        have hc0 : w5.cell? (a.add (I * 2)) = some (.int .i64 (tk I)) := (below_cell hB5 z1 _).trans z2
        have hc1 : w5.cell? ⟨(a.add (I * 2)).block, (a.add (I * 2)).off + 1, none⟩ = some (.slice (ia I) (inn I) (ic I)) := by
          have := (below_cell hB5 z1 (I * 2 + 1)).trans z3
          rw [← addr_add2] at this
          exact this
        have hg5d : w5.grownBy w5.drew none := grown_drew (grown_refl _ _)
        have HTN := hid ((mch_kept hg5.m hg5d).turn (ic I) (tk I) KP.out (by have := rI.out.n; have := KP.out.q; omega) (KIN.out.inp (Only.below' hB5 (only_none (S := fun _ => False) hg5d) (fun _ h => h.elim) (Nat.le_refl _)) (fun k hk => (rI.out.f k hk).1) hlt))
        have HIN : Hid (∀ x, x ∈ il I → x.2 < 256) := (KIN.out.i I hlt).2.2.1
        clear hg5d
        have HQ5 := hid (And.intro hq5 hg5)
        have lq : wr.heap.size < w5.heap.size := (own_ty hq5 wr.heap.size rfl).2.1
        clear hq5 hg5 hB5 z1 z2 z3 HQ
        generalize hti : tk I = tI at *
        generalize hii : ia I = aI at *
        generalize hin : inn I = nI at *
        generalize hic : ic I = cI at *
        clear hti hii hin hic
        go_wp2_with fail
        go_cut [13] from 41 to 53 (fun v wx => ∃ (s6 : Pl) (g6 : Geo) (a6 : Option Addr) (c6 : Nat), v = .slice a6 s6.ev.length c6 ∧ Hid (turnR p s1 tI (il I) s6 ∧ wx.ownsRow 0 48 3 (.slice a6 s6.ev.length c6) s6.ev.length (evT s6.ev) ∧ Goes p s1 g1 mb w5.drew s6.clr g6 wx ∧ ∀ k, adB a6 = some k → ¬ Mine p s6.clr g6 k ∧ k ≠ mb ∧ k < wx.heap.size))
        case first =>
          go_region_with (go_at_call 24; refine HTN.out.mono ?_; rintro e w6 ⟨s6, g6, a6, c6, rfl, ht6, ho6, hg6, hd6⟩; have HT6 := hid (And.intro ht6 (And.intro ho6 (And.intro hg6 hd6))); clear ht6 ho6 hg6 hd6)
          all_goals
            go_wp2_with fail
            go_meet
            case rel => exact ⟨s6, g6, a6, c6, rfl, HT6⟩
        case rest =>
          obtain ⟨s6, g6, a6, c6, rfl, HT6⟩ := hcut
          have HR6 : Hid (Fr9 p s1 s6) := turn_fair KP.out.pi KP.out.pw.n1 rI.out.m.ok rI.out.m.ev (by have := rI.out.n; have := KP.out.q; omega) HIN.out HT6.out.1
          clear HTN hc0 hc1
          go_wp2_with fail
          refine (HT6.out.2.2.1.m.queue).mono ?_
          rintro e w7 ⟨rfl, hq7, hg7⟩
          have KL0 : Hid (FairL w p mb I wr.heap.size wc.heap.size a6 c6 gn s1 s6 g6 0 ag cg gn w7) := fair_l0 rI.out HQ5.out.1 HQ5.out.2 HR6.out HT6.out.2.1 HT6.out.2.2.1 HT6.out.2.2.2 hq7 hg7
          clear hq7 hg7 HT6 HQ5 rI lq HIN HR6
          generalize hqb : wr.heap.size = qb at *
          generalize hab : wc.heap.size = ab at *
          have hqe : (s6.clr).q 2 0 = s6.q 2 0 := rfl
          simp only [hqe]
          clear hqb hab hqe
          obtain ⟨nQ, hnq⟩ : ∃ nQ, (s1.q 2 0).length = nQ := ⟨_, rfl⟩
          obtain ⟨na, hna⟩ : ∃ na, (s6.q 2 0).length = na := ⟨_, rfl⟩
          rw [hnq, hna]
          have HNQ := hid hnq
          have HNA := hid hna
          clear hnq hna
          go_wp2_with fail
          go_loopw [10, 15, 16] (fun gv cv kv wr => ∃ (K : Nat) (ag : Option Addr) (cg : Nat) (gk : List Nat), kv = .int .i64 K ∧ K ≤ s6.ev.length ∧ gv = .slice ag gk.length cg ∧ cv = .bool (hasC (s6.ev.take K)) ∧ Hid (FairL w p mb I qb ab a6 c6 gn s1 s6 g6 K ag cg gk wr)) (fun _ _ kv _ => s6.ev.length - (intOf kv).toNat)
          case atStart => exact ⟨0, ag, cg, gn, rfl, by omega, rfl, rfl, KL0⟩
          case round =>
            obtain ⟨K, ag, cg, gk, rfl, hK, rfl, rfl, rL⟩ := hrel
            clear KL0
            by_cases hKl : K < s6.ev.length
            · obtain ⟨e, he⟩ : ∃ e, s6.ev[K]? = some e := ⟨_, List.getElem?_eq_getElem hKl⟩
              obtain ⟨⟨eb, hae, e0, e1, e2, leb⟩, hnm, hfst⟩ := rL.out.ev he
              subst hae
              obtain ⟨kd, tn, xn⟩ := e
              simp only at e0 e1 e2 hnm hfst
              have hKl2 : (K : Int) < (s6.ev.length : Int) := by omega
              have hel : s6.ev.length ≤ 50 := Nat.le_trans rL.out.r.el KP.out.q
              have HE := hid he
              have HNM := hid hnm
              have HFS := hid hfst
              clear he hnm hfst
              go_wp2_with fail
              have hx := heap_alloc_new wr (.cells #[.int .i64 (kd : Int), .int .i64 (tn : Int), .int .i64 xn] 48)
              have KL8 := hid (rL.out.kept (World.grownBy_alloc wr (.cells #[.int .i64 (kd : Int), .int .i64 (tn : Int), .int .i64 xn] 48) none))
              generalize hw8 : wr.alloc (.cells #[.int .i64 (kd : Int), .int .i64 (tn : Int), .int .i64 xn] 48) = w8 at *
              have hz8 : w8.heap.size = wr.heap.size + 1 := by rw [← hw8]; simp
              clear hw8 e0 e1 e2 rL
              have hgl : gk.length ≤ 1000000000 := by have := KL8.out.gl KP.out.q; omega
              obtain ⟨gb, hgb⟩ := rowNums KL8.out.o rfl
              have HAM : Hid (∀ w' : World, w'.heap = w8.heap → Calls Tryz.prog 27 #[.slice ag gk.length cg, .int .i64 (tn : Int)] w' fun e w'' => e = .returned (.bool false) ∧ w'' = w') := fun w' hh => by
                have := among_any gb gk.length cg tn ag gk w' rfl hgl (fun j v hj => ⟨(hgb j v hj).1, (World.cell?_of_block (a := ⟨gb, j, none⟩) (by rw [hh])).trans (hgb j v hj).2⟩)
                rw [decide_eq_false HNM.out] at this
                exact this
              clear hgb
              have x0 : w8.cell? ⟨wr.heap.size, 0, none⟩ = some (.int .i64 (kd : Int)) := by simp [World.cell?, hx]
              have x1 : w8.cell? ⟨wr.heap.size, 1, none⟩ = some (.int .i64 (tn : Int)) := by simp [World.cell?, hx]
              have lx := heap_lt hx
              have HX := hid hx
              clear hx HNM hz8
              obtain ⟨i0, hi, hz0, hz1, hz2'⟩ := info_parts Tryz.info3
              have hgl1 : gk.length + 1 ≤ maxLen := by unfold maxLen; omega
              have hgl2 : (gk.length + 1) * 8 ≤ 140737488355328 := by omega
              by_cases hqe : s1.q 2 0 = []
              · have hq0 : nQ = 0 := by
                  have := HNQ.out
                  rw [hqe] at this
                  simp at this
                  omega
                subst hq0
                have HQE := hid hqe
                clear hqe
                by_cases hk2 : kd = 2
                · subst hk2
                  go_quiet (first | (go_at_call 27; refine Calls.quiet_of_same (HAM.out _ rfl)))
                  have KL9 := hid (KL8.out.kept (grown_alloc (grown_drewN (grown_refl w8 none) nq) (.cells #[.int .i64 (tn : Int)] 3)))
                  have HOW : Hid (((w8.drewN nq).alloc (.cells #[.int .i64 (tn : Int)] 3)).ownsRow 0 3 1 (.slice ag gk.length cg) gk.length (nums gk)) := own_base KL9.out.o (fun _ _ => Nat.zero_le _)
                  have HNW : Hid (∀ j u, [Value.int .i64 (tn : Int)][j]? = some u → ((w8.drewN nq).alloc (.cells #[.int .i64 (tn : Int)] 3)).cell? ((⟨w8.heap.size, 0, none⟩ : Addr).add j) = some u) := fun j u hj => by
                    cases j with
                    | zero =>
                      have : u = .int .i64 (tn : Int) := by simpa using hj.symm
                      subst this
                      exact new_cell1 (w8.drewN nq) _ 3 w8.heap.size (drewN_size w8 nq)
                    | succ j => simp at hj
                  have HX8 : Hid (((w8.drewN nq).alloc (.cells #[.int .i64 (tn : Int)] 3)).heap[wr.heap.size]? = some (.cells #[.int .i64 ((2 : Nat) : Int), .int .i64 (tn : Int), .int .i64 xn] 48 (0, 0))) := grown_out (grown_alloc (grown_drewN (grown_refl w8 none) nq) _) HX.out
                  go_wp2_with (at_builtin; refine wpList_append_at rfl (.tmp 100) (.tmp 103) 54 rfl 3 i0 (.int .i64 0) 1 8 Tryz.underlying54 hi hz0 hz1 hz2' rfl (by decide) ag gk.length cg (nums gk) rfl HOW.out ⟨w8.heap.size, 0, none⟩ 1 1 [.int .i64 (tn : Int)] rfl rfl HNW.out (fun u hu => by rw [List.mem_singleton.1 hu]; rfl) hgl1 hgl2 (by decide) ?_)
                  intro v' w10 ho10 hg10 hm10
                  have hx10 : w10.heap[wr.heap.size]? = some (.cells #[.int .i64 ((2 : Nat) : Int), .int .i64 (tn : Int), .int .i64 xn] 48 (0, 0)) := by
                    refine (hg10.block _ (heap_lt HX8.out) (fun e => ?_)).trans HX8.out
                    obtain ⟨_, _, cur, q1⟩ := own_ty HOW.out wr.heap.size e.symm
                    rw [HX8.out] at q1
                    injection q1 with q1
                    injection q1 with _ q2 _
                    exact absurd q2 (by decide)
                  obtain ⟨ad', c', rfl, hL10⟩ := FairL.goes KL9.out HE.out (by simp) ho10 hg10 (by rw [show ((w8.drewN nq).alloc (.cells #[.int .i64 (tn : Int)] 3)).heap.size = w8.heap.size + 1 by simp]; exact hm10)
                  have HL10 := hid hL10
                  have z0 : w10.cell? ⟨wr.heap.size, 0, none⟩ = some (.int .i64 ((2 : Nat) : Int)) := by simp [World.cell?, hx10]
                  have lz := heap_lt hx10
                  have HCC : Hid (hasC (s6.ev.take (K + 1)) = (hasC (s6.ev.take K) || false)) := by
                    show _ = _
                    rw [take_succ' HE.out, hasC_snoc]
                    rfl
                  clear ho10 hg10 hm10 hx10 hL10 HNW HOW HX8 KL9
                  generalize hasC (s6.ev.take K) = hb at *
                  cases hb
                  · go_wp2_with fail
                    go_roundw
                    case rel => exact ⟨K + 1, ad', c', gk ++ [tn], by simp, by omega, rfl, by rw [HCC.out]; rfl, HL10⟩
                    case measure => simp [intOf]; omega
                  · go_wp2_with fail
                    go_roundw
                    case rel => exact ⟨K + 1, ad', c', gk ++ [tn], by simp, by omega, rfl, by rw [HCC.out]; rfl, HL10⟩
                    case measure => simp [intOf]; omega
                · by_cases hk3 : kd = 3
                  · subst hk3
                    go_quiet (first | (go_at_call 27; refine Calls.quiet_of_same (HAM.out _ rfl)))
                    have KL9 := hid (KL8.out.kept (grown_alloc (grown_drewN (grown_refl w8 none) nq) (.cells #[.int .i64 (tn : Int)] 3)))
                    have HOW : Hid (((w8.drewN nq).alloc (.cells #[.int .i64 (tn : Int)] 3)).ownsRow 0 3 1 (.slice ag gk.length cg) gk.length (nums gk)) := own_base KL9.out.o (fun _ _ => Nat.zero_le _)
                    have HNW : Hid (∀ j u, [Value.int .i64 (tn : Int)][j]? = some u → ((w8.drewN nq).alloc (.cells #[.int .i64 (tn : Int)] 3)).cell? ((⟨w8.heap.size, 0, none⟩ : Addr).add j) = some u) := fun j u hj => by
                      cases j with
                      | zero =>
                        have : u = .int .i64 (tn : Int) := by simpa using hj.symm
                        subst this
                        exact new_cell1 (w8.drewN nq) _ 3 w8.heap.size (drewN_size w8 nq)
                      | succ j => simp at hj
                    have HX8 : Hid (((w8.drewN nq).alloc (.cells #[.int .i64 (tn : Int)] 3)).heap[wr.heap.size]? = some (.cells #[.int .i64 ((3 : Nat) : Int), .int .i64 (tn : Int), .int .i64 xn] 48 (0, 0))) := grown_out (grown_alloc (grown_drewN (grown_refl w8 none) nq) _) HX.out
                    go_wp2_with (at_builtin; refine wpList_append_at rfl (.tmp 100) (.tmp 103) 54 rfl 3 i0 (.int .i64 0) 1 8 Tryz.underlying54 hi hz0 hz1 hz2' rfl (by decide) ag gk.length cg (nums gk) rfl HOW.out ⟨w8.heap.size, 0, none⟩ 1 1 [.int .i64 (tn : Int)] rfl rfl HNW.out (fun u hu => by rw [List.mem_singleton.1 hu]; rfl) hgl1 hgl2 (by decide) ?_)
                    intro v' w10 ho10 hg10 hm10
                    have hx10 : w10.heap[wr.heap.size]? = some (.cells #[.int .i64 ((3 : Nat) : Int), .int .i64 (tn : Int), .int .i64 xn] 48 (0, 0)) := by
                      refine (hg10.block _ (heap_lt HX8.out) (fun e => ?_)).trans HX8.out
                      obtain ⟨_, _, cur, q1⟩ := own_ty HOW.out wr.heap.size e.symm
                      rw [HX8.out] at q1
                      injection q1 with q1
                      injection q1 with _ q2 _
                      exact absurd q2 (by decide)
                    obtain ⟨ad', c', rfl, hL10⟩ := FairL.goes KL9.out HE.out (by simp) ho10 hg10 (by rw [show ((w8.drewN nq).alloc (.cells #[.int .i64 (tn : Int)] 3)).heap.size = w8.heap.size + 1 by simp]; exact hm10)
                    have HL10 := hid hL10
                    have z0 : w10.cell? ⟨wr.heap.size, 0, none⟩ = some (.int .i64 ((3 : Nat) : Int)) := by simp [World.cell?, hx10]
                    have lz := heap_lt hx10
                    have HCC : Hid (hasC (s6.ev.take (K + 1)) = (hasC (s6.ev.take K) || false)) := by
                      show _ = _
                      rw [take_succ' HE.out, hasC_snoc]
                      rfl
                    clear ho10 hg10 hm10 hx10 hL10 HNW HOW HX8 KL9
                    generalize hasC (s6.ev.take K) = hb at *
                    cases hb
                    · go_wp2_with fail
                      go_roundw
                      case rel => exact ⟨K + 1, ad', c', gk ++ [tn], by simp, by omega, rfl, by rw [HCC.out]; rfl, HL10⟩
                      case measure => simp [intOf]; omega
                    · go_wp2_with fail
                      go_roundw
                      case rel => exact ⟨K + 1, ad', c', gk ++ [tn], by simp, by omega, rfl, by rw [HCC.out]; rfl, HL10⟩
                      case measure => simp [intOf]; omega
                  · by_cases hk4 : kd = 4
                    · subst hk4
                      go_quiet (first | (go_at_call 27; refine Calls.quiet_of_same (HAM.out _ rfl)))
                      have KL9 := hid (KL8.out.kept (grown_alloc (grown_drewN (grown_refl w8 none) nq) (.cells #[.int .i64 (tn : Int)] 3)))
                      have HOW : Hid (((w8.drewN nq).alloc (.cells #[.int .i64 (tn : Int)] 3)).ownsRow 0 3 1 (.slice ag gk.length cg) gk.length (nums gk)) := own_base KL9.out.o (fun _ _ => Nat.zero_le _)
                      have HNW : Hid (∀ j u, [Value.int .i64 (tn : Int)][j]? = some u → ((w8.drewN nq).alloc (.cells #[.int .i64 (tn : Int)] 3)).cell? ((⟨w8.heap.size, 0, none⟩ : Addr).add j) = some u) := fun j u hj => by
                        cases j with
                        | zero =>
                          have : u = .int .i64 (tn : Int) := by simpa using hj.symm
                          subst this
                          exact new_cell1 (w8.drewN nq) _ 3 w8.heap.size (drewN_size w8 nq)
                        | succ j => simp at hj
                      have HX8 : Hid (((w8.drewN nq).alloc (.cells #[.int .i64 (tn : Int)] 3)).heap[wr.heap.size]? = some (.cells #[.int .i64 ((4 : Nat) : Int), .int .i64 (tn : Int), .int .i64 xn] 48 (0, 0))) := grown_out (grown_alloc (grown_drewN (grown_refl w8 none) nq) _) HX.out
                      go_wp2_with (at_builtin; refine wpList_append_at rfl (.tmp 100) (.tmp 103) 54 rfl 3 i0 (.int .i64 0) 1 8 Tryz.underlying54 hi hz0 hz1 hz2' rfl (by decide) ag gk.length cg (nums gk) rfl HOW.out ⟨w8.heap.size, 0, none⟩ 1 1 [.int .i64 (tn : Int)] rfl rfl HNW.out (fun u hu => by rw [List.mem_singleton.1 hu]; rfl) hgl1 hgl2 (by decide) ?_)
                      intro v' w10 ho10 hg10 hm10
                      have hx10 : w10.heap[wr.heap.size]? = some (.cells #[.int .i64 ((4 : Nat) : Int), .int .i64 (tn : Int), .int .i64 xn] 48 (0, 0)) := by
                        refine (hg10.block _ (heap_lt HX8.out) (fun e => ?_)).trans HX8.out
                        obtain ⟨_, _, cur, q1⟩ := own_ty HOW.out wr.heap.size e.symm
                        rw [HX8.out] at q1
                        injection q1 with q1
                        injection q1 with _ q2 _
                        exact absurd q2 (by decide)
                      obtain ⟨ad', c', rfl, hL10⟩ := FairL.goes KL9.out HE.out (by simp) ho10 hg10 (by rw [show ((w8.drewN nq).alloc (.cells #[.int .i64 (tn : Int)] 3)).heap.size = w8.heap.size + 1 by simp]; exact hm10)
                      have HL10 := hid hL10
                      have z0 : w10.cell? ⟨wr.heap.size, 0, none⟩ = some (.int .i64 ((4 : Nat) : Int)) := by simp [World.cell?, hx10]
                      have lz := heap_lt hx10
                      have HCC : Hid (hasC (s6.ev.take (K + 1)) = (hasC (s6.ev.take K) || true)) := by
                        show _ = _
                        rw [take_succ' HE.out, hasC_snoc]
                        rfl
                      clear ho10 hg10 hm10 hx10 hL10 HNW HOW HX8 KL9
                      generalize hasC (s6.ev.take K) = hb at *
                      cases hb
                      · go_wp2_with fail
                        go_roundw
                        case rel => exact ⟨K + 1, ad', c', gk ++ [tn], by simp, by omega, rfl, by rw [HCC.out]; rfl, HL10⟩
                        case measure => simp [intOf]; omega
                      · go_wp2_with fail
                        go_roundw
                        case rel => exact ⟨K + 1, ad', c', gk ++ [tn], by simp, by omega, rfl, by rw [HCC.out]; rfl, HL10⟩
                        case measure => simp [intOf]; omega
                    · skip
                      have b2 : ((kd : Int) == 2) = false := by simp; omega
                      have b3 : ((kd : Int) == 3) = false := by simp; omega
                      have b4 : ((kd : Int) == 4) = false := by simp; omega
                      have n4 : ((kd : Int) != 4) = true := by simp; omega
                      have d4 : decide ((kd : Int) = 4) = false := by simp; omega
                      have d5 : decide (kd = 4) = false := by simp; omega
                      have p4 : ¬ ((kd : Int) = 4) := by omega
                      go_quiet (first | (go_at_call 27; refine Calls.quiet_of_same (HAM.out _ rfl)))
                      have HL10 := hid ((KL8.out.kept (grown_drewN (grown_refl w8 none) nq)).stay HE.out ⟨hk2, hk3, hk4⟩)
                      have HCC : Hid (hasC (s6.ev.take (K + 1)) = (hasC (s6.ev.take K) || false)) := by
                        show _ = _
                        rw [take_succ' HE.out, hasC_snoc]
                        have : (kd == 4) = false := by simp; omega
                        rw [this]
                      generalize hasC (s6.ev.take K) = hb at *
                      cases hb
                      · go_wp2_with fail
                        go_roundw
                        case rel => exact ⟨K + 1, ag, cg, gk, by simp, by omega, rfl, by rw [HCC.out]; rfl, HL10⟩
                        case measure => simp [intOf]; omega
                      · go_wp2_with fail
                        go_roundw
                        case rel => exact ⟨K + 1, ag, cg, gk, by simp, by omega, rfl, by rw [HCC.out]; rfl, HL10⟩
                        case measure => simp [intOf]; omega
              · obtain ⟨t0, r0, hqc⟩ : ∃ t0 r0, s1.q 2 0 = t0 :: r0 := by
                  cases h : s1.q 2 0 with
                  | nil => exact absurd h hqe
                  | cons a b => exact ⟨a, b, rfl⟩
                have hq1 : 0 < nQ := by
                  have := HNQ.out
                  rw [hqc] at this
                  simp at this
                  omega
                have hq2 : decide ((0 : Int) < (nQ : Int)) = true := decide_eq_true (by omega)
                have hq3 : decide (0 < nQ) = true := decide_eq_true hq1
                have hq4 : (0 : Int) < (nQ : Int) := by omega
                have y0 : w8.cell? ⟨qb, 0, none⟩ = some (.int .i64 (t0 : Int)) := own_cellG KL8.out.q (by rw [hqc]; rfl)
                have ly := cell_lt y0
                have HQC := hid hqc
                clear hqc hqe
                by_cases hk2 : kd = 2
                · have hte : tn = t0 := HFS.out t0 r0 HQC.out (by omega)
                  subst hte
                  subst hk2
                  go_quiet (first | (go_at_call 27; refine Calls.quiet_of_same (HAM.out _ rfl)))
                  have KL9 := hid (KL8.out.kept (grown_alloc (grown_drewN (grown_refl w8 none) nq) (.cells #[.int .i64 (tn : Int)] 3)))
                  have HOW : Hid (((w8.drewN nq).alloc (.cells #[.int .i64 (tn : Int)] 3)).ownsRow 0 3 1 (.slice ag gk.length cg) gk.length (nums gk)) := own_base KL9.out.o (fun _ _ => Nat.zero_le _)
                  have HNW : Hid (∀ j u, [Value.int .i64 (tn : Int)][j]? = some u → ((w8.drewN nq).alloc (.cells #[.int .i64 (tn : Int)] 3)).cell? ((⟨w8.heap.size, 0, none⟩ : Addr).add j) = some u) := fun j u hj => by
                    cases j with
                    | zero =>
                      have : u = .int .i64 (tn : Int) := by simpa using hj.symm
                      subst this
                      exact new_cell1 (w8.drewN nq) _ 3 w8.heap.size (drewN_size w8 nq)
                    | succ j => simp at hj
                  have HX8 : Hid (((w8.drewN nq).alloc (.cells #[.int .i64 (tn : Int)] 3)).heap[wr.heap.size]? = some (.cells #[.int .i64 ((2 : Nat) : Int), .int .i64 (tn : Int), .int .i64 xn] 48 (0, 0))) := grown_out (grown_alloc (grown_drewN (grown_refl w8 none) nq) _) HX.out
                  go_wp2_with (at_builtin; refine wpList_append_at rfl (.tmp 100) (.tmp 103) 54 rfl 3 i0 (.int .i64 0) 1 8 Tryz.underlying54 hi hz0 hz1 hz2' rfl (by decide) ag gk.length cg (nums gk) rfl HOW.out ⟨w8.heap.size, 0, none⟩ 1 1 [.int .i64 (tn : Int)] rfl rfl HNW.out (fun u hu => by rw [List.mem_singleton.1 hu]; rfl) hgl1 hgl2 (by decide) ?_)
                  intro v' w10 ho10 hg10 hm10
                  have hx10 : w10.heap[wr.heap.size]? = some (.cells #[.int .i64 ((2 : Nat) : Int), .int .i64 (tn : Int), .int .i64 xn] 48 (0, 0)) := by
                    refine (hg10.block _ (heap_lt HX8.out) (fun e => ?_)).trans HX8.out
                    obtain ⟨_, _, cur, q1⟩ := own_ty HOW.out wr.heap.size e.symm
                    rw [HX8.out] at q1
                    injection q1 with q1
                    injection q1 with _ q2 _
                    exact absurd q2 (by decide)
                  obtain ⟨ad', c', rfl, hL10⟩ := FairL.goes KL9.out HE.out (by simp) ho10 hg10 (by rw [show ((w8.drewN nq).alloc (.cells #[.int .i64 (tn : Int)] 3)).heap.size = w8.heap.size + 1 by simp]; exact hm10)
                  have HL10 := hid hL10
                  have z0 : w10.cell? ⟨wr.heap.size, 0, none⟩ = some (.int .i64 ((2 : Nat) : Int)) := by simp [World.cell?, hx10]
                  have lz := heap_lt hx10
                  have HCC : Hid (hasC (s6.ev.take (K + 1)) = (hasC (s6.ev.take K) || false)) := by
                    show _ = _
                    rw [take_succ' HE.out, hasC_snoc]
                    rfl
                  clear ho10 hg10 hm10 hx10 hL10 HNW HOW HX8 KL9
                  generalize hasC (s6.ev.take K) = hb at *
                  cases hb
                  · go_wp2_with fail
                    go_roundw
                    case rel => exact ⟨K + 1, ad', c', gk ++ [tn], by simp, by omega, rfl, by rw [HCC.out]; rfl, HL10⟩
                    case measure => simp [intOf]; omega
                  · go_wp2_with fail
                    go_roundw
                    case rel => exact ⟨K + 1, ad', c', gk ++ [tn], by simp, by omega, rfl, by rw [HCC.out]; rfl, HL10⟩
                    case measure => simp [intOf]; omega
                · by_cases hk3 : kd = 3
                  · have hte : tn = t0 := HFS.out t0 r0 HQC.out (by omega)
                    subst hte
                    subst hk3
                    go_quiet (first | (go_at_call 27; refine Calls.quiet_of_same (HAM.out _ rfl)))
                    have KL9 := hid (KL8.out.kept (grown_alloc (grown_drewN (grown_refl w8 none) nq) (.cells #[.int .i64 (tn : Int)] 3)))
                    have HOW : Hid (((w8.drewN nq).alloc (.cells #[.int .i64 (tn : Int)] 3)).ownsRow 0 3 1 (.slice ag gk.length cg) gk.length (nums gk)) := own_base KL9.out.o (fun _ _ => Nat.zero_le _)
                    have HNW : Hid (∀ j u, [Value.int .i64 (tn : Int)][j]? = some u → ((w8.drewN nq).alloc (.cells #[.int .i64 (tn : Int)] 3)).cell? ((⟨w8.heap.size, 0, none⟩ : Addr).add j) = some u) := fun j u hj => by
                      cases j with
                      | zero =>
                        have : u = .int .i64 (tn : Int) := by simpa using hj.symm
                        subst this
                        exact new_cell1 (w8.drewN nq) _ 3 w8.heap.size (drewN_size w8 nq)
                      | succ j => simp at hj
                    have HX8 : Hid (((w8.drewN nq).alloc (.cells #[.int .i64 (tn : Int)] 3)).heap[wr.heap.size]? = some (.cells #[.int .i64 ((3 : Nat) : Int), .int .i64 (tn : Int), .int .i64 xn] 48 (0, 0))) := grown_out (grown_alloc (grown_drewN (grown_refl w8 none) nq) _) HX.out
                    go_wp2_with (at_builtin; refine wpList_append_at rfl (.tmp 100) (.tmp 103) 54 rfl 3 i0 (.int .i64 0) 1 8 Tryz.underlying54 hi hz0 hz1 hz2' rfl (by decide) ag gk.length cg (nums gk) rfl HOW.out ⟨w8.heap.size, 0, none⟩ 1 1 [.int .i64 (tn : Int)] rfl rfl HNW.out (fun u hu => by rw [List.mem_singleton.1 hu]; rfl) hgl1 hgl2 (by decide) ?_)
                    intro v' w10 ho10 hg10 hm10
                    have hx10 : w10.heap[wr.heap.size]? = some (.cells #[.int .i64 ((3 : Nat) : Int), .int .i64 (tn : Int), .int .i64 xn] 48 (0, 0)) := by
                      refine (hg10.block _ (heap_lt HX8.out) (fun e => ?_)).trans HX8.out
                      obtain ⟨_, _, cur, q1⟩ := own_ty HOW.out wr.heap.size e.symm
                      rw [HX8.out] at q1
                      injection q1 with q1
                      injection q1 with _ q2 _
                      exact absurd q2 (by decide)
                    obtain ⟨ad', c', rfl, hL10⟩ := FairL.goes KL9.out HE.out (by simp) ho10 hg10 (by rw [show ((w8.drewN nq).alloc (.cells #[.int .i64 (tn : Int)] 3)).heap.size = w8.heap.size + 1 by simp]; exact hm10)
                    have HL10 := hid hL10
                    have z0 : w10.cell? ⟨wr.heap.size, 0, none⟩ = some (.int .i64 ((3 : Nat) : Int)) := by simp [World.cell?, hx10]
                    have lz := heap_lt hx10
                    have HCC : Hid (hasC (s6.ev.take (K + 1)) = (hasC (s6.ev.take K) || false)) := by
                      show _ = _
                      rw [take_succ' HE.out, hasC_snoc]
                      rfl
                    clear ho10 hg10 hm10 hx10 hL10 HNW HOW HX8 KL9
                    generalize hasC (s6.ev.take K) = hb at *
                    cases hb
                    · go_wp2_with fail
                      go_roundw
                      case rel => exact ⟨K + 1, ad', c', gk ++ [tn], by simp, by omega, rfl, by rw [HCC.out]; rfl, HL10⟩
                      case measure => simp [intOf]; omega
                    · go_wp2_with fail
                      go_roundw
                      case rel => exact ⟨K + 1, ad', c', gk ++ [tn], by simp, by omega, rfl, by rw [HCC.out]; rfl, HL10⟩
                      case measure => simp [intOf]; omega
                  · by_cases hk4 : kd = 4
                    · subst hk4
                      go_quiet (first | (go_at_call 27; refine Calls.quiet_of_same (HAM.out _ rfl)))
                      have KL9 := hid (KL8.out.kept (grown_alloc (grown_drewN (grown_refl w8 none) nq) (.cells #[.int .i64 (tn : Int)] 3)))
                      have HOW : Hid (((w8.drewN nq).alloc (.cells #[.int .i64 (tn : Int)] 3)).ownsRow 0 3 1 (.slice ag gk.length cg) gk.length (nums gk)) := own_base KL9.out.o (fun _ _ => Nat.zero_le _)
                      have HNW : Hid (∀ j u, [Value.int .i64 (tn : Int)][j]? = some u → ((w8.drewN nq).alloc (.cells #[.int .i64 (tn : Int)] 3)).cell? ((⟨w8.heap.size, 0, none⟩ : Addr).add j) = some u) := fun j u hj => by
                        cases j with
                        | zero =>
                          have : u = .int .i64 (tn : Int) := by simpa using hj.symm
                          subst this
                          exact new_cell1 (w8.drewN nq) _ 3 w8.heap.size (drewN_size w8 nq)
                        | succ j => simp at hj
                      have HX8 : Hid (((w8.drewN nq).alloc (.cells #[.int .i64 (tn : Int)] 3)).heap[wr.heap.size]? = some (.cells #[.int .i64 ((4 : Nat) : Int), .int .i64 (tn : Int), .int .i64 xn] 48 (0, 0))) := grown_out (grown_alloc (grown_drewN (grown_refl w8 none) nq) _) HX.out
                      go_wp2_with (at_builtin; refine wpList_append_at rfl (.tmp 100) (.tmp 103) 54 rfl 3 i0 (.int .i64 0) 1 8 Tryz.underlying54 hi hz0 hz1 hz2' rfl (by decide) ag gk.length cg (nums gk) rfl HOW.out ⟨w8.heap.size, 0, none⟩ 1 1 [.int .i64 (tn : Int)] rfl rfl HNW.out (fun u hu => by rw [List.mem_singleton.1 hu]; rfl) hgl1 hgl2 (by decide) ?_)
                      intro v' w10 ho10 hg10 hm10
                      have hx10 : w10.heap[wr.heap.size]? = some (.cells #[.int .i64 ((4 : Nat) : Int), .int .i64 (tn : Int), .int .i64 xn] 48 (0, 0)) := by
                        refine (hg10.block _ (heap_lt HX8.out) (fun e => ?_)).trans HX8.out
                        obtain ⟨_, _, cur, q1⟩ := own_ty HOW.out wr.heap.size e.symm
                        rw [HX8.out] at q1
                        injection q1 with q1
                        injection q1 with _ q2 _
                        exact absurd q2 (by decide)
                      obtain ⟨ad', c', rfl, hL10⟩ := FairL.goes KL9.out HE.out (by simp) ho10 hg10 (by rw [show ((w8.drewN nq).alloc (.cells #[.int .i64 (tn : Int)] 3)).heap.size = w8.heap.size + 1 by simp]; exact hm10)
                      have HL10 := hid hL10
                      have z0 : w10.cell? ⟨wr.heap.size, 0, none⟩ = some (.int .i64 ((4 : Nat) : Int)) := by simp [World.cell?, hx10]
                      have lz := heap_lt hx10
                      have HCC : Hid (hasC (s6.ev.take (K + 1)) = (hasC (s6.ev.take K) || true)) := by
                        show _ = _
                        rw [take_succ' HE.out, hasC_snoc]
                        rfl
                      clear ho10 hg10 hm10 hx10 hL10 HNW HOW HX8 KL9
                      generalize hasC (s6.ev.take K) = hb at *
                      cases hb
                      · go_wp2_with fail
                        go_roundw
                        case rel => exact ⟨K + 1, ad', c', gk ++ [tn], by simp, by omega, rfl, by rw [HCC.out]; rfl, HL10⟩
                        case measure => simp [intOf]; omega
                      · go_wp2_with fail
                        go_roundw
                        case rel => exact ⟨K + 1, ad', c', gk ++ [tn], by simp, by omega, rfl, by rw [HCC.out]; rfl, HL10⟩
                        case measure => simp [intOf]; omega
                    · have hte : tn = t0 := HFS.out t0 r0 HQC.out hk4
                      subst hte
                      have b2 : ((kd : Int) == 2) = false := by simp; omega
                      have b3 : ((kd : Int) == 3) = false := by simp; omega
                      have b4 : ((kd : Int) == 4) = false := by simp; omega
                      have n4 : ((kd : Int) != 4) = true := by simp; omega
                      have d4 : decide ((kd : Int) = 4) = false := by simp; omega
                      have d5 : decide (kd = 4) = false := by simp; omega
                      have p4 : ¬ ((kd : Int) = 4) := by omega
                      go_quiet (first | (go_at_call 27; refine Calls.quiet_of_same (HAM.out _ rfl)))
                      have HL10 := hid ((KL8.out.kept (grown_drewN (grown_refl w8 none) nq)).stay HE.out ⟨hk2, hk3, hk4⟩)
                      have HCC : Hid (hasC (s6.ev.take (K + 1)) = (hasC (s6.ev.take K) || false)) := by
                        show _ = _
                        rw [take_succ' HE.out, hasC_snoc]
                        have : (kd == 4) = false := by simp; omega
                        rw [this]
                      generalize hasC (s6.ev.take K) = hb at *
                      cases hb
                      · go_wp2_with fail
                        go_roundw
                        case rel => exact ⟨K + 1, ag, cg, gk, by simp, by omega, rfl, by rw [HCC.out]; rfl, HL10⟩
                        case measure => simp [intOf]; omega
                      · go_wp2_with fail
                        go_roundw
                        case rel => exact ⟨K + 1, ag, cg, gk, by simp, by omega, rfl, by rw [HCC.out]; rfl, HL10⟩
                        case measure => simp [intOf]; omega
            · have hKl2 : ¬ ((K : Int) < (s6.ev.length : Int)) := by omega
              have HKE : Hid (K = s6.ev.length) := by show _ = _; omega
              have HST := hid rL.out.m.state
              have hlens := rL.out.lens
              have hnQ : nQ ≤ 1000000000 := by have := HNQ.out; omega
              have hnA : na ≤ 1000000000 := by have := HNA.out; omega
              have hgl : gk.length ≤ 1000000000 := by have := rL.out.gl KP.out.q; omega
              clear hlens
              go_wp2_with fail
              refine HST.out.mono ?_
              rintro e w11 ⟨x, rfl, hx5, hg11⟩
              have KL11 := hid (rL.out.ask hg11)
              have HX5 := hid hx5
              clear hg11 rL HST hx5
              by_cases hqe : s1.q 2 0 = []
              · have hq0 : nQ = 0 := by
                  have := HNQ.out
                  rw [hqe] at this
                  simp at this
                  omega
                subst hq0
                clear hqe
                go_wp2_with fail
                go_loopw [20] (fun kv wr => ∃ K3 : Nat, kv = .int .i64 K3 ∧ K3 ≤ na ∧ Hid (FairL w p mb I qb ab a6 c6 gn s1 s6 g6 K ag cg gk wr)) (fun kv _ => na - (intOf kv).toNat)
                case atStart => exact ⟨0, rfl, by omega, KL11⟩
                case round =>
                  obtain ⟨K3, rfl, hK3, rM⟩ := hrel
                  clear KL11
                  by_cases hK3l : K3 < na
                  · obtain ⟨v, hv⟩ : ∃ v, (s6.q 2 0)[K3]? = some v := ⟨_, List.getElem?_eq_getElem (by rw [HNA.out]; exact hK3l)⟩
                    obtain ⟨f1, f2⟩ := rM.out.fresh HKE.out hv
                    have hK3l2 : (K3 : Int) < (na : Int) := by omega
                    have cv : wr.cell? ⟨ab, K3, none⟩ = some (.int .i64 (v : Int)) := own_cellG rM.out.a (nums_at hv)
                    have lv := cell_lt cv
                    obtain ⟨gb, hgb⟩ := rowNums rM.out.o rfl
                    have HA1 : Hid (∀ w' : World, w'.heap = wr.heap → Calls Tryz.prog 27 #[.slice ag gk.length cg, .int .i64 (v : Int)] w' fun e w'' => e = .returned (.bool false) ∧ w'' = w') := fun w' hh => by
                      have := among_any gb gk.length cg v ag gk w' rfl hgl (fun j v hj => ⟨(hgb j v hj).1, (World.cell?_of_block (a := ⟨gb, j, none⟩) (by rw [hh])).trans (hgb j v hj).2⟩)
                      rw [decide_eq_false f1] at this
                      exact this
                    have HA2 : Hid (∀ (w' : World) (cc : Nat), w'.heap = wr.heap → Calls Tryz.prog 27 #[.slice (some ⟨ab, 0, none⟩) K3 cc, .int .i64 (v : Int)] w' fun e w'' => e = .returned (.bool false) ∧ w'' = w') := fun w' cc hh => by
                      have hlt : ((s6.q 2 0).take K3).length = K3 := by rw [List.length_take, HNA.out]; omega
                      have := among_any ab K3 cc v (some ⟨ab, 0, none⟩) ((s6.q 2 0).take K3) w' hlt.symm (by omega) (fun j u hj => ⟨rfl, ?_⟩)
                      · rw [decide_eq_false f2] at this
                        exact this
                      · have hj3 : j < K3 := by have := (List.getElem?_eq_some_iff.1 hj).1; omega
                        rw [List.getElem?_take, if_pos hj3] at hj
                        exact (World.cell?_of_block (a := ⟨ab, j, none⟩) (by rw [hh])).trans (own_cellG rM.out.a (nums_at hj))
                    have HAA : Hid (∀ (ad' : Option Addr) (n' c' : Nat), ((ad' = ag ∧ n' = gk.length ∧ c' = cg) ∨ (ad' = some ⟨ab, 0, none⟩ ∧ n' = K3)) → ∀ w' : World, w'.heap = wr.heap → Calls Tryz.prog 27 #[.slice ad' n' c', .int .i64 (v : Int)] w' fun e w'' => e = .returned (.bool false) ∧ w'' = w') := fun ad' n' c' hor w' hh => by
                      rcases hor with ⟨rfl, rfl, rfl⟩ | ⟨rfl, rfl⟩
                      · exact HA1.out w' hh
                      · exact HA2.out w' c' hh
                    clear hgb f1 f2 hv HA1 HA2
                    go_wp2_with fail
                    go_quiet (first | (go_at_call 27; refine Calls.quiet_of_same (HAA.out _ _ _ (by first | exact Or.inl ⟨rfl, rfl, rfl⟩ | exact Or.inr ⟨rfl, rfl⟩) _ (by rfl))))
                    have HM2 := hid (rM.out.kept (grown_drewN (grown_refl wr none) nq))
                    clear HAA cv lv rM
                    go_wp2_with fail
                    go_roundw
                    case rel => exact ⟨K3 + 1, by simp, by omega, HM2⟩
                    case measure => simp [intOf]; omega
                  · have hK3l2 : ¬ ((K3 : Int) < (na : Int)) := by omega
                    have HNX := hid (rM.out.next HKE.out KP.out.q)
                    clear rM
                    go_wp2_with fail
                    go_roundw
                    case rel => exact ⟨I + 1, ag, cg, gk, s6.clr, g6, by simp, by omega, rfl, HNX⟩
                    case measure => simp [intOf]; omega
              · obtain ⟨t0, r0, hqc⟩ : ∃ t0 r0, s1.q 2 0 = t0 :: r0 := by
                  cases h : s1.q 2 0 with
                  | nil => exact absurd h hqe
                  | cons a b => exact ⟨a, b, rfl⟩
                have HRL : Hid (nQ = r0.length + 1) := by
                  have := HNQ.out
                  rw [hqc] at this
                  simp at this
                  show _ = _
                  omega
                have hq1 : 0 < nQ := by have := HRL.out; omega
                have hq2 : decide ((0 : Int) < (nQ : Int)) = true := decide_eq_true (by omega)
                have hq3 : decide (0 < nQ) = true := decide_eq_true hq1
                have hq4 : (0 : Int) < (nQ : Int) := by omega
                have HQC := hid hqc
                clear hqc hqe
                have HHB := hid (rfl : hasC (s6.ev.take K) = hasC (s6.ev.take K))
                cases hcb : hasC (s6.ev.take K)
                · by_cases hx : x = 5
                  · subst hx
                    go_wp2_with fail
                    go_loopw [20] (fun kv wr => ∃ K3 : Nat, kv = .int .i64 K3 ∧ K3 ≤ na ∧ Hid (FairL w p mb I qb ab a6 c6 gn s1 s6 g6 K ag cg gk wr)) (fun kv _ => na - (intOf kv).toNat)
                    case atStart => exact ⟨0, rfl, by omega, KL11⟩
                    case round =>
                      obtain ⟨K3, rfl, hK3, rM⟩ := hrel
                      clear KL11
                      by_cases hK3l : K3 < na
                      · obtain ⟨v, hv⟩ : ∃ v, (s6.q 2 0)[K3]? = some v := ⟨_, List.getElem?_eq_getElem (by rw [HNA.out]; exact hK3l)⟩
                        obtain ⟨f1, f2⟩ := rM.out.fresh HKE.out hv
                        have hK3l2 : (K3 : Int) < (na : Int) := by omega
                        have cv : wr.cell? ⟨ab, K3, none⟩ = some (.int .i64 (v : Int)) := own_cellG rM.out.a (nums_at hv)
                        have lv := cell_lt cv
                        obtain ⟨gb, hgb⟩ := rowNums rM.out.o rfl
                        have HA1 : Hid (∀ w' : World, w'.heap = wr.heap → Calls Tryz.prog 27 #[.slice ag gk.length cg, .int .i64 (v : Int)] w' fun e w'' => e = .returned (.bool false) ∧ w'' = w') := fun w' hh => by
                          have := among_any gb gk.length cg v ag gk w' rfl hgl (fun j v hj => ⟨(hgb j v hj).1, (World.cell?_of_block (a := ⟨gb, j, none⟩) (by rw [hh])).trans (hgb j v hj).2⟩)
                          rw [decide_eq_false f1] at this
                          exact this
                        have HA2 : Hid (∀ (w' : World) (cc : Nat), w'.heap = wr.heap → Calls Tryz.prog 27 #[.slice (some ⟨ab, 0, none⟩) K3 cc, .int .i64 (v : Int)] w' fun e w'' => e = .returned (.bool false) ∧ w'' = w') := fun w' cc hh => by
                          have hlt : ((s6.q 2 0).take K3).length = K3 := by rw [List.length_take, HNA.out]; omega
                          have := among_any ab K3 cc v (some ⟨ab, 0, none⟩) ((s6.q 2 0).take K3) w' hlt.symm (by omega) (fun j u hj => ⟨rfl, ?_⟩)
                          · rw [decide_eq_false f2] at this
                            exact this
                          · have hj3 : j < K3 := by have := (List.getElem?_eq_some_iff.1 hj).1; omega
                            rw [List.getElem?_take, if_pos hj3] at hj
                            exact (World.cell?_of_block (a := ⟨ab, j, none⟩) (by rw [hh])).trans (own_cellG rM.out.a (nums_at hj))
                        have HAA : Hid (∀ (ad' : Option Addr) (n' c' : Nat), ((ad' = ag ∧ n' = gk.length ∧ c' = cg) ∨ (ad' = some ⟨ab, 0, none⟩ ∧ n' = K3)) → ∀ w' : World, w'.heap = wr.heap → Calls Tryz.prog 27 #[.slice ad' n' c', .int .i64 (v : Int)] w' fun e w'' => e = .returned (.bool false) ∧ w'' = w') := fun ad' n' c' hor w' hh => by
                          rcases hor with ⟨rfl, rfl, rfl⟩ | ⟨rfl, rfl⟩
                          · exact HA1.out w' hh
                          · exact HA2.out w' c' hh
                        clear hgb f1 f2 hv HA1 HA2
                        go_wp2_with fail
                        go_quiet (first | (go_at_call 27; refine Calls.quiet_of_same (HAA.out _ _ _ (by first | exact Or.inl ⟨rfl, rfl, rfl⟩ | exact Or.inr ⟨rfl, rfl⟩) _ (by rfl))))
                        have HM2 := hid (rM.out.kept (grown_drewN (grown_refl wr none) nq))
                        clear HAA cv lv rM
                        go_wp2_with fail
                        go_roundw
                        case rel => exact ⟨K3 + 1, by simp, by omega, HM2⟩
                        case measure => simp [intOf]; omega
                      · have hK3l2 : ¬ ((K3 : Int) < (na : Int)) := by omega
                        have HNX := hid (rM.out.next HKE.out KP.out.q)
                        clear rM
                        go_wp2_with fail
                        go_roundw
                        case rel => exact ⟨I + 1, ag, cg, gk, s6.clr, g6, by simp, by omega, rfl, HNX⟩
                        case measure => simp [intOf]; omega
                  · have hx1 : (x == 5) = false := by simpa using hx
                    have hx2 : (x != 5) = true := by simpa using hx
                    have hsp : s6.sp = false := by
                      cases h : s6.sp with
                      | false => rfl
                      | true => exact absurd (HX5.out.2 h) hx
                    obtain ⟨m, hm⟩ := KL11.out.up HKE.out hcb hsp HQC.out
                    have HUP := hid hm
                    have HNAQ : Hid (r0.length ≤ na) := by
                      have := HNA.out
                      rw [hm, List.length_append] at this
                      show _ ≤ _
                      omega
                    have hna1 : ¬ ((na : Int) < (nQ : Int) - 1) := by have := HNAQ.out; have := HRL.out; omega
                    clear hm hsp
                    go_wp2_with fail
                    go_loopw [19] (fun kv wr => ∃ K2 : Nat, kv = .int .i64 K2 ∧ 1 ≤ K2 ∧ K2 ≤ nQ ∧ Hid (FairL w p mb I qb ab a6 c6 gn s1 s6 g6 K ag cg gk wr)) (fun kv _ => nQ - (intOf kv).toNat)
                    case atStart => exact ⟨1, rfl, by omega, by omega, KL11⟩
                    case round =>
                      obtain ⟨K2, rfl, hK2, hK2q, KL12⟩ := hrel
                      clear KL11
                      have KL11 := KL12
                      clear KL12
                      by_cases hK2l : K2 < nQ
                      · obtain ⟨K2', rfl⟩ : ∃ K2', K2 = K2' + 1 := ⟨K2 - 1, by omega⟩
                        obtain ⟨v, hv⟩ : ∃ v, r0[K2']? = some v := ⟨_, List.getElem?_eq_getElem (by have := HRL.out; omega)⟩
                        have cq : wr.cell? ⟨qb, K2' + 1, none⟩ = some (.int .i64 (v : Int)) := own_cellG KL11.out.q (nums_at (by rw [HQC.out]; exact hv))
                        have ca : wr.cell? ⟨ab, K2', none⟩ = some (.int .i64 (v : Int)) := own_cellG KL11.out.a (nums_at (by rw [HUP.out, List.getElem?_append_left (List.getElem?_eq_some_iff.1 hv).1]; exact hv))
                        have lcq := cell_lt cq
                        have lca := cell_lt ca
                        have hK2l2 : ((K2' : Int) + 1) < (nQ : Int) := by omega
                        have hK2n : (K2' : Int) < (na : Int) := by have := HNAQ.out; omega
                        clear hv
                        go_wp2_with fail
                        go_quiet (fail)
                        have KL13 := hid (KL11.out.kept (grown_drewN (grown_refl wr none) nq))
                        clear cq ca lcq lca KL11
                        go_wp2_with fail
                        go_roundw
                        case rel => exact ⟨K2' + 1 + 1, by simp, by omega, by omega, KL13⟩
                        case measure => simp [intOf]; omega
                      · have hK2l2 : ¬ ((K2 : Int) < (nQ : Int)) := by omega
                        go_wp2_with fail
                        go_loopw [20] (fun kv wr => ∃ K3 : Nat, kv = .int .i64 K3 ∧ K3 ≤ na ∧ Hid (FairL w p mb I qb ab a6 c6 gn s1 s6 g6 K ag cg gk wr)) (fun kv _ => na - (intOf kv).toNat)
                        case atStart => exact ⟨0, rfl, by omega, KL11⟩
                        case round =>
                          obtain ⟨K3, rfl, hK3, rM⟩ := hrel
                          clear KL11
                          by_cases hK3l : K3 < na
                          · obtain ⟨v, hv⟩ : ∃ v, (s6.q 2 0)[K3]? = some v := ⟨_, List.getElem?_eq_getElem (by rw [HNA.out]; exact hK3l)⟩
                            obtain ⟨f1, f2⟩ := rM.out.fresh HKE.out hv
                            have hK3l2 : (K3 : Int) < (na : Int) := by omega
                            have cv : wr.cell? ⟨ab, K3, none⟩ = some (.int .i64 (v : Int)) := own_cellG rM.out.a (nums_at hv)
                            have lv := cell_lt cv
                            obtain ⟨gb, hgb⟩ := rowNums rM.out.o rfl
                            have HA1 : Hid (∀ w' : World, w'.heap = wr.heap → Calls Tryz.prog 27 #[.slice ag gk.length cg, .int .i64 (v : Int)] w' fun e w'' => e = .returned (.bool false) ∧ w'' = w') := fun w' hh => by
                              have := among_any gb gk.length cg v ag gk w' rfl hgl (fun j v hj => ⟨(hgb j v hj).1, (World.cell?_of_block (a := ⟨gb, j, none⟩) (by rw [hh])).trans (hgb j v hj).2⟩)
                              rw [decide_eq_false f1] at this
                              exact this
                            have HA2 : Hid (∀ (w' : World) (cc : Nat), w'.heap = wr.heap → Calls Tryz.prog 27 #[.slice (some ⟨ab, 0, none⟩) K3 cc, .int .i64 (v : Int)] w' fun e w'' => e = .returned (.bool false) ∧ w'' = w') := fun w' cc hh => by
                              have hlt : ((s6.q 2 0).take K3).length = K3 := by rw [List.length_take, HNA.out]; omega
                              have := among_any ab K3 cc v (some ⟨ab, 0, none⟩) ((s6.q 2 0).take K3) w' hlt.symm (by omega) (fun j u hj => ⟨rfl, ?_⟩)
                              · rw [decide_eq_false f2] at this
                                exact this
                              · have hj3 : j < K3 := by have := (List.getElem?_eq_some_iff.1 hj).1; omega
                                rw [List.getElem?_take, if_pos hj3] at hj
                                exact (World.cell?_of_block (a := ⟨ab, j, none⟩) (by rw [hh])).trans (own_cellG rM.out.a (nums_at hj))
                            have HAA : Hid (∀ (ad' : Option Addr) (n' c' : Nat), ((ad' = ag ∧ n' = gk.length ∧ c' = cg) ∨ (ad' = some ⟨ab, 0, none⟩ ∧ n' = K3)) → ∀ w' : World, w'.heap = wr.heap → Calls Tryz.prog 27 #[.slice ad' n' c', .int .i64 (v : Int)] w' fun e w'' => e = .returned (.bool false) ∧ w'' = w') := fun ad' n' c' hor w' hh => by
                              rcases hor with ⟨rfl, rfl, rfl⟩ | ⟨rfl, rfl⟩
                              · exact HA1.out w' hh
                              · exact HA2.out w' c' hh
                            clear hgb f1 f2 hv HA1 HA2
                            go_wp2_with fail
                            go_quiet (first | (go_at_call 27; refine Calls.quiet_of_same (HAA.out _ _ _ (by first | exact Or.inl ⟨rfl, rfl, rfl⟩ | exact Or.inr ⟨rfl, rfl⟩) _ (by rfl))))
                            have HM2 := hid (rM.out.kept (grown_drewN (grown_refl wr none) nq))
                            clear HAA cv lv rM
                            go_wp2_with fail
                            go_roundw
                            case rel => exact ⟨K3 + 1, by simp, by omega, HM2⟩
                            case measure => simp [intOf]; omega
                          · have hK3l2 : ¬ ((K3 : Int) < (na : Int)) := by omega
                            have HNX := hid (rM.out.next HKE.out KP.out.q)
                            clear rM
                            go_wp2_with fail
                            go_roundw
                            case rel => exact ⟨I + 1, ag, cg, gk, s6.clr, g6, by simp, by omega, rfl, HNX⟩
                            case measure => simp [intOf]; omega
                · go_wp2_with fail
                  go_loopw [20] (fun kv wr => ∃ K3 : Nat, kv = .int .i64 K3 ∧ K3 ≤ na ∧ Hid (FairL w p mb I qb ab a6 c6 gn s1 s6 g6 K ag cg gk wr)) (fun kv _ => na - (intOf kv).toNat)
                  case atStart => exact ⟨0, rfl, by omega, KL11⟩
                  case round =>
                    obtain ⟨K3, rfl, hK3, rM⟩ := hrel
                    clear KL11
                    by_cases hK3l : K3 < na
                    · obtain ⟨v, hv⟩ : ∃ v, (s6.q 2 0)[K3]? = some v := ⟨_, List.getElem?_eq_getElem (by rw [HNA.out]; exact hK3l)⟩
                      obtain ⟨f1, f2⟩ := rM.out.fresh HKE.out hv
                      have hK3l2 : (K3 : Int) < (na : Int) := by omega
                      have cv : wr.cell? ⟨ab, K3, none⟩ = some (.int .i64 (v : Int)) := own_cellG rM.out.a (nums_at hv)
                      have lv := cell_lt cv
                      obtain ⟨gb, hgb⟩ := rowNums rM.out.o rfl
                      have HA1 : Hid (∀ w' : World, w'.heap = wr.heap → Calls Tryz.prog 27 #[.slice ag gk.length cg, .int .i64 (v : Int)] w' fun e w'' => e = .returned (.bool false) ∧ w'' = w') := fun w' hh => by
                        have := among_any gb gk.length cg v ag gk w' rfl hgl (fun j v hj => ⟨(hgb j v hj).1, (World.cell?_of_block (a := ⟨gb, j, none⟩) (by rw [hh])).trans (hgb j v hj).2⟩)
                        rw [decide_eq_false f1] at this
                        exact this
                      have HA2 : Hid (∀ (w' : World) (cc : Nat), w'.heap = wr.heap → Calls Tryz.prog 27 #[.slice (some ⟨ab, 0, none⟩) K3 cc, .int .i64 (v : Int)] w' fun e w'' => e = .returned (.bool false) ∧ w'' = w') := fun w' cc hh => by
                        have hlt : ((s6.q 2 0).take K3).length = K3 := by rw [List.length_take, HNA.out]; omega
                        have := among_any ab K3 cc v (some ⟨ab, 0, none⟩) ((s6.q 2 0).take K3) w' hlt.symm (by omega) (fun j u hj => ⟨rfl, ?_⟩)
                        · rw [decide_eq_false f2] at this
                          exact this
                        · have hj3 : j < K3 := by have := (List.getElem?_eq_some_iff.1 hj).1; omega
                          rw [List.getElem?_take, if_pos hj3] at hj
                          exact (World.cell?_of_block (a := ⟨ab, j, none⟩) (by rw [hh])).trans (own_cellG rM.out.a (nums_at hj))
                      have HAA : Hid (∀ (ad' : Option Addr) (n' c' : Nat), ((ad' = ag ∧ n' = gk.length ∧ c' = cg) ∨ (ad' = some ⟨ab, 0, none⟩ ∧ n' = K3)) → ∀ w' : World, w'.heap = wr.heap → Calls Tryz.prog 27 #[.slice ad' n' c', .int .i64 (v : Int)] w' fun e w'' => e = .returned (.bool false) ∧ w'' = w') := fun ad' n' c' hor w' hh => by
                        rcases hor with ⟨rfl, rfl, rfl⟩ | ⟨rfl, rfl⟩
                        · exact HA1.out w' hh
                        · exact HA2.out w' c' hh
                      clear hgb f1 f2 hv HA1 HA2
                      go_wp2_with fail
                      go_quiet (first | (go_at_call 27; refine Calls.quiet_of_same (HAA.out _ _ _ (by first | exact Or.inl ⟨rfl, rfl, rfl⟩ | exact Or.inr ⟨rfl, rfl⟩) _ (by rfl))))
                      have HM2 := hid (rM.out.kept (grown_drewN (grown_refl wr none) nq))
                      clear HAA cv lv rM
                      go_wp2_with fail
                      go_roundw
                      case rel => exact ⟨K3 + 1, by simp, by omega, HM2⟩
                      case measure => simp [intOf]; omega
                    · have hK3l2 : ¬ ((K3 : Int) < (na : Int)) := by omega
                      have HNX := hid (rM.out.next HKE.out KP.out.q)
                      clear rM
                      go_wp2_with fail
                      go_roundw
                      case rel => exact ⟨I + 1, ag, cg, gk, s6.clr, g6, by simp, by omega, rfl, HNX⟩
                      case measure => simp [intOf]; omega
      · have hlt2 : ¬ ((I : Int) < (len : Int)) := by omega
        have HB := hid rI.out.b
        clear rI
        go_wp2_with fail
        go_ret
        exact ⟨rfl, HB.out⟩
end Go.Proofs.YtnjiinbhbjpfkaaGreatDoor.F
