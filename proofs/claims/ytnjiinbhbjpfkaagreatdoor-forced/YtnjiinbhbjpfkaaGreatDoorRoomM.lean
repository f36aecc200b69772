/-
  What the closures of the table do: those whose a is a value that can always be told (the function's number is 110).
-/
import Derived.Test.YtnjiinbhbjpfkaaGreatDoorRoomC
import Derived.Test.YtnjiinbhbjpfkaaGreatDoorRoomL
import Derived.Test.YtnjiinbhbjpfkaaGreatDoorRoomI
import Derived.Test.YtnjiinbhbjpfkaaGreatDoorRoomJ
namespace Go.Proofs.YtnjiinbhbjpfkaaGreatDoor
open Go.RowKit

set_option maxRecDepth 100000 in
set_option maxHeartbeats 2000000 in
theorem gives110_any (op a b c fb tb eb cb L nx rb nr vb : Nat) (back : Value) (R : Nat → B.V) (y : B.V) (ha : a < nr) (w : World) (hF : Fr w fb cb L nx rb nr back R) (hv : w.cell? ⟨vb, 0, none⟩ = some (Fv 117 #[])) (hvb : vb < w.heap.size)
    (hn : Hid (∀ w', w.grownBy w' none → Calls Tryz.prog 117 #[stepV op a b c fb tb eb] w' fun e w'' => e = .returned (vA y) ∧ w'.grownBy w'' none)) :
    Calls Tryz.prog 148 #[stepV op a b c fb tb eb, P0 vb] w fun e w' => e = .returned (.tuple #[]) ∧ w.grownBy w' (some rb) ∧ Fr w' fb cb L nx rb nr back (B.set R a y) := by
  have KF : Hid (Fr w fb cb L nx rb nr back R) := hF
  clear hF
  go_enter Tryz.func148, Tryz.ntmps148
  go_wp2_with fail
  go_region_with (first | (go_at_call 117; refine (hn.out _ (by repeat (first | exact grown_refl _ _ | refine grown_drew ?_ | refine grown_alloc ?_ _))).mono ?_; rintro e w1 ⟨rfl, hg1⟩; obtain ⟨s0, s1, s2, s3, s4, s5, s6, s7⟩ := box7 hg1; have KG1 : Hid (w.grownBy w1 none) := grown_trans (by repeat (first | exact grown_refl _ _ | refine grown_drew ?_ | refine grown_alloc ?_ _)) hg1; clear hg1) | (go_at_call 149; refine (set_any op a b c fb tb eb cb L nx rb nr back R y w1 (KF.out.kept KG1.out).1 (KF.out.kept KG1.out).2.1 ha).mono ?_; rintro e w2 ⟨rfl, hg2, hf2⟩))
  all_goals
    go_wp2_with fail
    go_end0
    refine ⟨rfl, grown_trans (grown_of_none KG1.out) hg2, grown_heap hg2 (KF.out.kept KG1.out).1 (by intro e; injection e with e; exact KF.out.2.2 e), hf2, KF.out.2.2⟩

set_option maxRecDepth 100000 in
theorem actg110_any (op a b c fb tb eb cb L nx rb nr wb vb : Nat) (back : Value) (R : Nat → B.V) (y : B.V) (ha : a < nr) (w : World) (hF : Fr w fb cb L nx rb nr back R) (hw : w.cell? ⟨wb, 0, none⟩ = some (Fv 148 #[P0 vb])) (hv : w.cell? ⟨vb, 0, none⟩ = some (Fv 117 #[])) (hwb : wb < w.heap.size) (hvb : vb < w.heap.size)
    (hn : Hid (∀ w', w.grownBy w' none → Calls Tryz.prog 117 #[stepV op a b c fb tb eb] w' fun e w'' => e = .returned (vA y) ∧ w'.grownBy w'' none)) :
    Calls Tryz.prog 163 #[stepV op a b c fb tb eb, P0 wb] w fun e w' => e = .returned (.int .i64 0) ∧ w.grownBy w' (some rb) ∧ Fr w' fb cb L nx rb nr back (B.set R a y) := by
  have KF : Hid (Fr w fb cb L nx rb nr back R) := hF
  clear hF
  go_enter Tryz.func163, Tryz.ntmps163
  go_wp2_with fail
  refine (gives110_any op a b c fb tb eb cb L nx rb nr vb back R y ha _ (KF.out.kept (World.grownBy_alloc _ _ _)) (by simp [go_sem, hvb, hv]) (by simp; omega) (fun w' hg => hn.out w' (grown_trans (World.grownBy_alloc _ _ _) hg))).mono ?_
  rintro e w1 ⟨rfl, hg1, hF1⟩
  have KF1 := hid hF1
  have KG1 : Hid (w.grownBy w1 (some rb)) := grown_trans (World.grownBy_alloc _ _ _) hg1
  clear hF1 hg1
  go_wp2_with fail
  go_ret
  exact ⟨rfl, KG1.out, KF1.out⟩

end Go.Proofs.YtnjiinbhbjpfkaaGreatDoor

/-
  What Now and Sleep leave of a machine of one task.
-/
namespace Go.Proofs.YtnjiinbhbjpfkaaGreatDoor
open Go.RowKit

section
variable {w w' : World} {g : Geo} {C : List B.In} {q : Nat} {kd : B.Kd} {vb : Vs} {s : B.St} {E Tk : Nat → Value} {bs qb cq : Nat} {ad : Option Addr} {ne cap : Nat} {ev : List B.Ev}

theorem do22 (a b c : Nat) (hR : Run w g C q kd vb (s.1 + 1, s.2.1, s.2.2) E Tk) (hm : Mid w g E Tk bs qb cq ad ne cap ev) (hi : a < g.nr) :
    Calls Tryz.prog 163 #[stepV 22 a b c g.fb g.tb g.eb, P0 (g.ac + 32)] w fun e w' => ∃ why : Nat, e = .returned (.int .i64 why) ∧ Acted w w' g C q kd vb Tk bs qb cq ad ne cap ev s (22, a, b, c) why := by
  obtain ⟨b1, l1⟩ := hR.hK.box 31 _ rfl
  obtain ⟨b0, l0⟩ := hR.hK.box 30 _ rfl
  refine (actg110_any 22 a b c g.fb g.tb g.eb g.cb C.length (s.1 + 1) g.rb g.nr (g.ac + 32) (g.ac + 31) _ s.2.1 (0, g.clk) hi w hR.hF b1 b0 l1 l0 (fun w1 hg => now_any 22 a b c g.fb g.tb g.eb g.clk w1 (((hR.grown hg).hE.cell 28 (by omega)).trans (by rw [hR.eE.e27])) (hR.grown hg).hE.lt)).mono ?_
  rintro e w' ⟨rfl, hg, hF⟩
  exact ⟨0, rfl, Or.inl ⟨rfl, _, kd, 0, [], ⟨rfl, rfl, rfl⟩, fun _ => rfl, after_regs hR hm hg hF (B.held_num hR.hH _ _ _)⟩⟩

theorem do17 (a : Nat) (hR : Run w g C q kd vb (s.1 + 1, s.2.1, s.2.2) E Tk) (hm : Mid w g E Tk bs qb cq ad ne cap ev) (hi : a < g.nr) (hC : C[s.1]? = some (17, a, 0, 0)) :
    Calls Tryz.prog 167 #[stepV 17 a 0 0 g.fb g.tb g.eb, P0 (g.ac + 21), P0 (g.ac + 22)] w fun e w' => ∃ why : Nat, e = .returned (.int .i64 why) ∧ Acted w w' g C q kd vb Tk bs qb cq ad ne cap ev s (17, a, 0, 0) why := by
  refine (act17_any 17 a 0 0 g.fb g.tb g.eb g.cb C.length (s.1 + 1) g.rb g.nr g.sc (g.ac + 21) (g.ac + 22) g.sa g.clk _ s.2.1 hi E Tk w hR.hF hR.hE hR.eE.e27 hm.e32 hR.hK.hT hm.t3 hm.o32 hm.h32 hR.eE.hck.1 hR.eE.hck.2 (hR.hK.hA 20 _ rfl) (hR.hK.hA 21 _ rfl)).mono ?_
  rintro e w' (⟨h, rfl, zb, zc, ho, hE, hT, hO, hz⟩ | ⟨h, rfl, hg⟩)
  · obtain ⟨y1, y2, y3, y4, y5, y6, y7, y8, y9, y10⟩ := hR.ty
    obtain ⟨l1, l2, l3, l4, l5, l6, l7, l8, l9, l10, l11⟩ := hR.lt
    have lxt := heap_lt hR.hK.hxt
    have lqb := (own_ty hm.o31 qb rfl).2.1
    have hZ : ∀ k, (Value.slice g.sa 0 g.sc).ownBlock = some k → kty w k = 155 := fun k hk => kty_own hm.o32 hk
    have hR' : Run w' g C q kd vb (s.1 + 1, s.2.1, s.2.2) (upd E 33 (.slice (some ⟨zb, 0, none⟩) 1 zc)) (upd (upd (upd Tk 5 (.int .i64 (B.aft g.clk (s.2.1 a).2))) 2 (.bool false)) 3 (Pt g.eb 33)) :=
      hR.lines hO hZ (fun e => (hm.n32 _ e).1 rfl) (fun e => (hm.n32 _ e).2.1 rfl) hE (hR.eE.upd 33 _ (Or.inr (Or.inl rfl))) hT rfl rfl rfl
    refine ⟨0, rfl, Or.inl ⟨rfl, (s.1 + 1, s.2.1, s.2.2), kd, 4, [], ?_, fun _ => rfl, hO.mono (fun k hk _ => ?_), Or.inr ⟨by omega, vb, _, ad, ne, cap, hE, ⟨?_, fun e => by omega, fun e => by omega⟩, ?_, ?_, ?_, ⟨_, _, _, hR'.rts⟩, Grew.refl _ _ _ _, ?_, ?_, by omega, ?_, fun _ => ⟨_, zb, zc, _, a, hC, rfl, h, { hR := hR', t2 := rfl, t3 := rfl, t5 := rfl, e31 := ?_, o31 := ?_, e32 := upd_at _ _ _, o32 := ho, nqb := hm.nqb, hcq := hm.hcq, nzb := ?_ }, hz⟩, fun e => by omega⟩⟩⟩
    · show (if _ then _ else _)
      refine ite_yes ?_ ⟨rfl, rfl, rfl⟩
      exact h
    · unfold Wr
      rcases hk with h | h | h <;> simp [h]
    · rw [upd_off _ _ _ _ (by omega)]; exact hR.eE.e27
    · rw [upd_off _ _ _ _ (by omega)]; exact hR.eE.e1
    · rw [upd_off _ _ _ _ (by omega)]; exact hR.eE.e2
    · rw [upd_off _ _ _ _ (by omega)]; exact hR.eE.e26
    · rw [upd_off _ _ _ _ (by omega)]; exact hm.e42
    · rw [List.append_nil]
      refine own_of hm.o42 (fun k hk => hO.same (own_ty hm.o42 k hk).2.1 ?_)
      have h48 := kty_own hm.o42 hk
      rintro (rfl | rfl | hz)
      · rw [y1] at h48; exact absurd h48 (by decide)
      · rw [y2] at h48; exact absurd h48 (by decide)
      · rw [hZ k hz] at h48; exact absurd h48 (by decide)
    · rw [hT.cell 2 (by omega)]; rfl
    · rw [upd_off _ _ _ _ (by omega)]; exact hm.e31
    · refine own_of hm.o31 (fun k hk => hO.same (own_ty hm.o31 k hk).2.1 ?_)
      have h153 := kty_own hm.o31 hk
      rintro (rfl | rfl | hz)
      · rw [y1] at h153; exact absurd h153 (by decide)
      · rw [y2] at h153; exact absurd h153 (by decide)
      · have : qb = k := by injection hk
        exact (hm.n32 k hz).2.2 this.symm
    · rcases hz with hz | hz
      · exact hm.n32 zb hz
      · exact ⟨by omega, by omega, by omega⟩
  · refine ⟨1, rfl, Or.inr ⟨by omega, by omega, fun s' ev1 => ?_, hg⟩⟩
    show (if _ then _ else _)
    refine ite_no ?_ rfl
    exact h
end
end Go.Proofs.YtnjiinbhbjpfkaaGreatDoor

/-
  One instruction of a task.
-/
namespace Go.Proofs.YtnjiinbhbjpfkaaGreatDoor
open Go.RowKit

section
variable {w w' : World} {g : Geo} {C : List B.In} {q : Nat} {kd : B.Kd} {vb : Vs} {s : B.St} {E Tk : Nat → Value} {bs qb cq : Nat} {ad : Option Addr} {ne cap : Nat} {ev : List B.Ev}
theorem After.pre {w1 : World} {s' : B.St} {kd' : B.Kd} {r : Nat} {ev1 : List B.Ev} (hO : Only (fun k => k = g.fb) w w1) (h : After w1 w' g C q kd vb Tk bs qb cq ad ne cap ev s' kd' r ev1) : After w w' g C q kd vb Tk bs qb cq ad ne cap ev s' kd' r ev1 := by
  obtain ⟨h1, h2⟩ := h
  have hg : ∀ {vb' : Vs}, Grew g.n kd vb kd' vb' w1.heap.size → Grew g.n kd vb kd' vb' w.heap.size := fun h k hk => (h k hk).imp id (fun h => Nat.le_trans hO.size h)
  refine ⟨(hO.mono (fun k hk _ => by unfold Wr; omega)).trans h1 (fun _ h _ => h), ?_⟩
  rcases h2 with ⟨hr, vb', E', ad', ne', cap', a, b, c, d⟩ | h2
  · exact Or.inl ⟨hr, vb', E', ad', ne', cap', a, b, c, hg d⟩
  · obtain ⟨hr, vb', E', ad', ne', cap', a1, a2, a3, b1, b2, b3, b4, a4, a5, a6, a7, a8, a9⟩ := h2
    refine Or.inr ⟨hr, vb', E', ad', ne', cap', a1, a2, a3, b1, b2, b3, hg b4, a4, a5, a6, a7, fun e => ?_, a9⟩
    obtain ⟨Tk', zb, zc, U, a, b1, b2, b2', b3, b5⟩ := a8 e
    exact ⟨Tk', zb, zc, U, a, b1, b2, b2', b3, b5.imp id (fun h => Nat.le_trans hO.size h)⟩

/-- What one instruction leaves. -/
def Oned (w w' : World) (g : Geo) (C : List B.In) (q : Nat) (kd : B.Kd) (vb : Vs) (Tk : Nat → Value) (bs qb cq : Nat) (ad : Option Addr) (ne cap : Nat) (ev : List B.Ev) (s : B.St) : Prop :=
  ∃ s' kd' r ev1, B.Step3 g.clk C g.nr g.n s kd s' kd' r ev1 ∧ After w w' g C q kd vb Tk bs qb cq ad ne cap ev s' kd' r ev1
end

set_option maxRecDepth 100000 in
set_option maxHeartbeats 4000000 in
theorem oneEnd (g : Geo) (C : List B.In) (q : Nat) (kd : B.Kd) (vb : Vs) (s : B.St) (E Tk : Nat → Value) (bs qb cq : Nat) (ad : Option Addr) (ne cap : Nat) (ev : List B.Ev) (w : World) (hR : Run w g C q kd vb s E Tk) (hm : Mid w g E Tk bs qb cq ad ne cap ev) (hne : ne ≤ 100000) (hs : s.1 = C.length) :
    Calls Tryz.prog 134 #[P0 g.eb, P0 g.tb] w fun e w' => e = .returned (.tuple #[]) ∧ Oned w w' g C q kd vb Tk bs qb cq ad ne cap ev s := by
  have KR := hid hR
  have KM := hid hm
  have c1 := hR.hK.hT.cell 1 (by omega)
  rw [hR.hK.t1] at c1
  have ck := own_cell hR.hK.oK
  have lt := hR.hK.hT.lt
  have HS : Hid (s.1 = C.length) := hs
  have HN : Hid (ne ≤ 100000) := hne
  clear hR hm hs hne
  go_enter Tryz.func134, Tryz.ntmps134
  go_wp2_with fail
  go_loopw [] (fun wr => wr = w) (fun _ => 0)
  case atStart => rfl
  case round =>
    subst hrel
    go_wp2_with fail
    refine (top_any g.tb g.kb g.ck g.fb _ c1 ck).mono ?_
    rintro e w1 ⟨rfl, hg1⟩
    have KG1 := hid hg1
    clear hg1
    go_wp2_with fail
    refine (atEnd_any g.fb g.cb C.length s.1 g.rb g.nr _ w1 (KR.out.grown KG1.out).hF.1).mono ?_
    rintro e w2 ⟨rfl, hg2⟩
    have KG2 := hid (grown_trans KG1.out hg2)
    clear hg2
    have hd : decide (s.1 = C.length) = true := by simpa using HS.out
    simp only [hd]
    clear hd
    go_wp2_with fail
    refine (number_any 0 _).mono ?_
    rintro e w3 ⟨rfl, rfl⟩
    go_wp2_with fail
    have KG3 := hid (grown_alloc KG2.out (.cells #[.int .i64 0, .int .i64 0] 149))
    refine (giveBack_any g.eb g.tb g.lb g.cl g.ob g.co bs g.xe g.xt g.kb g.ck g.fb g.cb C.length s.1 g.rb g.nr (0, 0) ad ne cap ev E Tk _ ((KR.out.grown KG3.out).leav (KM.out.grown KG3.out) HN.out) (KR.out.grown KG3.out).hK.hxe (KR.out.grown KG3.out).hK.hxt KR.out.hK.t1 (KR.out.grown KG3.out).hK.oK (KR.out.grown KG3.out).hF.1).mono ?_
    rintro e w4 ⟨rfl, w5, hL, hO⟩
    have hA : After _ w4 g C q kd vb Tk bs qb cq ad ne cap ev s kd 1 [(2, 0)] := after_left (KR.out.grown KG3.out) (KM.out.grown KG3.out) hO hL (B.vok_num _ _ _) (fun h => absurd rfl h) (Or.inl rfl) s
    have HA := hid (After.pre (only_none KG3.out) hA)
    obtain ⟨E', x, c, a', c', h1, h2, h3, h4, h5, k1, k2, k3, h6, h7, h8, h9⟩ := hL
    have lt4 : g.tb < w4.heap.size := by have := HA.out.1.size; omega
    clear hA h1 h2 h3 h4 h5 k1 k2 k3 h6 h7 h9 hO
    go_wp2_with fail
    refine bodyPost_ret (results_none rfl _ _ _) rfl ?_
    refine ⟨rfl, s, kd, 1, _, ⟨?_, fun h => by omega⟩, HA.out⟩
    unfold B.Step2
    rw [List.getElem?_eq_none (by rw [HS.out]; exact Nat.le_refl _)]
    exact ⟨rfl, rfl⟩
end Go.Proofs.YtnjiinbhbjpfkaaGreatDoor

/-
  The bytes of a program of one function are read as one, and what is read are its instructions.
-/
namespace Go.Proofs.YtnjiinbhbjpfkaaGreatDoor

theorem bt_txt (l : List Nat) (h : ∀ y, y ∈ l → y < 256) (p : Nat) : M.bt (txt l) p = l.getD p 0 := by
  unfold M.bt txt
  by_cases hp : p < l.length
  · have hy : l[p] < 256 := h _ (List.getElem_mem hp)
    simp [hp, List.getD, UInt8.toNat_ofNat']
    omega
  · simp [hp, List.getD]
theorem size_txt (l : List Nat) : (txt l).size = l.length := by
  show (List.map UInt8.ofNat l).toArray.size = _
  simp

/-- The bytes of an instruction lie at a place. -/
def At (s : ByteArray) (p : Nat) (i : B.In) : Prop := M.bt s p = i.1 ∧ M.bt s (p + 1) = i.2.1 ∧ M.bt s (p + 2) = i.2.2.1 ∧ M.bt s (p + 3) = i.2.2.2

theorem tk_yes {s : ByteArray} {p lo hi : Nat} (h1 : p < s.size) (h2 : lo ≤ M.bt s p) (h3 : M.bt s p ≤ hi) : M.tk s p lo hi = true := by simp [M.tk, h1, h2, h3]

theorem opn_r {s : ByteArray} {p op nr L a b c : Nat} (hs : p + 3 ≤ s.size) (h0 : M.bt s p = a) (h1 : M.bt s (p + 1) = b) (h2 : M.bt s (p + 2) = c) (k1 : M.k1 op ≠ 116) (a1 : a ≤ M.hiOf nr 1 (M.k0 op)) (b1 : b ≤ M.hiOf nr 1 (M.k1 op)) (c1 : c ≤ M.hiOf nr 1 (M.k2 op)) : M.opn s p op nr 1 L = (p + 3, true) := by
  unfold M.opn
  rw [if_pos (tk_yes (by omega) (by omega) (by omega)), if_neg k1, if_pos (tk_yes (by omega) (by omega) (by omega)), if_pos (tk_yes (by omega) (by omega) (by omega))]
theorem opn_t {s : ByteArray} {p op nr L a b c : Nat} (hs : p + 3 ≤ s.size) (h0 : M.bt s p = a) (h1 : M.bt s (p + 1) = b) (h2 : M.bt s (p + 2) = c) (k1 : M.k1 op = 116) (a1 : a ≤ M.hiOf nr 1 (M.k0 op)) (b1 : 256 * b + c ≤ L) : M.opn s p op nr 1 L = (p + 3, true) := by
  unfold M.opn
  rw [if_pos (tk_yes (by omega) (by omega) (by omega)), if_pos k1]
  unfold M.tgt
  rw [if_neg (by omega), if_neg (by rw [h1, show p + 1 + 1 = p + 2 by omega, h2]; omega)]

theorem ins_ok1 {s : ByteArray} {p nr L : Nat} {i : B.In} (hn : 2 ≤ nr) (hs : p + 4 ≤ s.size) (hA : At s p i) (h : okIn nr L i = true) : M.ins s p nr 1 L = (p + 4, true) := by
  obtain ⟨op, a, b, c⟩ := i
  obtain ⟨h0, h1, h2, h3⟩ := hA
  simp only at h0 h1 h2 h3
  have e : M.ins s p nr 1 L = M.opn s (p + 1) op nr 1 L := by
    unfold M.ins
    have : op ≤ 22 := by
      unfold okIn at h
      split at h <;> simp_all
    rw [if_pos (tk_yes (by omega) (by omega) (by omega)), h0]
  rw [e]
  have hs' : p + 1 + 3 ≤ s.size := by omega
  have t1 : M.bt s (p + 1 + 1) = b := by rw [← h2]
  have t2 : M.bt s (p + 1 + 2) = c := by rw [← h3]
  have hr : M.hiOf nr 1 114 = nr - 1 := rfl
  unfold okIn at h
  split at h
  all_goals (first | (simp at h; done) | skip)
  all_goals
    rename_i heq
    obtain ⟨rfl, rfl, rfl, rfl⟩ := heq
    simp only [decide_eq_true_eq] at h
    first
    | exact opn_r hs' h1 t1 t2 (by decide) (by simp [M.k0, M.kd, M.hiOf]; omega) (by simp [M.k1, M.kd, M.hiOf]; omega) (by simp [M.k2, M.kd, M.hiOf]; omega)
    | exact opn_t hs' h1 t1 t2 (by decide) (by simp [M.k0, M.kd, M.hiOf]; omega) (by omega)

theorem ins_ok {s : ByteArray} {p nr L : Nat} {i : B.In} (hn : 2 ≤ nr) (hs : p + 4 ≤ s.size) (hA : At s p i) (h : okIn2 nr L i = true) : M.ins s p nr 1 L = (p + 4, true) := by
  obtain ⟨op, a, b, c⟩ := i
  rcases okIn2_ops h with ⟨rfl, rfl, rfl, rfl⟩ | ⟨rfl, ha, rfl, rfl⟩ | ⟨rfl, ha, rfl, rfl⟩ | h'
  · obtain ⟨h0, h1, h2, h3⟩ := hA
    simp only at h0 h1 h2 h3
    unfold M.ins
    rw [if_pos (tk_yes (by omega) (by omega) (by omega)), h0]
    exact opn_r (a := 0) (b := 0) (c := 0) (by omega) h1 h2 h3 (by decide) (by simp [M.k0, M.kd, M.hiOf]) (by simp [M.k1, M.kd, M.hiOf]) (by simp [M.k2, M.kd, M.hiOf])
  · obtain ⟨h0, h1, h2, h3⟩ := hA
    simp only at h0 h1 h2 h3
    unfold M.ins
    rw [if_pos (tk_yes (by omega) (by omega) (by omega)), h0]
    exact opn_r (b := 0) (c := 0) (by omega) h1 h2 h3 (by decide) (by simp [M.k0, M.kd, M.hiOf]; omega) (by simp [M.k1, M.kd, M.hiOf]) (by simp [M.k2, M.kd, M.hiOf])
  · obtain ⟨h0, h1, h2, h3⟩ := hA
    simp only at h0 h1 h2 h3
    unfold M.ins
    rw [if_pos (tk_yes (by omega) (by omega) (by omega)), h0]
    exact opn_r (b := 0) (c := 0) (by omega) h1 h2 h3 (by decide) (by simp [M.k0, M.kd, M.hiOf]; omega) (by simp [M.k1, M.kd, M.hiOf]) (by simp [M.k2, M.kd, M.hiOf])
  · exact ins_ok1 hn hs hA h'

theorem code_ok {s : ByteArray} {nr L : Nat} (hn : 2 ≤ nr) : ∀ (C : List B.In) (p : Nat), (∀ i x, C[i]? = some x → At s (p + 4 * i) x) → C.all (okIn2 nr L) = true → p + 4 * C.length ≤ s.size → M.code s nr 1 L p C.length = (p + 4 * C.length, true)
  | [], p, _, _, _ => rfl
  | i :: C, p, hA, hok, hs => by
    simp only [List.all_cons, Bool.and_eq_true] at hok
    simp only [List.length_cons] at hs ⊢
    have h1 := ins_ok (s := s) (p := p) hn (by omega) (by simpa using hA 0 i rfl) hok.1
    unfold M.code
    rw [h1]
    simp only [if_true]
    rw [code_ok hn C (p + 4) (fun k x hx => by
      have := hA (k + 1) x (by simpa using hx)
      rwa [show p + 4 * (k + 1) = p + 4 + 4 * k by omega] at this) hok.2 (by omega)]
    congr 1; omega

theorem flat_len : ∀ C : List B.In, (flat C).length = 4 * C.length
  | [] => rfl
  | i :: C => by
    have e : flat (i :: C) = [i.1, i.2.1, i.2.2.1, i.2.2.2] ++ flat C := rfl
    rw [e, List.length_append, flat_len C]; simp; omega
theorem flat_at : ∀ (C : List B.In) (i : Nat) (x : B.In), C[i]? = some x → (flat C).getD (4 * i) 0 = x.1 ∧ (flat C).getD (4 * i + 1) 0 = x.2.1 ∧ (flat C).getD (4 * i + 2) 0 = x.2.2.1 ∧ (flat C).getD (4 * i + 3) 0 = x.2.2.2
  | [], i, x, h => by simp at h
  | y :: C, 0, x, h => by
    simp at h; subst h
    exact ⟨rfl, rfl, rfl, rfl⟩
  | y :: C, i + 1, x, h => by
    have e : flat (y :: C) = [y.1, y.2.1, y.2.2.1, y.2.2.2] ++ flat C := rfl
    have := flat_at C i x (by simpa using h)
    rw [e, show 4 * (i + 1) = 4 * i + 4 by omega]
    exact this

theorem ok_lt1 {nr L : Nat} {i : B.In} (hn : nr ≤ 8) (h : okIn nr L i = true) : i.1 < 256 ∧ i.2.1 < 256 ∧ i.2.2.1 < 256 ∧ i.2.2.2 < 256 := by
  obtain ⟨op, a, b, c⟩ := i
  unfold okIn at h
  split at h
  all_goals (first | (simp at h; done) | skip)
  all_goals
    rename_i heq
    obtain ⟨rfl, rfl, rfl, rfl⟩ := heq
    simp only [decide_eq_true_eq] at h
    simp only
    omega
theorem ok_lt {nr L : Nat} {i : B.In} (hn : nr ≤ 8) (h : okIn2 nr L i = true) : i.1 < 256 ∧ i.2.1 < 256 ∧ i.2.2.1 < 256 ∧ i.2.2.2 < 256 := by
  obtain ⟨op, a, b, c⟩ := i
  rcases okIn2_ops h with ⟨rfl, rfl, rfl, rfl⟩ | ⟨rfl, ha, rfl, rfl⟩ | ⟨rfl, ha, rfl, rfl⟩ | h'
  · exact ⟨by show (16 : Nat) < 256; omega, by show (0 : Nat) < 256; omega, by show (0 : Nat) < 256; omega, by show (0 : Nat) < 256; omega⟩
  · exact ⟨by show (17 : Nat) < 256; omega, by show a < 256; omega, by show (0 : Nat) < 256; omega, by show (0 : Nat) < 256; omega⟩
  · exact ⟨by show (22 : Nat) < 256; omega, by show a < 256; omega, by show (0 : Nat) < 256; omega, by show (0 : Nat) < 256; omega⟩
  · exact ok_lt1 hn h'
theorem flat_lt {nr L : Nat} (hn : nr ≤ 8) : ∀ C : List B.In, C.all (okIn2 nr L) = true → ∀ y, y ∈ flat C → y < 256
  | [], _, y, hy => by simp [flat] at hy
  | i :: C, h, y, hy => by
    simp only [List.all_cons, Bool.and_eq_true] at h
    have e : flat (i :: C) = [i.1, i.2.1, i.2.2.1, i.2.2.2] ++ flat C := rfl
    rw [e, List.mem_append] at hy
    rcases hy with hy | hy
    · have := ok_lt hn h.1
      simp at hy
      rcases hy with rfl | rfl | rfl | rfl <;> omega
    · exact flat_lt hn C h.2 y hy

/-- The text of a program of one function. -/
abbrev oneT (nr : Nat) (C : List B.In) : ByteArray := txt (1 :: nr :: C.length :: flat C)
theorem one_bytes {nr : Nat} {C : List B.In} (h : okCode2 nr C) : ∀ y, y ∈ (1 :: nr :: C.length :: flat C) → y < 256 := by
  obtain ⟨h1, h2, h3, h4, h5⟩ := h
  intro y hy
  rcases List.mem_cons.1 hy with rfl | hy
  · omega
  · rcases List.mem_cons.1 hy with rfl | hy
    · omega
    · rcases List.mem_cons.1 hy with rfl | hy
      · omega
      · exact flat_lt h2 C h5 y hy
theorem one_bt {nr : Nat} {C : List B.In} (h : okCode2 nr C) (p : Nat) : M.bt (oneT nr C) p = (1 :: nr :: C.length :: flat C).getD p 0 := bt_txt _ (one_bytes h) p
theorem one_at {nr : Nat} {C : List B.In} (h : okCode2 nr C) (i : Nat) (x : B.In) (hx : C[i]? = some x) : At (oneT nr C) (3 + 4 * i) x := by
  obtain ⟨a, b, c, d⟩ := flat_at C i x hx
  unfold At
  rw [one_bt h, one_bt h, one_bt h, one_bt h]
  rw [show 3 + 4 * i = (4 * i) + 1 + 1 + 1 by omega, show 4 * i + 1 + 1 + 1 + 1 = (4 * i + 1) + 1 + 1 + 1 by omega, show 4 * i + 1 + 1 + 1 + 2 = (4 * i + 2) + 1 + 1 + 1 by omega, show 4 * i + 1 + 1 + 1 + 3 = (4 * i + 3) + 1 + 1 + 1 by omega]
  simp only [List.getD_cons_succ]
  exact ⟨a, b, c, d⟩
theorem one_size (nr : Nat) (C : List B.In) : (oneT nr C).size = 3 + 4 * C.length := by
  rw [size_txt]; simp [flat_len]; omega

/-- It is a program. -/
theorem one_prg {nr : Nat} {C : List B.In} (h : okCode2 nr C) : M.prg (oneT nr C) = (3 + 4 * C.length, true) := by
  have hz := one_size nr C
  have b0 : M.bt (oneT nr C) 0 = 1 := one_bt h 0
  have b1 : M.bt (oneT nr C) 1 = nr := one_bt h 1
  have b2 : M.bt (oneT nr C) (1 + 1) = C.length := one_bt h 2
  have h' := h
  obtain ⟨h1, h2, h3, h4, h5⟩ := h'
  have hf : M.fn (oneT nr C) 1 1 = (3 + 4 * C.length, true) := by
    unfold M.fn
    rw [if_pos (tk_yes (by omega) (by omega) (by omega)), if_pos (tk_yes (by omega) (by omega) (by omega)), b1, b2]
    exact code_ok h1 C 3 (fun i x hx => one_at h i x hx) h5 (by omega)
  unfold M.prg
  rw [if_pos (tk_yes (by omega) (by omega) (by omega)), b0]
  have e : M.fns (oneT nr C) 1 1 1 = (3 + 4 * C.length, true) := by
    unfold M.fns
    rw [hf]
    simp [M.fns]
  rw [e, hz]
  simp

end Go.Proofs.YtnjiinbhbjpfkaaGreatDoor

/-
  One instruction of a task, out of the table: its value is a closure of one variable.
-/
namespace Go.Proofs.YtnjiinbhbjpfkaaGreatDoor
open Go.RowKit

section
variable {w w' : World} {g : Geo} {C : List B.In} {q : Nat} {kd : B.Kd} {vb : Vs} {s : B.St} {E Tk : Nat → Value} {bs qb cq : Nat} {ad : Option Addr} {ne cap : Nat} {ev : List B.Ev}
/-- The instruction's bytes. -/
theorem Kon.bytes (h : Kon w g C Tk) {i : Nat} {x : B.In} (hx : C[i]? = some x) : w.cell? ⟨g.cb, i * 4, none⟩ = some (.int .u8 x.1) ∧ w.cell? ⟨g.cb, i * 4 + 1, none⟩ = some (.int .u8 x.2.1) ∧ w.cell? ⟨g.cb, i * 4 + 2, none⟩ = some (.int .u8 x.2.2.1) ∧ w.cell? ⟨g.cb, i * 4 + 3, none⟩ = some (.int .u8 x.2.2.2) := by
  have hl := (List.getElem?_eq_some_iff.1 hx).1
  obtain ⟨a0, a1, a2, a3⟩ := flat_at C i x hx
  refine ⟨(h.hC.cell _ (by omega)).trans ?_, (h.hC.cell _ (by omega)).trans ?_, (h.hC.cell _ (by omega)).trans ?_, (h.hC.cell _ (by omega)).trans ?_⟩
  · unfold cdP; rw [Nat.mul_comm, a0]
  · unfold cdP; rw [Nat.mul_comm, a1]
  · unfold cdP; rw [Nat.mul_comm, a2]
  · unfold cdP; rw [Nat.mul_comm, a3]
/-- A failure, told as one instruction. -/
theorem oned_fail {i : B.In} {why : Nat} (hi : C[s.1]? = some i) (hd : ∀ s' ev1, B.Does2 g.clk g.nr g.n i s s' 3 ev1) (hA : After w w' g C q kd vb Tk bs qb cq ad ne cap ev s kd 3 [(3, (why : Int))]) : Oned w w' g C q kd vb Tk bs qb cq ad ne cap ev s := by
  refine ⟨s, kd, 3, _, ⟨?_, fun h => by omega⟩, hA⟩
  unfold B.Step2
  rw [hi]
  exact hd _ _
theorem oned_does {i : B.In} {s' : B.St} {kd' : B.Kd} {r : Nat} {ev1 : List B.Ev} (hi : C[s.1]? = some i) (hd : B.Does2 g.clk g.nr g.n i s s' r ev1) (hk : r = 0 ∨ r = 4 ∨ r = 5 → B.Kdo g.nr g.n i s s' kd kd') (hA : After w w' g C q kd vb Tk bs qb cq ad ne cap ev s' kd' r ev1) : Oned w w' g C q kd vb Tk bs qb cq ad ne cap ev s := by
  refine ⟨s', kd', r, _, ⟨?_, fun h j hj => ?_⟩, hA⟩
  · unfold B.Step2
    rw [hi]
    exact hd
  · rw [hi] at hj
    injection hj with hj
    subst hj; exact hk h
end

set_option maxRecDepth 100000 in
set_option maxHeartbeats 4000000 in
theorem one150 (op a b c wb : Nat) (g : Geo) (C : List B.In) (q : Nat) (kd : B.Kd) (vb : Vs) (s : B.St) (E Tk : Nat → Value) (bs qb cq : Nat) (ad : Option Addr) (ne cap : Nat) (ev : List B.Ev) (w : World) (hR : Run w g C q kd vb s E Tk) (hm : Mid w g E Tk bs qb cq ad ne cap ev) (hne : ne ≤ 100000) (hi : C[s.1]? = some (op, a, b, c)) (hop : op < 23) (ht : E (4 + op) = Fv 163 #[P0 wb])
    (hc : Hid (∀ w1, Run w1 g C q kd vb (s.1 + 1, s.2.1, s.2.2) E Tk → Mid w1 g E Tk bs qb cq ad ne cap ev → Calls Tryz.prog 163 #[stepV op a b c g.fb g.tb g.eb, P0 wb] w1 fun e w' => ∃ why : Nat, e = .returned (.int .i64 why) ∧ Acted w1 w' g C q kd vb Tk bs qb cq ad ne cap ev s (op, a, b, c) why)) :
    Calls Tryz.prog 134 #[P0 g.eb, P0 g.tb] w fun e w' => e = .returned (.tuple #[]) ∧ Oned w w' g C q kd vb Tk bs qb cq ad ne cap ev s := by
  have KR := hid hR
  have KM := hid hm
  have HI := hid hi
  have hlt : s.1 < C.length := (List.getElem?_eq_some_iff.1 hi).1
  have hL : C.length ≤ 200 := hR.ok.2.2.2.1
  have c1 := hR.hK.hT.cell 1 (by omega)
  rw [hR.hK.t1] at c1
  have ck := own_cell hR.hK.oK
  have HT := hid ht
  have HN : Hid (ne ≤ 100000) := hne
  have HLT := hid (And.intro hlt hL)
  have hd : decide (s.1 = C.length) = false := by simp; omega
  have HD := hid hd
  clear hR hm hne hi ht hlt hL hd
  go_enter Tryz.func134, Tryz.ntmps134
  go_wp2_with fail
  go_loopw [] (fun wr => wr = w) (fun _ => 0)
  case atStart => rfl
  case round =>
    subst hrel
    go_wp2_with fail
    refine (top_any g.tb g.kb g.ck g.fb _ c1 ck).mono ?_
    rintro e w1 ⟨rfl, hg1⟩
    have KG1 := hid hg1
    clear hg1
    go_wp2_with fail
    refine (atEnd_any g.fb g.cb C.length s.1 g.rb g.nr _ w1 (KR.out.grown KG1.out).hF.1).mono ?_
    rintro e w2 ⟨rfl, hg2⟩
    have KG2 := hid (grown_trans KG1.out hg2)
    clear hg2 c1 ck
    simp only [HD.out]
    have hR2 := KR.out.grown KG2.out
    have c1 := hR2.hK.hT.cell 1 (by omega)
    rw [hR2.hK.t1] at c1
    have ck := own_cell hR2.hK.oK
    clear hR2
    go_wp2_with fail
    refine (top_any g.tb g.kb g.ck g.fb _ c1 ck).mono ?_
    rintro e w3 ⟨rfl, hg3⟩
    have KG3 := hid (grown_trans KG2.out hg3)
    clear hg3 c1 ck
    go_wp2_with fail
    have hR3 := KR.out.grown KG3.out
    obtain ⟨k0, k1, k2, k3⟩ := hR3.hK.bytes HI.out
    refine (take_any g.fb g.cb C.length s.1 g.rb g.nr op a b c _ w3 hR3.hF.1 HLT.out.1 HLT.out.2 hR3.hK.hC.lt k0 k1 k2 k3).mono ?_
    rintro e w4 ⟨rfl, hg4, hf4⟩
    have hR4 : Run w4 g C q kd vb (s.1 + 1, s.2.1, s.2.2) E Tk := hR3.next hg4 ⟨hf4, hR3.hF.2.1.block (hg4.block _ hR3.hF.2.1.lt (by intro e; injection e with e; exact hR3.hF.2.2 e.symm)), hR3.hF.2.2⟩ (by have := HLT.out.1; omega)
    have hm4 := (KM.out.grown KG3.out).fb hR3 hg4
    have KR4 := hid hR4
    have KM4 := hid hm4
    have KO4 := hid ((only_none (S := fun k => k = g.fb) KG3.out).trans (only_grown (S := fun k => k = g.fb) hg4 rfl) (fun _ h _ => h))
    clear hR3 k0 k1 k2 k3 hg4 hf4 hR4 hm4
    go_wp2_with fail
    have HX := hid (s7_new w4 op a b c g.fb g.tb g.eb)
    have KG5 := hid (World.grownBy_alloc w4 (.cells #[.int .u8 (op : Int), .int .u8 (a : Int), .int .u8 (b : Int), .int .u8 (c : Int), P0 g.fb, P0 g.tb, P0 g.eb] 186) none)
    have hz5 : (w4.alloc (.cells #[.int .u8 (op : Int), .int .u8 (a : Int), .int .u8 (b : Int), .int .u8 (c : Int), P0 g.fb, P0 g.tb, P0 g.eb] 186)).heap.size = w4.heap.size + 1 := by simp
    generalize hW : w4.alloc (.cells #[.int .u8 (op : Int), .int .u8 (a : Int), .int .u8 (b : Int), .int .u8 (c : Int), P0 g.fb, P0 g.tb, P0 g.eb] 186) = w5 at *
    clear hW
    obtain ⟨x0, x1, x2, x3, x4, x5, x6⟩ := s7_of HX.out
    have lx := heap_lt HX.out
    have KR5 := hid (KR4.out.grown KG5.out)
    have KM5 := hid (KM4.out.grown KG5.out)
    have e5 := KR5.out.hE.cell (4 + op) (by omega)
    rw [HT.out] at e5
    have le5 := KR5.out.hE.lt
    have hop2 : (op : Int) < 23 := by omega
    go_region_with (go_at_call 163; refine (hc.out w5.drew (KR5.out.grown (grown_drew (grown_refl _ _))) (KM5.out.grown (grown_drew (grown_refl _ _)))).mono ?_; rintro e w6 ⟨why, rfl, hA6⟩; have HA6 := hid hA6; clear hA6)
    all_goals
      have KO5 : Hid (Only (fun k => k = g.fb) wr w5.drew) := only_drew (KO4.out.then0 KG5.out)
      rcases HA6.out with ⟨hw, s', kd', r, ev1, hd, hkk, hA⟩ | ⟨hw1, hw2, hd, hg⟩
      · subst hw
        have HR := hid (oned_does HI.out hd hkk (After.pre KO5.out hA))
        clear hd hkk hA HA6 e5 x0 x1 x2 x3 x4 x5 x6
        go_wp2_with fail
        go_end0
        exact ⟨rfl, HR.out⟩
      · have hwz : ¬ ((why : Int) = 0) := by omega
        have KG6 := hid (grown_trans (grown_drew (grown_refl w5 none)) hg)
        have KGd := hid hg
        have KD := hid hd
        clear hd hg HA6 e5 x0 x1 x2 x3 x4 x5 x6
        go_wp2_with fail
        refine (fail_any g.eb g.tb g.lb g.cl g.ob g.co bs why hw2 ad ne cap ev E Tk w6 ((KR5.out.grown KG6.out).leav (KM5.out.grown KG6.out) HN.out)).mono ?_
        rintro e w7 ⟨rfl, yy, hL⟩
        have hA : After w6 w7 g C q kd vb Tk bs qb cq ad ne cap ev s kd 3 [(3, (why : Int))] := after_left (KR5.out.grown KG6.out) (KM5.out.grown KG6.out) (only_refl _ _) hL (B.vok_num _ _ _) (fun h => absurd rfl h) (Or.inr rfl) s
        have HR := hid (oned_fail HI.out KD.out (After.pre (KO5.out.then0 KGd.out) hA))
        clear hL hA
        go_wp2_with fail
        go_end0
        exact ⟨rfl, HR.out⟩
end Go.Proofs.YtnjiinbhbjpfkaaGreatDoor

/-
  One instruction of a task, out of the table: it makes a number of two.
-/
namespace Go.Proofs.YtnjiinbhbjpfkaaGreatDoor
open Go.RowKit

set_option maxRecDepth 100000 in
set_option maxHeartbeats 4000000 in
theorem one140 (op a b c wb : Nat) (g : Geo) (C : List B.In) (q : Nat) (kd : B.Kd) (vb : Vs) (s : B.St) (E Tk : Nat → Value) (bs qb cq : Nat) (ad : Option Addr) (ne cap : Nat) (ev : List B.Ev) (w : World) (hR : Run w g C q kd vb s E Tk) (hm : Mid w g E Tk bs qb cq ad ne cap ev) (hne : ne ≤ 100000) (hi : C[s.1]? = some (op, a, b, c)) (hop : op < 23) (ht : E (4 + op) = Fv 151 #[P0 wb])
    (hc : Hid (∀ w1, Run w1 g C q kd vb (s.1 + 1, s.2.1, s.2.2) E Tk → Mid w1 g E Tk bs qb cq ad ne cap ev → Calls Tryz.prog 151 #[stepV op a b c g.fb g.tb g.eb, P0 wb] w1 fun e w' => ∃ why : Nat, e = .returned (.int .i64 why) ∧ Acted w1 w' g C q kd vb Tk bs qb cq ad ne cap ev s (op, a, b, c) why)) :
    Calls Tryz.prog 134 #[P0 g.eb, P0 g.tb] w fun e w' => e = .returned (.tuple #[]) ∧ Oned w w' g C q kd vb Tk bs qb cq ad ne cap ev s := by
  have KR := hid hR
  have KM := hid hm
  have HI := hid hi
  have hlt : s.1 < C.length := (List.getElem?_eq_some_iff.1 hi).1
  have hL : C.length ≤ 200 := hR.ok.2.2.2.1
  have c1 := hR.hK.hT.cell 1 (by omega)
  rw [hR.hK.t1] at c1
  have ck := own_cell hR.hK.oK
  have HT := hid ht
  have HN : Hid (ne ≤ 100000) := hne
  have HLT := hid (And.intro hlt hL)
  have hd : decide (s.1 = C.length) = false := by simp; omega
  have HD := hid hd
  clear hR hm hne hi ht hlt hL hd
  go_enter Tryz.func134, Tryz.ntmps134
  go_wp2_with fail
  go_loopw [] (fun wr => wr = w) (fun _ => 0)
  case atStart => rfl
  case round =>
    subst hrel
    go_wp2_with fail
    refine (top_any g.tb g.kb g.ck g.fb _ c1 ck).mono ?_
    rintro e w1 ⟨rfl, hg1⟩
    have KG1 := hid hg1
    clear hg1
    go_wp2_with fail
    refine (atEnd_any g.fb g.cb C.length s.1 g.rb g.nr _ w1 (KR.out.grown KG1.out).hF.1).mono ?_
    rintro e w2 ⟨rfl, hg2⟩
    have KG2 := hid (grown_trans KG1.out hg2)
    clear hg2 c1 ck
    simp only [HD.out]
    have hR2 := KR.out.grown KG2.out
    have c1 := hR2.hK.hT.cell 1 (by omega)
    rw [hR2.hK.t1] at c1
    have ck := own_cell hR2.hK.oK
    clear hR2
    go_wp2_with fail
    refine (top_any g.tb g.kb g.ck g.fb _ c1 ck).mono ?_
    rintro e w3 ⟨rfl, hg3⟩
    have KG3 := hid (grown_trans KG2.out hg3)
    clear hg3 c1 ck
    go_wp2_with fail
    have hR3 := KR.out.grown KG3.out
    obtain ⟨k0, k1, k2, k3⟩ := hR3.hK.bytes HI.out
    refine (take_any g.fb g.cb C.length s.1 g.rb g.nr op a b c _ w3 hR3.hF.1 HLT.out.1 HLT.out.2 hR3.hK.hC.lt k0 k1 k2 k3).mono ?_
    rintro e w4 ⟨rfl, hg4, hf4⟩
    have hR4 : Run w4 g C q kd vb (s.1 + 1, s.2.1, s.2.2) E Tk := hR3.next hg4 ⟨hf4, hR3.hF.2.1.block (hg4.block _ hR3.hF.2.1.lt (by intro e; injection e with e; exact hR3.hF.2.2 e.symm)), hR3.hF.2.2⟩ (by have := HLT.out.1; omega)
    have hm4 := (KM.out.grown KG3.out).fb hR3 hg4
    have KR4 := hid hR4
    have KM4 := hid hm4
    have KO4 := hid ((only_none (S := fun k => k = g.fb) KG3.out).trans (only_grown (S := fun k => k = g.fb) hg4 rfl) (fun _ h _ => h))
    clear hR3 k0 k1 k2 k3 hg4 hf4 hR4 hm4
    go_wp2_with fail
    have HX := hid (s7_new w4 op a b c g.fb g.tb g.eb)
    have KG5 := hid (World.grownBy_alloc w4 (.cells #[.int .u8 (op : Int), .int .u8 (a : Int), .int .u8 (b : Int), .int .u8 (c : Int), P0 g.fb, P0 g.tb, P0 g.eb] 186) none)
    have hz5 : (w4.alloc (.cells #[.int .u8 (op : Int), .int .u8 (a : Int), .int .u8 (b : Int), .int .u8 (c : Int), P0 g.fb, P0 g.tb, P0 g.eb] 186)).heap.size = w4.heap.size + 1 := by simp
    generalize hW : w4.alloc (.cells #[.int .u8 (op : Int), .int .u8 (a : Int), .int .u8 (b : Int), .int .u8 (c : Int), P0 g.fb, P0 g.tb, P0 g.eb] 186) = w5 at *
    clear hW
    obtain ⟨x0, x1, x2, x3, x4, x5, x6⟩ := s7_of HX.out
    have lx := heap_lt HX.out
    have KR5 := hid (KR4.out.grown KG5.out)
    have KM5 := hid (KM4.out.grown KG5.out)
    have e5 := KR5.out.hE.cell (4 + op) (by omega)
    rw [HT.out] at e5
    have le5 := KR5.out.hE.lt
    have hop2 : (op : Int) < 23 := by omega
    go_region_with (go_at_call 151; refine (hc.out w5.drew (KR5.out.grown (grown_drew (grown_refl _ _))) (KM5.out.grown (grown_drew (grown_refl _ _)))).mono ?_; rintro e w6 ⟨why, rfl, hA6⟩; have HA6 := hid hA6; clear hA6)
    all_goals
      have KO5 : Hid (Only (fun k => k = g.fb) wr w5.drew) := only_drew (KO4.out.then0 KG5.out)
      rcases HA6.out with ⟨hw, s', kd', r, ev1, hd, hkk, hA⟩ | ⟨hw1, hw2, hd, hg⟩
      · subst hw
        have HR := hid (oned_does HI.out hd hkk (After.pre KO5.out hA))
        clear hd hkk hA HA6 e5 x0 x1 x2 x3 x4 x5 x6
        go_wp2_with fail
        go_end0
        exact ⟨rfl, HR.out⟩
      · have hwz : ¬ ((why : Int) = 0) := by omega
        have KG6 := hid (grown_trans (grown_drew (grown_refl w5 none)) hg)
        have KGd := hid hg
        have KD := hid hd
        clear hd hg HA6 e5 x0 x1 x2 x3 x4 x5 x6
        go_wp2_with fail
        refine (fail_any g.eb g.tb g.lb g.cl g.ob g.co bs why hw2 ad ne cap ev E Tk w6 ((KR5.out.grown KG6.out).leav (KM5.out.grown KG6.out) HN.out)).mono ?_
        rintro e w7 ⟨rfl, yy, hL⟩
        have hA : After w6 w7 g C q kd vb Tk bs qb cq ad ne cap ev s kd 3 [(3, (why : Int))] := after_left (KR5.out.grown KG6.out) (KM5.out.grown KG6.out) (only_refl _ _) hL (B.vok_num _ _ _) (fun h => absurd rfl h) (Or.inr rfl) s
        have HR := hid (oned_fail HI.out KD.out (After.pre (KO5.out.then0 KGd.out) hA))
        clear hL hA
        go_wp2_with fail
        go_end0
        exact ⟨rfl, HR.out⟩
end Go.Proofs.YtnjiinbhbjpfkaaGreatDoor

/-
  One instruction of a task, out of the table: it reads a slot.
-/
namespace Go.Proofs.YtnjiinbhbjpfkaaGreatDoor
open Go.RowKit

set_option maxRecDepth 100000 in
set_option maxHeartbeats 4000000 in
theorem one94 (op a b c : Nat) (g : Geo) (C : List B.In) (q : Nat) (kd : B.Kd) (vb : Vs) (s : B.St) (E Tk : Nat → Value) (bs qb cq : Nat) (ad : Option Addr) (ne cap : Nat) (ev : List B.Ev) (w : World) (hR : Run w g C q kd vb s E Tk) (hm : Mid w g E Tk bs qb cq ad ne cap ev) (hne : ne ≤ 100000) (hi : C[s.1]? = some (op, a, b, c)) (hop : op < 23) (ht : E (4 + op) = Fv 101 #[])
    (hc : Hid (∀ w1, Run w1 g C q kd vb (s.1 + 1, s.2.1, s.2.2) E Tk → Mid w1 g E Tk bs qb cq ad ne cap ev → Calls Tryz.prog 101 #[stepV op a b c g.fb g.tb g.eb] w1 fun e w' => ∃ why : Nat, e = .returned (.int .i64 why) ∧ Acted w1 w' g C q kd vb Tk bs qb cq ad ne cap ev s (op, a, b, c) why)) :
    Calls Tryz.prog 134 #[P0 g.eb, P0 g.tb] w fun e w' => e = .returned (.tuple #[]) ∧ Oned w w' g C q kd vb Tk bs qb cq ad ne cap ev s := by
  have KR := hid hR
  have KM := hid hm
  have HI := hid hi
  have hlt : s.1 < C.length := (List.getElem?_eq_some_iff.1 hi).1
  have hL : C.length ≤ 200 := hR.ok.2.2.2.1
  have c1 := hR.hK.hT.cell 1 (by omega)
  rw [hR.hK.t1] at c1
  have ck := own_cell hR.hK.oK
  have HT := hid ht
  have HN : Hid (ne ≤ 100000) := hne
  have HLT := hid (And.intro hlt hL)
  have hd : decide (s.1 = C.length) = false := by simp; omega
  have HD := hid hd
  clear hR hm hne hi ht hlt hL hd
  go_enter Tryz.func134, Tryz.ntmps134
  go_wp2_with fail
  go_loopw [] (fun wr => wr = w) (fun _ => 0)
  case atStart => rfl
  case round =>
    subst hrel
    go_wp2_with fail
    refine (top_any g.tb g.kb g.ck g.fb _ c1 ck).mono ?_
    rintro e w1 ⟨rfl, hg1⟩
    have KG1 := hid hg1
    clear hg1
    go_wp2_with fail
    refine (atEnd_any g.fb g.cb C.length s.1 g.rb g.nr _ w1 (KR.out.grown KG1.out).hF.1).mono ?_
    rintro e w2 ⟨rfl, hg2⟩
    have KG2 := hid (grown_trans KG1.out hg2)
    clear hg2 c1 ck
    simp only [HD.out]
    have hR2 := KR.out.grown KG2.out
    have c1 := hR2.hK.hT.cell 1 (by omega)
    rw [hR2.hK.t1] at c1
    have ck := own_cell hR2.hK.oK
    clear hR2
    go_wp2_with fail
    refine (top_any g.tb g.kb g.ck g.fb _ c1 ck).mono ?_
    rintro e w3 ⟨rfl, hg3⟩
    have KG3 := hid (grown_trans KG2.out hg3)
    clear hg3 c1 ck
    go_wp2_with fail
    have hR3 := KR.out.grown KG3.out
    obtain ⟨k0, k1, k2, k3⟩ := hR3.hK.bytes HI.out
    refine (take_any g.fb g.cb C.length s.1 g.rb g.nr op a b c _ w3 hR3.hF.1 HLT.out.1 HLT.out.2 hR3.hK.hC.lt k0 k1 k2 k3).mono ?_
    rintro e w4 ⟨rfl, hg4, hf4⟩
    have hR4 : Run w4 g C q kd vb (s.1 + 1, s.2.1, s.2.2) E Tk := hR3.next hg4 ⟨hf4, hR3.hF.2.1.block (hg4.block _ hR3.hF.2.1.lt (by intro e; injection e with e; exact hR3.hF.2.2 e.symm)), hR3.hF.2.2⟩ (by have := HLT.out.1; omega)
    have hm4 := (KM.out.grown KG3.out).fb hR3 hg4
    have KR4 := hid hR4
    have KM4 := hid hm4
    have KO4 := hid ((only_none (S := fun k => k = g.fb) KG3.out).trans (only_grown (S := fun k => k = g.fb) hg4 rfl) (fun _ h _ => h))
    clear hR3 k0 k1 k2 k3 hg4 hf4 hR4 hm4
    go_wp2_with fail
    have HX := hid (s7_new w4 op a b c g.fb g.tb g.eb)
    have KG5 := hid (World.grownBy_alloc w4 (.cells #[.int .u8 (op : Int), .int .u8 (a : Int), .int .u8 (b : Int), .int .u8 (c : Int), P0 g.fb, P0 g.tb, P0 g.eb] 186) none)
    have hz5 : (w4.alloc (.cells #[.int .u8 (op : Int), .int .u8 (a : Int), .int .u8 (b : Int), .int .u8 (c : Int), P0 g.fb, P0 g.tb, P0 g.eb] 186)).heap.size = w4.heap.size + 1 := by simp
    generalize hW : w4.alloc (.cells #[.int .u8 (op : Int), .int .u8 (a : Int), .int .u8 (b : Int), .int .u8 (c : Int), P0 g.fb, P0 g.tb, P0 g.eb] 186) = w5 at *
    clear hW
    obtain ⟨x0, x1, x2, x3, x4, x5, x6⟩ := s7_of HX.out
    have lx := heap_lt HX.out
    have KR5 := hid (KR4.out.grown KG5.out)
    have KM5 := hid (KM4.out.grown KG5.out)
    have e5 := KR5.out.hE.cell (4 + op) (by omega)
    rw [HT.out] at e5
    have le5 := KR5.out.hE.lt
    have hop2 : (op : Int) < 23 := by omega
    go_region_with (go_at_call 101; refine (hc.out w5.drew (KR5.out.grown (grown_drew (grown_refl _ _))) (KM5.out.grown (grown_drew (grown_refl _ _)))).mono ?_; rintro e w6 ⟨why, rfl, hA6⟩; have HA6 := hid hA6; clear hA6)
    all_goals
      have KO5 : Hid (Only (fun k => k = g.fb) wr w5.drew) := only_drew (KO4.out.then0 KG5.out)
      rcases HA6.out with ⟨hw, s', kd', r, ev1, hd, hkk, hA⟩ | ⟨hw1, hw2, hd, hg⟩
      · subst hw
        have HR := hid (oned_does HI.out hd hkk (After.pre KO5.out hA))
        clear hd hkk hA HA6 e5 x0 x1 x2 x3 x4 x5 x6
        go_wp2_with fail
        go_end0
        exact ⟨rfl, HR.out⟩
      · have hwz : ¬ ((why : Int) = 0) := by omega
        have KG6 := hid (grown_trans (grown_drew (grown_refl w5 none)) hg)
        have KGd := hid hg
        have KD := hid hd
        clear hd hg HA6 e5 x0 x1 x2 x3 x4 x5 x6
        go_wp2_with fail
        refine (fail_any g.eb g.tb g.lb g.cl g.ob g.co bs why hw2 ad ne cap ev E Tk w6 ((KR5.out.grown KG6.out).leav (KM5.out.grown KG6.out) HN.out)).mono ?_
        rintro e w7 ⟨rfl, yy, hL⟩
        have hA : After w6 w7 g C q kd vb Tk bs qb cq ad ne cap ev s kd 3 [(3, (why : Int))] := after_left (KR5.out.grown KG6.out) (KM5.out.grown KG6.out) (only_refl _ _) hL (B.vok_num _ _ _) (fun h => absurd rfl h) (Or.inr rfl) s
        have HR := hid (oned_fail HI.out KD.out (After.pre (KO5.out.then0 KGd.out) hA))
        clear hL hA
        go_wp2_with fail
        go_end0
        exact ⟨rfl, HR.out⟩
end Go.Proofs.YtnjiinbhbjpfkaaGreatDoor

/-
  One instruction of a task, out of the table: it writes a slot.
-/
namespace Go.Proofs.YtnjiinbhbjpfkaaGreatDoor
open Go.RowKit

set_option maxRecDepth 100000 in
set_option maxHeartbeats 4000000 in
theorem one95 (op a b c : Nat) (g : Geo) (C : List B.In) (q : Nat) (kd : B.Kd) (vb : Vs) (s : B.St) (E Tk : Nat → Value) (bs qb cq : Nat) (ad : Option Addr) (ne cap : Nat) (ev : List B.Ev) (w : World) (hR : Run w g C q kd vb s E Tk) (hm : Mid w g E Tk bs qb cq ad ne cap ev) (hne : ne ≤ 100000) (hi : C[s.1]? = some (op, a, b, c)) (hop : op < 23) (ht : E (4 + op) = Fv 102 #[])
    (hc : Hid (∀ w1, Run w1 g C q kd vb (s.1 + 1, s.2.1, s.2.2) E Tk → Mid w1 g E Tk bs qb cq ad ne cap ev → Calls Tryz.prog 102 #[stepV op a b c g.fb g.tb g.eb] w1 fun e w' => ∃ why : Nat, e = .returned (.int .i64 why) ∧ Acted w1 w' g C q kd vb Tk bs qb cq ad ne cap ev s (op, a, b, c) why)) :
    Calls Tryz.prog 134 #[P0 g.eb, P0 g.tb] w fun e w' => e = .returned (.tuple #[]) ∧ Oned w w' g C q kd vb Tk bs qb cq ad ne cap ev s := by
  have KR := hid hR
  have KM := hid hm
  have HI := hid hi
  have hlt : s.1 < C.length := (List.getElem?_eq_some_iff.1 hi).1
  have hL : C.length ≤ 200 := hR.ok.2.2.2.1
  have c1 := hR.hK.hT.cell 1 (by omega)
  rw [hR.hK.t1] at c1
  have ck := own_cell hR.hK.oK
  have HT := hid ht
  have HN : Hid (ne ≤ 100000) := hne
  have HLT := hid (And.intro hlt hL)
  have hd : decide (s.1 = C.length) = false := by simp; omega
  have HD := hid hd
  clear hR hm hne hi ht hlt hL hd
  go_enter Tryz.func134, Tryz.ntmps134
  go_wp2_with fail
  go_loopw [] (fun wr => wr = w) (fun _ => 0)
  case atStart => rfl
  case round =>
    subst hrel
    go_wp2_with fail
    refine (top_any g.tb g.kb g.ck g.fb _ c1 ck).mono ?_
    rintro e w1 ⟨rfl, hg1⟩
    have KG1 := hid hg1
    clear hg1
    go_wp2_with fail
    refine (atEnd_any g.fb g.cb C.length s.1 g.rb g.nr _ w1 (KR.out.grown KG1.out).hF.1).mono ?_
    rintro e w2 ⟨rfl, hg2⟩
    have KG2 := hid (grown_trans KG1.out hg2)
    clear hg2 c1 ck
    simp only [HD.out]
    have hR2 := KR.out.grown KG2.out
    have c1 := hR2.hK.hT.cell 1 (by omega)
    rw [hR2.hK.t1] at c1
    have ck := own_cell hR2.hK.oK
    clear hR2
    go_wp2_with fail
    refine (top_any g.tb g.kb g.ck g.fb _ c1 ck).mono ?_
    rintro e w3 ⟨rfl, hg3⟩
    have KG3 := hid (grown_trans KG2.out hg3)
    clear hg3 c1 ck
    go_wp2_with fail
    have hR3 := KR.out.grown KG3.out
    obtain ⟨k0, k1, k2, k3⟩ := hR3.hK.bytes HI.out
    refine (take_any g.fb g.cb C.length s.1 g.rb g.nr op a b c _ w3 hR3.hF.1 HLT.out.1 HLT.out.2 hR3.hK.hC.lt k0 k1 k2 k3).mono ?_
    rintro e w4 ⟨rfl, hg4, hf4⟩
    have hR4 : Run w4 g C q kd vb (s.1 + 1, s.2.1, s.2.2) E Tk := hR3.next hg4 ⟨hf4, hR3.hF.2.1.block (hg4.block _ hR3.hF.2.1.lt (by intro e; injection e with e; exact hR3.hF.2.2 e.symm)), hR3.hF.2.2⟩ (by have := HLT.out.1; omega)
    have hm4 := (KM.out.grown KG3.out).fb hR3 hg4
    have KR4 := hid hR4
    have KM4 := hid hm4
    have KO4 := hid ((only_none (S := fun k => k = g.fb) KG3.out).trans (only_grown (S := fun k => k = g.fb) hg4 rfl) (fun _ h _ => h))
    clear hR3 k0 k1 k2 k3 hg4 hf4 hR4 hm4
    go_wp2_with fail
    have HX := hid (s7_new w4 op a b c g.fb g.tb g.eb)
    have KG5 := hid (World.grownBy_alloc w4 (.cells #[.int .u8 (op : Int), .int .u8 (a : Int), .int .u8 (b : Int), .int .u8 (c : Int), P0 g.fb, P0 g.tb, P0 g.eb] 186) none)
    have hz5 : (w4.alloc (.cells #[.int .u8 (op : Int), .int .u8 (a : Int), .int .u8 (b : Int), .int .u8 (c : Int), P0 g.fb, P0 g.tb, P0 g.eb] 186)).heap.size = w4.heap.size + 1 := by simp
    generalize hW : w4.alloc (.cells #[.int .u8 (op : Int), .int .u8 (a : Int), .int .u8 (b : Int), .int .u8 (c : Int), P0 g.fb, P0 g.tb, P0 g.eb] 186) = w5 at *
    clear hW
    obtain ⟨x0, x1, x2, x3, x4, x5, x6⟩ := s7_of HX.out
    have lx := heap_lt HX.out
    have KR5 := hid (KR4.out.grown KG5.out)
    have KM5 := hid (KM4.out.grown KG5.out)
    have e5 := KR5.out.hE.cell (4 + op) (by omega)
    rw [HT.out] at e5
    have le5 := KR5.out.hE.lt
    have hop2 : (op : Int) < 23 := by omega
    go_region_with (go_at_call 102; refine (hc.out w5.drew (KR5.out.grown (grown_drew (grown_refl _ _))) (KM5.out.grown (grown_drew (grown_refl _ _)))).mono ?_; rintro e w6 ⟨why, rfl, hA6⟩; have HA6 := hid hA6; clear hA6)
    all_goals
      have KO5 : Hid (Only (fun k => k = g.fb) wr w5.drew) := only_drew (KO4.out.then0 KG5.out)
      rcases HA6.out with ⟨hw, s', kd', r, ev1, hd, hkk, hA⟩ | ⟨hw1, hw2, hd, hg⟩
      · subst hw
        have HR := hid (oned_does HI.out hd hkk (After.pre KO5.out hA))
        clear hd hkk hA HA6 e5 x0 x1 x2 x3 x4 x5 x6
        go_wp2_with fail
        go_end0
        exact ⟨rfl, HR.out⟩
      · have hwz : ¬ ((why : Int) = 0) := by omega
        have KG6 := hid (grown_trans (grown_drew (grown_refl w5 none)) hg)
        have KGd := hid hg
        have KD := hid hd
        clear hd hg HA6 e5 x0 x1 x2 x3 x4 x5 x6
        go_wp2_with fail
        refine (fail_any g.eb g.tb g.lb g.cl g.ob g.co bs why hw2 ad ne cap ev E Tk w6 ((KR5.out.grown KG6.out).leav (KM5.out.grown KG6.out) HN.out)).mono ?_
        rintro e w7 ⟨rfl, yy, hL⟩
        have hA : After w6 w7 g C q kd vb Tk bs qb cq ad ne cap ev s kd 3 [(3, (why : Int))] := after_left (KR5.out.grown KG6.out) (KM5.out.grown KG6.out) (only_refl _ _) hL (B.vok_num _ _ _) (fun h => absurd rfl h) (Or.inr rfl) s
        have HR := hid (oned_fail HI.out KD.out (After.pre (KO5.out.then0 KGd.out) hA))
        clear hL hA
        go_wp2_with fail
        go_end0
        exact ⟨rfl, HR.out⟩
end Go.Proofs.YtnjiinbhbjpfkaaGreatDoor

/-
  One instruction of a task, out of the table: a closure of two variables.
-/
namespace Go.Proofs.YtnjiinbhbjpfkaaGreatDoor
open Go.RowKit

set_option maxRecDepth 100000 in
set_option maxHeartbeats 4000000 in
theorem one154 (op a b c v1 v2 : Nat) (g : Geo) (C : List B.In) (q : Nat) (kd : B.Kd) (vb : Vs) (s : B.St) (E Tk : Nat → Value) (bs qb cq : Nat) (ad : Option Addr) (ne cap : Nat) (ev : List B.Ev) (w : World) (hR : Run w g C q kd vb s E Tk) (hm : Mid w g E Tk bs qb cq ad ne cap ev) (hne : ne ≤ 100000) (hi : C[s.1]? = some (op, a, b, c)) (hop : op < 23) (ht : E (4 + op) = Fv 167 #[P0 v1, P0 v2])
    (hc : Hid (∀ w1, Run w1 g C q kd vb (s.1 + 1, s.2.1, s.2.2) E Tk → Mid w1 g E Tk bs qb cq ad ne cap ev → Calls Tryz.prog 167 #[stepV op a b c g.fb g.tb g.eb, P0 v1, P0 v2] w1 fun e w' => ∃ why : Nat, e = .returned (.int .i64 why) ∧ Acted w1 w' g C q kd vb Tk bs qb cq ad ne cap ev s (op, a, b, c) why)) :
    Calls Tryz.prog 134 #[P0 g.eb, P0 g.tb] w fun e w' => e = .returned (.tuple #[]) ∧ Oned w w' g C q kd vb Tk bs qb cq ad ne cap ev s := by
  have KR := hid hR
  have KM := hid hm
  have HI := hid hi
  have hlt : s.1 < C.length := (List.getElem?_eq_some_iff.1 hi).1
  have hL : C.length ≤ 200 := hR.ok.2.2.2.1
  have c1 := hR.hK.hT.cell 1 (by omega)
  rw [hR.hK.t1] at c1
  have ck := own_cell hR.hK.oK
  have HT := hid ht
  have HN : Hid (ne ≤ 100000) := hne
  have HLT := hid (And.intro hlt hL)
  have hd : decide (s.1 = C.length) = false := by simp; omega
  have HD := hid hd
  clear hR hm hne hi ht hlt hL hd
  go_enter Tryz.func134, Tryz.ntmps134
  go_wp2_with fail
  go_loopw [] (fun wr => wr = w) (fun _ => 0)
  case atStart => rfl
  case round =>
    subst hrel
    go_wp2_with fail
    refine (top_any g.tb g.kb g.ck g.fb _ c1 ck).mono ?_
    rintro e w1 ⟨rfl, hg1⟩
    have KG1 := hid hg1
    clear hg1
    go_wp2_with fail
    refine (atEnd_any g.fb g.cb C.length s.1 g.rb g.nr _ w1 (KR.out.grown KG1.out).hF.1).mono ?_
    rintro e w2 ⟨rfl, hg2⟩
    have KG2 := hid (grown_trans KG1.out hg2)
    clear hg2 c1 ck
    simp only [HD.out]
    have hR2 := KR.out.grown KG2.out
    have c1 := hR2.hK.hT.cell 1 (by omega)
    rw [hR2.hK.t1] at c1
    have ck := own_cell hR2.hK.oK
    clear hR2
    go_wp2_with fail
    refine (top_any g.tb g.kb g.ck g.fb _ c1 ck).mono ?_
    rintro e w3 ⟨rfl, hg3⟩
    have KG3 := hid (grown_trans KG2.out hg3)
    clear hg3 c1 ck
    go_wp2_with fail
    have hR3 := KR.out.grown KG3.out
    obtain ⟨k0, k1, k2, k3⟩ := hR3.hK.bytes HI.out
    refine (take_any g.fb g.cb C.length s.1 g.rb g.nr op a b c _ w3 hR3.hF.1 HLT.out.1 HLT.out.2 hR3.hK.hC.lt k0 k1 k2 k3).mono ?_
    rintro e w4 ⟨rfl, hg4, hf4⟩
    have hR4 : Run w4 g C q kd vb (s.1 + 1, s.2.1, s.2.2) E Tk := hR3.next hg4 ⟨hf4, hR3.hF.2.1.block (hg4.block _ hR3.hF.2.1.lt (by intro e; injection e with e; exact hR3.hF.2.2 e.symm)), hR3.hF.2.2⟩ (by have := HLT.out.1; omega)
    have hm4 := (KM.out.grown KG3.out).fb hR3 hg4
    have KR4 := hid hR4
    have KM4 := hid hm4
    have KO4 := hid ((only_none (S := fun k => k = g.fb) KG3.out).trans (only_grown (S := fun k => k = g.fb) hg4 rfl) (fun _ h _ => h))
    clear hR3 k0 k1 k2 k3 hg4 hf4 hR4 hm4
    go_wp2_with fail
    have HX := hid (s7_new w4 op a b c g.fb g.tb g.eb)
    have KG5 := hid (World.grownBy_alloc w4 (.cells #[.int .u8 (op : Int), .int .u8 (a : Int), .int .u8 (b : Int), .int .u8 (c : Int), P0 g.fb, P0 g.tb, P0 g.eb] 186) none)
    have hz5 : (w4.alloc (.cells #[.int .u8 (op : Int), .int .u8 (a : Int), .int .u8 (b : Int), .int .u8 (c : Int), P0 g.fb, P0 g.tb, P0 g.eb] 186)).heap.size = w4.heap.size + 1 := by simp
    generalize hW : w4.alloc (.cells #[.int .u8 (op : Int), .int .u8 (a : Int), .int .u8 (b : Int), .int .u8 (c : Int), P0 g.fb, P0 g.tb, P0 g.eb] 186) = w5 at *
    clear hW
    obtain ⟨x0, x1, x2, x3, x4, x5, x6⟩ := s7_of HX.out
    have lx := heap_lt HX.out
    have KR5 := hid (KR4.out.grown KG5.out)
    have KM5 := hid (KM4.out.grown KG5.out)
    have e5 := KR5.out.hE.cell (4 + op) (by omega)
    rw [HT.out] at e5
    have le5 := KR5.out.hE.lt
    have hop2 : (op : Int) < 23 := by omega
    go_region_with (go_at_call 167; refine (hc.out w5.drew (KR5.out.grown (grown_drew (grown_refl _ _))) (KM5.out.grown (grown_drew (grown_refl _ _)))).mono ?_; rintro e w6 ⟨why, rfl, hA6⟩; have HA6 := hid hA6; clear hA6)
    all_goals
      have KO5 : Hid (Only (fun k => k = g.fb) wr w5.drew) := only_drew (KO4.out.then0 KG5.out)
      rcases HA6.out with ⟨hw, s', kd', r, ev1, hd, hkk, hA⟩ | ⟨hw1, hw2, hd, hg⟩
      · subst hw
        have HR := hid (oned_does HI.out hd hkk (After.pre KO5.out hA))
        clear hd hkk hA HA6 e5 x0 x1 x2 x3 x4 x5 x6
        go_wp2_with fail
        go_end0
        exact ⟨rfl, HR.out⟩
      · have hwz : ¬ ((why : Int) = 0) := by omega
        have KG6 := hid (grown_trans (grown_drew (grown_refl w5 none)) hg)
        have KGd := hid hg
        have KD := hid hd
        clear hd hg HA6 e5 x0 x1 x2 x3 x4 x5 x6
        go_wp2_with fail
        refine (fail_any g.eb g.tb g.lb g.cl g.ob g.co bs why hw2 ad ne cap ev E Tk w6 ((KR5.out.grown KG6.out).leav (KM5.out.grown KG6.out) HN.out)).mono ?_
        rintro e w7 ⟨rfl, yy, hL⟩
        have hA : After w6 w7 g C q kd vb Tk bs qb cq ad ne cap ev s kd 3 [(3, (why : Int))] := after_left (KR5.out.grown KG6.out) (KM5.out.grown KG6.out) (only_refl _ _) hL (B.vok_num _ _ _) (fun h => absurd rfl h) (Or.inr rfl) s
        have HR := hid (oned_fail HI.out KD.out (After.pre (KO5.out.then0 KGd.out) hA))
        clear hL hA
        go_wp2_with fail
        go_end0
        exact ⟨rfl, HR.out⟩
end Go.Proofs.YtnjiinbhbjpfkaaGreatDoor

/-
  What Yield leaves of a machine of one task: it goes to the end of the queue, which is empty.
-/
namespace Go.Proofs.YtnjiinbhbjpfkaaGreatDoor
open Go.RowKit

/-- What it leaves. -/
def Joined (w w' : World) (eb tb qb cq : Nat) (E Tk : Nat → Value) : Prop :=
  w'.ownsRow 0 155 1 (.slice (some ⟨qb, 0, none⟩) 1 cq) 1 [P0 tb] ∧ Full w' eb 144 44 44 (upd E 32 (.slice (some ⟨qb, 0, none⟩) 1 cq)) ∧ Full w' tb 160 7 7 (upd (upd Tk 2 (.bool false)) 3 (Pt eb 32)) ∧ Only (fun k => k = eb ∨ k = tb ∨ k = qb) w w'
theorem Joined.pre {w w1 w' : World} {eb tb qb cq : Nat} {E Tk : Nat → Value} (hg : w.grownBy w1 none) (h : Joined w1 w' eb tb qb cq E Tk) : Joined w w' eb tb qb cq E Tk :=
  ⟨h.1, h.2.1, h.2.2.1, (only_none hg).trans h.2.2.2 (fun _ h _ => h)⟩

set_option maxRecDepth 100000 in
set_option maxHeartbeats 2000000 in
theorem syield_any (op a b c fb tb eb qb cq : Nat) (E Tk : Nat → Value) (w : World) (hE : Full w eb 144 44 44 E) (h31 : E 32 = .slice (some ⟨qb, 0, none⟩) 0 cq) (hT : Full w tb 160 7 7 Tk) (hT3 : Tk 3 = .pointer none) (ho : w.ownsRow 0 155 1 (.slice (some ⟨qb, 0, none⟩) 0 cq) 0 []) (hcq : 0 < cq) :
    Calls Tryz.prog 109 #[stepV op a b c fb tb eb] w fun e w' => e = .returned (.tuple #[]) ∧ Joined w w' eb tb qb cq E Tk := by
  have HJ : Hid (∀ w1, w.grownBy w1 none → Calls Tryz.prog 110 #[Pt eb 32, P0 tb] w1 fun e w' => e = .returned (.tuple #[]) ∧ Joined w w' eb tb qb cq E Tk) := fun w1 hg => by
    refine (join_room eb tb qb cq 0 E Tk w1 (hE.block (hg.block _ hE.lt (by intro e; cases e))) h31 (hT.block (hg.block _ hT.lt (by intro e; cases e))) hT3 (own_of ho (fun k h => hg.block k (own_ty ho k h).2.1 (by intro e; cases e))) hcq (by omega)).mono ?_
    rintro e w6 ⟨rfl, ho6, hE6, hT6, hO6⟩
    refine ⟨rfl, Joined.pre hg ⟨ho6, hE6, hT6, hO6.mono (fun k h _ => ?_)⟩⟩
    rcases h with h | h | h
    · exact Or.inl h
    · exact Or.inr (Or.inl h)
    · refine Or.inr (Or.inr ?_)
      injection h with h; exact h.symm
  have le := hE.lt
  have lt := hT.lt
  clear hE hT ho h31 hT3
  go_enter Tryz.func109, Tryz.ntmps109
  go_wp2_with fail
  have HX1 := hid (s7_new w op a b c fb tb eb)
  have KG1 := hid (World.grownBy_alloc w (.cells #[.int .u8 (op : Int), .int .u8 (a : Int), .int .u8 (b : Int), .int .u8 (c : Int), P0 fb, P0 tb, P0 eb] 186) none)
  generalize hW : w.alloc (.cells #[.int .u8 (op : Int), .int .u8 (a : Int), .int .u8 (b : Int), .int .u8 (c : Int), P0 fb, P0 tb, P0 eb] 186) = w1 at *
  have le1 : eb < w1.heap.size := Nat.lt_of_lt_of_le le KG1.out.size
  clear hW
  obtain ⟨x0, x1, x2, x3, x4, x5, x6⟩ := s7_of HX1.out
  have lx := heap_lt HX1.out
  go_region_with (go_at_call 110; refine (HJ.out w1.drew (grown_drew KG1.out)).mono ?_; rintro e w2 ⟨rfl, hJ⟩; have HR := hid hJ; clear hJ)
  all_goals
    go_wp2_with fail
    go_end0
    exact ⟨rfl, HR.out⟩

set_option maxRecDepth 100000 in
/-- Yield. -/
theorem act16_any (op a b c fb tb eb qb cq wb : Nat) (E Tk : Nat → Value) (w : World) (hE : Full w eb 144 44 44 E) (h31 : E 32 = .slice (some ⟨qb, 0, none⟩) 0 cq) (hT : Full w tb 160 7 7 Tk) (hT3 : Tk 3 = .pointer none) (ho : w.ownsRow 0 155 1 (.slice (some ⟨qb, 0, none⟩) 0 cq) 0 []) (hcq : 0 < cq) (hw : w.heap[wb]? = some (.cells #[Fv 109 #[]] 199 (0, 0))) :
    Calls Tryz.prog 163 #[stepV op a b c fb tb eb, P0 wb] w fun e w' => e = .returned (.int .i64 0) ∧ Joined w w' eb tb qb cq E Tk := by
  have HJ : Hid (∀ w1, w.grownBy w1 none → Calls Tryz.prog 109 #[stepV op a b c fb tb eb] w1 fun e w' => e = .returned (.tuple #[]) ∧ Joined w w' eb tb qb cq E Tk) := fun w1 hg => by
    refine (syield_any op a b c fb tb eb qb cq E Tk w1 (hE.block (hg.block _ hE.lt (by intro e; cases e))) h31 (hT.block (hg.block _ hT.lt (by intro e; cases e))) hT3 (own_of ho (fun k h => hg.block k (own_ty ho k h).2.1 (by intro e; cases e))) hcq).mono ?_
    rintro e w6 ⟨rfl, h⟩
    exact ⟨rfl, h.pre hg⟩
  have c0 : w.cell? ⟨wb, 0, none⟩ = some (Fv 109 #[]) := by simp [World.cell?, hw]
  have lw := heap_lt hw
  clear hE hT ho h31 hT3 hw
  go_enter Tryz.func163, Tryz.ntmps163
  go_wp2_with fail
  have KG1 := hid (World.grownBy_alloc w (.cells #[.int .u8 (op : Int), .int .u8 (a : Int), .int .u8 (b : Int), .int .u8 (c : Int), P0 fb, P0 tb, P0 eb] 186) none)
  refine (HJ.out _ KG1.out).mono ?_
  rintro e w3 ⟨rfl, hJ⟩
  have HR := hid hJ
  clear hJ
  go_wp2_with fail
  go_ret
  exact ⟨rfl, HR.out⟩

section
variable {w w' : World} {g : Geo} {C : List B.In} {q : Nat} {kd : B.Kd} {vb : Vs} {s : B.St} {E Tk : Nat → Value} {bs qb cq : Nat} {ad : Option Addr} {ne cap : Nat} {ev : List B.Ev}
theorem do16 (hR : Run w g C q kd vb (s.1 + 1, s.2.1, s.2.2) E Tk) (hm : Mid w g E Tk bs qb cq ad ne cap ev) :
    Calls Tryz.prog 163 #[stepV 16 0 0 0 g.fb g.tb g.eb, P0 (g.ac + 20)] w fun e w' => ∃ why : Nat, e = .returned (.int .i64 why) ∧ Acted w w' g C q kd vb Tk bs qb cq ad ne cap ev s (16, 0, 0, 0) why := by
  refine (act16_any 16 0 0 0 g.fb g.tb g.eb qb cq (g.ac + 20) E Tk w hR.hE hm.e31 hR.hK.hT hm.t3 hm.o31 hm.hcq (hR.hK.hA 19 _ rfl)).mono ?_
  rintro e w' ⟨rfl, ho, hE, hT, hO⟩
  obtain ⟨y1, y2, y3, y4, y5, y6, y7, y8, y9, y10⟩ := hR.ty
  have hqt : kty w qb = 155 := kty_own hm.o31 rfl
  have hR' : Run w' g C q kd vb (s.1 + 1, s.2.1, s.2.2) (upd E 32 (.slice (some ⟨qb, 0, none⟩) 1 cq)) (upd (upd Tk 2 (.bool false)) 3 (Pt g.eb 32)) :=
    hR.line hO hqt (fun e => hm.nqb.1 e.symm) (fun e => hm.nqb.2 e.symm) hE (hR.eE.upd 32 _ (Or.inl rfl)) hT rfl rfl rfl
  refine ⟨0, rfl, Or.inl ⟨rfl, (s.1 + 1, s.2.1, s.2.2), kd, 5, [], ⟨rfl, rfl, rfl⟩, fun _ => rfl, ?_, Or.inr ⟨by omega, vb, _, ad, ne, cap, hE, ⟨?_, fun e => by omega, fun e => by omega⟩, ?_, ?_, ?_, ⟨_, _, _, hR'.rts⟩, Grew.refl _ _ _ _, ?_, ?_, by omega, ?_, fun e => by omega, fun _ => ⟨_, hR', rfl, rfl, upd_at _ _ _, ho, ?_, ?_⟩⟩⟩⟩
  · refine hO.mono (fun k hk _ => ?_)
    unfold Wr
    rcases hk with h | h | h <;> simp [h]
  · rw [upd_off _ _ _ _ (by omega)]; exact hR.eE.e27
  · rw [upd_off _ _ _ _ (by omega)]; exact hR.eE.e1
  · rw [upd_off _ _ _ _ (by omega)]; exact hR.eE.e2
  · rw [upd_off _ _ _ _ (by omega)]; exact hR.eE.e26
  · rw [upd_off _ _ _ _ (by omega)]; exact hm.e42
  · rw [List.append_nil]
    refine own_of hm.o42 (fun k hk => hO.same (own_ty hm.o42 k hk).2.1 ?_)
    have h48 := kty_own hm.o42 hk
    rintro (rfl | rfl | rfl)
    · rw [y1] at h48; exact absurd h48 (by decide)
    · rw [y2] at h48; exact absurd h48 (by decide)
    · rw [hqt] at h48; exact absurd h48 (by decide)
  · rw [hT.cell 2 (by omega)]; rfl
  · rw [upd_off _ _ _ _ (by omega)]; exact hm.e32
  · refine own_of hm.o32 (fun k hk => hO.same (own_ty hm.o32 k hk).2.1 ?_)
    have h153 := kty_own hm.o32 hk
    rintro (rfl | rfl | rfl)
    · rw [y1] at h153; exact absurd h153 (by decide)
    · rw [y2] at h153; exact absurd h153 (by decide)
    · exact (hm.n32 _ hk).2.2 rfl
end
end Go.Proofs.YtnjiinbhbjpfkaaGreatDoor
