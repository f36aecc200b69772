/-
  The collector (with function cells): a cell is gone through; a unit.
-/
import Derived.Test.YtnjiinbhbjpfkaaGreatDoorGateE
namespace Go.Proofs.YtnjiinbhbjpfkaaGreatDoor.F
open Go.RowKit
def Thr (w0 w : World) (cb rd sb n pb : Nat) (ad : Option Addr) (c : B.Cy) (st : List Nat) (on : Nat → Bool) (f : Fb) (M : Nat → List B.V) (l : List B.V) : Prop :=
  Only (CyB cb rd ad) w0 w ∧ Plc w pb n on f M ∧ ∃ ad' cap', Nad ad ad' w0.heap.size ∧ Cym w cb rd sb n ad' cap' ⟨(B.seenL c.m st l).1, (B.seenL c.m st l).2, c.nx⟩
theorem Thr.kept {w0 w w' : World} {cb rd sb n pb : Nat} {ad : Option Addr} {c : B.Cy} {st : List Nat} {on : Nat → Bool} {f : Fb} {M : Nat → List B.V} {l : List B.V} (h : Thr w0 w cb rd sb n pb ad c st on f M l) (hg : w.grownBy w' none) : Thr w0 w' cb rd sb n pb ad c st on f M l := by
  obtain ⟨h1, h2, ad', cap', h3, h4⟩ := h
  exact ⟨h1.then0 hg, h2.kept hg, ad', cap', h3, h4.kept hg⟩
theorem plc_cyb {w : World} {cb rd sb n pb m : Nat} {ad : Option Addr} {cap : Nat} {c : B.Cy} {on : Nat → Bool} {f : Fb} {M : Nat → List B.V} (hP : Plc w pb m on f M) (hC : Cym w cb rd sb n ad cap c) : ¬ CyB cb rd ad pb ∧ ∀ p, 1 ≤ p → p ≤ m → on p = true → ¬ CyB cb rd ad (f.b p) := by
  have key : ∀ (k : Nat) (cur : Array Value) (T : TypeId), w.heap[k]? = some (.cells cur T (0, 0)) → T ≠ 275 ∧ T ≠ 4 ∧ T ≠ 3 → ¬ CyB cb rd ad k := by
    intro k cur T hk hT h
    obtain ⟨cu, T', h1, h2⟩ := hC.ty k h
    rw [hk] at h1; injection h1 with h1; injection h1 with _ h1 _
    subst h1
    rcases h2 with h2 | h2 | h2
    · exact hT.1 h2
    · exact hT.2.1 h2
    · exact hT.2.2 h2
  refine ⟨?_, fun p a b d => ?_⟩
  · obtain ⟨cu, h, _⟩ := hP.p; exact key _ _ _ h (by decide)
  · obtain ⟨cu, h, _⟩ := hP.s p a b d; exact key _ _ _ h (by decide)
theorem thr_step {w0 w : World} {cb rd sb n pb : Nat} {ad : Option Addr} {c : B.Cy} {st : List Nat} {on : Nat → Bool} {f : Fb} {M : Nat → List B.V} {l : List B.V} (v : B.V) (h : Thr w0 w cb rd sb n pb ad c st on f M l) (hn : n ≤ 200) (hs : st.length + B.cnt c.m n ≤ n) (hl : ∀ v, v ∈ l → v.1 ≠ 0 → v.1 ≤ n) (hv : v.1 ≠ 0 → v.1 ≤ n) :
    Calls Tryz.prog 188 #[P0 cb, vA v] w fun e w' => e = .returned (.tuple #[]) ∧ Thr w0 w' cb rd sb n pb ad c st on f M (l ++ [v]) := by
  obtain ⟨h1, hP, ad', cap', h2, h3⟩ := h
  have hlen : (B.seenL c.m st l).2.length ≤ 200 := by have := B.seenL_sum (n := n) l c.m st hl; omega
  have hne := plc_cyb hP h3
  have hsz := h1.size
  refine (reach_any cb rd sb n ad' cap' _ v w h3 hv hn hlen).mono ?_
  rintro e w' ⟨rfl, ad2, cap2, h4, h5, h6⟩
  refine ⟨rfl, h1.trans h6 (fun k hk hl => (h2.cyb hk).resolve_right (by omega)), hP.block (h6.same hP.p.lt hne.1) (fun p a b d => h6.same (hP.s p a b d).lt (hne.2 p a b d)), ad2, cap2, h2.trans h4 hsz, ?_⟩
  rw [B.seenL_snoc]
  exact h5
set_option maxRecDepth 100000 in
set_option maxHeartbeats 4000000 in
theorem thruc_any (cb rd sb pb n p : Nat) (ad : Option Addr) (cap : Nat) (c : B.Cy) (st : List Nat) (on : Nat → Bool) (f : Fb) (M : Nat → List B.V) (w : World) (hC : Cym w cb rd sb n ad cap c) (hP : Plc w pb n on f M) (h0 : w.cell? ⟨sb, 0, none⟩ = some (.slice (some ⟨pb, 0, none⟩) n n)) (hsb : ¬ CyB cb rd ad sb) (hst : c.st = st ++ [p]) (hp : 1 ≤ p ∧ p ≤ n ∧ on p = true) (hv : ∀ v, v ∈ M p → v.1 ≠ 0 → v.1 ≤ n) (hs : st.length + B.cnt c.m n ≤ n) (hn : n ≤ 200) :
    Calls Tryz.prog 189 #[P0 cb] w fun e w' => e = .returned (.tuple #[]) ∧ Plc w' pb n on f M ∧ Only (CyB cb rd ad) w w' ∧ ∃ ad' cap', Nad ad ad' w.heap.size ∧ Cym w' cb rd sb n ad' cap' (B.thru M c st p) := by
  obtain ⟨k, rfl⟩ : ∃ k, p = k + 1 := ⟨p - 1, by omega⟩
  have hkd := hp.2.2
  have hkn : k < n := by omega
  have hC2 : w.heap[cb]? = some (.cells #[P0 sb, .slice (some ⟨rd, 0, none⟩) n n, .slice ad (st.length + 1) cap, .int .i64 c.nx] 275 (0, 0)) := by have := hC.b; rw [hst, List.length_append, List.length_singleton] at this; exact this
  have hq : Qrow w 3 (.slice ad ((stL st).length + 1) cap) (stL st ++ [.int .i64 (k : Int)]) := by
    have := hC.q
    rw [hst, stL_app, List.length_append, List.length_singleton, ← stL_len st] at this
    exact this
  obtain ⟨g, off, rfl, lg, hcap, hlast, hq2⟩ := hq.pop
  rw [stL_len] at hcap hlast hq2
  obtain ⟨e0, _, e2, _⟩ : w.cell? ⟨cb, 0, none⟩ = some (P0 sb) ∧ True ∧ w.cell? ⟨cb, 2, none⟩ = some (.slice (some ⟨g, off, none⟩) (st.length + 1) cap) ∧ True := by simp [World.cell?, hC2]
  have z2 : w.frozen? ⟨cb, 2, none⟩ = false := by simp [World.frozen?, hC2]
  have lc := heap_lt hC2
  have ls := cell_lt h0
  have lp := hP.p.lt
  have p2 := hP.p.cell (k * 3 + 2) (by omega)
  rw [plc_2, hkd] at p2
  have hsl : slV true (f.b (k + 1)) (M (k + 1)).length = .slice (some ⟨f.b (k + 1), 0, none⟩) (M (k + 1)).length (M (k + 1)).length := rfl
  rw [hsl] at p2
  have hne := plc_cyb hP hC
  have nsc : ¬ sb = cb := fun e => hsb (Or.inl e)
  have npc : ¬ pb = cb := fun e => hne.1 (Or.inl e)
  have ngc : g ≠ cb := by
    obtain ⟨cu, h⟩ := hq.ty g rfl
    exact cells_ne h hC2 (by decide)
  have ncg : ¬ cb = g := fun e => ngc e.symm
  have hl8 := hP.l _ hkd
  have hsb2 : st.length ≤ 200 := by omega
  have hcl : st.length ≤ cap := by omega
  have KT : Hid (Thr w (w.setCell ⟨cb, 2, none⟩ (.slice (some ⟨g, off, none⟩) st.length cap)) cb rd sb n pb (some ⟨g, off, none⟩) c st on f M []) := by
    have ncr : rd ≠ cb := by obtain ⟨cu', h', _⟩ := hC.r; exact cells_ne h' hC2 (by decide)
    refine ⟨only_setCell (only_refl _ _) (Or.inl (Or.inl rfl)) _, hP.block (Below.heap_setCell _ _ _ _ (fun e => npc e)) (fun p a b d => Below.heap_setCell _ _ _ _ (fun e => hne.2 p a b d (Or.inl e))), some ⟨g, off, none⟩, cap, Nad.refl _ _, ⟨?_, hC.r.off ncr, hq2.block (fun x hx => Below.heap_setCell _ _ _ _ ?_)⟩⟩
    · simp [World.setCell, Array.getElem?_modify, hC2, B.seenL]
    · have e : g = x := by injection hx
      subst e; exact ngc
  have HV := hid hv
  have HST := hid hs
  have HPL := hid hp
  have hki : (k : Int) < (n : Int) := by omega
  have hli : (st.length : Int) < (st.length : Int) + 1 := by omega
  have hsub : (st.length : Int) + 1 - 1 = (st.length : Int) := by omega
  have hwr : IntKind.i64.wrap (st.length : Int) = (st.length : Int) := by simp [IntKind.wrap, IntKind.bits, IntKind.signed]; omega
  have hwr2 : wrap64 (st.length : Int) = (st.length : Int) := IntWalk.wrap64_in _ ⟨by omega, by omega⟩
  generalize hln : st.length = ln at *
  have HLN := hid hln
  clear hC hP hC2 hq hq2 hst hne hs hv hsl hp hln hsb
  go_enter Tryz.func189, Tryz.ntmps189
  go_wp2_with fail
  generalize hW : w.setCell ⟨cb, 2, none⟩ (.slice (some ⟨g, off, none⟩) ln cap) = w1 at *
  clear hW e0 e2 z2 h0 p2 hlast
  go_loopw [40] (fun i wr => ∃ j : Nat, j ≤ (M (k + 1)).length ∧ i = .int .i64 j ∧ Hid (Thr w wr cb rd sb n pb (some ⟨g, off, none⟩) c st on f M ((M (k + 1)).take j))) (fun i _ => (M (k + 1)).length - (intOf i).toNat)
  case atStart => exact ⟨0, by omega, rfl, KT⟩
  case round =>
    obtain ⟨j, hj, rfl, hX⟩ := hrel
    by_cases hlt : j < (M (k + 1)).length
    · have hF := hX.out.2.1.s (k + 1) HPL.out.1 HPL.out.2.1 HPL.out.2.2
      have r0 := hF.cell (j * 2) (by omega)
      have r1 := hF.cell (j * 2 + 1) (by omega)
      rw [regP_0] at r0
      rw [regP_1] at r1
      have lr := hF.lt
      clear hF
      have hmem : slots M (k + 1) j ∈ M (k + 1) := by
        show (M (k + 1)).getD j (0, 0) ∈ M (k + 1)
        rw [List.getD_eq_getElem?_getD, List.getElem?_eq_getElem hlt]
        exact List.getElem_mem hlt
      have htk : (M (k + 1)).take (j + 1) = (M (k + 1)).take j ++ [slots M (k + 1) j] := by
        rw [List.take_succ_eq_append_getElem hlt]
        congr 1
        show [_] = [(M (k + 1)).getD j (0, 0)]
        rw [List.getD_eq_getElem?_getD, List.getElem?_eq_getElem hlt]; rfl
      generalize hvv : slots M (k + 1) j = vv at *
      have HTK := hid htk
      have HMem := hid hmem
      clear htk hmem hvv
      have hji : (j : Int) < ((M (k + 1)).length : Int) := by omega
      generalize hll : (M (k + 1)).length = ml at *
      have HLL := hid hll
      clear hll
      go_wp2_with fail
      refine (thr_step vv (hX.out.kept (World.grownBy_alloc _ _ _)) hn (by rw [HLN.out]; exact HST.out) (fun v hv h0 => HV.out v (List.mem_of_mem_take hv) h0) (HV.out vv HMem.out)).mono ?_
      rintro e w5 ⟨rfl, hV5⟩
      rw [← HTK.out] at hV5
      have KV5 := hid hV5
      clear hV5 r0 r1
      go_wp2_with fail
      go_roundw
      case rel => exact ⟨j + 1, by omega, by go_num, KV5⟩
      case measure => simp [intOf]; omega
    · have hjl : j = (M (k + 1)).length := by omega
      have hge : decide ((j : Int) < ((M (k + 1)).length : Int)) = false := by simp; omega
      have hX2 := hX.out
      rw [hjl, List.take_length] at hX2
      have KX := hid hX2
      clear hX2
      go_wp2_with fail
      go_end0
      obtain ⟨x1, x2, ad', cap', x3, x4⟩ := KX.out
      exact ⟨rfl, x2, x1, ad', cap', x3, x4⟩
set_option maxRecDepth 100000 in
set_option maxHeartbeats 1000000 in
theorem unitc_any (cb rd sb pb n : Nat) (ad : Option Addr) (cap : Nat) (c : B.Cy) (on : Nat → Bool) (f : Fb) (M : Nat → List B.V) (T : Nat → Prop) (w : World) (hC : Cym w cb rd sb n ad cap c) (hP : Plc w pb n on f M) (h0 : w.cell? ⟨sb, 0, none⟩ = some (.slice (some ⟨pb, 0, none⟩) n n)) (hsb : ¬ CyB cb rd ad sb) (hT : B.Snap on n M c T) (hs : c.st.length + B.cnt c.m n ≤ n) (hx : c.nx < n) (hn : n ≤ 200) :
    Calls Tryz.prog 136 #[P0 cb] w fun e w' => e = .returned (.tuple #[]) ∧ Plc w' pb n (B.unit M on c).1 f M ∧ Only (fun k => k = pb ∨ CyB cb rd ad k) w w' ∧ ∃ ad' cap', Nad ad ad' w.heap.size ∧ Cym w' cb rd sb n ad' cap' (B.unit M on c).2 := by
  obtain ⟨_, _, e2, _, _, _⟩ := hC.c1
  have lc := heap_lt hC.b
  rcases List.eq_nil_or_concat c.st with hst | ⟨st, p, hst⟩
  · have HL := hid (lookc_any cb rd sb pb n ad cap c on f M w hC hP h0 hx hn)
    rw [B.unit_look hst]
    rw [hst] at e2
    have e2' : w.cell? ⟨cb, 2, none⟩ = some (.slice ad 0 cap) := e2
    clear hC hP h0 hsb hT hs e2
    go_enter Tryz.func136, Tryz.ntmps136
    go_wp2_with fail
    refine HL.out.mono ?_
    rintro e w1 ⟨rfl, h1, h2, h3⟩
    have HR := hid (And.intro h2 (And.intro (h3.mono (S1 := fun k => k = pb ∨ CyB cb rd ad k) (fun k hk _ => hk.imp id (fun h => Or.inl h))) h1))
    clear h1 h2 h3 e2'
    go_wp2_with fail
    go_end0
    exact ⟨rfl, HR.out.1, HR.out.2.1, ad, cap, Nad.refl _ _, HR.out.2.2⟩
  · rw [List.concat_eq_append] at hst
    have hpT : T p := hT.hc p (hT.hd p (by rw [hst]; simp))
    have hs' : st.length + B.cnt c.m n ≤ n := by rw [hst] at hs; simp at hs; omega
    have HL := hid (thruc_any cb rd sb pb n p ad cap c st on f M w hC hP h0 hsb hst (hT.ha p hpT) (fun v hv h0 => (hT.ha _ ((hT.hb p hpT v hv).2 h0)).2.1) hs' hn)
    rw [B.unit_thru hst]
    rw [hst, List.length_append, List.length_singleton] at e2
    have hpos : (0 : Int) < (st.length : Int) + 1 := by omega
    clear hC hP h0 hsb hT hs hs'
    go_enter Tryz.func136, Tryz.ntmps136
    go_wp2_with fail
    refine HL.out.mono ?_
    rintro e w1 ⟨rfl, h1, h2, h3⟩
    have HR := hid (And.intro h1 (And.intro (h2.mono (S1 := fun k => k = pb ∨ CyB cb rd ad k) (fun k hk _ => Or.inr hk)) h3))
    clear h1 h2 h3 e2
    go_wp2_with fail
    go_end0
    exact ⟨rfl, HR.out⟩
end Go.Proofs.YtnjiinbhbjpfkaaGreatDoor.F
namespace Go.Proofs.YtnjiinbhbjpfkaaGreatDoor
open Go.RowKit
theorem wrap_succ (a : Nat) : wrap64 (wrap64 (a : Int) + 1) = wrap64 ((a + 1 : Nat) : Int) := by unfold wrap64; omega
def lenAt (w : World) (cb : Nat) : Nat := match w.cell? ⟨cb, 2, none⟩ with | some (.slice _ n _) => n | _ => 0
def nxAt (w : World) (cb : Nat) : Nat := match w.cell? ⟨cb, 3, none⟩ with | some (.int _ n) => n.toNat | _ => 0
def falses (w : World) (rd : Nat) : Nat → Nat
  | 0 => 0
  | k + 1 => falses w rd k + (match w.cell? ⟨rd, k, none⟩ with | some (.bool true) => 0 | _ => 1)
def todo (w : World) (cb rd n : Nat) : Nat := lenAt w cb + falses w rd n + (n - nxAt w cb)
theorem falses_is {w : World} {rd n : Nat} {m : Nat → Bool} (h : Full w rd 4 n n (fun j => .bool (m (j + 1)))) : ∀ k, k ≤ n → falses w rd k = B.cnt m k
  | 0, _ => rfl
  | k + 1, hk => by
    rw [falses, B.cnt, falses_is h k (by omega), h.cell k (by omega)]
    cases m (k + 1) <;> rfl
theorem todo_is {w : World} {cb rd sb n : Nat} {ad : Option Addr} {cap : Nat} {c : B.Cy} (h : Cym w cb rd sb n ad cap c) : todo w cb rd n = c.st.length + B.cnt c.m n + (n - c.nx) := by
  obtain ⟨_, _, c2, c3, _⟩ := h.c1
  unfold todo lenAt nxAt
  rw [falses_is h.r n (Nat.le_refl _), c2, c3]
  simp
theorem unit_less {on : Nat → Bool} {n : Nat} {M : Nat → List B.V} {c : B.Cy} {T : Nat → Prop} (h : B.Snap on n M c T) (hx : c.nx < n) :
    (B.unit M on c).2.st.length + B.cnt (B.unit M on c).2.m n + (n - (B.unit M on c).2.nx) + 1 = c.st.length + B.cnt c.m n + (n - c.nx) ∧ (B.unit M on c).2.st.length + B.cnt (B.unit M on c).2.m n ≤ c.st.length + B.cnt c.m n := by
  rcases List.eq_nil_or_concat c.st with hst | ⟨st, p, hst⟩
  · rw [B.unit_look hst]
    show c.st.length + B.cnt c.m n + (n - (c.nx + 1)) + 1 = _ ∧ c.st.length + B.cnt c.m n ≤ _
    omega
  · rw [List.concat_eq_append] at hst
    have hpT : T p := h.hc p (h.hd p (by rw [hst]; simp))
    have := B.seenL_sum (n := n) (M p) c.m st (fun v hv h0 => (h.ha _ ((h.hb p hpT v hv).2 h0)).2.1)
    rw [B.unit_thru hst]
    show (B.seenL c.m st (M p)).2.length + B.cnt (B.seenL c.m st (M p)).1 n + (n - c.nx) + 1 = _ ∧ (B.seenL c.m st (M p)).2.length + B.cnt (B.seenL c.m st (M p)).1 n ≤ _
    rw [hst, List.length_append, List.length_singleton]
    omega
theorem begun_sum {kd : B.Kd} {nr n : Nat} {s : B.St} (h : B.Held kd nr n s) : (B.begun s.2.1 nr).st.length + B.cnt (B.begun s.2.1 nr).m n ≤ n := by
  have := B.seenL_sum (n := n) (B.regs s.2.1 nr) (fun _ => false) [] (fun v hv h0 => by
    obtain ⟨i, hi, rfl⟩ := B.regs_mem.1 hv
    exact (B.reach_kd h (B.reach_reg i hi h0)).2.2)
  rw [B.cnt_all] at this
  show (B.seenL (fun _ => false) [] (B.regs s.2.1 nr)).2.length + B.cnt (B.seenL (fun _ => false) [] (B.regs s.2.1 nr)).1 n ≤ n
  simp at this
  omega
end Go.Proofs.YtnjiinbhbjpfkaaGreatDoor
namespace Go.Proofs.YtnjiinbhbjpfkaaGreatDoor.F
open Go.RowKit
structure Rts (w : World) (Q : Nat → Prop) (eb sb pb n nr : Nat) (kd : B.Kd) (vb : Vs) (s : B.St) : Prop where
  hv : Vis Q w eb nr s.2.1
  hq : ∀ k, Q k → k < w.heap.size ∧ k ≠ sb
  hs : Str w sb pb eb n kd vb s.2.2
  hh : B.Held kd nr n s
  n1 : 1 ≤ n
  n2 : n ≤ 200
theorem Rts.kept {w w' : World} {Q : Nat → Prop} {eb sb pb n nr : Nat} {kd : B.Kd} {vb : Vs} {s : B.St} (h : Rts w Q eb sb pb n nr kd vb s) (hg : w.grownBy w' none) : Rts w' Q eb sb pb n nr kd vb s :=
  ⟨h.hv.block (fun k hk => hg.block k (h.hq k hk).1 (by intro e; cases e)), fun k hk => ⟨Nat.lt_of_lt_of_le (h.hq k hk).1 hg.size, (h.hq k hk).2⟩, h.hs.kept hg, h.hh, h.n1, h.n2⟩
theorem Rts.roots {w : World} {Q : Nat → Prop} {eb sb pb n nr : Nat} {kd : B.Kd} {vb : Vs} {s : B.St} (h : Rts w Q eb sb pb n nr kd vb s) : ∀ i, i < nr → (s.2.1 i).1 ≠ 0 → (s.2.1 i).1 ≤ n := fun i hi h0 => (B.reach_kd h.hh (B.reach_reg i hi h0)).2.2
theorem Str.cells {w : World} {sb pb eb n : Nat} {kd : B.Kd} {vb : Vs} {M : Nat → List B.V} (h : Str w sb pb eb n kd vb M) :
    w.cell? ⟨sb, 1, none⟩ = some (.func (.func 59) #[P0 eb] #[]) ∧ w.cell? ⟨sb, 2, none⟩ = some (cyV kd vb) ∧ w.cell? ⟨sb, 3, none⟩ = some (.int .i64 (wrap64 (kd.un : Int))) ∧ w.cell? ⟨sb, 4, none⟩ = some (.int .i64 (wrap64 (kd.fo : Int))) ∧ w.cell? ⟨sb, 5, none⟩ = some (.int .i64 (wrap64 (kd.cc : Int))) ∧ w.frozen? ⟨sb, 2, none⟩ = false ∧ w.frozen? ⟨sb, 3, none⟩ = false ∧ w.frozen? ⟨sb, 4, none⟩ = false ∧ w.frozen? ⟨sb, 5, none⟩ = false := by
  simp [World.cell?, World.frozen?, h.b]
def Frc (w wr : World) (cb rd sb pb n nr : Nat) (kd : B.Kd) (vb : Vs) (s : B.St) (o : Obj) : Prop :=
  ∃ c on ad cap, Cym wr cb rd sb n ad cap c ∧ Plc wr pb n on vb.f s.2.2 ∧ B.Snap on n s.2.2 c (B.Reach nr s) ∧ c.st.length + B.cnt c.m n ≤ n ∧ (∀ p, on p = true → kd.on p = true) ∧ (∀ k, CyB cb rd ad k → w.heap.size ≤ k) ∧ Only (fun k => k = sb ∨ k = pb) w wr ∧ wr.heap[sb]? = some o
set_option maxRecDepth 100000 in
set_option maxHeartbeats 4000000 in
theorem force_any (Q : Nat → Prop) (eb sb pb n nr : Nat) (kd : B.Kd) (vb : Vs) (s : B.St) (w : World) (hR : Rts w Q eb sb pb n nr kd vb s) :
    Calls Tryz.prog 219 #[P0 sb] w fun e w' => e = .returned (.tuple #[]) ∧ ∃ on : Nat → Bool, (∀ p, 1 ≤ p → p ≤ n → (on p = true ↔ B.Reach nr s p)) ∧ (∀ p, on p = true → kd.on p = true) ∧ (∀ p, B.Reach nr s p → on p = true) ∧ Only (fun k => k = sb ∨ k = pb) w w' ∧ Str w' sb pb eb n ⟨on, none, kd.un, kd.fo + 1, kd.cc⟩ vb s.2.2 := by
  have KR := hid hR
  obtain ⟨c1, c2, c3, c4, c5, z2, z3, z4, z5⟩ := hR.hs.cells
  have c0 := hR.hs.c0
  have ls := heap_lt hR.hs.b
  have hn := hR.n2
  have hn1 := hR.n1
  have nsp : sb ≠ pb := by obtain ⟨cu, h, _⟩ := hR.hs.p.p; exact cells_ne hR.hs.b h (by decide)
  have hb := hR.hs.b
  have HB := hid hb
  clear hR hb
  generalize hy : wrap64 (kd.fo : Int) = y at *
  generalize hcv : cyV kd vb = cv at *
  have HY := hid hy
  clear hy hcv
  go_enter Tryz.func219, Tryz.ntmps219
  go_wp2_with fail
  generalize hW : (w.setCell ⟨sb, 4, none⟩ (.int .i64 (wrap64 (y + 1)))).setCell ⟨sb, 2, none⟩ (.pointer none) = w2
  have hz2 : w2.heap.size = w.heap.size := by rw [← hW]; simp [World.setCell]
  have hbk : ∀ k, k ≠ sb → w2.heap[k]? = w.heap[k]? := fun k hk => by rw [← hW, Below.heap_setCell _ _ _ _ hk, Below.heap_setCell _ _ _ _ hk]
  have hs2 : w2.heap[sb]? = some (.cells #[.slice (some ⟨pb, 0, none⟩) n n, .func (.func 59) #[P0 eb] #[], .pointer none, .int .i64 (wrap64 (kd.un : Int)), .int .i64 (wrap64 (y + 1)), .int .i64 (wrap64 (kd.cc : Int))] 207 (0, 0)) := by
    rw [← hW]
    have := HB.out
    simp [World.setCell, Array.getElem?_modify, this]
  have KO2 : Hid (Only (fun k => k = sb ∨ k = pb) w w2) := by
    show Only _ _ _
    rw [← hW]
    exact only_setCell (only_setCell (only_refl _ _) (Or.inl (Or.inl rfl)) _) (Or.inl (Or.inl rfl)) _
  have d0 : w2.cell? ⟨sb, 0, none⟩ = some (.slice (some ⟨pb, 0, none⟩) n n) := by simp [World.cell?, hs2]
  have d1 : w2.cell? ⟨sb, 1, none⟩ = some (.func (.func 59) #[P0 eb] #[]) := by simp [World.cell?, hs2]
  generalize ho : (.cells #[.slice (some ⟨pb, 0, none⟩) n n, .func (.func 59) #[P0 eb] #[], .pointer none, .int .i64 (wrap64 (kd.un : Int)), .int .i64 (wrap64 (y + 1)), .int .i64 (wrap64 (kd.cc : Int))] 207 (0, 0) : Obj) = o at *
  have HO := hid ho
  have HS2 := hid hs2
  have HP2 : Hid (Plc w2 pb n kd.on vb.f s.2.2) := KR.out.hs.p.block (hbk pb (fun e => nsp e.symm)) (fun p a b d => hbk _ (by
    obtain ⟨cu, h, _⟩ := KR.out.hs.p.s p a b d
    exact cells_ne h HB.out (by decide)))
  have HVS : Hid (Vis Q w2 eb nr s.2.1) := KR.out.hv.block (fun k hk => hbk k (KR.out.hq k hk).2)
  clear hW hbk ho hs2 c0 c1 c2 c3 c4 c5 z2 z3 z4 z5
  refine (beginc_any Q eb sb pb n nr s.2.1 w2 d0 d1 HVS.out (fun k hk => by have := (KR.out.hq k hk).1; omega) hn KR.out.roots).mono ?_
  rintro e w3 ⟨cb, rd, ad, cap, rfl, hB3, hC3, hY3⟩
  have HF3 : Hid (Frc w w3 cb rd sb pb n nr kd vb s o) := by
    refine ⟨_, kd.on, ad, cap, hY3, HP2.out.block (hB3.block pb HP2.out.p.lt) (fun p a b d => hB3.block _ (HP2.out.s p a b d).lt), B.snap_begun KR.out.hh, begun_sum KR.out.hh, fun _ h => h, fun k hk => by have := hC3 k hk; omega, ?_, (hB3.block sb (by omega)).trans HS2.out⟩
    exact KO2.out.trans (S1 := fun _ => False) ⟨hB3.os, hB3.tape, hB3.output, hB3.size, fun k hk _ => hB3.block k hk⟩ (fun _ h _ => h.elim)
  clear hB3 hC3 hY3 d0 d1 HVS HP2 HS2 KO2 HB
  go_wp2_with fail
  go_loopw [] (fun wr => Hid (Frc w wr cb rd sb pb n nr kd vb s o)) (fun wr => todo wr cb rd n)
  case atStart => exact HF3
  case round =>
    obtain ⟨c, on, ad', cap', h1, h2, h3, h4, h5, h6, h7, h8⟩ := hrel.out
    have HT := hid (todo_is h1)
    have HX := hid (And.intro h1 (And.intro h2 (And.intro h3 (And.intro h4 (And.intro h5 (And.intro h6 (And.intro h7 h8)))))))
    have HE := hid (endedc_any cb rd sb n ad' cap' c wr h1)
    clear h1 h2 h3 h4 h5 h6 h7 h8
    by_cases hx : c.nx = n
    · have hd : decide (c.nx = n) = true := by simpa using hx
      rw [hd] at HE
      have HXN := hid hx
      clear hx hd
      go_wp2_with fail
      refine HE.out.mono ?_
      rintro e w4 ⟨rfl, hg4⟩
      have HG4 := hid hg4
      clear hg4
      go_wp2_with fail
      go_end0
      obtain ⟨h1, h2, h3, h4, h5, h6, h7, h8⟩ := HX.out
      have hst : c.st = [] := h3.hg (by have := HXN.out; omega)
      refine ⟨rfl, on, fun p a b => ?_, h5, fun p hp => (h3.ha p hp).2.2, h7.then0 HG4.out, ⟨?_, h2.kept HG4.out, fun c hc => by cases hc⟩⟩
      · rw [← h3.last hst p]
        exact ⟨h3.hi p a (by have := HXN.out; omega), fun hm => (h3.ha p (h3.hc p hm)).2.2⟩
      · have := grown_heap HG4.out h8 (by intro e; cases e)
        rw [this, ← HO.out, ← HY.out, wrap_succ]
        rfl
    · have hd : decide (c.nx = n) = false := by simpa using hx
      rw [hd] at HE
      have hlt : c.nx < n := by have := HX.out.2.2.1.hh; omega
      have HLT := hid hlt
      clear hx hd hlt
      go_wp2_with fail
      refine HE.out.mono ?_
      rintro e w4 ⟨rfl, hg4⟩
      have HG4 := hid hg4
      clear hg4
      go_wp2_with fail
      have hs0 : w4.cell? ⟨sb, 0, none⟩ = some (.slice (some ⟨pb, 0, none⟩) n n) := by
        have := grown_heap HG4.out HX.out.2.2.2.2.2.2.2 (by intro e; cases e)
        rw [← HO.out] at this
        simp [World.cell?, this]
      refine (unitc_any cb rd sb pb n ad' cap' c on vb.f s.2.2 (B.Reach nr s) w4 (HX.out.1.kept HG4.out) (HX.out.2.1.kept HG4.out) hs0 (fun h => ?_) HX.out.2.2.1 HX.out.2.2.2.1 HLT.out hn).mono ?_
      · have := HX.out.2.2.2.2.2.1 sb h
        omega
      rintro e w5 ⟨rfl, u1, u2, ad2, cap2, u3, u4⟩
      have hun := unit_less HX.out.2.2.1 HLT.out
      have hT5 := todo_is u4
      have hz4 := HG4.out.size
      have hz3 := HX.out.2.2.2.2.2.2.1.size
      have HF5 : Hid (Frc w w5 cb rd sb pb n nr kd vb s o) := by
        obtain ⟨h1, h2, h3, h4, h5, h6, h7, h8⟩ := HX.out
        refine ⟨_, _, ad2, cap2, u4, u1, B.snap_unit h3 HLT.out, by omega, fun p hp => h5 p (B.unit_dn hp), fun k hk => ?_, (h7.then0 HG4.out).trans u2 (fun k hk hl => ?_), (u2.same (by omega) (fun h => ?_)).trans (grown_heap HG4.out h8 (by intro e; cases e))⟩
        · rcases u3.cyb hk with h | h
          · exact h6 k h
          · omega
        · rcases hk with h | h
          · exact Or.inr h
          · exact absurd (h6 k h) (by omega)
        · rcases h with h | h
          · exact nsp h
          · exact absurd (h6 sb h) (by omega)
      have HLS : Hid (todo w5 cb rd n < todo wr cb rd n) := by show _ < _; have := HT.out; omega
      clear u1 u2 u3 u4 hun hT5 hs0
      go_wp2_with fail
      go_roundw
      case rel => exact HF5
      case measure => exact HLS.out
theorem cyV_some {kd : B.Kd} {vb : Vs} {c : B.Cy} (h : kd.cy = some c) : cyV kd vb = P0 vb.cb := by unfold cyV; rw [h]; rfl
theorem cyV_none {kd : B.Kd} {vb : Vs} (h : kd.cy = none) : cyV kd vb = .pointer none := by unfold cyV; rw [h]; rfl
def Sbk (sb pb n : Nat) (kd : B.Kd) (vb : Vs) (k : Nat) : Prop := k = sb ∨ k = pb ∨ Own n kd vb k
def Grew (n : Nat) (kd : B.Kd) (vb : Vs) (kd' : B.Kd) (vb' : Vs) (sz : Nat) : Prop := ∀ k, Own n kd' vb' k → Own n kd vb k ∨ sz ≤ k
theorem Grew.refl (n : Nat) (kd : B.Kd) (vb : Vs) (sz : Nat) : Grew n kd vb kd vb sz := fun _ h => Or.inl h
def Wkd (w wr : World) (eb sb pb n : Nat) (kd : B.Kd) (vb : Vs) (s : B.St) (nr : Nat) (kd' : B.Kd) : Prop :=
  ∃ vb', Str wr sb pb eb n kd' vb' s.2.2 ∧ B.Held kd' nr n s ∧ Only (Sbk sb pb n kd vb) w wr ∧ Grew n kd vb kd' vb' w.heap.size ∧ vb'.f = vb.f
theorem Str.sb_ne {w : World} {sb pb eb n : Nat} {kd : B.Kd} {vb : Vs} {M : Nat → List B.V} (h : Str w sb pb eb n kd vb M) : sb ≠ pb ∧ ∀ k, Own n kd vb k → k ≠ sb ∧ k ≠ pb := by
  obtain ⟨cu, hp, _⟩ := id h.p.p
  refine ⟨cells_ne h.b hp (by decide), fun k hk => ?_⟩
  obtain ⟨cur, T, h1, h2⟩ := h.ty k hk
  refine ⟨cells_ne h1 h.b ?_, cells_ne h1 hp ?_⟩
  · rcases h2 with rfl | rfl | rfl | rfl <;> decide
  · rcases h2 with rfl | rfl | rfl | rfl <;> decide
theorem str_step {w : World} {sb pb eb n : Nat} {kd : B.Kd} {vb : Vs} {M : Nat → List B.V} {c : B.Cy} {ad : Option Addr} {cap : Nat} {x : Value} {cc : Nat}
    (hb : w.heap[sb]? = some (.cells #[.slice (some ⟨pb, 0, none⟩) n n, .func (.func 59) #[P0 eb] #[], x, .int .i64 (wrap64 ((kd.un + 1 : Nat) : Int)), .int .i64 (wrap64 (kd.fo : Int)), .int .i64 (wrap64 (cc : Int))] 207 (0, 0)))
    (hx : ((B.unit M kd.on c).2.nx = n ∧ x = .pointer none ∧ cc = kd.cc + 1) ∨ ((B.unit M kd.on c).2.nx ≠ n ∧ x = P0 vb.cb ∧ cc = kd.cc)) (h1 : Plc w pb n (B.unit M kd.on c).1 vb.f M) (h2 : Cym w vb.cb vb.rd sb n ad cap (B.unit M kd.on c).2) :
    Str w sb pb eb n (B.stepK M n kd c) { vb with ad := ad, cap := cap } M := by
  rcases hx with ⟨e, rfl, rfl⟩ | ⟨e, rfl, rfl⟩
  · have hk : B.stepK M n kd c = ⟨(B.unit M kd.on c).1, none, kd.un + 1, kd.fo, kd.cc + 1⟩ := by unfold B.stepK; rw [if_pos e]
    rw [hk]
    exact ⟨hb, h1, fun c hc => by cases hc⟩
  · have hk : B.stepK M n kd c = ⟨(B.unit M kd.on c).1, some (B.unit M kd.on c).2, kd.un + 1, kd.fo, kd.cc⟩ := by unfold B.stepK; rw [if_neg e]
    rw [hk]
    refine ⟨hb, h1, fun c' hc => ?_⟩
    have e : (B.unit M kd.on c).2 = c' := by injection hc
    subst e; exact h2
theorem own_step {n k : Nat} {kd : B.Kd} {vb : Vs} {M : Nat → List B.V} {c : B.Cy} {ad : Option Addr} {cap sz : Nat} (hc : kd.cy = some c) (hN : Nad vb.ad ad sz) (hk : Own n (B.stepK M n kd c) { vb with ad := ad, cap := cap } k) : Own n kd vb k ∨ sz ≤ k := by
  have hon : ∀ p, (B.stepK M n kd c).on p = true → kd.on p = true := fun p hp => by
    have e : (B.stepK M n kd c).on = (B.unit M kd.on c).1 := by unfold B.stepK; split <;> rfl
    rw [e] at hp; exact B.unit_dn hp
  rcases hk with ⟨p, a, b, d, e⟩ | ⟨_, hk⟩
  · exact Or.inl (Or.inl ⟨p, a, b, hon p d, e⟩)
  · exact (hN.cyb hk).imp (fun h => Or.inr ⟨by rw [hc]; rfl, h⟩) id
set_option maxRecDepth 100000 in
set_option maxHeartbeats 4000000 in
theorem work_any (Q : Nat → Prop) (eb sb pb n nr u : Nat) (kd : B.Kd) (vb : Vs) (s : B.St) (w : World) (hR : Rts w Q eb sb pb n nr kd vb s) (hu : u ≤ 50) :
    Calls Tryz.prog 69 #[P0 sb, .int .i64 u] w fun e w' => e = .returned (.tuple #[]) ∧ Wkd w w' eb sb pb n kd vb s nr (B.work s.2.1 nr s.2.2 n u kd) := by
  have KR := hid hR
  obtain ⟨c1, c2, _⟩ := hR.hs.cells
  have c0 := hR.hs.c0
  have ls := heap_lt hR.hs.b
  have hn := hR.n2
  clear hR
  cases hcy : kd.cy with
  | none =>
    rw [cyV_none hcy] at c2
    have HCY := hid hcy
    clear hcy
    go_enter Tryz.func69, Tryz.ntmps69
    go_wp2_with fail
    refine (beginc_any Q eb sb pb n nr s.2.1 w c0 c1 KR.out.hv (fun k hk => (KR.out.hq k hk).1) hn KR.out.roots).mono ?_
    rintro e w1 ⟨cb, rd, ad, cap, rfl, hB1, hC1, hY1⟩
    have hb1 := (hB1.block sb ls).trans KR.out.hs.b
    have x2 : w1.cell? ⟨sb, 2, none⟩ = some (.pointer none) := by rw [cyV_none HCY.out] at hb1; simp [World.cell?, hb1]
    have y2 : w1.frozen? ⟨sb, 2, none⟩ = false := by simp [World.frozen?, hb1]
    have ls1 := heap_lt hb1
    have HW0 : Hid (Wkd w (w1.setCell ⟨sb, 2, none⟩ (P0 cb)) eb sb pb n kd vb s nr { kd with cy := some (B.begun s.2.1 nr) }) := by
      have hS := KR.out.hs
      have hne := hS.sb_ne
      have hsC : ∀ k, CyB cb rd ad k → k ≠ sb := fun k hk => by have := hC1 k hk; omega
      refine ⟨{ vb with cb := cb, rd := rd, ad := ad, cap := cap }, ⟨?_, ?_, ?_⟩, B.held_begun KR.out.hh KR.out.n1, ?_, ?_, rfl⟩
      · simp [World.setCell, Array.getElem?_modify, hb1, cyV]
      · exact (hS.p.block (hB1.block pb hS.p.p.lt) (fun p a b d => hB1.block _ (hS.p.s p a b d).lt)).block (Below.heap_setCell _ _ _ _ (fun e => hne.1 e.symm)) (fun p a b d => Below.heap_setCell _ _ _ _ (hne.2 _ (Or.inl ⟨p, a, b, d, rfl⟩)).1)
      · intro c hc
        have e : B.begun s.2.1 nr = c := by injection hc
        subst e
        exact hY1.block (fun k hk => Below.heap_setCell _ _ _ _ (hsC k hk))
      · exact only_setCell ⟨hB1.os, hB1.tape, hB1.output, hB1.size, fun k hk _ => hB1.block k hk⟩ (Or.inl (Or.inl rfl)) _
      · intro k hk
        rcases hk with ⟨p, a, b, d, e⟩ | ⟨_, hk⟩
        · exact Or.inl (Or.inl ⟨p, a, b, d, e⟩)
        · exact Or.inr (hC1 k hk)
    have HU : Hid (B.units s.2.2 n u { kd with cy := some (B.begun s.2.1 nr) } = B.work s.2.1 nr s.2.2 n u kd) := by
      show _ = _
      unfold B.work
      rw [HCY.out]
    clear hB1 hC1 hY1 hb1
    clear c0 c1 c2
    go_wp2_with fail
    go_loopw [4] (fun i wr => ∃ j : Nat, j ≤ u ∧ i = .int .i64 j ∧ Hid (∃ kd', Wkd w wr eb sb pb n kd vb s nr kd' ∧ B.units s.2.2 n (u - j) kd' = B.work s.2.1 nr s.2.2 n u kd)) (fun i _ => u - (intOf i).toNat)
    case atStart => exact ⟨0, by omega, rfl, _, HW0.out, HU.out⟩
    case round =>
      obtain ⟨j, hj, rfl, hX⟩ := hrel
      obtain ⟨kd', ⟨vb', hS, hH, hO, hG, hFe⟩, hU⟩ := hX.out
      obtain ⟨_, d2, _, _, _, _, _, _, _⟩ := hS.cells
      have lw := heap_lt hS.b
      have HS := hid hS
      have HQ := hid (And.intro hH (And.intro hO (And.intro hG (And.intro hU hFe))))
      clear hS hH hO hG hU hFe
      by_cases hlt : j < u
      · have hlt2 : (j : Int) < (u : Int) := by omega
        cases hcy' : kd'.cy with
        | none =>
          rw [cyV_none hcy'] at d2
          have HC' := hid hcy'
          clear hcy'
          go_wp2_with fail
          go_end0
          obtain ⟨hH, hO, hG, hU, hFe⟩ := HQ.out
          rw [B.units_none HC'.out] at hU
          exact ⟨rfl, by rw [← hU]; exact ⟨vb', HS.out, hH, hO, hG, hFe⟩⟩
        | some c =>
          rw [cyV_some hcy'] at d2
          have HC' := hid hcy'
          clear hcy'
          obtain ⟨hx, T, hT, hSn⟩ := HQ.out.1.h3 c HC'.out
          have HSN := hid hSn
          have HUN := hid (unitc_any vb'.cb vb'.rd sb pb n vb'.ad vb'.cap c kd'.on vb'.f s.2.2 T wr (HS.out.c c HC'.out) HS.out.p HS.out.c0 (fun h => (HS.out.sb_ne.2 sb (Or.inr ⟨by rw [HC'.out]; rfl, h⟩)).1 rfl) hSn hSn.sum hx hn)
          have HXX := hid hx
          clear hSn hT hx
          go_wp2_with fail
          refine HUN.out.mono ?_
          rintro e w5 ⟨rfl, u1, u2, ad2, cap2, u3, u4⟩
          have hb5 : w5.heap[sb]? = _ := (u2.same lw (fun h => by
            rcases h with h | h
            · exact HS.out.sb_ne.1 h
            · exact (HS.out.sb_ne.2 sb (Or.inr ⟨by rw [HC'.out]; rfl, h⟩)).1 rfl)).trans HS.out.b
          rw [cyV_some HC'.out] at hb5
          generalize hun : wrap64 (kd'.un : Int) = yu at hb5
          generalize hcc : wrap64 (kd'.cc : Int) = yc at hb5
          have x2 : w5.cell? ⟨sb, 2, none⟩ = some (P0 vb'.cb) := by simp [World.cell?, hb5]
          have x3 : w5.cell? ⟨sb, 3, none⟩ = some (.int .i64 yu) := by simp [World.cell?, hb5]
          have y3 : w5.frozen? ⟨sb, 3, none⟩ = false := by simp [World.frozen?, hb5]
          have l5 := heap_lt hb5
          have HB5 := hid hb5
          have HYU := hid (And.intro hun hcc)
          have HU4 := hid (And.intro u1 (And.intro u2 (And.intro u3 u4)))
          clear u1 u2 u3 u4 hb5 hun hcc d2 HUN
          go_wp2_with fail
          have hb6 : (w5.setCell ⟨sb, 3, none⟩ (.int .i64 (wrap64 (yu + 1)))).heap[sb]? = some (.cells #[.slice (some ⟨pb, 0, none⟩) n n, .func (.func 59) #[P0 eb] #[], P0 vb'.cb, .int .i64 (wrap64 (yu + 1)), .int .i64 (wrap64 (kd'.fo : Int)), .int .i64 yc] 207 (0, 0)) := by
            have := HB5.out
            simp [World.setCell, Array.getElem?_modify, this]
          have hnC : ∀ k, CyB vb'.cb vb'.rd ad2 k → k ≠ sb := fun k hk e => by
            rcases HU4.out.2.2.1.cyb hk with h | h
            · exact (HS.out.sb_ne.2 k (Or.inr ⟨by rw [HC'.out]; rfl, h⟩)).1 e
            · omega
          have hP6 : Plc (w5.setCell ⟨sb, 3, none⟩ (.int .i64 (wrap64 (yu + 1)))) pb n (B.unit s.2.2 kd'.on c).1 vb'.f s.2.2 := HU4.out.1.block (Below.heap_setCell _ _ _ _ (fun e => HS.out.sb_ne.1 e.symm)) (fun p a b d => Below.heap_setCell _ _ _ _ (HS.out.sb_ne.2 _ (Or.inl ⟨p, a, b, B.unit_dn d, rfl⟩)).1)
          have hC6 : Cym (w5.setCell ⟨sb, 3, none⟩ (.int .i64 (wrap64 (yu + 1)))) vb'.cb vb'.rd sb n ad2 cap2 (B.unit s.2.2 kd'.on c).2 := HU4.out.2.2.2.block (fun k hk => Below.heap_setCell _ _ _ _ (hnC k hk))
          have HNC := hid hnC
          have KP6 := hid hP6
          have KC6 := hid hC6
          have HB6 := hid hb6
          have hsz6 : (w5.setCell ⟨sb, 3, none⟩ (.int .i64 (wrap64 (yu + 1)))).heap.size = w5.heap.size := by simp [World.setCell]
          have KO6 : Hid (Only (Sbk sb pb n kd vb) w (w5.setCell ⟨sb, 3, none⟩ (.int .i64 (wrap64 (yu + 1))))) := by
            refine only_setCell (HQ.out.2.1.trans HU4.out.2.1 (fun k hk hl => ?_)) (Or.inl (Or.inl rfl)) _
            rcases hk with h | h
            · exact Or.inr (Or.inl h)
            · exact Or.inr (Or.inr ((HQ.out.2.2.1 k (Or.inr ⟨by rw [HC'.out]; rfl, h⟩)).resolve_right (by omega)))
          clear hb6 hnC hP6 hC6 x2 x3 y3 hsz6
          generalize hw6 : w5.setCell ⟨sb, 3, none⟩ (.int .i64 (wrap64 (yu + 1))) = w6 at *
          clear hw6
          refine (endedc_any vb'.cb vb'.rd sb n ad2 cap2 _ w6 KC6.out).mono ?_
          rintro e w7 ⟨rfl, hg7⟩
          have KG7 := hid hg7
          have hb7 := grown_heap hg7 HB6.out (by intro e; cases e)
          have HB7 := hid hb7
          have HGR : Hid (Grew n kd vb (B.stepK s.2.2 n kd' c) { vb' with ad := ad2, cap := cap2 } w.heap.size) := fun k hk => by
            rcases own_step HC'.out HU4.out.2.2.1 hk with h | h
            · exact HQ.out.2.2.1 k h
            · have := HQ.out.2.1.size
              exact Or.inr (by omega)
          have HNX : Hid (B.units s.2.2 n (u - (j + 1)) (B.stepK s.2.2 n kd' c) = B.work s.2.1 nr s.2.2 n u kd) := by
            have := HQ.out.2.2.2.1
            rw [show u - j = (u - (j + 1)) + 1 by omega, B.units_succ HC'.out] at this
            exact this
          clear hg7
          by_cases hend : (B.unit s.2.2 kd'.on c).2.nx = n
          · have hd : decide ((B.unit s.2.2 kd'.on c).2.nx = n) = true := by simpa using hend
            rw [hd]
            have HEND := hid hend
            have z2 : w7.cell? ⟨sb, 2, none⟩ = some (P0 vb'.cb) := by simp [World.cell?, hb7]
            have z5 : w7.cell? ⟨sb, 5, none⟩ = some (.int .i64 yc) := by simp [World.cell?, hb7]
            have q2 : w7.frozen? ⟨sb, 2, none⟩ = false := by simp [World.frozen?, hb7]
            have q5 : w7.frozen? ⟨sb, 5, none⟩ = false := by simp [World.frozen?, hb7]
            have l7 := heap_lt hb7
            clear hd hend hb7
            go_wp2_with fail
            go_roundw
            case rel =>
              refine ⟨j + 1, by omega, by go_num, _, ⟨{ vb' with ad := ad2, cap := cap2 }, str_step (cc := kd'.cc + 1) (x := .pointer none) ?_ (Or.inl ⟨HEND.out, rfl, rfl⟩) ?_ ?_, B.held_step HQ.out.1 HC'.out, ?_, HGR.out, HQ.out.2.2.2.2⟩, HNX.out⟩
              · have := HB7.out
                rw [← HYU.out.1, ← HYU.out.2] at *
                simp [World.setCell, Array.getElem?_modify, this, wrap_succ]
              · exact ((KP6.out.kept KG7.out).block (Below.heap_setCell _ _ _ _ (fun e => HS.out.sb_ne.1 e.symm)) (fun p a b d => Below.heap_setCell _ _ _ _ (HS.out.sb_ne.2 _ (Or.inl ⟨p, a, b, B.unit_dn d, rfl⟩)).1)).block (Below.heap_setCell _ _ _ _ (fun e => HS.out.sb_ne.1 e.symm)) (fun p a b d => Below.heap_setCell _ _ _ _ (HS.out.sb_ne.2 _ (Or.inl ⟨p, a, b, B.unit_dn d, rfl⟩)).1)
              · exact ((KC6.out.kept KG7.out).block (fun k hk => Below.heap_setCell _ _ _ _ (HNC.out k hk))).block (fun k hk => Below.heap_setCell _ _ _ _ (HNC.out k hk))
              · exact only_setCell (only_setCell (KO6.out.then0 KG7.out) (Or.inl (Or.inl rfl)) _) (Or.inl (Or.inl rfl)) _
            case measure => simp [intOf]; omega
          · have hd : decide ((B.unit s.2.2 kd'.on c).2.nx = n) = false := by simpa using hend
            rw [hd]
            have HEND := hid hend
            clear hd hend hb7
            go_wp2_with fail
            go_roundw
            case rel =>
              refine ⟨j + 1, by omega, by go_num, _, ⟨{ vb' with ad := ad2, cap := cap2 }, str_step (cc := kd'.cc) (x := P0 vb'.cb) ?_ (Or.inr ⟨HEND.out, rfl, rfl⟩) (KP6.out.kept KG7.out) (KC6.out.kept KG7.out), B.held_step HQ.out.1 HC'.out, KO6.out.then0 KG7.out, HGR.out, HQ.out.2.2.2.2⟩, HNX.out⟩
              rw [HB7.out, ← HYU.out.1, ← HYU.out.2, wrap_succ]
            case measure => simp [intOf]; omega
      · have hlt2 : ¬ ((j : Int) < (u : Int)) := by omega
        have hge : decide ((j : Int) < (u : Int)) = false := by simpa using hlt2
        have HJ : Hid (u - j = 0) := by show _ = _; omega
        go_wp2_with fail
        go_end0
        obtain ⟨hH, hO, hG, hU, hFe⟩ := HQ.out
        rw [HJ.out] at hU
        exact ⟨rfl, by rw [← hU]; exact ⟨vb', HS.out, hH, hO, hG, hFe⟩⟩
  | some c0' =>
    rw [cyV_some hcy] at c2
    have HCY := hid hcy
    clear hcy
    have HW0 : Hid (Wkd w w eb sb pb n kd vb s nr kd) := ⟨vb, KR.out.hs, KR.out.hh, only_refl _ _, Grew.refl _ _ _ _, rfl⟩
    have HU : Hid (B.units s.2.2 n u kd = B.work s.2.1 nr s.2.2 n u kd) := by
      show _ = _
      unfold B.work
      rw [HCY.out]
    go_enter Tryz.func69, Tryz.ntmps69
    go_wp2_with fail
    clear c0 c1 c2
    go_loopw [4] (fun i wr => ∃ j : Nat, j ≤ u ∧ i = .int .i64 j ∧ Hid (∃ kd', Wkd w wr eb sb pb n kd vb s nr kd' ∧ B.units s.2.2 n (u - j) kd' = B.work s.2.1 nr s.2.2 n u kd)) (fun i _ => u - (intOf i).toNat)
    case atStart => exact ⟨0, by omega, rfl, _, HW0.out, HU.out⟩
    case round =>
      obtain ⟨j, hj, rfl, hX⟩ := hrel
      obtain ⟨kd', ⟨vb', hS, hH, hO, hG, hFe⟩, hU⟩ := hX.out
      obtain ⟨_, d2, _, _, _, _, _, _, _⟩ := hS.cells
      have lw := heap_lt hS.b
      have HS := hid hS
      have HQ := hid (And.intro hH (And.intro hO (And.intro hG (And.intro hU hFe))))
      clear hS hH hO hG hU hFe
      by_cases hlt : j < u
      · have hlt2 : (j : Int) < (u : Int) := by omega
        cases hcy' : kd'.cy with
        | none =>
          rw [cyV_none hcy'] at d2
          have HC' := hid hcy'
          clear hcy'
          go_wp2_with fail
          go_end0
          obtain ⟨hH, hO, hG, hU, hFe⟩ := HQ.out
          rw [B.units_none HC'.out] at hU
          exact ⟨rfl, by rw [← hU]; exact ⟨vb', HS.out, hH, hO, hG, hFe⟩⟩
        | some c =>
          rw [cyV_some hcy'] at d2
          have HC' := hid hcy'
          clear hcy'
          obtain ⟨hx, T, hT, hSn⟩ := HQ.out.1.h3 c HC'.out
          have HSN := hid hSn
          have HUN := hid (unitc_any vb'.cb vb'.rd sb pb n vb'.ad vb'.cap c kd'.on vb'.f s.2.2 T wr (HS.out.c c HC'.out) HS.out.p HS.out.c0 (fun h => (HS.out.sb_ne.2 sb (Or.inr ⟨by rw [HC'.out]; rfl, h⟩)).1 rfl) hSn hSn.sum hx hn)
          have HXX := hid hx
          clear hSn hT hx
          go_wp2_with fail
          refine HUN.out.mono ?_
          rintro e w5 ⟨rfl, u1, u2, ad2, cap2, u3, u4⟩
          have hb5 : w5.heap[sb]? = _ := (u2.same lw (fun h => by
            rcases h with h | h
            · exact HS.out.sb_ne.1 h
            · exact (HS.out.sb_ne.2 sb (Or.inr ⟨by rw [HC'.out]; rfl, h⟩)).1 rfl)).trans HS.out.b
          rw [cyV_some HC'.out] at hb5
          generalize hun : wrap64 (kd'.un : Int) = yu at hb5
          generalize hcc : wrap64 (kd'.cc : Int) = yc at hb5
          have x2 : w5.cell? ⟨sb, 2, none⟩ = some (P0 vb'.cb) := by simp [World.cell?, hb5]
          have x3 : w5.cell? ⟨sb, 3, none⟩ = some (.int .i64 yu) := by simp [World.cell?, hb5]
          have y3 : w5.frozen? ⟨sb, 3, none⟩ = false := by simp [World.frozen?, hb5]
          have l5 := heap_lt hb5
          have HB5 := hid hb5
          have HYU := hid (And.intro hun hcc)
          have HU4 := hid (And.intro u1 (And.intro u2 (And.intro u3 u4)))
          clear u1 u2 u3 u4 hb5 hun hcc d2 HUN
          go_wp2_with fail
          have hb6 : (w5.setCell ⟨sb, 3, none⟩ (.int .i64 (wrap64 (yu + 1)))).heap[sb]? = some (.cells #[.slice (some ⟨pb, 0, none⟩) n n, .func (.func 59) #[P0 eb] #[], P0 vb'.cb, .int .i64 (wrap64 (yu + 1)), .int .i64 (wrap64 (kd'.fo : Int)), .int .i64 yc] 207 (0, 0)) := by
            have := HB5.out
            simp [World.setCell, Array.getElem?_modify, this]
          have hnC : ∀ k, CyB vb'.cb vb'.rd ad2 k → k ≠ sb := fun k hk e => by
            rcases HU4.out.2.2.1.cyb hk with h | h
            · exact (HS.out.sb_ne.2 k (Or.inr ⟨by rw [HC'.out]; rfl, h⟩)).1 e
            · omega
          have hP6 : Plc (w5.setCell ⟨sb, 3, none⟩ (.int .i64 (wrap64 (yu + 1)))) pb n (B.unit s.2.2 kd'.on c).1 vb'.f s.2.2 := HU4.out.1.block (Below.heap_setCell _ _ _ _ (fun e => HS.out.sb_ne.1 e.symm)) (fun p a b d => Below.heap_setCell _ _ _ _ (HS.out.sb_ne.2 _ (Or.inl ⟨p, a, b, B.unit_dn d, rfl⟩)).1)
          have hC6 : Cym (w5.setCell ⟨sb, 3, none⟩ (.int .i64 (wrap64 (yu + 1)))) vb'.cb vb'.rd sb n ad2 cap2 (B.unit s.2.2 kd'.on c).2 := HU4.out.2.2.2.block (fun k hk => Below.heap_setCell _ _ _ _ (hnC k hk))
          have HNC := hid hnC
          have KP6 := hid hP6
          have KC6 := hid hC6
          have HB6 := hid hb6
          have hsz6 : (w5.setCell ⟨sb, 3, none⟩ (.int .i64 (wrap64 (yu + 1)))).heap.size = w5.heap.size := by simp [World.setCell]
          have KO6 : Hid (Only (Sbk sb pb n kd vb) w (w5.setCell ⟨sb, 3, none⟩ (.int .i64 (wrap64 (yu + 1))))) := by
            refine only_setCell (HQ.out.2.1.trans HU4.out.2.1 (fun k hk hl => ?_)) (Or.inl (Or.inl rfl)) _
            rcases hk with h | h
            · exact Or.inr (Or.inl h)
            · exact Or.inr (Or.inr ((HQ.out.2.2.1 k (Or.inr ⟨by rw [HC'.out]; rfl, h⟩)).resolve_right (by omega)))
          clear hb6 hnC hP6 hC6 x2 x3 y3 hsz6
          generalize hw6 : w5.setCell ⟨sb, 3, none⟩ (.int .i64 (wrap64 (yu + 1))) = w6 at *
          clear hw6
          refine (endedc_any vb'.cb vb'.rd sb n ad2 cap2 _ w6 KC6.out).mono ?_
          rintro e w7 ⟨rfl, hg7⟩
          have KG7 := hid hg7
          have hb7 := grown_heap hg7 HB6.out (by intro e; cases e)
          have HB7 := hid hb7
          have HGR : Hid (Grew n kd vb (B.stepK s.2.2 n kd' c) { vb' with ad := ad2, cap := cap2 } w.heap.size) := fun k hk => by
            rcases own_step HC'.out HU4.out.2.2.1 hk with h | h
            · exact HQ.out.2.2.1 k h
            · have := HQ.out.2.1.size
              exact Or.inr (by omega)
          have HNX : Hid (B.units s.2.2 n (u - (j + 1)) (B.stepK s.2.2 n kd' c) = B.work s.2.1 nr s.2.2 n u kd) := by
            have := HQ.out.2.2.2.1
            rw [show u - j = (u - (j + 1)) + 1 by omega, B.units_succ HC'.out] at this
            exact this
          clear hg7
          by_cases hend : (B.unit s.2.2 kd'.on c).2.nx = n
          · have hd : decide ((B.unit s.2.2 kd'.on c).2.nx = n) = true := by simpa using hend
            rw [hd]
            have HEND := hid hend
            have z2 : w7.cell? ⟨sb, 2, none⟩ = some (P0 vb'.cb) := by simp [World.cell?, hb7]
            have z5 : w7.cell? ⟨sb, 5, none⟩ = some (.int .i64 yc) := by simp [World.cell?, hb7]
            have q2 : w7.frozen? ⟨sb, 2, none⟩ = false := by simp [World.frozen?, hb7]
            have q5 : w7.frozen? ⟨sb, 5, none⟩ = false := by simp [World.frozen?, hb7]
            have l7 := heap_lt hb7
            clear hd hend hb7
            go_wp2_with fail
            go_roundw
            case rel =>
              refine ⟨j + 1, by omega, by go_num, _, ⟨{ vb' with ad := ad2, cap := cap2 }, str_step (cc := kd'.cc + 1) (x := .pointer none) ?_ (Or.inl ⟨HEND.out, rfl, rfl⟩) ?_ ?_, B.held_step HQ.out.1 HC'.out, ?_, HGR.out, HQ.out.2.2.2.2⟩, HNX.out⟩
              · have := HB7.out
                rw [← HYU.out.1, ← HYU.out.2] at *
                simp [World.setCell, Array.getElem?_modify, this, wrap_succ]
              · exact ((KP6.out.kept KG7.out).block (Below.heap_setCell _ _ _ _ (fun e => HS.out.sb_ne.1 e.symm)) (fun p a b d => Below.heap_setCell _ _ _ _ (HS.out.sb_ne.2 _ (Or.inl ⟨p, a, b, B.unit_dn d, rfl⟩)).1)).block (Below.heap_setCell _ _ _ _ (fun e => HS.out.sb_ne.1 e.symm)) (fun p a b d => Below.heap_setCell _ _ _ _ (HS.out.sb_ne.2 _ (Or.inl ⟨p, a, b, B.unit_dn d, rfl⟩)).1)
              · exact ((KC6.out.kept KG7.out).block (fun k hk => Below.heap_setCell _ _ _ _ (HNC.out k hk))).block (fun k hk => Below.heap_setCell _ _ _ _ (HNC.out k hk))
              · exact only_setCell (only_setCell (KO6.out.then0 KG7.out) (Or.inl (Or.inl rfl)) _) (Or.inl (Or.inl rfl)) _
            case measure => simp [intOf]; omega
          · have hd : decide ((B.unit s.2.2 kd'.on c).2.nx = n) = false := by simpa using hend
            rw [hd]
            have HEND := hid hend
            clear hd hend hb7
            go_wp2_with fail
            go_roundw
            case rel =>
              refine ⟨j + 1, by omega, by go_num, _, ⟨{ vb' with ad := ad2, cap := cap2 }, str_step (cc := kd'.cc) (x := P0 vb'.cb) ?_ (Or.inr ⟨HEND.out, rfl, rfl⟩) (KP6.out.kept KG7.out) (KC6.out.kept KG7.out), B.held_step HQ.out.1 HC'.out, KO6.out.then0 KG7.out, HGR.out, HQ.out.2.2.2.2⟩, HNX.out⟩
              rw [HB7.out, ← HYU.out.1, ← HYU.out.2, wrap_succ]
            case measure => simp [intOf]; omega
      · have hlt2 : ¬ ((j : Int) < (u : Int)) := by omega
        have hge : decide ((j : Int) < (u : Int)) = false := by simpa using hlt2
        have HJ : Hid (u - j = 0) := by show _ = _; omega
        go_wp2_with fail
        go_end0
        obtain ⟨hH, hO, hG, hU, hFe⟩ := HQ.out
        rw [HJ.out] at hU
        exact ⟨rfl, by rw [← hU]; exact ⟨vb', HS.out, hH, hO, hG, hFe⟩⟩
structure Frm where
  f : Nat
  nx : Nat
  R : Nat → B.V
  bk : Nat × Nat × Nat × Nat
structure Tsk where
  fr : List Frm
  run : Bool
  wh : Option (Nat × Nat)
  lf : Option (Nat × Nat × Nat × Nat)
  till : Int
structure Pl where
  nt : Nat
  T : Nat → Tsk
  q : Nat → Nat → List Nat
  lv : List Nat
  out : List B.V
  kp : List B.V
  ev : List Evt
  byt : Nat → List Nat
  sp : Bool
  clk : Int
  kd : B.Kd
  M : Nat → List B.V
  ck : Nat → Nat
structure Geo where
  tb : Nat → Nat
  ro : Nat → Nat → Option Addr × Nat
  fb : Nat → Nat → Nat
  rb : Nat → Nat → Nat
  xe : Nat → Nat
  xt : Nat → Nat
  sx : Nat → Nat
  vf : Nat → Nat
  cb : Nat
  rd : Nat
  ad : Option Addr
  cap : Nat
structure Prm where
  eb : Nat
  sb : Nat
  pb : Nat
  n : Nat
  nf : Nat
  gb : Nat
  cb : Nat → Nat
  len : Nat → Nat
  rg : Nat → Nat
  ins : Nat → Nat → Nat × Nat × Nat × Nat
  qn : Nat
  wk : Nat
  mt : Nat
  ac : Nat
  E0 : Nat → Value
  fx : Nat → Prop
  fc : Nat → Option Obj
structure Ob where
  bs : Nat → Prop
  ok : World → Prop
  fr : ∀ w w' : World, ok w → (∀ k, bs k → w'.heap[k]? = w.heap[k]?) → ok w'
  lt : ∀ (w : World) (k : Nat), ok w → bs k → k < w.heap.size
def Ob.nil : Ob := ⟨fun _ => False, fun _ => True, fun _ _ h _ => h, fun _ _ _ h => h.elim⟩
def Ob.full (b : Nat) (T : TypeId) (N : Nat) (E : Nat → Value) : Ob := ⟨fun k => k = b, fun w => Full w b T N N E, fun _ _ h hk => h.block (hk b rfl), fun _ _ h e => by rw [e]; exact h.lt⟩
def Ob.one (b : Nat) (o : Obj) : Ob := ⟨fun k => k = b, fun w => w.heap[b]? = some o, fun _ _ h hk => (hk b rfl).trans h, fun _ _ h e => by rw [e]; exact heap_lt h⟩
def Ob.row (T : TypeId) (sz : Nat) (ad : Option Addr) (n c : Nat) (xs : List Value) : Ob := ⟨fun k => adB ad = some k, fun w => w.ownsRow 0 T sz (.slice ad n c) n xs, fun _ _ h hk => own_of h (fun k e => hk k (by rw [← own_adB ad n c]; exact e)), fun _ k h e => (own_ty h k (by rw [own_adB]; exact e)).2.1⟩
theorem Str.slt {w : World} {sb pb eb n : Nat} {kd : B.Kd} {vb : Vs} {M : Nat → List B.V} (h : Str w sb pb eb n kd vb M) (k : Nat) (hk : Sbk sb pb n kd vb k) : k < w.heap.size := by
  rcases hk with rfl | rfl | hk
  · exact heap_lt h.b
  · exact h.p.p.lt
  · exact h.lt k hk
def Ob.str (sb pb eb n : Nat) (kd : B.Kd) (vb : Vs) (M : Nat → List B.V) : Ob := ⟨Sbk sb pb n kd vb, fun w => Str w sb pb eb n kd vb M, fun _ _ h hk => h.block (hk sb (Or.inl rfl)) (hk pb (Or.inr (Or.inl rfl))) (fun k h => hk k (Or.inr (Or.inr h))), fun _ k h e => h.slt k e⟩
theorem fix_fr (F : Nat → Prop) (C : Nat → Option Obj) (w w' : World) (h : ∀ k, F k → k < w.heap.size ∧ w.heap[k]? = C k) (hk : ∀ k, F k → w'.heap[k]? = w.heap[k]?) (k : Nat) (hF : F k) : k < w'.heap.size ∧ w'.heap[k]? = C k := by
  have e := hk k hF
  refine ⟨?_, e.trans (h k hF).2⟩
  rcases Nat.lt_or_ge k w'.heap.size with h1 | h1
  · exact h1
  · rw [Array.getElem?_eq_none h1] at e
    have := Array.getElem?_eq_getElem (h k hF).1
    rw [this] at e
    cases e
def Ob.fix (F : Nat → Prop) (C : Nat → Option Obj) : Ob := ⟨F, fun w => ∀ k, F k → k < w.heap.size ∧ w.heap[k]? = C k, fix_fr F C, fun _ k h e => (h k e).1⟩
def rlen (s : Pl) (x y : Nat) : Nat :=
  if x = 6 then s.lv.length else if x = 7 then s.out.length else if x = 8 then s.kp.length else if x = 9 then s.ev.length else if x = 10 then (s.byt y).length else if x = 12 then (s.T y).fr.length else (s.q x y).length
def rcon (s : Pl) (g : Geo) (x y : Nat) : List Value :=
  if x = 6 then (s.lv.map g.tb).map P0 else if x = 7 then valL s.out else if x = 8 then valL s.kp else if x = 9 then evT s.ev else if x = 10 then bytL (s.byt y) else if x = 12 then ((List.range (s.T y).fr.length).map (g.fb y)).map P0 else ((s.q x y).map g.tb).map P0
def rty (x : Nat) : TypeId := if x = 7 then 149 else if x = 8 then 149 else if x = 9 then 48 else if x = 10 then 5 else if x = 12 then 184 else 155
def rsz (x : Nat) : Nat := if x = 7 then 2 else if x = 8 then 2 else if x = 9 then 3 else 1
def sl (s : Pl) (g : Geo) (x y : Nat) : Value := .slice (g.ro x y).1 (rlen s x y) (g.ro x y).2
def engI (j : Nat) : Nat × Nat := if j = 29 then (6, 0) else if j = 30 then (7, 0) else if j = 31 then (8, 0) else if j = 32 then (2, 0) else if j = 33 then (3, 0) else if j = 43 then (9, 0) else if j % 2 = 0 then (10, (j - 34) / 2) else (4, (j - 34) / 2)
def engE (p : Prm) (s : Pl) (g : Geo) (j : Nat) : Value :=
  if j < 28 then p.E0 j else if j = 28 then .int .i64 s.clk else if j = 42 then .bool s.sp else sl s g (engI j).1 (engI j).2
def lnB (p : Prm) (g : Geo) (x y : Nat) : Nat := if x = 5 then g.tb y else p.eb
def lnO (x y : Nat) : Nat := if x = 5 then 6 else if x = 2 then 32 else if x = 3 then 33 else 35 + 2 * y
def whV (p : Prm) (g : Geo) (h : Option (Nat × Nat)) : Value := match h with
  | none => .pointer none
  | some (x, y) => Pt (lnB p g x y) (lnO x y)
def lfV (g : Geo) (t : Nat) (h : Option (Nat × Nat × Nat × Nat)) : Value := match h with
  | none => .nilFunc
  | some _ => Fv 207 #[P0 (g.sx t)]
def tskE (p : Prm) (s : Pl) (g : Geo) (t j : Nat) : Value :=
  if j = 0 then .int .i64 (t : Int) else if j = 1 then sl s g 12 t else if j = 2 then .bool (s.T t).run else if j = 3 then whV p g (s.T t).wh else if j = 4 then lfV g t (s.T t).lf else if j = 5 then .int .i64 (s.T t).till else sl s g 5 t
def bkV (p : Prm) (g : Geo) (t i : Nat) (bk : Nat × Nat × Nat × Nat) : Value := if i = 0 then Fv 120 #[P0 (g.xe t), P0 (g.xt t)] else .func (.func 149) #[stepV bk.1 bk.2.1 bk.2.2.1 bk.2.2.2 (g.fb t (i - 1)) (g.tb t) p.eb] #[]
def fr0 : Frm := ⟨0, 0, fun _ => (0, 0), (0, 0, 0, 0)⟩
def frAt (s : Pl) (t i : Nat) : Frm := (s.T t).fr.getD i fr0
def frO (p : Prm) (g : Geo) (t i : Nat) (f : Frm) : Obj := frmB (p.cb f.f) (p.len f.f) f.nx (g.rb t i) (p.rg f.f) (bkV p g t i f.bk)
def sxO (p : Prm) (s : Pl) (g : Geo) (t : Nat) : Obj := match (s.T t).lf with
  | none => .cells #[] 0 (0, 0)
  | some k => stpB k.1 k.2.1 k.2.2.1 k.2.2.2 (g.fb t ((s.T t).fr.length - 1)) (g.tb t) p.eb
def vsOf (s : Pl) (g : Geo) : Vs := ⟨⟨g.vf, s.ck⟩, g.cb, g.rd, g.ad, g.cap⟩
def vld (s : Pl) (x y z : Nat) : Bool :=
  if x ≤ 1 ∨ x = 2 ∨ x = 3 ∨ (6 ≤ x ∧ x ≤ 9) ∨ x = 18 then decide (y = 0 ∧ z = 0)
  else if x = 4 ∨ x = 10 then decide (y < 4 ∧ z = 0)
  else if x = 5 ∨ x = 11 ∨ x = 12 ∨ x = 15 ∨ x = 16 then decide (1 ≤ y ∧ y ≤ s.nt ∧ z = 0)
  else if x = 17 then decide (1 ≤ y ∧ y ≤ s.nt ∧ z = 0) && (s.T y).lf.isSome
  else if x = 13 ∨ x = 14 then decide (1 ≤ y ∧ y ≤ s.nt ∧ z < (s.T y).fr.length)
  else false
def obk (p : Prm) (s : Pl) (g : Geo) (x y z : Nat) : Ob :=
  if x = 0 then .full p.eb 144 44 (engE p s g)
  else if x = 1 then .str p.sb p.pb p.eb p.n s.kd (vsOf s g) s.M
  else if x = 11 then .full (g.tb y) 160 7 (tskE p s g y)
  else if x = 13 then .one (g.fb y z) (frO p g y z (frAt s y z))
  else if x = 14 then .full (g.rb y z) 149 (p.rg (frAt s y z).f * 2) (regP (frAt s y z).R)
  else if x = 15 then .one (g.xe y) (.cells #[P0 p.eb] 95 (0, 0))
  else if x = 16 then .one (g.xt y) (.cells #[P0 (g.tb y)] 155 (0, 0))
  else if x = 17 then .one (g.sx y) (sxO p s g y)
  else if x = 18 then .fix p.fx p.fc
  else .row (rty x) (rsz x) (g.ro x y).1 (rlen s x y) (g.ro x y).2 (rcon s g x y)
def ob (p : Prm) (s : Pl) (g : Geo) (x y z : Nat) : Ob := if vld s x y z = true then obk p s g x y z else .nil
structure Rep (p : Prm) (s : Pl) (g : Geo) (w : World) : Prop where
  o : ∀ x y z, (ob p s g x y z).ok w
  i : ∀ x y z x' y' z' k, (ob p s g x y z).bs k → (ob p s g x' y' z').bs k → x = x' ∧ y = y' ∧ z = z'
def Mine (p : Prm) (s : Pl) (g : Geo) (k : Nat) : Prop := ∃ x y z, (ob p s g x y z).bs k
def isT (s : Pl) (t : Nat) : Prop := 1 ≤ t ∧ t ≤ s.nt
structure Tr (p : Prm) (s : Pl) (g : Geo) (w : World) (s' : Pl) (g' : Geo) (w' : World) : Prop where
  r : Rep p s' g' w'
  o : Only (Mine p s g) w w'
  m : ∀ k, Mine p s' g' k → Mine p s g k ∨ w.heap.size ≤ k
  n : s.nt ≤ s'.nt
  t : ∀ u, isT s u → g'.tb u = g.tb u
theorem Rep.lt {p : Prm} {s : Pl} {g : Geo} {w : World} (h : Rep p s g w) {k : Nat} (hk : Mine p s g k) : k < w.heap.size := by
  obtain ⟨x, y, z, hk⟩ := hk
  exact (ob p s g x y z).lt w k (h.o x y z) hk
theorem Rep.only {p : Prm} {s : Pl} {g : Geo} {w w' : World} (h : Rep p s g w) {S : Nat → Prop} (hO : Only S w w') (hS : ∀ k, Mine p s g k → ¬ S k) : Rep p s g w' :=
  ⟨fun x y z => (ob p s g x y z).fr w w' (h.o x y z) (fun k hk => hO.same (h.lt ⟨x, y, z, hk⟩) (hS k ⟨x, y, z, hk⟩)), h.i⟩
theorem Rep.kept {p : Prm} {s : Pl} {g : Geo} {w w' : World} (h : Rep p s g w) (hg : w.grownBy w' none) : Rep p s g w' := h.only (S := fun _ => False) (only_none hg) (fun _ _ h => h)
theorem Tr.refl {p : Prm} {s : Pl} {g : Geo} {w : World} (h : Rep p s g w) : Tr p s g w s g w := ⟨h, only_refl _ _, fun _ h => Or.inl h, Nat.le_refl _, fun _ _ => rfl⟩
theorem Tr.trans {p : Prm} {s s' s'' : Pl} {g g' g'' : Geo} {w w' w'' : World} (h : Tr p s g w s' g' w') (h' : Tr p s' g' w' s'' g'' w'') : Tr p s g w s'' g'' w'' :=
  ⟨h'.r, h.o.trans h'.o (fun k hk hl => (h.m k hk).resolve_right (by omega)), fun k hk => by
    rcases h'.m k hk with h1 | h1
    · exact h.m k h1
    · have := h.o.size
      exact Or.inr (by omega), Nat.le_trans h.n h'.n, fun u hu => (h'.t u ⟨hu.1, Nat.le_trans hu.2 h.n⟩).trans (h.t u hu)⟩
theorem Tr.kept {p : Prm} {s s' : Pl} {g g' : Geo} {w w' w'' : World} (h : Tr p s g w s' g' w') (hg : w'.grownBy w'' none) : Tr p s g w s' g' w'' := ⟨h.r.kept hg, h.o.then0 hg, h.m, h.n, h.t⟩
theorem Tr.ahead {p : Prm} {s s' : Pl} {g g' : Geo} {w0 w w' : World} (hg : w0.grownBy w none) (h : Tr p s g w s' g' w') : Tr p s g w0 s' g' w' :=
  ⟨h.r, (only_none hg).trans h.o (fun _ h _ => h), fun k hk => (h.m k hk).imp id (fun h => by have := hg.size; omega), h.n, h.t⟩
theorem Tr.other {p : Prm} {s s' : Pl} {g g' : Geo} {w w' : World} (h : Tr p s g w s' g' w') {k : Nat} {o : Obj} (hk : w.heap[k]? = some o) (hn : ¬ Mine p s g k) : w'.heap[k]? = some o ∧ ¬ Mine p s' g' k :=
  ⟨h.o.block hk hn, fun hm => (h.m k hm).elim hn (fun hl => by have := heap_lt hk; omega)⟩
theorem Tr.to {p : Prm} {s0 s s' : Pl} {g0 g g' : Geo} {w0 w w' : World} (C : Nat → Nat → Nat → Prop) (own : Nat → Nat × Nat × Nat) (h0 : Tr p s0 g0 w0 s g w)
    (hO : Only (fun k => ∃ x y z, C x y z ∧ (ob p s g x y z).bs k) w w') (h1 : ∀ x y z, ¬ C x y z → ob p s' g' x y z = ob p s g x y z) (h2 : ∀ x y z, C x y z → (ob p s' g' x y z).ok w')
    (h3 : ∀ x y z k, C x y z → (ob p s' g' x y z).bs k → (ob p s g x y z).bs k ∨ (¬ Mine p s g k ∧ w0.heap.size ≤ k ∧ own k = (x, y, z)))
    (hn : s.nt ≤ s'.nt := by first | exact Nat.le_refl _ | omega) (hb : ∀ u, isT s u → g'.tb u = g.tb u := by intros; rfl) : Tr p s0 g0 w0 s' g' w' := by
  have h := h0.r
  have key : ∀ x y z k, (ob p s' g' x y z).bs k → (ob p s g x y z).bs k ∨ (¬ Mine p s g k ∧ w0.heap.size ≤ k ∧ own k = (x, y, z)) := fun x y z k hk => by
    by_cases hC : C x y z
    · exact h3 x y z k hC hk
    · rw [h1 x y z hC] at hk; exact Or.inl hk
  refine ⟨⟨fun x y z => ?_, fun x y z x' y' z' k hk hk' => ?_⟩, h0.o.trans hO (fun k hk hl => ?_), fun k hk => ?_, Nat.le_trans h0.n hn, fun u hu => (hb u ⟨hu.1, Nat.le_trans hu.2 h0.n⟩).trans (h0.t u hu)⟩
  · by_cases hC : C x y z
    · exact h2 x y z hC
    · rw [h1 x y z hC]
      refine (ob p s g x y z).fr w w' (h.o x y z) (fun k hk => hO.same (h.lt ⟨x, y, z, hk⟩) ?_)
      rintro ⟨a, b, c, hc, hb⟩
      obtain ⟨rfl, rfl, rfl⟩ := h.i _ _ _ _ _ _ k hk hb
      exact hC hc
  · rcases key _ _ _ k hk with a | ⟨a, _, b⟩
    · rcases key _ _ _ k hk' with c | ⟨c, _⟩
      · exact h.i _ _ _ _ _ _ k a c
      · exact absurd ⟨_, _, _, a⟩ c
    · rcases key _ _ _ k hk' with c | ⟨c, _, d⟩
      · exact absurd ⟨_, _, _, c⟩ a
      · rw [b] at d
        injection d with d1 d2
        injection d2 with d2 d3
        exact ⟨d1, d2, d3⟩
  · obtain ⟨x, y, z, _, hb⟩ := hk
    exact (h0.m k ⟨x, y, z, hb⟩).resolve_right (by omega)
  · obtain ⟨x, y, z, hk⟩ := hk
    rcases key x y z k hk with h | h
    · exact h0.m k ⟨x, y, z, h⟩
    · exact Or.inr h.2.1
theorem Rep.to {p : Prm} {s s' : Pl} {g g' : Geo} {w w' : World} (C : Nat → Nat → Nat → Prop) (own : Nat → Nat × Nat × Nat) (h : Rep p s g w)
    (hO : Only (fun k => ∃ x y z, C x y z ∧ (ob p s g x y z).bs k) w w') (h1 : ∀ x y z, ¬ C x y z → ob p s' g' x y z = ob p s g x y z) (h2 : ∀ x y z, C x y z → (ob p s' g' x y z).ok w')
    (h3 : ∀ x y z k, C x y z → (ob p s' g' x y z).bs k → (ob p s g x y z).bs k ∨ (w.heap.size ≤ k ∧ own k = (x, y, z)))
    (hn : s.nt ≤ s'.nt := by first | exact Nat.le_refl _ | omega) (hb : ∀ u, isT s u → g'.tb u = g.tb u := by intros; rfl) : Tr p s g w s' g' w' :=
  Tr.to C own (Tr.refl h) hO h1 h2 (fun x y z k hC hk => (h3 x y z k hC hk).imp id (fun hh => ⟨fun hm => by have := h.lt hm; omega, hh⟩)) hn hb
end Go.Proofs.YtnjiinbhbjpfkaaGreatDoor.F
