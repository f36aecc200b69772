/-
  The machine: begin, Call, Spawn.
-/
import Derived.Test.YtnjiinbhbjpfkaaGreatDoorGateM
namespace Go.Proofs.YtnjiinbhbjpfkaaGreatDoor.F
open Go.RowKit
theorem more_isT {s : Pl} {t : Nat} : isT s.more t ↔ isT s t ∨ t = s.nt + 1 := by
  show (1 ≤ t ∧ t ≤ s.nt + 1) ↔ (1 ≤ t ∧ t ≤ s.nt) ∨ t = s.nt + 1
  omega
theorem more_lnok {s : Pl} {x y : Nat} : lnok s.more x y ↔ lnok s x y ∨ (x = 5 ∧ y = s.nt + 1) := by
  unfold lnok
  rw [more_isT]
  constructor
  · rintro (h | h | h | ⟨h, h' | h'⟩)
    · exact Or.inl (Or.inl h)
    · exact Or.inl (Or.inr (Or.inl h))
    · exact Or.inl (Or.inr (Or.inr (Or.inl h)))
    · exact Or.inl (Or.inr (Or.inr (Or.inr ⟨h, h'⟩)))
    · exact Or.inr ⟨h, h'⟩
  · rintro ((h | h | h | ⟨h, h'⟩) | ⟨h, h'⟩)
    · exact Or.inl h
    · exact Or.inr (Or.inl h)
    · exact Or.inr (Or.inr (Or.inl h))
    · exact Or.inr (Or.inr (Or.inr ⟨h, Or.inl h'⟩))
    · exact Or.inr (Or.inr (Or.inr ⟨h, Or.inr h'⟩))
theorem LW.more {s : Pl} (h : LW s) (hn : s.nt + 1 ≤ 500000000) : LW s.more := by
  refine ⟨fun t ht x y hx => ?_, fun x y hl t ht => ?_, fun x y hl => ?_, hn⟩
  · by_cases e : t = s.nt + 1
    · subst e
      have : (s.more.T (s.nt + 1)).wh = none := by show (s.new.T (s.nt + 1)).wh = none; rw [new_T1]; rfl
      rw [this] at hx; cases hx
    · have ht' := (more_isT.1 ht).resolve_right e
      have hx' : (s.T t).wh = some (x, y) := by rw [← hx]; show _ = (s.new.T t).wh; rw [new_T s e]
      obtain ⟨k1, k2, k3⟩ := h.a t ht' x y hx'
      refine ⟨more_lnok.2 (Or.inl k1), ?_, k3⟩
      show t ∈ s.new.q x y
      rw [new_q s (fun e => by have := (lnok_t k1 e.1).2; omega)]
      exact k2
  · have ht' : t ∈ s.new.q x y := ht
    by_cases e : x = 5 ∧ y = s.nt + 1
    · rw [e.1, e.2, new_q5] at ht'; cases ht'
    · rw [new_q s e] at ht'
      obtain ⟨k1, k2⟩ := h.b x y ((more_lnok.1 hl).resolve_right e) t ht'
      refine ⟨more_isT.2 (Or.inl k1), ?_⟩
      show (s.new.T t).wh = _
      rw [new_T s (by have := k1.2; omega)]
      exact k2
  · show (s.new.q x y).Nodup
    by_cases e : x = 5 ∧ y = s.nt + 1
    · rw [e.1, e.2, new_q5]; exact List.nodup_nil
    · rw [new_q s e]; exact h.c x y ((more_lnok.1 hl).resolve_right e)
theorem push_wh (s : Pl) (t : Nat) (f : Frm) (u : Nat) : ((s.push t f).T u).wh = (s.T u).wh ∧ ((s.push t f).T u).lf = (s.T u).lf := by
  unfold Pl.push
  by_cases e : u = t
  · subst e; rw [setT_at]; exact ⟨rfl, rfl⟩
  · rw [setT_off _ _ e]; exact ⟨rfl, rfl⟩
theorem LW.push {s : Pl} (h : LW s) (t : Nat) (f : Frm) : LW (s.push t f) := h.same rfl rfl (fun u => (push_wh s t f u).1)
def Pl.born (s : Pl) (f : Nat) (u v : B.V) : Pl := (s.more.push (s.nt + 1) ⟨f, 0, reg0 u v, (0, 0, 0, 0)⟩).join1 2 0 (s.nt + 1)
theorem beginR {p : Prm} {s : Pl} {g : Geo} {w : World} {f : Nat} (u v : B.V) (h : Rep p s g w) (hP : PW p) (hW : LW s) (hnd : s.lv.Nodup) (hlt : ∀ u, u ∈ s.lv → isT s u) (ho : s.out.length = s.nt) (hf : f < p.nf) (hn : s.nt + 1 ≤ 500000000) :
    Calls Tryz.prog 60 #[P0 p.eb, .int .i64 f, vA u, vA v] w fun e w' => e = .returned (.int .i64 ((s.nt + 1 : Nat) : Int)) ∧ ∃ g', Tr p s g w (s.born f u v) g' w' ∧ ∀ a i, isT s a → g'.fb a i = g.fb a i := by
  have hM := hW.mw hlt
  have hlvl : s.lv.length ≤ 500000000 := Nat.le_trans (nodup_len s.nt s.lv hnd hlt) hW.d
  have h7 := h.row (x := 7) (y := 0) (by unfold rowx; omega) (vld_0 (by omega))
  have h6 := h.row (x := 6) (y := 0) (by unfold rowx; omega) (vld_0 (by omega))
  have htn : isT s.more (s.nt + 1) := more_isT.2 (Or.inr rfl)
  have hT0 : s.more.T (s.nt + 1) = tsk0 := new_T1 s
  refine beginL p.eb f s.out.length s.lv.length (g.ro 7 0).2 (g.ro 6 0).2 (s.nt + 1) (g.ro 7 0).1 (g.ro 6 0).1 u v s.out _ (engE p s g)
    (fun tb xt w7 => ∃ g7, Tr p s g w (s.more.push (s.nt + 1) ⟨f, 0, reg0 u v, (0, 0, 0, 0)⟩) g7 w7 ∧ g7.tb (s.nt + 1) = tb ∧ g7.xt (s.nt + 1) = xt ∧ ∀ a i, isT s a → g7.fb a i = g.fb a i)
    (fun w9 => ∃ g', Tr p s g w (s.born f u v) g' w9 ∧ ∀ a i, isT s a → g'.fb a i = g.fb a i) w h.E rfl rfl h7 h6 (by omega) (by omega) ?_ ?_
  · intro w6 tb xe xt a30 a29 c30 c29 hA
    have h3 := h.begin hM ho hA
    have htb : (g.more (s.nt + 1) tb xe xt (a30, c30) (a29, c29)).tb (s.nt + 1) = tb := (gnew_at g (s.nt + 1) tb xe xt).1
    have hxe : (g.more (s.nt + 1) tb xe xt (a30, c30) (a29, c29)).xe (s.nt + 1) = xe := (gnew_at g (s.nt + 1) tb xe xt).2.1
    have hxt : (g.more (s.nt + 1) tb xe xt (a30, c30) (a29, c29)).xt (s.nt + 1) = xt := (gnew_at g (s.nt + 1) tb xe xt).2.2
    have hcall := enterR (t := s.nt + 1) (f := f) (k := .func 120) (ka := #[]) (kc := #[P0 xe, P0 xt]) (0, 0, 0, 0) u v h3.r hP htn (by rw [hT0]; rfl) hf (by rw [hT0]; exact Nat.zero_le _) (by
      rw [hT0]
      show _ = Fv 120 #[P0 _, P0 _]
      rw [hxe, hxt])
    rw [htb] at hcall
    refine hcall.mono ?_
    rintro e w7 ⟨rfl, fb, rb, r, h7⟩
    have htb7 : ((g.more (s.nt + 1) tb xe xt (a30, c30) (a29, c29)).push (s.nt + 1) (s.more.T (s.nt + 1)).fr.length fb rb r).tb (s.nt + 1) = tb := htb
    have hxt7 := h7.r.xt (t := s.nt + 1) htn
    have hxe7 := h7.r.xe (t := s.nt + 1) htn
    refine ⟨rfl, ⟨_, h3.trans h7, htb, hxt, fun a i ha => ?_⟩, ?_, ?_, h7.r.E.lt⟩
    · exact (push_off _ (fun e => by have := ha.2; omega)).1
    · rw [htb7] at hxt7
      rw [← hxt]; exact hxt7
    · rw [← hxe]; exact hxe7
  · rintro tb xt w7 w8 ⟨g7, h7, rfl, rfl, hfb⟩ hg8
    have hL7 : LW (s.more.push (s.nt + 1) ⟨f, 0, reg0 u v, (0, 0, 0, 0)⟩) := (hW.more hn).push _ _
    have ht7 : isT (s.more.push (s.nt + 1) ⟨f, 0, reg0 u v, (0, 0, 0, 0)⟩) (s.nt + 1) := htn
    have hcall := joinR (x := 2) (y := 0) (t := s.nt + 1) (h7.r.kept hg8) hL7 (Or.inl ⟨rfl, rfl⟩) ht7 (by omega) (by rw [(push_wh _ _ _ _).1, hT0]; intro e; cases e)
    refine hcall.mono ?_
    rintro e w9 ⟨rfl, r, h9⟩
    have ht9 : isT ((s.more.push (s.nt + 1) ⟨f, 0, reg0 u v, (0, 0, 0, 0)⟩).join1 2 0 (s.nt + 1)) (s.nt + 1) := (isT_nt (join1_nt _ _ _ _)).2 ht7
    exact ⟨rfl, ⟨_, (h7.kept hg8).trans h9, hfb⟩, (h9.r.tk ht9).cell 0 (by omega), h9.r.xt ht9⟩
def RepQ (p : Prm) (s : Pl) (g : Geo) (w : World) : Prop := ∀ x y z, x ≠ 1 → (ob p s g x y z).ok w
def MineQ (p : Prm) (s : Pl) (g : Geo) (k : Nat) : Prop := ∃ x y z, x ≠ 1 ∧ (ob p s g x y z).bs k
theorem Rep.q {p : Prm} {s : Pl} {g : Geo} {w : World} (h : Rep p s g w) : RepQ p s g w := fun x y z _ => h.o x y z
theorem RepQ.lt {p : Prm} {s : Pl} {g : Geo} {w : World} (h : RepQ p s g w) {k : Nat} (hk : MineQ p s g k) : k < w.heap.size := by
  obtain ⟨x, y, z, hx, hk⟩ := hk
  exact (ob p s g x y z).lt w k (h x y z hx) hk
theorem RepQ.block {p : Prm} {s : Pl} {g : Geo} {w w' : World} (h : RepQ p s g w) (hk : ∀ k, MineQ p s g k → w'.heap[k]? = w.heap[k]?) : RepQ p s g w' :=
  fun x y z hx => (ob p s g x y z).fr w w' (h x y z hx) (fun k hb => hk k ⟨x, y, z, hx, hb⟩)
section
variable {p : Prm} {s : Pl} {g : Geo} {w : World} (h : RepQ p s g w)
include h
theorem RepQ.E : Full w p.eb 144 44 44 (engE p s g) := h 0 0 0 (by omega)
theorem RepQ.row {x y : Nat} (hx : rowx x) (hv : vld s x y 0 = true) : w.ownsRow 0 (rty x) (rsz x) (sl s g x y) (rlen s x y) (rcon s g x y) := by
  have := h x y 0 (by unfold rowx at hx; omega)
  rw [ob_v hv, obk_row hx] at this
  exact this
theorem RepQ.tk {t : Nat} (ht : isT s t) : Full w (g.tb t) 160 7 7 (tskE p s g t) := by
  have := h 11 t 0 (by omega)
  rw [ob_v (vld_t (by omega) ht)] at this
  exact this
theorem RepQ.fr {t i : Nat} (ht : isT s t) (hi : i < (s.T t).fr.length) : w.heap[g.fb t i]? = some (frO p g t i (frAt s t i)) := by
  have := h 13 t i (by omega)
  rw [ob_v (vld_f (by omega) ht hi)] at this
  exact this
theorem RepQ.rg {t i : Nat} (ht : isT s t) (hi : i < (s.T t).fr.length) : Full w (g.rb t i) 149 (p.rg (frAt s t i).f * 2) (p.rg (frAt s t i).f * 2) (regP (frAt s t i).R) := by
  have := h 14 t i (by omega)
  rw [ob_v (vld_f (by omega) ht hi)] at this
  exact this
end
def frsR (p : Prm) (s : Pl) (t k : Nat) : List B.V := (List.range k).flatMap (fun i => B.regs (frAt s t i).R (p.rg (frAt s t i).f))
theorem frsR_succ (p : Prm) (s : Pl) (t k : Nat) : frsR p s t (k + 1) = frsR p s t k ++ B.regs (frAt s t k).R (p.rg (frAt s t k).f) := by
  unfold frsR
  rw [List.range_succ, List.flatMap_append]
  simp
def tskR (p : Prm) (s : Pl) (t : Nat) : List B.V := frsR p s t (s.T t).fr.length
def lvR (p : Prm) (s : Pl) (l : List Nat) : List B.V := l.flatMap (tskR p s)
def rootsL (p : Prm) (s : Pl) : List B.V := lvR p s s.lv ++ s.kp
theorem vsd_same {w0 w : World} {cb rd sb n : Nat} {ad : Option Addr} {c : B.Cy} {l l' : List B.V} (h : Vsd w0 w cb rd sb n ad c l) (e : l = l') : Vsd w0 w cb rd sb n ad c l' := by rw [← e]; exact h
set_option maxRecDepth 100000 in
set_option maxHeartbeats 4000000 in
theorem tvisitR {p : Prm} {s : Pl} {g : Geo} {t : Nat} (ht : isT s t) (cb rd sb n : Nat) (ad : Option Addr) (c : B.Cy) (l0 : List B.V) (w0 w : World) (hQ : RepQ p s g w0) (hd : ∀ k, MineQ p s g k → ¬ CyB cb rd ad k) (hV : Vsd w0 w cb rd sb n ad c l0) (hn : n ≤ 200) (hs : c.st.length + B.cnt c.m n ≤ n) (hl0 : ∀ v, v ∈ l0 → v.1 ≠ 0 → v.1 ≤ n) (hR : ∀ v, v ∈ tskR p s t → v.1 ≠ 0 → v.1 ≤ n) (hm : (s.T t).fr.length ≤ 1000) (hrg : ∀ i, i < (s.T t).fr.length → p.rg (frAt s t i).f ≤ 8) :
    Calls Tryz.prog 118 #[P0 (g.tb t), .func (.func 188) #[P0 cb] #[]] w fun e w' => e = .returned (.tuple #[]) ∧ Vsd w0 w' cb rd sb n ad c (l0 ++ tskR p s t) := by
  have KA : Hid (∀ w', Only (CyB cb rd ad) w0 w' → RepQ p s g w') := fun w' h => hQ.block (fun k hk => h.same (hQ.lt hk) (hd k hk))
  have HR := hid hR
  have HL0 := hid hl0
  have HV := hid hV
  have HST := hid hs
  have HRG := hid hrg
  have HT := hid ht
  have hw := KA.out w HV.out.1
  have c1 := (hw.tk ht).cell 1 (by omega)
  have hc1 : tskE p s g t 1 = .slice (g.ro 12 t).1 (s.T t).fr.length (g.ro 12 t).2 := rfl
  rw [hc1] at c1
  have hrow := hw.row (x := 12) (y := t) (by unfold rowx; omega) (vld_t (by omega) ht)
  have hnil : (s.T t).fr.length ≠ 0 → ∃ kb ck, g.ro 12 t = (some ⟨kb, 0, none⟩, ck) := fun h0 => by
    obtain ⟨kb, ck, he⟩ := row_form hrow (by rw [rlen_12]; exact h0)
    unfold sl at he
    injection he with a b c
    exact ⟨kb, ck, Prod.ext a c⟩
  clear hw hrow hQ hd hR hl0 hV hs hrg ht hc1
  by_cases h0 : (s.T t).fr.length = 0
  · rw [h0] at c1
    have HH : Hid (tskR p s t = []) := by show _ = _; unfold tskR; rw [h0]; rfl
    generalize (g.ro 12 t).1 = ka at *
    generalize (g.ro 12 t).2 = kc at *
    clear hnil h0
    go_enter Tryz.func118, Tryz.ntmps118
    go_wp2_with fail
    go_loopw [13] (fun i wr => i = .int .i64 0 ∧ wr = w) (fun _ _ => 0)
    case atStart => exact ⟨rfl, rfl⟩
    case round =>
      obtain ⟨rfl, rfl⟩ := hrel
      go_wp2_with fail
      go_end0
      exact ⟨rfl, vsd_same HV.out (by rw [HH.out, List.append_nil])⟩
  · obtain ⟨kb, ck, hro⟩ := hnil h0
    rw [hro] at c1
    have c1' : w.cell? ⟨g.tb t, 1, none⟩ = some (.slice (some ⟨kb, 0, none⟩) (s.T t).fr.length ck) := c1
    have HRO := hid hro
    generalize hmm : (s.T t).fr.length = m at *
    have HMM := hid hmm
    clear hnil h0 c1 hro hmm
    go_enter Tryz.func118, Tryz.ntmps118
    go_wp2_with fail
    go_loopw [13] (fun i wr => ∃ k : Nat, k ≤ m ∧ i = .int .i64 k ∧ Hid (Vsd w0 wr cb rd sb n ad c (l0 ++ frsR p s t k))) (fun i _ => m - (intOf i).toNat)
    case atStart => exact ⟨0, by omega, rfl, vsd_same HV.out (by simp [frsR])⟩
    case round =>
      obtain ⟨k, hk, rfl, hX⟩ := hrel
      by_cases hlt : k < m
      · have hw := KA.out _ hX.out.1
        have hkl : k < (s.T t).fr.length := by rw [HMM.out]; exact hlt
        have hrow := hw.row (x := 12) (y := t) (by unfold rowx; omega) (vld_t (by omega) HT.out)
        have hr' : wr.ownsRow 0 184 1 (.slice (some ⟨kb, 0, none⟩) m ck) m (((List.range m).map (g.fb t)).map P0) := by
          have e1 : sl s g 12 t = .slice (some ⟨kb, 0, none⟩) m ck := by unfold sl; rw [HRO.out, rlen_12, HMM.out]
          rw [e1, rlen_12, rcon_12, HMM.out] at hrow
          exact hrow
        have d5 : wr.cell? ⟨kb, k, none⟩ = some (P0 (g.fb t k)) := (own_ge hr').2.2.2.2.2 k _ (by simp [hlt])
        have lkb := (own_ty hr' kb rfl).2.1
        obtain ⟨_, _, f2, _, _⟩ := frm_cells (hw.fr HT.out hkl)
        have lf := heap_lt (hw.fr HT.out hkl)
        have hnr := HRG.out k hlt
        have hki : (k : Int) < (m : Int) := by omega
        have HSC : Hid (frsR p s t (k + 1) = frsR p s t k ++ B.regs (frAt s t k).R (p.rg (frAt s t k).f)) := frsR_succ p s t k
        have HFA : Hid (∀ w', Only (CyB cb rd ad) w0 w' → Full w' (g.rb t k) 149 (p.rg (frAt s t k).f * 2) (p.rg (frAt s t k).f * 2) (regP (frAt s t k).R)) := fun w' ho => (KA.out w' ho).rg HT.out hkl
        have HME : Hid (∀ v, v ∈ frsR p s t k ++ B.regs (frAt s t k).R (p.rg (frAt s t k).f) → v.1 ≠ 0 → v.1 ≤ n) := fun v hv => HR.out v (by
          unfold tskR
          rw [HMM.out]
          rw [← frsR_succ] at hv
          unfold frsR at hv ⊢
          rw [List.mem_flatMap] at hv ⊢
          obtain ⟨i, hi, hv⟩ := hv
          exact ⟨i, List.mem_range.2 (by have := List.mem_range.1 hi; omega), hv⟩)
        generalize p.rg (frAt s t k).f = nr at *
        generalize (frAt s t k).R = R at *
        clear hw hrow hr' c1'
        go_wp2_with fail
        go_loopw [22] (fun i wr' => ∃ j : Nat, j ≤ nr ∧ i = .int .i64 j ∧ Hid (Vsd w0 wr' cb rd sb n ad c (l0 ++ frsR p s t k ++ B.regs R j))) (fun i _ => nr - (intOf i).toNat)
        case atStart => exact ⟨0, by omega, rfl, vsd_same hX.out (by simp [B.regs])⟩
        case round =>
          obtain ⟨j, hj, rfl, hX'⟩ := hrel
          by_cases hlt2 : j < nr
          · have hF := HFA.out _ hX'.out.1
            have r0 := hF.cell (j * 2) (by omega)
            have r1 := hF.cell (j * 2 + 1) (by omega)
            rw [regP_0] at r0
            rw [regP_1] at r1
            have lr := hF.lt
            clear hF
            have hji : (j : Int) < (nr : Int) := by omega
            go_wp2_with fail
            refine (vsd_step (R j) (hX'.out.kept (World.grownBy_alloc _ _ _)) hn HST.out (fun v hv h0 => ?_) (fun h0 => HME.out (R j) (List.mem_append_right _ (B.regs_mem.2 ⟨j, hlt2, rfl⟩)) h0)).mono ?_
            · rw [List.append_assoc, List.mem_append] at hv
              rcases hv with hv | hv
              · exact HL0.out v hv h0
              · refine HME.out v ?_ h0
                rw [List.mem_append] at hv ⊢
                refine hv.imp id (fun hv => ?_)
                obtain ⟨i, hi, rfl⟩ := B.regs_mem.1 hv
                exact B.regs_mem.2 ⟨i, by omega, rfl⟩
            rintro e w5 ⟨rfl, hV5⟩
            have KV5 := hid hV5
            clear hV5 r0 r1
            go_wp2_with fail
            go_roundw
            case rel =>
              first | exact ⟨j + 1, by omega, by go_num, by show Vsd _ _ _ _ _ _ _ _ (l0 ++ frsR p s t k ++ B.regs R (j + 1)); rw [B.regs_succ, ← List.append_assoc]; exact KV5.out⟩ | trace_state
            case measure => simp [intOf]; omega
          · obtain rfl : j = nr := by omega
            have hge : decide ((j : Int) < (j : Int)) = false := by simp
            go_wp2_with fail
            go_roundw
            case rel => exact ⟨k + 1, by omega, by go_num, vsd_same hX'.out (by rw [HSC.out, List.append_assoc])⟩
            case measure => simp [intOf]; omega
      · obtain rfl : k = m := by omega
        have hge : decide ((k : Int) < (k : Int)) = false := by simp
        go_wp2_with fail
        go_end0
        exact ⟨rfl, vsd_same hX.out (by unfold tskR; rw [HMM.out])⟩
theorem regs_list (l : List B.V) : B.regs (fun i => l.getD i (0, 0)) l.length = l := by
  apply List.ext_getElem?
  intro i
  unfold B.regs
  rw [List.getElem?_map]
  by_cases h : i < l.length
  · rw [List.getElem?_range h, List.getElem?_eq_getElem h]
    simp [List.getD_eq_getElem?_getD, List.getElem?_eq_getElem h]
  · rw [List.getElem?_eq_none (by simp; omega), List.getElem?_eq_none (by omega)]
    rfl
theorem lvR_snoc (p : Prm) (s : Pl) (l : List Nat) (t : Nat) : lvR p s (l ++ [t]) = lvR p s l ++ tskR p s t := by
  unfold lvR
  rw [List.flatMap_append]
  simp
theorem take_snoc {α : Type} (l : List α) (k : Nat) (x : α) (h : l[k]? = some x) : l.take (k + 1) = l.take k ++ [x] := by
  rw [List.take_add_one, h]; rfl
set_option maxRecDepth 100000 in
set_option maxHeartbeats 4000000 in
theorem visR {p : Prm} {s : Pl} {g : Geo} {w : World} (h : RepQ p s g w) (hlt : ∀ u, u ∈ s.lv → isT s u) (hll : s.lv.length ≤ 1000000000) (hkl : s.kp.length ≤ 1000000) (hfl : ∀ u, u ∈ s.lv → (s.T u).fr.length ≤ 1000) (hrg : ∀ u, u ∈ s.lv → ∀ i, i < (s.T u).fr.length → p.rg (frAt s u i).f ≤ 8) :
    Vis (MineQ p s g) w p.eb (rootsL p s).length (fun i => (rootsL p s).getD i (0, 0)) := by
  intro w1 cb rd sb n ad cap c hk hC hQ hn hs hR
  rw [regs_list]
  have hR' : ∀ v, v ∈ rootsL p s → v.1 ≠ 0 → v.1 ≤ n := fun v hv h0 => by
    obtain ⟨i, hi, rfl⟩ := List.mem_iff_getElem.1 hv
    have := hR i hi
    simp only [] at this
    have e : (rootsL p s).getD i (0, 0) = (rootsL p s)[i] := by rw [List.getD_eq_getElem?_getD, List.getElem?_eq_getElem hi]; rfl
    rw [e] at this
    exact this h0
  have hq1 := h.block hk
  have KA : Hid (∀ w', Only (CyB cb rd ad) w1 w' → RepQ p s g w') := fun w' h => hq1.block (fun k hk => h.same (hq1.lt hk) (hQ k hk))
  have HV0 := hid (vsd_nil hC)
  have HR := hid hR'
  have HLT := hid hlt
  have HST := hid hs
  have HTV : Hid (∀ t, t ∈ s.lv → ∀ (l0 : List B.V) (w' : World), Vsd w1 w' cb rd sb n ad c l0 → (∀ v, v ∈ l0 → v.1 ≠ 0 → v.1 ≤ n) → Calls Tryz.prog 118 #[P0 (g.tb t), .func (.func 188) #[P0 cb] #[]] w' fun e w2 => e = .returned (.tuple #[]) ∧ Vsd w1 w2 cb rd sb n ad c (l0 ++ tskR p s t)) := fun t ht l0 w' hV hl0 =>
    tvisitR (hlt t ht) cb rd sb n ad c l0 w1 w' hq1 hQ hV hn hs hl0 (fun v hv => hR' v (by unfold rootsL lvR; rw [List.mem_append, List.mem_flatMap]; exact Or.inl ⟨t, ht, hv⟩)) (hfl t ht) (hrg t ht)
  have HMT : Hid (∀ k v, v ∈ lvR p s (s.lv.take k) → v.1 ≠ 0 → v.1 ≤ n) := fun k v hv => hR' v (by
    unfold lvR at hv
    unfold rootsL lvR
    rw [List.mem_flatMap] at hv
    obtain ⟨t, ht, hv⟩ := hv
    rw [List.mem_append, List.mem_flatMap]
    exact Or.inl ⟨t, List.mem_of_mem_take ht, hv⟩)
  have HMK : Hid (∀ j v, v ∈ lvR p s s.lv ++ s.kp.take j → v.1 ≠ 0 → v.1 ≤ n) := fun j v hv => hR' v (by
    unfold rootsL
    rw [List.mem_append] at hv ⊢
    exact hv.imp id List.mem_of_mem_take)
  have c29 := hq1.E.cell 29 (by omega)
  have e29 : engE p s g 29 = .slice (g.ro 6 0).1 s.lv.length (g.ro 6 0).2 := rfl
  rw [e29] at c29
  have le := hq1.E.lt
  clear h hk hC hQ hs hR hR' hq1 hlt hfl hrg e29
  go_enter Tryz.func59, Tryz.ntmps59
  go_wp2_with fail
  generalize hla : (g.ro 6 0).1 = la at *
  generalize hlc : (g.ro 6 0).2 = lc at *
  generalize hln : s.lv.length = ln at *
  have HLN := hid (And.intro hla (And.intro hlc hln))
  clear hla hlc hln
  go_loopw [13] (fun i wr => ∃ k : Nat, k ≤ ln ∧ i = .int .i64 k ∧ Hid (Vsd w1 wr cb rd sb n ad c (lvR p s (s.lv.take k)))) (fun i _ => ln - (intOf i).toNat)
  case atStart => exact ⟨0, by omega, rfl, vsd_same HV0.out (by simp [lvR])⟩
  case round =>
    obtain ⟨k, hk, rfl, hX⟩ := hrel
    by_cases hlt : k < ln
    · have hw := KA.out _ hX.out.1
      have hrow := hw.row (x := 6) (y := 0) (by unfold rowx; omega) (vld_0 (by omega))
      have hlen : rlen s 6 0 = ln := HLN.out.2.2
      obtain ⟨lb, lc', he⟩ := row_form hrow (by rw [hlen]; omega)
      have hla : la = some ⟨lb, 0, none⟩ := by
        unfold sl at he
        injection he with a b c
        rw [← HLN.out.1]; exact a
      obtain ⟨t, htk⟩ : ∃ t, s.lv[k]? = some t := ⟨_, List.getElem?_eq_getElem (by rw [HLN.out.2.2]; exact hlt)⟩
      have hmem : t ∈ s.lv := List.mem_of_getElem? htk
      rw [he, hlen] at hrow
      have hrow2 : wr.ownsRow 0 155 1 (.slice (some ⟨lb, 0, none⟩) ln lc') ln ((s.lv.map g.tb).map P0) := hrow
      have d5 : wr.cell? ⟨lb, k, none⟩ = some (P0 (g.tb t)) := (own_ge hrow2).2.2.2.2.2 k _ (by simp [htk])
      have lkb := (own_ty hrow2 lb rfl).2.1
      subst hla
      have hki : (k : Int) < (ln : Int) := by omega
      have HTK : Hid (lvR p s (s.lv.take (k + 1)) = lvR p s (s.lv.take k) ++ tskR p s t) := by show _ = _; rw [take_snoc _ _ _ htk, lvR_snoc]
      have HME := hid hmem
      clear hw hrow hrow2 he htk hmem hlen
      go_wp2_with fail
      refine (HTV.out t HME.out _ _ hX.out (HMT.out k)).mono ?_
      rintro e w5 ⟨rfl, hV5⟩
      have KV5 := hid hV5
      clear hV5
      go_wp2_with fail
      go_roundw
      case rel => exact ⟨k + 1, by omega, by go_num, vsd_same KV5.out HTK.out.symm⟩
      case measure => simp [intOf]; omega
    · obtain rfl : k = ln := by omega
      have hge : decide ((k : Int) < (k : Int)) = false := by simp
      have hw := KA.out _ hX.out.1
      have c31 := hw.E.cell 31 (by omega)
      have e31 : engE p s g 31 = .slice (g.ro 8 0).1 s.kp.length (g.ro 8 0).2 := rfl
      rw [e31] at c31
      have le' := hw.E.lt
      have HX1 : Hid (Vsd w1 wr cb rd sb n ad c (lvR p s s.lv)) := vsd_same hX.out (by rw [← HLN.out.2.2, List.take_length])
      generalize hka : (g.ro 8 0).1 = ka at *
      generalize hkc : (g.ro 8 0).2 = kc at *
      generalize hkn : s.kp.length = kn at *
      have HKN := hid (And.intro hka (And.intro hkc hkn))
      clear hka hkc hkn hw c29 e31
      go_wp2_with fail
      go_loopw [26] (fun i wr' => ∃ j : Nat, j ≤ kn ∧ i = .int .i64 j ∧ Hid (Vsd w1 wr' cb rd sb n ad c (lvR p s s.lv ++ s.kp.take j))) (fun i _ => kn - (intOf i).toNat)
      case atStart => exact ⟨0, by omega, rfl, vsd_same HX1.out (by simp)⟩
      case round =>
        obtain ⟨j, hj, rfl, hX'⟩ := hrel
        by_cases hlt2 : j < kn
        · have hw := KA.out _ hX'.out.1
          have hrow := hw.row (x := 8) (y := 0) (by unfold rowx; omega) (vld_0 (by omega))
          have hlen : rlen s 8 0 = kn := HKN.out.2.2
          obtain ⟨lb, lc', he⟩ := row_form hrow (by rw [hlen]; omega)
          have hla : ka = some ⟨lb, 0, none⟩ := by
            unfold sl at he
            injection he with a b c
            rw [← HKN.out.1]; exact a
          obtain ⟨v, hvk⟩ : ∃ v, s.kp[j]? = some v := ⟨_, List.getElem?_eq_getElem (by rw [HKN.out.2.2]; exact hlt2)⟩
          rw [he, hlen] at hrow
          have hrow2 : wr.ownsRow 0 149 2 (.slice (some ⟨lb, 0, none⟩) kn lc') kn (valL s.kp) := hrow
          obtain ⟨r0, r1⟩ := (own2_ge hrow2).2.2.2.2.2 j v hvk
          have lkb := (own_ty hrow2 lb rfl).2.1
          subst hla
          have hji : (j : Int) < (kn : Int) := by omega
          have HTK : Hid (lvR p s s.lv ++ s.kp.take (j + 1) = lvR p s s.lv ++ s.kp.take j ++ [v]) := by show _ = _; rw [take_snoc _ _ _ hvk, List.append_assoc]
          have HME : Hid (v.1 ≠ 0 → v.1 ≤ n) := HMK.out (j + 1) v (by rw [HTK.out]; simp)
          clear hw hrow hrow2 he hvk hlen
          go_wp2_with fail
          refine (vsd_step v (hX'.out.kept (World.grownBy_alloc _ _ _)) hn HST.out (HMK.out j) HME.out).mono ?_
          rintro e w5 ⟨rfl, hV5⟩
          have KV5 := hid hV5
          clear hV5 r0 r1
          go_wp2_with fail
          go_roundw
          case rel => exact ⟨j + 1, by omega, by go_num, vsd_same KV5.out HTK.out.symm⟩
          case measure => simp [intOf]; omega
        · obtain rfl : j = kn := by omega
          have hge2 : decide ((j : Int) < (j : Int)) = false := by simp
          go_wp2_with fail
          go_end0
          exact ⟨rfl, vsd_same hX'.out (by unfold rootsL; rw [← HKN.out.2.2, List.take_length])⟩
end Go.Proofs.YtnjiinbhbjpfkaaGreatDoor.F
namespace Go.Proofs.YtnjiinbhbjpfkaaGreatDoor
open Go.RowKit
theorem true_any (op a b c fb tb eb : Nat) (w : World) : Calls Tryz.prog 96 #[stepV op a b c fb tb eb] w fun e w' => e = .returned (.bool true) ∧ w.grownBy w' none := by
  go_enter Tryz.func96, Tryz.ntmps96
  go_wp2_with fail
  go_ret
  exact ⟨rfl, World.grownBy_alloc _ _ _⟩
set_option maxRecDepth 100000 in
theorem zero_any (op a b c fb tb eb cb L nx rb nr : Nat) (back : Value) (R : Nat → B.V) (ha : a < nr) (w : World) (hF : Fr w fb cb L nx rb nr back R) : Calls Tryz.prog 97 #[stepV op a b c fb tb eb] w fun e w' => e = .returned (.bool (decide (R a = (0, 0)))) ∧ w.grownBy w' none := by
  have KF := hid hF
  clear hF
  have heq := eqV (R a) (0, 0)
  generalize decide (R a = (0, 0)) = d at *
  go_enter Tryz.func97, Tryz.ntmps97
  go_wp2_with fail
  refine (a_any op a b c fb tb eb cb L nx rb nr back R _ (KF.out.kept (World.grownBy_alloc _ _ _)).1 (KF.out.kept (World.grownBy_alloc _ _ _)).2.1 ha).mono ?_
  rintro e w1 ⟨rfl, hg1⟩
  have KG1 := hid (grown_trans (World.grownBy_alloc w _ none) hg1)
  clear hg1
  go_wp2_with fail
  refine (number_any 0 _).mono ?_
  rintro e w2 ⟨rfl, rfl⟩
  go_wp2_with fail
  go_ret
  exact ⟨rfl, grown_alloc KG1.out _⟩
set_option maxRecDepth 100000 in
set_option maxHeartbeats 2000000 in
theorem goes89_any (op a b c fb tb eb cb L nx rb nr vb : Nat) (back : Value) (R : Nat → B.V) (d : Bool) (y : Nat) (hy : Hid (y = if d = true then 256 * b + c else nx)) (hb : b < 256) (hc : c < 256) (w : World) (hF : Fr w fb cb L nx rb nr back R) (hv : w.cell? ⟨vb, 0, none⟩ = some (Fv 96 #[])) (hvb : vb < w.heap.size)
    (hn : Hid (∀ w', w.grownBy w' none → Calls Tryz.prog 96 #[stepV op a b c fb tb eb] w' fun e w'' => e = .returned (.bool d) ∧ w'.grownBy w'' none)) :
    Calls Tryz.prog 153 #[stepV op a b c fb tb eb, P0 vb] w fun e w' => e = .returned (.tuple #[]) ∧ w.grownBy w' (some fb) ∧ Fr w' fb cb L y rb nr back R := by
  have KF := hid hF
  clear hF
  have ht := target_any op a b c hb hc
  go_enter Tryz.func153, Tryz.ntmps153
  go_wp2_with fail
  refine (hn.out _ (World.grownBy_alloc _ _ _)).mono ?_
  rintro e w1 ⟨rfl, hg1⟩
  have KG1 := hid (grown_trans (World.grownBy_alloc w _ none) hg1)
  have HX1 := hid (grown_out hg1 (s7_new w op a b c fb tb eb))
  clear hg1
  have HF1 := hid (KF.out.kept KG1.out)
  cases d
  · have hy' : y = nx := by have := hy.out; simpa using this
    subst hy'
    go_wp2_with fail
    go_end0
    exact ⟨rfl, grown_of_none KG1.out, HF1.out⟩
  · have hy' : 256 * b + c = y := by have := hy.out; simpa using this.symm
    rw [hy'] at ht
    clear hy hy'
    have HT := hid ht
    clear ht
    obtain ⟨x0, x1, x2, x3, x4, x5, x6⟩ := s7_of HX1.out
    have lx := heap_lt HX1.out
    go_wp2_with fail
    go_region_with (go_at_call 154; refine (HT.out w1.drew).mono ?_; rintro e w2 ⟨rfl, hg2'⟩; have hg2 : w1.grownBy w2 none := ⟨hg2'.os, hg2'.tape, hg2'.output, hg2'.size, hg2'.block⟩; clear hg2'; have HF2 := hid (HF1.out.kept hg2); have HG2 := hid (grown_trans KG1.out hg2); obtain ⟨x0, x1, x2, x3, x4, x5, x6⟩ := s7_of (grown_out hg2 HX1.out); obtain ⟨_, f1, _, _, z1⟩ := frm_cells HF2.out.1; have lf := heap_lt HF2.out.1; clear hg2)
    all_goals
      go_wp2_with fail
      go_end0
      refine ⟨rfl, grown_setCell (grown_of_none HG2.out) (Or.inl rfl) _, frm_next HF2.out.1 y, HF2.out.2.1.off (fun e => HF2.out.2.2 e.symm), HF2.out.2.2⟩
set_option maxRecDepth 100000 in
theorem actj89_any (op a b c fb tb eb cb L nx rb nr wb vb : Nat) (back : Value) (R : Nat → B.V) (d : Bool) (y : Nat) (hy : Hid (y = if d = true then 256 * b + c else nx)) (hb : b < 256) (hc : c < 256) (w : World) (hF : Fr w fb cb L nx rb nr back R) (hw : w.cell? ⟨wb, 0, none⟩ = some (Fv 153 #[P0 vb])) (hv : w.cell? ⟨vb, 0, none⟩ = some (Fv 96 #[])) (hwb : wb < w.heap.size) (hvb : vb < w.heap.size)
    (hn : Hid (∀ w', w.grownBy w' none → Calls Tryz.prog 96 #[stepV op a b c fb tb eb] w' fun e w'' => e = .returned (.bool d) ∧ w'.grownBy w'' none)) :
    Calls Tryz.prog 163 #[stepV op a b c fb tb eb, P0 wb] w fun e w' => e = .returned (.int .i64 0) ∧ w.grownBy w' (some fb) ∧ Fr w' fb cb L y rb nr back R := by
  have KF := hid hF
  clear hF
  go_enter Tryz.func163, Tryz.ntmps163
  go_wp2_with fail
  refine (goes89_any op a b c fb tb eb cb L nx rb nr vb back R d y hy hb hc _ (KF.out.kept (World.grownBy_alloc _ _ _)) (by simp [go_sem, hvb, hv]) (by simp; omega) (fun w' hg => hn.out w' (grown_trans (World.grownBy_alloc _ _ _) hg))).mono ?_
  rintro e w1 ⟨rfl, hg1, hF1⟩
  have KF1 := hid hF1
  have KG1 : Hid (w.grownBy w1 (some fb)) := grown_trans (World.grownBy_alloc _ _ _) hg1
  clear hF1 hg1
  go_wp2_with fail
  go_ret
  exact ⟨rfl, KG1.out, KF1.out⟩
set_option maxRecDepth 100000 in
set_option maxHeartbeats 2000000 in
theorem goes90_any (op a b c fb tb eb cb L nx rb nr vb : Nat) (back : Value) (R : Nat → B.V) (d : Bool) (y : Nat) (hy : Hid (y = if d = true then 256 * b + c else nx)) (hb : b < 256) (hc : c < 256) (w : World) (hF : Fr w fb cb L nx rb nr back R) (hv : w.cell? ⟨vb, 0, none⟩ = some (Fv 97 #[])) (hvb : vb < w.heap.size)
    (hn : Hid (∀ w', w.grownBy w' none → Calls Tryz.prog 97 #[stepV op a b c fb tb eb] w' fun e w'' => e = .returned (.bool d) ∧ w'.grownBy w'' none)) :
    Calls Tryz.prog 153 #[stepV op a b c fb tb eb, P0 vb] w fun e w' => e = .returned (.tuple #[]) ∧ w.grownBy w' (some fb) ∧ Fr w' fb cb L y rb nr back R := by
  have KF := hid hF
  clear hF
  have ht := target_any op a b c hb hc
  go_enter Tryz.func153, Tryz.ntmps153
  go_wp2_with fail
  refine (hn.out _ (World.grownBy_alloc _ _ _)).mono ?_
  rintro e w1 ⟨rfl, hg1⟩
  have KG1 := hid (grown_trans (World.grownBy_alloc w _ none) hg1)
  have HX1 := hid (grown_out hg1 (s7_new w op a b c fb tb eb))
  clear hg1
  have HF1 := hid (KF.out.kept KG1.out)
  cases d
  · have hy' : y = nx := by have := hy.out; simpa using this
    subst hy'
    go_wp2_with fail
    go_end0
    exact ⟨rfl, grown_of_none KG1.out, HF1.out⟩
  · have hy' : 256 * b + c = y := by have := hy.out; simpa using this.symm
    rw [hy'] at ht
    clear hy hy'
    have HT := hid ht
    clear ht
    obtain ⟨x0, x1, x2, x3, x4, x5, x6⟩ := s7_of HX1.out
    have lx := heap_lt HX1.out
    go_wp2_with fail
    go_region_with (go_at_call 154; refine (HT.out w1.drew).mono ?_; rintro e w2 ⟨rfl, hg2'⟩; have hg2 : w1.grownBy w2 none := ⟨hg2'.os, hg2'.tape, hg2'.output, hg2'.size, hg2'.block⟩; clear hg2'; have HF2 := hid (HF1.out.kept hg2); have HG2 := hid (grown_trans KG1.out hg2); obtain ⟨x0, x1, x2, x3, x4, x5, x6⟩ := s7_of (grown_out hg2 HX1.out); obtain ⟨_, f1, _, _, z1⟩ := frm_cells HF2.out.1; have lf := heap_lt HF2.out.1; clear hg2)
    all_goals
      go_wp2_with fail
      go_end0
      refine ⟨rfl, grown_setCell (grown_of_none HG2.out) (Or.inl rfl) _, frm_next HF2.out.1 y, HF2.out.2.1.off (fun e => HF2.out.2.2 e.symm), HF2.out.2.2⟩
set_option maxRecDepth 100000 in
theorem actj90_any (op a b c fb tb eb cb L nx rb nr wb vb : Nat) (back : Value) (R : Nat → B.V) (d : Bool) (y : Nat) (hy : Hid (y = if d = true then 256 * b + c else nx)) (hb : b < 256) (hc : c < 256) (w : World) (hF : Fr w fb cb L nx rb nr back R) (hw : w.cell? ⟨wb, 0, none⟩ = some (Fv 153 #[P0 vb])) (hv : w.cell? ⟨vb, 0, none⟩ = some (Fv 97 #[])) (hwb : wb < w.heap.size) (hvb : vb < w.heap.size)
    (hn : Hid (∀ w', w.grownBy w' none → Calls Tryz.prog 97 #[stepV op a b c fb tb eb] w' fun e w'' => e = .returned (.bool d) ∧ w'.grownBy w'' none)) :
    Calls Tryz.prog 163 #[stepV op a b c fb tb eb, P0 wb] w fun e w' => e = .returned (.int .i64 0) ∧ w.grownBy w' (some fb) ∧ Fr w' fb cb L y rb nr back R := by
  have KF := hid hF
  clear hF
  go_enter Tryz.func163, Tryz.ntmps163
  go_wp2_with fail
  refine (goes90_any op a b c fb tb eb cb L nx rb nr vb back R d y hy hb hc _ (KF.out.kept (World.grownBy_alloc _ _ _)) (by simp [go_sem, hvb, hv]) (by simp; omega) (fun w' hg => hn.out w' (grown_trans (World.grownBy_alloc _ _ _) hg))).mono ?_
  rintro e w1 ⟨rfl, hg1, hF1⟩
  have KF1 := hid hF1
  have KG1 : Hid (w.grownBy w1 (some fb)) := grown_trans (World.grownBy_alloc _ _ _) hg1
  clear hF1 hg1
  go_wp2_with fail
  go_ret
  exact ⟨rfl, KG1.out, KF1.out⟩
theorem sub_any (x y : Int) (w : World) : Calls Tryz.prog 89 #[.int .i64 x, .int .i64 y] w fun e w' => e = .returned (.int .i64 (B.wrap (x - y))) ∧ w' = w := by
  have hw : IntKind.i64.wrap (x - y) = B.wrap (x - y) := by simp [IntKind.wrap, IntKind.bits, IntKind.signed, B.wrap]; omega
  go_enter Tryz.func89, Tryz.ntmps89
  go_wp2_with fail
  go_ret
  exact ⟨by rw [← hw]; rfl, rfl⟩
set_option maxRecDepth 100000 in
set_option maxHeartbeats 2000000 in
theorem act3_any (op a b c fb tb eb cb L nx rb nr vb : Nat) (back : Value) (R : Nat → B.V) (ha : a < nr) (hb : b < nr) (hc : c < nr) (w : World) (hF : Fr w fb cb L nx rb nr back R) (hv : w.heap[vb]? = some (.cells #[Fv 89 #[]] 190 (0, 0))) :
    Calls Tryz.prog 151 #[stepV op a b c fb tb eb, P0 vb] w fun e w' => (((R b).1 = 0 ∧ (R c).1 = 0) ∧ e = .returned (.int .i64 0) ∧ w.grownBy w' (some rb) ∧ Fr w' fb cb L nx rb nr back (B.set R a (0, B.wrap ((R b).2 - (R c).2)))) ∨ (¬ ((R b).1 = 0 ∧ (R c).1 = 0) ∧ e = .returned (.int .i64 1) ∧ w.grownBy w' none) := by
  have KF := hid hF
  have HV := hid hv
  clear hF hv
  go_enter Tryz.func151, Tryz.ntmps151
  go_wp2_with fail
  have HX1 := hid (s7_new w op a b c fb tb eb)
  have KG1 := hid (World.grownBy_alloc w (.cells #[.int .u8 (op : Int), .int .u8 (a : Int), .int .u8 (b : Int), .int .u8 (c : Int), P0 fb, P0 tb, P0 eb] 186) none)
  refine (b_any op a b c fb tb eb cb L nx rb nr back R _ (KF.out.kept KG1.out).1 (KF.out.kept KG1.out).2.1 hb).mono ?_
  rintro e w1 ⟨rfl, hg1⟩
  have KG2 := hid (grown_trans KG1.out hg1)
  have HX2 := hid (grown_out hg1 HX1.out)
  clear hg1 HX1 KG1
  go_wp2_with fail
  refine (vnumber_any (R b) _).mono ?_
  rintro e w2 ⟨rfl, hg2⟩
  have KG3 := hid (grown_trans KG2.out hg2)
  have HX3 := hid (grown_out hg2 HX2.out)
  clear hg2 HX2 KG2
  obtain ⟨x0, x1, x2, x3, x4, x5, x6⟩ := s7_of HX3.out
  have lx := heap_lt HX3.out
  go_wp2_with fail
  refine (c_any op a b c fb tb eb cb L nx rb nr back R w2 (KF.out.kept KG3.out).1 (KF.out.kept KG3.out).2.1 hc).mono ?_
  rintro e w3 ⟨rfl, hg3⟩
  have KG4 := hid (grown_trans KG3.out hg3)
  have HX4 := hid (grown_out hg3 HX3.out)
  clear hg3 HX3 KG3 x0 x1 x2 x3 x4 x5 x6 lx
  go_wp2_with fail
  refine (vnumber_any (R c) _).mono ?_
  rintro e w4 ⟨rfl, hg4⟩
  have KG5 := hid (grown_trans KG4.out hg4)
  have HX5 := hid (grown_out hg4 HX4.out)
  clear hg4 HX4 KG4
  obtain ⟨x0, x1, x2, x3, x4, x5, x6⟩ := s7_of HX5.out
  have lx := heap_lt HX5.out
  have hv5 := grown_out KG5.out HV.out
  have v5 : w4.cell? ⟨vb, 0, none⟩ = some (Fv 89 #[]) := by simp [World.cell?, hv5]
  have lv := heap_lt hv5
  clear hv5
  by_cases h1 : (R b).1 = 0
  · by_cases h2 : (R c).1 = 0
    · have d1 : decide ((R b).1 = 0) = true := by simpa using h1
      have d2 : decide ((R c).1 = 0) = true := by simpa using h2
      simp only [d1, d2]
      have HP := hid (And.intro h1 h2)
      clear h1 h2 d1 d2
      generalize hyy : B.wrap ((R b).2 - (R c).2) = y
      have hs := sub_any (R b).2 (R c).2
      rw [hyy] at hs
      have HS := hid hs
      have HYY := hid hyy
      clear hs hyy
      go_wp2_with fail
      go_region_with (first | (go_at_call 89; refine (HS.out _).mono ?_; rintro e w5 ⟨rfl, rfl⟩) | (go_at_call 61; refine (number_any y _).mono ?_; rintro e w6 ⟨rfl, rfl⟩) | (go_at_call 149; refine (set_any op a b c fb tb eb cb L nx rb nr back R (0, y) _ (KF.out.kept (by repeat (first | exact KG5.out | refine grown_drew ?_ | refine grown_alloc ?_ _))).1 (KF.out.kept (by repeat (first | exact KG5.out | refine grown_drew ?_ | refine grown_alloc ?_ _))).2.1 ha).mono ?_; rintro e w7 ⟨rfl, hg7, hf7⟩))
      all_goals
        have hg : w.grownBy w7 (some rb) := grown_trans (by repeat (first | exact grown_of_none KG5.out | refine grown_drew ?_ | refine grown_alloc ?_ _)) hg7
        have HH := hid (And.intro hg (And.intro (grown_heap hg KF.out.1 (by intro e; injection e with e; exact KF.out.2.2 e)) hf7))
        clear hg hg7 hf7
        go_wp2_with fail
        go_ret
        exact Or.inl ⟨HP.out, rfl, HH.out.1, HH.out.2.1, by rw [HYY.out]; exact HH.out.2.2, KF.out.2.2⟩
    · have d1 : decide ((R b).1 = 0) = true := by simpa using h1
      have d2 : decide ((R c).1 = 0) = false := by simpa using h2
      simp only [d1, d2]
      have HP := hid (show ¬ ((R b).1 = 0 ∧ (R c).1 = 0) from fun h => h2 h.2)
      clear h1 h2 d1 d2
      go_wp2_with fail
      go_ret
      exact Or.inr ⟨HP.out, rfl, KG5.out⟩
  · have d1 : decide ((R b).1 = 0) = false := by simpa using h1
    simp only [d1]
    have HP := hid (show ¬ ((R b).1 = 0 ∧ (R c).1 = 0) from fun h => h1 h.1)
    clear h1 d1
    go_wp2_with fail
    go_ret
    exact Or.inr ⟨HP.out, rfl, KG5.out⟩
theorem add_any (x y : Int) (w : World) : Calls Tryz.prog 88 #[.int .i64 x, .int .i64 y] w fun e w' => e = .returned (.int .i64 (B.wrap (x + y))) ∧ w' = w := by
  have hw : IntKind.i64.wrap (x + y) = B.wrap (x + y) := by simp [IntKind.wrap, IntKind.bits, IntKind.signed, B.wrap]; omega
  go_enter Tryz.func88, Tryz.ntmps88
  go_wp2_with fail
  go_ret
  exact ⟨by rw [← hw]; rfl, rfl⟩
theorem mul_any (x y : Int) (w : World) : Calls Tryz.prog 90 #[.int .i64 x, .int .i64 y] w fun e w' => e = .returned (.int .i64 (B.wrap (x * y))) ∧ w' = w := by
  have hw : IntKind.i64.wrap (x * y) = B.wrap (x * y) := by
    generalize x * y = z
    simp [IntKind.wrap, IntKind.bits, IntKind.signed, B.wrap]; omega
  go_enter Tryz.func90, Tryz.ntmps90
  go_wp2_with fail
  go_ret
  exact ⟨by rw [← hw]; rfl, rfl⟩
def lessV (x y : Int) : Int := if x < y then 1 else 0
theorem less_any (x y : Int) (w : World) : Calls Tryz.prog 91 #[.int .i64 x, .int .i64 y] w fun e w' => e = .returned (.int .i64 (lessV x y)) ∧ w' = w := by
  have key : ∀ d : Bool, decide (x < y) = d → Calls Tryz.prog 91 #[.int .i64 x, .int .i64 y] w fun e w' => e = .returned (.int .i64 (if d = true then 1 else 0)) ∧ w' = w := by
    intro d hd
    have HO := hid (oneIf_any d)
    generalize hz : (if d = true then (1 : Int) else 0) = z at *
    clear hz
    go_enter Tryz.func91, Tryz.ntmps91
    go_wp2_with fail
    refine (HO.out _).mono ?_
    rintro e w1 ⟨rfl, rfl⟩
    go_wp2_with fail
    go_ret
    exact ⟨rfl, rfl⟩
  have := key (decide (x < y)) rfl
  have e : lessV x y = if decide (x < y) = true then 1 else 0 := by unfold lessV; by_cases h : x < y <;> simp [h]
  rw [e]
  exact this
set_option maxRecDepth 100000 in
set_option maxHeartbeats 2000000 in
theorem act2_any (op a b c fb tb eb cb L nx rb nr vb : Nat) (back : Value) (R : Nat → B.V) (ha : a < nr) (hb : b < nr) (hc : c < nr) (w : World) (hF : Fr w fb cb L nx rb nr back R) (hv : w.heap[vb]? = some (.cells #[Fv 88 #[]] 190 (0, 0))) :
    Calls Tryz.prog 151 #[stepV op a b c fb tb eb, P0 vb] w fun e w' => (((R b).1 = 0 ∧ (R c).1 = 0) ∧ e = .returned (.int .i64 0) ∧ w.grownBy w' (some rb) ∧ Fr w' fb cb L nx rb nr back (B.set R a (0, B.wrap ((R b).2 + (R c).2)))) ∨ (¬ ((R b).1 = 0 ∧ (R c).1 = 0) ∧ e = .returned (.int .i64 1) ∧ w.grownBy w' none) := by
  have KF := hid hF
  have HV := hid hv
  clear hF hv
  go_enter Tryz.func151, Tryz.ntmps151
  go_wp2_with fail
  have HX1 := hid (s7_new w op a b c fb tb eb)
  have KG1 := hid (World.grownBy_alloc w (.cells #[.int .u8 (op : Int), .int .u8 (a : Int), .int .u8 (b : Int), .int .u8 (c : Int), P0 fb, P0 tb, P0 eb] 186) none)
  refine (b_any op a b c fb tb eb cb L nx rb nr back R _ (KF.out.kept KG1.out).1 (KF.out.kept KG1.out).2.1 hb).mono ?_
  rintro e w1 ⟨rfl, hg1⟩
  have KG2 := hid (grown_trans KG1.out hg1)
  have HX2 := hid (grown_out hg1 HX1.out)
  clear hg1 HX1 KG1
  go_wp2_with fail
  refine (vnumber_any (R b) _).mono ?_
  rintro e w2 ⟨rfl, hg2⟩
  have KG3 := hid (grown_trans KG2.out hg2)
  have HX3 := hid (grown_out hg2 HX2.out)
  clear hg2 HX2 KG2
  obtain ⟨x0, x1, x2, x3, x4, x5, x6⟩ := s7_of HX3.out
  have lx := heap_lt HX3.out
  go_wp2_with fail
  refine (c_any op a b c fb tb eb cb L nx rb nr back R w2 (KF.out.kept KG3.out).1 (KF.out.kept KG3.out).2.1 hc).mono ?_
  rintro e w3 ⟨rfl, hg3⟩
  have KG4 := hid (grown_trans KG3.out hg3)
  have HX4 := hid (grown_out hg3 HX3.out)
  clear hg3 HX3 KG3 x0 x1 x2 x3 x4 x5 x6 lx
  go_wp2_with fail
  refine (vnumber_any (R c) _).mono ?_
  rintro e w4 ⟨rfl, hg4⟩
  have KG5 := hid (grown_trans KG4.out hg4)
  have HX5 := hid (grown_out hg4 HX4.out)
  clear hg4 HX4 KG4
  obtain ⟨x0, x1, x2, x3, x4, x5, x6⟩ := s7_of HX5.out
  have lx := heap_lt HX5.out
  have hv5 := grown_out KG5.out HV.out
  have v5 : w4.cell? ⟨vb, 0, none⟩ = some (Fv 88 #[]) := by simp [World.cell?, hv5]
  have lv := heap_lt hv5
  clear hv5
  by_cases h1 : (R b).1 = 0
  · by_cases h2 : (R c).1 = 0
    · have d1 : decide ((R b).1 = 0) = true := by simpa using h1
      have d2 : decide ((R c).1 = 0) = true := by simpa using h2
      simp only [d1, d2]
      have HP := hid (And.intro h1 h2)
      clear h1 h2 d1 d2
      generalize hyy : B.wrap ((R b).2 + (R c).2) = y
      have hs := add_any (R b).2 (R c).2
      rw [hyy] at hs
      have HS := hid hs
      have HYY := hid hyy
      clear hs hyy
      go_wp2_with fail
      go_region_with (first | (go_at_call 88; refine (HS.out _).mono ?_; rintro e w5 ⟨rfl, rfl⟩) | (go_at_call 61; refine (number_any y _).mono ?_; rintro e w6 ⟨rfl, rfl⟩) | (go_at_call 149; refine (set_any op a b c fb tb eb cb L nx rb nr back R (0, y) _ (KF.out.kept (by repeat (first | exact KG5.out | refine grown_drew ?_ | refine grown_alloc ?_ _))).1 (KF.out.kept (by repeat (first | exact KG5.out | refine grown_drew ?_ | refine grown_alloc ?_ _))).2.1 ha).mono ?_; rintro e w7 ⟨rfl, hg7, hf7⟩))
      all_goals
        have hg : w.grownBy w7 (some rb) := grown_trans (by repeat (first | exact grown_of_none KG5.out | refine grown_drew ?_ | refine grown_alloc ?_ _)) hg7
        have HH := hid (And.intro hg (And.intro (grown_heap hg KF.out.1 (by intro e; injection e with e; exact KF.out.2.2 e)) hf7))
        clear hg hg7 hf7
        go_wp2_with fail
        go_ret
        exact Or.inl ⟨HP.out, rfl, HH.out.1, HH.out.2.1, by rw [HYY.out]; exact HH.out.2.2, KF.out.2.2⟩
    · have d1 : decide ((R b).1 = 0) = true := by simpa using h1
      have d2 : decide ((R c).1 = 0) = false := by simpa using h2
      simp only [d1, d2]
      have HP := hid (show ¬ ((R b).1 = 0 ∧ (R c).1 = 0) from fun h => h2 h.2)
      clear h1 h2 d1 d2
      go_wp2_with fail
      go_ret
      exact Or.inr ⟨HP.out, rfl, KG5.out⟩
  · have d1 : decide ((R b).1 = 0) = false := by simpa using h1
    simp only [d1]
    have HP := hid (show ¬ ((R b).1 = 0 ∧ (R c).1 = 0) from fun h => h1 h.1)
    clear h1 d1
    go_wp2_with fail
    go_ret
    exact Or.inr ⟨HP.out, rfl, KG5.out⟩
set_option maxRecDepth 100000 in
set_option maxHeartbeats 2000000 in
theorem act4_any (op a b c fb tb eb cb L nx rb nr vb : Nat) (back : Value) (R : Nat → B.V) (ha : a < nr) (hb : b < nr) (hc : c < nr) (w : World) (hF : Fr w fb cb L nx rb nr back R) (hv : w.heap[vb]? = some (.cells #[Fv 90 #[]] 190 (0, 0))) :
    Calls Tryz.prog 151 #[stepV op a b c fb tb eb, P0 vb] w fun e w' => (((R b).1 = 0 ∧ (R c).1 = 0) ∧ e = .returned (.int .i64 0) ∧ w.grownBy w' (some rb) ∧ Fr w' fb cb L nx rb nr back (B.set R a (0, B.wrap ((R b).2 * (R c).2)))) ∨ (¬ ((R b).1 = 0 ∧ (R c).1 = 0) ∧ e = .returned (.int .i64 1) ∧ w.grownBy w' none) := by
  have KF := hid hF
  have HV := hid hv
  clear hF hv
  go_enter Tryz.func151, Tryz.ntmps151
  go_wp2_with fail
  have HX1 := hid (s7_new w op a b c fb tb eb)
  have KG1 := hid (World.grownBy_alloc w (.cells #[.int .u8 (op : Int), .int .u8 (a : Int), .int .u8 (b : Int), .int .u8 (c : Int), P0 fb, P0 tb, P0 eb] 186) none)
  refine (b_any op a b c fb tb eb cb L nx rb nr back R _ (KF.out.kept KG1.out).1 (KF.out.kept KG1.out).2.1 hb).mono ?_
  rintro e w1 ⟨rfl, hg1⟩
  have KG2 := hid (grown_trans KG1.out hg1)
  have HX2 := hid (grown_out hg1 HX1.out)
  clear hg1 HX1 KG1
  go_wp2_with fail
  refine (vnumber_any (R b) _).mono ?_
  rintro e w2 ⟨rfl, hg2⟩
  have KG3 := hid (grown_trans KG2.out hg2)
  have HX3 := hid (grown_out hg2 HX2.out)
  clear hg2 HX2 KG2
  obtain ⟨x0, x1, x2, x3, x4, x5, x6⟩ := s7_of HX3.out
  have lx := heap_lt HX3.out
  go_wp2_with fail
  refine (c_any op a b c fb tb eb cb L nx rb nr back R w2 (KF.out.kept KG3.out).1 (KF.out.kept KG3.out).2.1 hc).mono ?_
  rintro e w3 ⟨rfl, hg3⟩
  have KG4 := hid (grown_trans KG3.out hg3)
  have HX4 := hid (grown_out hg3 HX3.out)
  clear hg3 HX3 KG3 x0 x1 x2 x3 x4 x5 x6 lx
  go_wp2_with fail
  refine (vnumber_any (R c) _).mono ?_
  rintro e w4 ⟨rfl, hg4⟩
  have KG5 := hid (grown_trans KG4.out hg4)
  have HX5 := hid (grown_out hg4 HX4.out)
  clear hg4 HX4 KG4
  obtain ⟨x0, x1, x2, x3, x4, x5, x6⟩ := s7_of HX5.out
  have lx := heap_lt HX5.out
  have hv5 := grown_out KG5.out HV.out
  have v5 : w4.cell? ⟨vb, 0, none⟩ = some (Fv 90 #[]) := by simp [World.cell?, hv5]
  have lv := heap_lt hv5
  clear hv5
  by_cases h1 : (R b).1 = 0
  · by_cases h2 : (R c).1 = 0
    · have d1 : decide ((R b).1 = 0) = true := by simpa using h1
      have d2 : decide ((R c).1 = 0) = true := by simpa using h2
      simp only [d1, d2]
      have HP := hid (And.intro h1 h2)
      clear h1 h2 d1 d2
      generalize hyy : B.wrap ((R b).2 * (R c).2) = y
      have hs := mul_any (R b).2 (R c).2
      rw [hyy] at hs
      have HS := hid hs
      have HYY := hid hyy
      clear hs hyy
      go_wp2_with fail
      go_region_with (first | (go_at_call 90; refine (HS.out _).mono ?_; rintro e w5 ⟨rfl, rfl⟩) | (go_at_call 61; refine (number_any y _).mono ?_; rintro e w6 ⟨rfl, rfl⟩) | (go_at_call 149; refine (set_any op a b c fb tb eb cb L nx rb nr back R (0, y) _ (KF.out.kept (by repeat (first | exact KG5.out | refine grown_drew ?_ | refine grown_alloc ?_ _))).1 (KF.out.kept (by repeat (first | exact KG5.out | refine grown_drew ?_ | refine grown_alloc ?_ _))).2.1 ha).mono ?_; rintro e w7 ⟨rfl, hg7, hf7⟩))
      all_goals
        have hg : w.grownBy w7 (some rb) := grown_trans (by repeat (first | exact grown_of_none KG5.out | refine grown_drew ?_ | refine grown_alloc ?_ _)) hg7
        have HH := hid (And.intro hg (And.intro (grown_heap hg KF.out.1 (by intro e; injection e with e; exact KF.out.2.2 e)) hf7))
        clear hg hg7 hf7
        go_wp2_with fail
        go_ret
        exact Or.inl ⟨HP.out, rfl, HH.out.1, HH.out.2.1, by rw [HYY.out]; exact HH.out.2.2, KF.out.2.2⟩
    · have d1 : decide ((R b).1 = 0) = true := by simpa using h1
      have d2 : decide ((R c).1 = 0) = false := by simpa using h2
      simp only [d1, d2]
      have HP := hid (show ¬ ((R b).1 = 0 ∧ (R c).1 = 0) from fun h => h2 h.2)
      clear h1 h2 d1 d2
      go_wp2_with fail
      go_ret
      exact Or.inr ⟨HP.out, rfl, KG5.out⟩
  · have d1 : decide ((R b).1 = 0) = false := by simpa using h1
    simp only [d1]
    have HP := hid (show ¬ ((R b).1 = 0 ∧ (R c).1 = 0) from fun h => h1 h.1)
    clear h1 d1
    go_wp2_with fail
    go_ret
    exact Or.inr ⟨HP.out, rfl, KG5.out⟩
set_option maxRecDepth 100000 in
set_option maxHeartbeats 2000000 in
theorem act5_any (op a b c fb tb eb cb L nx rb nr vb : Nat) (back : Value) (R : Nat → B.V) (ha : a < nr) (hb : b < nr) (hc : c < nr) (w : World) (hF : Fr w fb cb L nx rb nr back R) (hv : w.heap[vb]? = some (.cells #[Fv 91 #[]] 190 (0, 0))) :
    Calls Tryz.prog 151 #[stepV op a b c fb tb eb, P0 vb] w fun e w' => (((R b).1 = 0 ∧ (R c).1 = 0) ∧ e = .returned (.int .i64 0) ∧ w.grownBy w' (some rb) ∧ Fr w' fb cb L nx rb nr back (B.set R a (0, lessV (R b).2 (R c).2))) ∨ (¬ ((R b).1 = 0 ∧ (R c).1 = 0) ∧ e = .returned (.int .i64 1) ∧ w.grownBy w' none) := by
  have KF := hid hF
  have HV := hid hv
  clear hF hv
  go_enter Tryz.func151, Tryz.ntmps151
  go_wp2_with fail
  have HX1 := hid (s7_new w op a b c fb tb eb)
  have KG1 := hid (World.grownBy_alloc w (.cells #[.int .u8 (op : Int), .int .u8 (a : Int), .int .u8 (b : Int), .int .u8 (c : Int), P0 fb, P0 tb, P0 eb] 186) none)
  refine (b_any op a b c fb tb eb cb L nx rb nr back R _ (KF.out.kept KG1.out).1 (KF.out.kept KG1.out).2.1 hb).mono ?_
  rintro e w1 ⟨rfl, hg1⟩
  have KG2 := hid (grown_trans KG1.out hg1)
  have HX2 := hid (grown_out hg1 HX1.out)
  clear hg1 HX1 KG1
  go_wp2_with fail
  refine (vnumber_any (R b) _).mono ?_
  rintro e w2 ⟨rfl, hg2⟩
  have KG3 := hid (grown_trans KG2.out hg2)
  have HX3 := hid (grown_out hg2 HX2.out)
  clear hg2 HX2 KG2
  obtain ⟨x0, x1, x2, x3, x4, x5, x6⟩ := s7_of HX3.out
  have lx := heap_lt HX3.out
  go_wp2_with fail
  refine (c_any op a b c fb tb eb cb L nx rb nr back R w2 (KF.out.kept KG3.out).1 (KF.out.kept KG3.out).2.1 hc).mono ?_
  rintro e w3 ⟨rfl, hg3⟩
  have KG4 := hid (grown_trans KG3.out hg3)
  have HX4 := hid (grown_out hg3 HX3.out)
  clear hg3 HX3 KG3 x0 x1 x2 x3 x4 x5 x6 lx
  go_wp2_with fail
  refine (vnumber_any (R c) _).mono ?_
  rintro e w4 ⟨rfl, hg4⟩
  have KG5 := hid (grown_trans KG4.out hg4)
  have HX5 := hid (grown_out hg4 HX4.out)
  clear hg4 HX4 KG4
  obtain ⟨x0, x1, x2, x3, x4, x5, x6⟩ := s7_of HX5.out
  have lx := heap_lt HX5.out
  have hv5 := grown_out KG5.out HV.out
  have v5 : w4.cell? ⟨vb, 0, none⟩ = some (Fv 91 #[]) := by simp [World.cell?, hv5]
  have lv := heap_lt hv5
  clear hv5
  by_cases h1 : (R b).1 = 0
  · by_cases h2 : (R c).1 = 0
    · have d1 : decide ((R b).1 = 0) = true := by simpa using h1
      have d2 : decide ((R c).1 = 0) = true := by simpa using h2
      simp only [d1, d2]
      have HP := hid (And.intro h1 h2)
      clear h1 h2 d1 d2
      generalize hyy : lessV (R b).2 (R c).2 = y
      have hs := less_any (R b).2 (R c).2
      rw [hyy] at hs
      have HS := hid hs
      have HYY := hid hyy
      clear hs hyy
      go_wp2_with fail
      go_region_with (first | (go_at_call 91; refine (HS.out _).mono ?_; rintro e w5 ⟨rfl, rfl⟩) | (go_at_call 61; refine (number_any y _).mono ?_; rintro e w6 ⟨rfl, rfl⟩) | (go_at_call 149; refine (set_any op a b c fb tb eb cb L nx rb nr back R (0, y) _ (KF.out.kept (by repeat (first | exact KG5.out | refine grown_drew ?_ | refine grown_alloc ?_ _))).1 (KF.out.kept (by repeat (first | exact KG5.out | refine grown_drew ?_ | refine grown_alloc ?_ _))).2.1 ha).mono ?_; rintro e w7 ⟨rfl, hg7, hf7⟩))
      all_goals
        have hg : w.grownBy w7 (some rb) := grown_trans (by repeat (first | exact grown_of_none KG5.out | refine grown_drew ?_ | refine grown_alloc ?_ _)) hg7
        have HH := hid (And.intro hg (And.intro (grown_heap hg KF.out.1 (by intro e; injection e with e; exact KF.out.2.2 e)) hf7))
        clear hg hg7 hf7
        go_wp2_with fail
        go_ret
        exact Or.inl ⟨HP.out, rfl, HH.out.1, HH.out.2.1, by rw [HYY.out]; exact HH.out.2.2, KF.out.2.2⟩
    · have d1 : decide ((R b).1 = 0) = true := by simpa using h1
      have d2 : decide ((R c).1 = 0) = false := by simpa using h2
      simp only [d1, d2]
      have HP := hid (show ¬ ((R b).1 = 0 ∧ (R c).1 = 0) from fun h => h2 h.2)
      clear h1 h2 d1 d2
      go_wp2_with fail
      go_ret
      exact Or.inr ⟨HP.out, rfl, KG5.out⟩
  · have d1 : decide ((R b).1 = 0) = false := by simpa using h1
    simp only [d1]
    have HP := hid (show ¬ ((R b).1 = 0 ∧ (R c).1 = 0) from fun h => h1 h.1)
    clear h1 d1
    go_wp2_with fail
    go_ret
    exact Or.inr ⟨HP.out, rfl, KG5.out⟩
set_option maxRecDepth 100000 in
set_option maxHeartbeats 2000000 in
theorem gives79_any (op a b c fb tb eb cb L nx rb nr vb : Nat) (back : Value) (R : Nat → B.V) (y : B.V) (ha : a < nr) (w : World) (hF : Fr w fb cb L nx rb nr back R) (hv : w.cell? ⟨vb, 0, none⟩ = some (Fv 86 #[])) (hvb : vb < w.heap.size)
    (hn : Hid (∀ w', w.grownBy w' none → Calls Tryz.prog 86 #[stepV op a b c fb tb eb] w' fun e w'' => e = .returned (vA y) ∧ w'.grownBy w'' none)) :
    Calls Tryz.prog 148 #[stepV op a b c fb tb eb, P0 vb] w fun e w' => e = .returned (.tuple #[]) ∧ w.grownBy w' (some rb) ∧ Fr w' fb cb L nx rb nr back (B.set R a y) := by
  have KF : Hid (Fr w fb cb L nx rb nr back R) := hF
  clear hF
  go_enter Tryz.func148, Tryz.ntmps148
  go_wp2_with fail
  go_region_with (first | (go_at_call 86; refine (hn.out _ (by repeat (first | exact grown_refl _ _ | refine grown_drew ?_ | refine grown_alloc ?_ _))).mono ?_; rintro e w1 ⟨rfl, hg1⟩; obtain ⟨s0, s1, s2, s3, s4, s5, s6, s7⟩ := box7 hg1; have KG1 : Hid (w.grownBy w1 none) := grown_trans (by repeat (first | exact grown_refl _ _ | refine grown_drew ?_ | refine grown_alloc ?_ _)) hg1; clear hg1) | (go_at_call 149; refine (set_any op a b c fb tb eb cb L nx rb nr back R y w1 (KF.out.kept KG1.out).1 (KF.out.kept KG1.out).2.1 ha).mono ?_; rintro e w2 ⟨rfl, hg2, hf2⟩))
  all_goals
    go_wp2_with fail
    go_end0
    refine ⟨rfl, grown_trans (grown_of_none KG1.out) hg2, grown_heap hg2 (KF.out.kept KG1.out).1 (by intro e; injection e with e; exact KF.out.2.2 e), hf2, KF.out.2.2⟩
set_option maxRecDepth 100000 in
theorem actg79_any (op a b c fb tb eb cb L nx rb nr wb vb : Nat) (back : Value) (R : Nat → B.V) (y : B.V) (ha : a < nr) (w : World) (hF : Fr w fb cb L nx rb nr back R) (hw : w.cell? ⟨wb, 0, none⟩ = some (Fv 148 #[P0 vb])) (hv : w.cell? ⟨vb, 0, none⟩ = some (Fv 86 #[])) (hwb : wb < w.heap.size) (hvb : vb < w.heap.size)
    (hn : Hid (∀ w', w.grownBy w' none → Calls Tryz.prog 86 #[stepV op a b c fb tb eb] w' fun e w'' => e = .returned (vA y) ∧ w'.grownBy w'' none)) :
    Calls Tryz.prog 163 #[stepV op a b c fb tb eb, P0 wb] w fun e w' => e = .returned (.int .i64 0) ∧ w.grownBy w' (some rb) ∧ Fr w' fb cb L nx rb nr back (B.set R a y) := by
  have KF : Hid (Fr w fb cb L nx rb nr back R) := hF
  clear hF
  go_enter Tryz.func163, Tryz.ntmps163
  go_wp2_with fail
  refine (gives79_any op a b c fb tb eb cb L nx rb nr vb back R y ha _ (KF.out.kept (World.grownBy_alloc _ _ _)) (by simp [go_sem, hvb, hv]) (by simp; omega) (fun w' hg => hn.out w' (grown_trans (World.grownBy_alloc _ _ _) hg))).mono ?_
  rintro e w1 ⟨rfl, hg1, hF1⟩
  have KF1 := hid hF1
  have KG1 : Hid (w.grownBy w1 (some rb)) := grown_trans (World.grownBy_alloc _ _ _) hg1
  clear hF1 hg1
  go_wp2_with fail
  go_ret
  exact ⟨rfl, KG1.out, KF1.out⟩
set_option maxRecDepth 100000 in
set_option maxHeartbeats 2000000 in
theorem gives86_any (op a b c fb tb eb cb L nx rb nr vb : Nat) (back : Value) (R : Nat → B.V) (y : B.V) (ha : a < nr) (w : World) (hF : Fr w fb cb L nx rb nr back R) (hv : w.cell? ⟨vb, 0, none⟩ = some (Fv 93 #[])) (hvb : vb < w.heap.size)
    (hn : Hid (∀ w', w.grownBy w' none → Calls Tryz.prog 93 #[stepV op a b c fb tb eb] w' fun e w'' => e = .returned (vA y) ∧ w'.grownBy w'' none)) :
    Calls Tryz.prog 148 #[stepV op a b c fb tb eb, P0 vb] w fun e w' => e = .returned (.tuple #[]) ∧ w.grownBy w' (some rb) ∧ Fr w' fb cb L nx rb nr back (B.set R a y) := by
  have KF : Hid (Fr w fb cb L nx rb nr back R) := hF
  clear hF
  go_enter Tryz.func148, Tryz.ntmps148
  go_wp2_with fail
  go_region_with (first | (go_at_call 93; refine (hn.out _ (by repeat (first | exact grown_refl _ _ | refine grown_drew ?_ | refine grown_alloc ?_ _))).mono ?_; rintro e w1 ⟨rfl, hg1⟩; obtain ⟨s0, s1, s2, s3, s4, s5, s6, s7⟩ := box7 hg1; have KG1 : Hid (w.grownBy w1 none) := grown_trans (by repeat (first | exact grown_refl _ _ | refine grown_drew ?_ | refine grown_alloc ?_ _)) hg1; clear hg1) | (go_at_call 149; refine (set_any op a b c fb tb eb cb L nx rb nr back R y w1 (KF.out.kept KG1.out).1 (KF.out.kept KG1.out).2.1 ha).mono ?_; rintro e w2 ⟨rfl, hg2, hf2⟩))
  all_goals
    go_wp2_with fail
    go_end0
    refine ⟨rfl, grown_trans (grown_of_none KG1.out) hg2, grown_heap hg2 (KF.out.kept KG1.out).1 (by intro e; injection e with e; exact KF.out.2.2 e), hf2, KF.out.2.2⟩
set_option maxRecDepth 100000 in
theorem actg86_any (op a b c fb tb eb cb L nx rb nr wb vb : Nat) (back : Value) (R : Nat → B.V) (y : B.V) (ha : a < nr) (w : World) (hF : Fr w fb cb L nx rb nr back R) (hw : w.cell? ⟨wb, 0, none⟩ = some (Fv 148 #[P0 vb])) (hv : w.cell? ⟨vb, 0, none⟩ = some (Fv 93 #[])) (hwb : wb < w.heap.size) (hvb : vb < w.heap.size)
    (hn : Hid (∀ w', w.grownBy w' none → Calls Tryz.prog 93 #[stepV op a b c fb tb eb] w' fun e w'' => e = .returned (vA y) ∧ w'.grownBy w'' none)) :
    Calls Tryz.prog 163 #[stepV op a b c fb tb eb, P0 wb] w fun e w' => e = .returned (.int .i64 0) ∧ w.grownBy w' (some rb) ∧ Fr w' fb cb L nx rb nr back (B.set R a y) := by
  have KF : Hid (Fr w fb cb L nx rb nr back R) := hF
  clear hF
  go_enter Tryz.func163, Tryz.ntmps163
  go_wp2_with fail
  refine (gives86_any op a b c fb tb eb cb L nx rb nr vb back R y ha _ (KF.out.kept (World.grownBy_alloc _ _ _)) (by simp [go_sem, hvb, hv]) (by simp; omega) (fun w' hg => hn.out w' (grown_trans (World.grownBy_alloc _ _ _) hg))).mono ?_
  rintro e w1 ⟨rfl, hg1, hF1⟩
  have KF1 := hid hF1
  have KG1 : Hid (w.grownBy w1 (some rb)) := grown_trans (World.grownBy_alloc _ _ _) hg1
  clear hF1 hg1
  go_wp2_with fail
  go_ret
  exact ⟨rfl, KG1.out, KF1.out⟩
end Go.Proofs.YtnjiinbhbjpfkaaGreatDoor
