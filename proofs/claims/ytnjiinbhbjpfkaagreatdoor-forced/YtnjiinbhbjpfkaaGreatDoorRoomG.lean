/-
  The collector: the values from which cells can be reached are visited.
-/
import Derived.Test.YtnjiinbhbjpfkaaGreatDoorRoomF
import Derived.Test.YtnjiinbhbjpfkaaGreatDoorRoomA
namespace Go.Proofs.YtnjiinbhbjpfkaaGreatDoor
open Go.RowKit

/-- What the visit of the roots reads, of a machine whose only task has one function. -/
structure Alv (w : World) (eb lb cl tb kb ck fb cb L nx rb nr : Nat) (back : Value) (R : Nat → B.V) : Prop where
  a1 : w.cell? ⟨eb, 29, none⟩ = some (.slice (some ⟨lb, 0, none⟩) 1 cl)
  a2 : w.cell? ⟨lb, 0, none⟩ = some (P0 tb)
  a3 : w.cell? ⟨eb, 31, none⟩ = some (.slice none 0 0)
  a4 : w.cell? ⟨tb, 1, none⟩ = some (.slice (some ⟨kb, 0, none⟩) 1 ck)
  a5 : w.cell? ⟨kb, 0, none⟩ = some (P0 fb)
  a6 : Fr w fb cb L nx rb nr back R
def AlvQ (eb lb tb kb fb rb : Nat) (k : Nat) : Prop := k = eb ∨ k = lb ∨ k = tb ∨ k = kb ∨ k = fb ∨ k = rb
theorem Alv.block {w w' : World} {eb lb cl tb kb ck fb cb L nx rb nr : Nat} {back : Value} {R : Nat → B.V} (h : Alv w eb lb cl tb kb ck fb cb L nx rb nr back R) (hk : ∀ k, AlvQ eb lb tb kb fb rb k → w'.heap[k]? = w.heap[k]?) : Alv w' eb lb cl tb kb ck fb cb L nx rb nr back R := by
  have hc : ∀ (b o : Nat), AlvQ eb lb tb kb fb rb b → w'.cell? ⟨b, o, none⟩ = w.cell? ⟨b, o, none⟩ := fun b o hb => World.cell?_of_block (a := ⟨b, o, none⟩) (hk b hb)
  exact ⟨(hc eb 29 (Or.inl rfl)).trans h.a1, (hc lb 0 (Or.inr (Or.inl rfl))).trans h.a2, (hc eb 31 (Or.inl rfl)).trans h.a3, (hc tb 1 (Or.inr (Or.inr (Or.inl rfl)))).trans h.a4, (hc kb 0 (Or.inr (Or.inr (Or.inr (Or.inl rfl))))).trans h.a5,
    (hk fb (Or.inr (Or.inr (Or.inr (Or.inr (Or.inl rfl)))))).trans h.a6.1, h.a6.2.1.block (hk rb (Or.inr (Or.inr (Or.inr (Or.inr (Or.inr rfl)))))), h.a6.2.2⟩
theorem cell_lt {w : World} {b o : Nat} {v : Value} (h : w.cell? ⟨b, o, none⟩ = some v) : b < w.heap.size := by
  rcases Nat.lt_or_ge b w.heap.size with h1 | h1
  · exact h1
  · have : w.heap[b]? = none := Array.getElem?_eq_none h1
    simp [World.cell?, this] at h
theorem Alv.lt {w : World} {eb lb cl tb kb ck fb cb L nx rb nr : Nat} {back : Value} {R : Nat → B.V} (h : Alv w eb lb cl tb kb ck fb cb L nx rb nr back R) (k : Nat) (hk : AlvQ eb lb tb kb fb rb k) : k < w.heap.size := by
  rcases hk with rfl | rfl | rfl | rfl | rfl | rfl
  · exact cell_lt h.a1
  · exact cell_lt h.a2
  · exact cell_lt h.a4
  · exact cell_lt h.a5
  · exact heap_lt h.a6.1
  · exact h.a6.2.1.lt

/-- How far a visit of the roots has come. -/
def Vsd (w0 w : World) (cb rd sb n : Nat) (ad : Option Addr) (c : B.Cy) (l : List B.V) : Prop :=
  Only (CyB cb rd ad) w0 w ∧ ∃ ad' cap', Nad ad ad' w0.heap.size ∧ Cym w cb rd sb n ad' cap' ⟨(B.seenL c.m c.st l).1, (B.seenL c.m c.st l).2, c.nx⟩
theorem vsd_nil {w : World} {cb rd sb n : Nat} {ad : Option Addr} {cap : Nat} {c : B.Cy} (h : Cym w cb rd sb n ad cap c) : Vsd w w cb rd sb n ad c [] := ⟨only_refl _ _, ad, cap, Nad.refl _ _, h⟩
theorem Vsd.kept {w0 w w' : World} {cb rd sb n : Nat} {ad : Option Addr} {c : B.Cy} {l : List B.V} (h : Vsd w0 w cb rd sb n ad c l) (hg : w.grownBy w' none) : Vsd w0 w' cb rd sb n ad c l := by
  obtain ⟨h1, ad', cap', h2, h3⟩ := h
  exact ⟨h1.then0 hg, ad', cap', h2, h3.kept hg⟩
theorem seenL_len {n : Nat} {c : B.Cy} {l : List B.V} (hn : n ≤ 200) (hs : c.st.length + B.cnt c.m n ≤ n) (hl : ∀ v, v ∈ l → v.1 ≠ 0 → v.1 ≤ n) : (B.seenL c.m c.st l).2.length ≤ 200 := by
  have := B.seenL_sum (n := n) l c.m c.st hl
  omega
/-- One more value. -/
theorem vsd_step {w0 w : World} {cb rd sb n : Nat} {ad : Option Addr} {c : B.Cy} {l : List B.V} (v : B.V) (h : Vsd w0 w cb rd sb n ad c l) (hn : n ≤ 200) (hs : c.st.length + B.cnt c.m n ≤ n) (hl : ∀ v, v ∈ l → v.1 ≠ 0 → v.1 ≤ n) (hv : v.1 ≠ 0 → v.1 ≤ n) :
    Calls Tryz.prog 188 #[P0 cb, vA v] w fun e w' => e = .returned (.tuple #[]) ∧ Vsd w0 w' cb rd sb n ad c (l ++ [v]) := by
  obtain ⟨h1, ad', cap', h2, h3⟩ := h
  refine (reach_any cb rd sb n ad' cap' _ v w h3 hv hn (seenL_len hn hs hl)).mono ?_
  rintro e w' ⟨rfl, ad2, cap2, h4, h5, h6⟩
  refine ⟨rfl, h1.trans h6 (fun k hk hl => (h2.cyb hk).resolve_right (by omega)), ad2, cap2, h2.trans h4 h1.size, ?_⟩
  rw [B.seenL_snoc]
  exact h5

set_option maxRecDepth 100000 in
set_option maxHeartbeats 2000000 in
theorem tvisit_any (eb lb cl tb kb ck fb cb0 L nx rb nr : Nat) (back : Value) (R : Nat → B.V) (cb rd sb n : Nat) (ad : Option Addr) (c : B.Cy) (w0 w : World) (hA : Alv w0 eb lb cl tb kb ck fb cb0 L nx rb nr back R) (hQ : ∀ k, AlvQ eb lb tb kb fb rb k → ¬ CyB cb rd ad k) (hV : Vsd w0 w cb rd sb n ad c []) (hn : n ≤ 200) (hs : c.st.length + B.cnt c.m n ≤ n) (hR : ∀ i, i < nr → (R i).1 ≠ 0 → (R i).1 ≤ n) (hnr : nr ≤ 8) :
    Calls Tryz.prog 118 #[P0 tb, .func (.func 188) #[P0 cb] #[]] w fun e w' => e = .returned (.tuple #[]) ∧ Vsd w0 w' cb rd sb n ad c (B.regs R nr) := by
  have KA : Hid (∀ w', Only (CyB cb rd ad) w0 w' → Alv w' eb lb cl tb kb ck fb cb0 L nx rb nr back R) := fun w' h => hA.block (fun k hk => h.same (hA.lt k hk) (hQ k hk))
  have HR := hid hR
  have HV := hid hV
  have HST := hid hs
  clear hA hQ hR hV hs
  have hw := KA.out w HV.out.1
  have c4 := hw.a4
  have c5 := hw.a5
  clear hw
  go_enter Tryz.func118, Tryz.ntmps118
  go_wp2_with fail
  go_loopw [13] (fun i wr => ∃ k : Nat, k ≤ 1 ∧ i = .int .i64 k ∧ Hid (Vsd w0 wr cb rd sb n ad c (B.regs R (k * nr)))) (fun i _ => 1 - (intOf i).toNat)
  case atStart => exact ⟨0, by omega, rfl, by show Vsd _ _ _ _ _ _ _ _ (B.regs R (0 * nr)); rw [Nat.zero_mul]; exact HV.out⟩
  case round =>
    obtain ⟨k, hk, rfl, hX⟩ := hrel
    by_cases hk0 : k = 0
    · subst hk0
      have hw := KA.out _ hX.out.1
      have d4 := hw.a4
      have d5 := hw.a5
      obtain ⟨_, _, f2, _, _⟩ := frm_cells hw.a6.1
      clear hw c4 c5
      go_wp2_with fail
      go_loopw [22] (fun i wr' => ∃ j : Nat, j ≤ nr ∧ i = .int .i64 j ∧ Hid (Vsd w0 wr' cb rd sb n ad c (B.regs R j))) (fun i _ => nr - (intOf i).toNat)
      case atStart => exact ⟨0, by omega, rfl, by have := hX.out; rw [Nat.zero_mul] at this; exact this⟩
      case round =>
        obtain ⟨j, hj, rfl, hX'⟩ := hrel
        by_cases hlt : j < nr
        · have hw := KA.out _ hX'.out.1
          have r0 := hw.a6.2.1.cell (j * 2) (by omega)
          have r1 := hw.a6.2.1.cell (j * 2 + 1) (by omega)
          rw [regP_0] at r0
          rw [regP_1] at r1
          have lr := hw.a6.2.1.lt
          clear hw
          have hji : (j : Int) < (nr : Int) := by omega
          go_wp2_with fail
          refine (vsd_step (R j) (hX'.out.kept (World.grownBy_alloc _ _ _)) hn HST.out (fun v hv h0 => ?_) (HR.out j hlt)).mono ?_
          · obtain ⟨i, hi, rfl⟩ := B.regs_mem.1 hv
            exact HR.out i (by omega) h0
          rintro e w5 ⟨rfl, hV5⟩
          have KV5 := hid hV5
          clear hV5 r0 r1
          go_wp2_with fail
          go_roundw
          case rel =>
            refine ⟨_, _, _, _, _, _, _, _, _, ⟨j + 1, by omega, ?_, by show Vsd _ _ _ _ _ _ _ _ (B.regs R (j + 1)); rw [B.regs_succ]; exact KV5.out⟩, rfl⟩
            go_num
          case measure => simp [intOf]; omega
        · obtain rfl : j = nr := by omega
          have hge : decide ((j : Int) < (j : Int)) = false := by simp
          go_wp2_with fail
          go_roundw
          case rel => exact ⟨1, by omega, by go_num, by rw [Nat.one_mul]; exact hX'⟩
          case measure => simp [intOf]
    · obtain rfl : k = 1 := by omega
      go_wp2_with fail
      go_end0
      exact ⟨rfl, by have := hX.out; rw [Nat.one_mul] at this; exact this⟩

/-- The visit of the roots, in whatever memory has what it reads. -/
def Vis (Q : Nat → Prop) (w : World) (eb nr : Nat) (R : Nat → B.V) : Prop :=
  ∀ (w1 : World) (cb rd sb n : Nat) (ad : Option Addr) (cap : Nat) (c : B.Cy), (∀ k, Q k → w1.heap[k]? = w.heap[k]?) → Cym w1 cb rd sb n ad cap c → (∀ k, Q k → ¬ CyB cb rd ad k) → n ≤ 200 → c.st.length + B.cnt c.m n ≤ n → (∀ i, i < nr → (R i).1 ≠ 0 → (R i).1 ≤ n) →
    Calls Tryz.prog 59 #[P0 eb, .func (.func 188) #[P0 cb] #[]] w1 fun e w2 => e = .returned (.tuple #[]) ∧ Vsd w1 w2 cb rd sb n ad c (B.regs R nr)
theorem Vis.block {Q : Nat → Prop} {w w' : World} {eb nr : Nat} {R : Nat → B.V} (h : Vis Q w eb nr R) (hk : ∀ k, Q k → w'.heap[k]? = w.heap[k]?) : Vis Q w' eb nr R :=
  fun w1 cb rd sb n ad cap c h1 => h w1 cb rd sb n ad cap c (fun k hq => (h1 k hq).trans (hk k hq))

set_option maxRecDepth 100000 in
set_option maxHeartbeats 2000000 in
theorem vis_alive (eb lb cl tb kb ck fb cb0 L nx rb nr : Nat) (back : Value) (R : Nat → B.V) (w : World) (hA : Alv w eb lb cl tb kb ck fb cb0 L nx rb nr back R) (hnr : nr ≤ 8) : Vis (AlvQ eb lb tb kb fb rb) w eb nr R := by
  intro w1 cb rd sb n ad cap c hk hC hQ hn hs hR
  have hA1 := hA.block hk
  have HV0 := hid (vsd_nil hC)
  have KA : Hid (∀ w', Only (CyB cb rd ad) w1 w' → Alv w' eb lb cl tb kb ck fb cb0 L nx rb nr back R) := fun w' h => hA1.block (fun k hk => h.same (hA1.lt k hk) (hQ k hk))
  have HT := hid (tvisit_any eb lb cl tb kb ck fb cb0 L nx rb nr back R cb rd sb n ad c w1 w1 hA1 hQ (vsd_nil hC) hn hs hR hnr)
  have c1 := hA1.a1
  have c2 := hA1.a2
  clear hA hk hC hQ hs hR hA1
  go_enter Tryz.func59, Tryz.ntmps59
  go_wp2_with fail
  go_loopw [13] (fun i wr => ∃ k : Nat, k ≤ 1 ∧ i = .int .i64 k ∧ Hid (k = 0 → wr = w1) ∧ Hid (Vsd w1 wr cb rd sb n ad c (B.regs R (k * nr)))) (fun i _ => 1 - (intOf i).toNat)
  case atStart => exact ⟨0, by omega, rfl, fun _ => rfl, by show Vsd _ _ _ _ _ _ _ _ (B.regs R (0 * nr)); rw [Nat.zero_mul]; exact HV0.out⟩
  case round =>
    obtain ⟨k, hk, rfl, hW, hX⟩ := hrel
    by_cases hk0 : k = 0
    · subst hk0
      have hw := hW.out rfl
      subst hw
      go_wp2_with fail
      refine HT.out.mono ?_
      rintro e w5 ⟨rfl, hV5⟩
      have KV5 := hid hV5
      clear hV5
      go_wp2_with fail
      go_roundw
      case rel => exact ⟨1, by omega, by go_num, fun h => (by omega), by rw [Nat.one_mul]; exact KV5⟩
      case measure => simp [intOf]
    · obtain rfl : k = 1 := by omega
      have d3 := (KA.out _ hX.out.1).a3
      clear c1 c2
      go_wp2_with fail
      go_loopw [26] (fun i wr' => i = .int .i64 0 ∧ wr' = wr) (fun _ _ => 0)
      case atStart => exact ⟨rfl, rfl⟩
      case round =>
        obtain ⟨rfl, rfl⟩ := hrel
        go_wp2_with fail
        go_end0
        exact ⟨rfl, by have := hX.out; rw [Nat.one_mul] at this; exact this⟩
end Go.Proofs.YtnjiinbhbjpfkaaGreatDoor

/-
  The collector: a cycle begins; it has ended; a place is looked at.
-/
namespace Go.Proofs.YtnjiinbhbjpfkaaGreatDoor
open Go.RowKit

theorem Tryz.info4 : (Tryz.prog.info? 4).map (fun i => (i.zero, i.size, i.bytes)) = some (some (.bool false), 1, 1) := by kernel_rfl

set_option maxRecDepth 100000 in
set_option maxHeartbeats 1000000 in
theorem beginc_any (Q : Nat → Prop) (eb sb pb n nr : Nat) (R : Nat → B.V) (w : World) (q0 : w.cell? ⟨sb, 0, none⟩ = some (.slice (some ⟨pb, 0, none⟩) n n)) (q1 : w.cell? ⟨sb, 1, none⟩ = some (.func (.func 59) #[P0 eb] #[])) (hV : Vis Q w eb nr R) (hQ : ∀ k, Q k → k < w.heap.size) (hn : n ≤ 200) (hR : ∀ i, i < nr → (R i).1 ≠ 0 → (R i).1 ≤ n) :
    Calls Tryz.prog 135 #[P0 sb] w fun e w' => ∃ cb rd ad cap, e = .returned (P0 cb) ∧ Below w.heap.size w w' ∧ (∀ k, CyB cb rd ad k → w.heap.size ≤ k) ∧ Cym w' cb rd sb n ad cap (B.begun R nr) := by
  have ls := cell_lt q0
  have HVS := hid hV
  have HQ := hid hQ
  have HR := hid hR
  clear hV hQ hR
  obtain ⟨i0, hi, hz0, hz1, hz2⟩ := info_parts Tryz.info4
  go_enter Tryz.func135, Tryz.ntmps135
  go_wp2_with (at_make; go_loud (refine wpList_make_full _ rfl _ _ 231 rfl w.heap.size 4 i0 _ 1 Tryz.underlying231 hi hz0 hz1 _ _ _ _ n rfl rfl rfl rfl (by rw [hz2]; omega) (by unfold maxLen; omega) (by simp) ?_))
  intro w3 hown hg3
  have hf3 : Full w3 w.heap.size 4 n n (fun j => .bool ((fun _ => false : Nat → Bool) (j + 1))) := by
    rcases hown.2 with ⟨h, _⟩ | ⟨g', cap', cur, h1, h2, h3, h4, h5, h6, h7⟩
    · cases h
    · injection h1 with h1 _ hc
      injection h1 with h1
      injection h1 with h1 _ _
      have hg' : g' = w.heap.size := by simpa using h1.symm
      subst hg' hc
      refine ⟨cur, h3, by omega, fun j hj => ?_⟩
      have e1 := congrArg (fun l => l[j]?) h7
      rw [toList_madeCells_one] at e1
      simp only [List.getElem?_take, List.getElem?_replicate] at e1
      rw [if_pos (by omega), if_pos (by omega)] at e1
      simpa using e1
  have KG3 := hid hg3
  have HF3 := hid hf3
  have ls3 : sb < w3.heap.size := Nat.lt_of_lt_of_le ls hg3.size
  have s0 := (grown_cell hg3 (a := ⟨sb, 0, none⟩) ls).1.trans q0
  have s1 := (grown_cell hg3 (a := ⟨sb, 1, none⟩) ls).1.trans q1
  clear hown hg3 hf3 q0 q1
  go_wp2_with fail
  have hz3 := KG3.out.size
  have hlr := HF3.out.lt
  have hC4 : Cym (w3.alloc (.cells #[P0 sb, .slice (some ⟨w.heap.size, 0, none⟩) n n, .slice none 0 0, .int .i64 0] 275)) w3.heap.size w.heap.size sb n none 0 ⟨fun _ => false, [], 0⟩ :=
    ⟨heap_alloc_new _ _, HF3.out.block (Below.heap_alloc _ _ _ HF3.out.lt), Qrow.nil _ _⟩
  have KC4 := hid hC4
  have KB4 : Hid (Below w.heap.size w (w3.alloc (.cells #[P0 sb, .slice (some ⟨w.heap.size, 0, none⟩) n n, .slice none 0 0, .int .i64 0] 275))) := (below_none KG3.out).alloc KG3.out.size _
  clear hC4
  refine (HVS.out _ w3.heap.size w.heap.size sb n none 0 ⟨fun _ => false, [], 0⟩ (fun k hk => KB4.out.block k (HQ.out k hk)) KC4.out (fun k hk h => ?_) hn (by show 0 + _ ≤ n; rw [B.cnt_all]; omega) HR.out).mono ?_
  · have := HQ.out k hk
    rcases h with h | h | h
    · omega
    · omega
    · cases h
  rintro e w5 ⟨rfl, hO5, ad, cap, hN5, hC5⟩
  have HR5 : Hid (Below w.heap.size w w5 ∧ (∀ k, CyB w3.heap.size w.heap.size ad k → w.heap.size ≤ k) ∧ Cym w5 w3.heap.size w.heap.size sb n ad cap (B.begun R nr)) := by
    refine ⟨⟨hO5.1.trans KB4.out.os, hO5.2.1.trans KB4.out.tape, hO5.2.2.1.trans KB4.out.output, Nat.le_trans KB4.out.size hO5.size, fun k hk => (hO5.same (by simp; omega) (fun h => ?_)).trans (KB4.out.block k hk)⟩, fun k hk => ?_, hC5⟩
    · rcases h with h | h | h
      · omega
      · omega
      · cases h
    · rcases hk with h | h | h
      · omega
      · omega
      · rcases hN5 k h with h1 | h1
        · cases h1
        · simp at h1; omega
  clear hO5 hN5 hC5
  go_wp2_with fail
  go_ret
  exact ⟨_, _, ad, cap, rfl, HR5.out.1, HR5.out.2.1, HR5.out.2.2⟩

set_option maxRecDepth 100000 in
theorem endedc_any (cb rd sb n : Nat) (ad : Option Addr) (cap : Nat) (c : B.Cy) (w : World) (hC : Cym w cb rd sb n ad cap c) :
    Calls Tryz.prog 137 #[P0 cb] w fun e w' => e = .returned (.bool (decide (c.nx = n))) ∧ w.grownBy w' none := by
  obtain ⟨_, c1, _, c3, _, _⟩ := hC.c1
  have hb : (((c.nx : Nat) : Int) == (n : Int)) = decide (c.nx = n) := by
    by_cases h : c.nx = n
    · simp [h]
    · have : ¬ ((c.nx : Int) = (n : Int)) := by omega
      simp [h, this]
  have lc := heap_lt hC.b
  clear hC
  generalize decide (c.nx = n) = d at *
  generalize c.nx = x at *
  go_enter Tryz.func137, Tryz.ntmps137
  go_wp2_with fail
  go_quiet (fail)
  go_wp2_with fail
  go_ret
  exact ⟨rfl, grown_drewN (grown_refl _ _) _⟩

theorem Cym.step {w : World} {cb rd sb n : Nat} {ad : Option Addr} {cap : Nat} {c : B.Cy} (h : Cym w cb rd sb n ad cap c) (hr : rd ≠ cb) (hq : ∀ k, (Value.slice ad c.st.length cap).ownBlock = some k → k ≠ cb) : Cym (w.setCell ⟨cb, 3, none⟩ (.int .i64 ((c.nx : Int) + 1))) cb rd sb n ad cap (B.look c) := by
  refine ⟨?_, h.r.off hr, h.q.block (fun k hk => Below.heap_setCell _ _ _ _ (hq k hk))⟩
  simp [World.setCell, Array.getElem?_modify, h.b, B.look]
theorem swept_dn (on : Nat → Bool) (c : B.Cy) (p : Nat) (h : B.swept on c p = true) : on p = true := B.swept_dn h

theorem plc_free (on : Nat → Bool) (f : Nat → Nat) (M : Nat → List B.V) (i : Nat) (j : Nat) :
    plcP (B.free on (i + 1)) f M j = upd (upd (upd (plcP on f M) (i * 3) (.int .u8 0)) (i * 3 + 1) (.int .i64 0)) (i * 3 + 2) (.slice none 0 0) j := by
  by_cases e2 : j = i * 3 + 2
  · subst e2; rw [upd_at, plc_2, B.free_at]; rfl
  · rw [upd_off _ _ _ _ e2]
    by_cases e1 : j = i * 3 + 1
    · subst e1; rw [upd_at, plc_1]
    · rw [upd_off _ _ _ _ e1]
      by_cases e0 : j = i * 3
      · subst e0; rw [upd_at, plc_0, B.free_at]; rfl
      · rw [upd_off _ _ _ _ e0]
        have hne : j / 3 + 1 ≠ i + 1 := by omega
        unfold plcP
        rw [B.free_off _ _ _ hne]

set_option maxRecDepth 100000 in
set_option maxHeartbeats 4000000 in
theorem lookc_any (cb rd sb pb n : Nat) (ad : Option Addr) (cap : Nat) (c : B.Cy) (on : Nat → Bool) (f : Nat → Nat) (M : Nat → List B.V) (w : World) (hC : Cym w cb rd sb n ad cap c) (hP : Plc w pb n on f M) (h0 : w.cell? ⟨sb, 0, none⟩ = some (.slice (some ⟨pb, 0, none⟩) n n)) (hx : c.nx < n) (hn : n ≤ 200) :
    Calls Tryz.prog 190 #[P0 cb] w fun e w' => e = .returned (.tuple #[]) ∧ Cym w' cb rd sb n ad cap (B.look c) ∧ Plc w' pb n (B.swept on c) f M ∧ Only (fun k => k = pb ∨ k = cb) w w' := by
  have KC := hid hC
  have KP := hid hP
  obtain ⟨c0, c1, _, c3, _, f3⟩ := hC.c1
  have lc := heap_lt hC.b
  have lr := hC.r.lt
  have lp := hP.p.lt
  have ls := cell_lt h0
  have m0 := hC.r.cell c.nx hx
  have npc : pb ≠ cb := by obtain ⟨cu, h, _⟩ := hP.p; exact cells_ne h hC.b (by decide)
  have ncp : ¬ cb = pb := fun e => npc e.symm
  have npr : pb ≠ rd := by obtain ⟨cu, h, _⟩ := hP.p; obtain ⟨cu', h', _⟩ := hC.r; exact cells_ne h h' (by decide)
  have hxi : (c.nx : Int) < (n : Int) := by omega
  have hwr : IntKind.i64.wrap ((c.nx : Int) + 1) = ((c.nx : Int) + 1) := by simp [IntKind.wrap, IntKind.bits, IntKind.signed]; omega
  have hwr2 : wrap64 ((c.nx : Int) + 1) = ((c.nx : Int) + 1) := IntWalk.wrap64_in _ ⟨by omega, by omega⟩
  have hq : ∀ k, (Value.slice ad c.st.length cap).ownBlock = some k → k ≠ cb ∧ k ≠ pb := fun k hk => by
    obtain ⟨cu, h⟩ := hC.q.ty k hk
    refine ⟨cells_ne h hC.b (by decide), ?_⟩
    obtain ⟨cu', h', _⟩ := hP.p
    exact cells_ne h h' (by decide)
  have HQ := hid hq
  have ncr : rd ≠ cb := by obtain ⟨cu', h', _⟩ := hC.r; exact cells_ne h' hC.b (by decide)
  have hsl : ∀ p, 1 ≤ p → p ≤ n → on p = true → f p ≠ cb ∧ f p ≠ pb := fun p a b d => by
    obtain ⟨cu, h, _⟩ := hP.s p a b d
    refine ⟨cells_ne h hC.b (by decide), ?_⟩
    obtain ⟨cu', h', _⟩ := hP.p
    exact cells_ne h h' (by decide)
  have HSL := hid hsl
  clear hC hP hq hsl
  cases hm : c.m (c.nx + 1)
  · obtain ⟨p0, z0⟩ := KP.out.p.cells (c.nx * 3) (by omega)
    obtain ⟨p1, z1⟩ := KP.out.p.cells (c.nx * 3 + 1) (by omega)
    obtain ⟨p2, z2⟩ := KP.out.p.cells (c.nx * 3 + 2) (by omega)
    generalize plcP on f M (c.nx * 3) = y0 at p0
    generalize plcP on f M (c.nx * 3 + 1) = y1 at p1
    generalize plcP on f M (c.nx * 3 + 2) = y2 at p2
    rw [hm] at m0
    have HM := hid hm
    clear hm
    have HC0 := hid (And.intro c0 (And.intro c1 c3))
    generalize hxx : c.nx = x at *
    go_enter Tryz.func190, Tryz.ntmps190
    go_wp2_with fail
    go_quiet (fail)
    go_wp2_with fail
    go_region
    go_wp2_with fail
    go_end0
    subst hxx
    have hsw : B.swept on c = B.free on (c.nx + 1) := by unfold B.swept; rw [if_neg (by rw [HM.out]; decide)]
    have hbk : ∀ k, k ≠ pb → ((((w.drewN (nq + 1)).setCell ⟨pb, c.nx * 3, none⟩ (.int .u8 0)).setCell ⟨pb, c.nx * 3 + 1, none⟩ (.int .i64 0)).setCell ⟨pb, c.nx * 3 + 2, none⟩ (.slice none 0 0)).heap[k]? = w.heap[k]? := fun k hk => by
      rw [Below.heap_setCell _ _ _ _ hk, Below.heap_setCell _ _ _ _ hk, Below.heap_setCell _ _ _ _ hk]; rfl
    refine ⟨rfl, Cym.step (KC.out.block (fun k hk => hbk k ?_)) ncr (fun k hk => (HQ.out k hk).1), ⟨?_, fun p a b d => ?_, fun p q a b d e g h => KP.out.i p q a b d e (swept_dn _ _ _ g) (swept_dn _ _ _ h), fun p a => KP.out.l p (swept_dn _ _ _ a)⟩, ?_⟩
    · rcases hk with h | h | h
      · rw [h]; exact ncp
      · rw [h]; exact fun e => npr e.symm
      · exact (HQ.out k (by rw [own_adB]; exact h)).2
    · rw [hsw]
      have hP : Full (w.drewN (nq + 1)) pb 228 (n * 3) (n * 3) (plcP on f M) := KP.out.p
      exact ((((hP.upd (c.nx * 3) (.int .u8 0)).upd (c.nx * 3 + 1) (.int .i64 0)).upd (c.nx * 3 + 2) (.slice none 0 0)).congr (fun j _ => (plc_free on f M c.nx j).symm)).off npc
    · have h := HSL.out p a b (swept_dn _ _ _ d)
      exact ((KP.out.s p a b (swept_dn _ _ _ d)).block (hbk _ h.2)).off h.1
    · exact only_setCell (only_setCell (only_setCell (only_setCell (only_drewN (only_refl _ _) _) (Or.inl (Or.inl rfl)) _) (Or.inl (Or.inl rfl)) _) (Or.inl (Or.inl rfl)) _) (Or.inl (Or.inr rfl)) _
  · rw [hm] at m0
    have HM := hid hm
    clear hm
    generalize hxx : c.nx = x at *
    go_enter Tryz.func190, Tryz.ntmps190
    go_wp2_with fail
    go_quiet (fail)
    go_wp2_with fail
    go_end0
    subst hxx
    have hsw : B.swept on c = on := by unfold B.swept; rw [if_pos HM.out]
    rw [hsw]
    have hC : Cym (w.drewN nq) cb rd sb n ad cap c := KC.out.block (fun _ _ => rfl)
    have hP : Plc (w.drewN nq) pb n on f M := KP.out.block rfl (fun _ _ _ _ => rfl)
    refine ⟨rfl, hC.step ncr (fun k hk => (HQ.out k hk).1), hP.block (Below.heap_setCell _ _ _ _ npc) (fun p a b d => Below.heap_setCell _ _ _ _ (HSL.out p a b d).1), only_setCell (only_drewN (only_refl _ _) _) (Or.inl (Or.inr rfl)) _⟩
end Go.Proofs.YtnjiinbhbjpfkaaGreatDoor

/-
  The collector: a cell is gone through; a unit.
-/
namespace Go.Proofs.YtnjiinbhbjpfkaaGreatDoor
open Go.RowKit

/-- How far a cell is gone through. -/
def Thr (w0 w : World) (cb rd sb n pb : Nat) (ad : Option Addr) (c : B.Cy) (st : List Nat) (on : Nat → Bool) (f : Nat → Nat) (M : Nat → List B.V) (l : List B.V) : Prop :=
  Only (CyB cb rd ad) w0 w ∧ Plc w pb n on f M ∧ ∃ ad' cap', Nad ad ad' w0.heap.size ∧ Cym w cb rd sb n ad' cap' ⟨(B.seenL c.m st l).1, (B.seenL c.m st l).2, c.nx⟩
theorem Thr.kept {w0 w w' : World} {cb rd sb n pb : Nat} {ad : Option Addr} {c : B.Cy} {st : List Nat} {on : Nat → Bool} {f : Nat → Nat} {M : Nat → List B.V} {l : List B.V} (h : Thr w0 w cb rd sb n pb ad c st on f M l) (hg : w.grownBy w' none) : Thr w0 w' cb rd sb n pb ad c st on f M l := by
  obtain ⟨h1, h2, ad', cap', h3, h4⟩ := h
  exact ⟨h1.then0 hg, h2.kept hg, ad', cap', h3, h4.kept hg⟩
theorem plc_cyb {w : World} {cb rd sb n pb m : Nat} {ad : Option Addr} {cap : Nat} {c : B.Cy} {on : Nat → Bool} {f : Nat → Nat} {M : Nat → List B.V} (hP : Plc w pb m on f M) (hC : Cym w cb rd sb n ad cap c) : ¬ CyB cb rd ad pb ∧ ∀ p, 1 ≤ p → p ≤ m → on p = true → ¬ CyB cb rd ad (f p) := by
  have key : ∀ (k : Nat) (cur : Array Value) (T : TypeId), w.heap[k]? = some (.cells cur T (0, 0)) → T ≠ 275 ∧ T ≠ 4 ∧ T ≠ 3 → ¬ CyB cb rd ad k := by
    intro k cur T hk hT h
    obtain ⟨cu, T', h1, h2⟩ := hC.ty k h
    rw [hk] at h1; injection h1 with h1; injection h1 with _ h1 _
    subst h1
    rcases h2 with h2 | h2 | h2
    · exact hT.1 h2
    · exact hT.2.1 h2
    · exact hT.2.2 h2
  refine ⟨?_, fun p a b d => ?_⟩
  · obtain ⟨cu, h, _⟩ := hP.p; exact key _ _ _ h (by decide)
  · obtain ⟨cu, h, _⟩ := hP.s p a b d; exact key _ _ _ h (by decide)
theorem thr_step {w0 w : World} {cb rd sb n pb : Nat} {ad : Option Addr} {c : B.Cy} {st : List Nat} {on : Nat → Bool} {f : Nat → Nat} {M : Nat → List B.V} {l : List B.V} (v : B.V) (h : Thr w0 w cb rd sb n pb ad c st on f M l) (hn : n ≤ 200) (hs : st.length + B.cnt c.m n ≤ n) (hl : ∀ v, v ∈ l → v.1 ≠ 0 → v.1 ≤ n) (hv : v.1 ≠ 0 → v.1 ≤ n) :
    Calls Tryz.prog 188 #[P0 cb, vA v] w fun e w' => e = .returned (.tuple #[]) ∧ Thr w0 w' cb rd sb n pb ad c st on f M (l ++ [v]) := by
  obtain ⟨h1, hP, ad', cap', h2, h3⟩ := h
  have hlen : (B.seenL c.m st l).2.length ≤ 200 := by have := B.seenL_sum (n := n) l c.m st hl; omega
  have hne := plc_cyb hP h3
  have hsz := h1.size
  refine (reach_any cb rd sb n ad' cap' _ v w h3 hv hn hlen).mono ?_
  rintro e w' ⟨rfl, ad2, cap2, h4, h5, h6⟩
  refine ⟨rfl, h1.trans h6 (fun k hk hl => (h2.cyb hk).resolve_right (by omega)), hP.block (h6.same hP.p.lt hne.1) (fun p a b d => h6.same (hP.s p a b d).lt (hne.2 p a b d)), ad2, cap2, h2.trans h4 hsz, ?_⟩
  rw [B.seenL_snoc]
  exact h5

set_option maxRecDepth 100000 in
set_option maxHeartbeats 4000000 in
theorem thruc_any (cb rd sb pb n p : Nat) (ad : Option Addr) (cap : Nat) (c : B.Cy) (st : List Nat) (on : Nat → Bool) (f : Nat → Nat) (M : Nat → List B.V) (w : World) (hC : Cym w cb rd sb n ad cap c) (hP : Plc w pb n on f M) (h0 : w.cell? ⟨sb, 0, none⟩ = some (.slice (some ⟨pb, 0, none⟩) n n)) (hsb : ¬ CyB cb rd ad sb) (hst : c.st = st ++ [p]) (hp : 1 ≤ p ∧ p ≤ n ∧ on p = true) (hv : ∀ v, v ∈ M p → v.1 ≠ 0 → v.1 ≤ n) (hs : st.length + B.cnt c.m n ≤ n) (hn : n ≤ 200) :
    Calls Tryz.prog 189 #[P0 cb] w fun e w' => e = .returned (.tuple #[]) ∧ Plc w' pb n on f M ∧ Only (CyB cb rd ad) w w' ∧ ∃ ad' cap', Nad ad ad' w.heap.size ∧ Cym w' cb rd sb n ad' cap' (B.thru M c st p) := by
  obtain ⟨k, rfl⟩ : ∃ k, p = k + 1 := ⟨p - 1, by omega⟩
  have hkd := hp.2.2
  have hkn : k < n := by omega
  have hC2 : w.heap[cb]? = some (.cells #[P0 sb, .slice (some ⟨rd, 0, none⟩) n n, .slice ad (st.length + 1) cap, .int .i64 c.nx] 275 (0, 0)) := by have := hC.b; rw [hst, List.length_append, List.length_singleton] at this; exact this
  have hq : Qrow w 3 (.slice ad ((stL st).length + 1) cap) (stL st ++ [.int .i64 (k : Int)]) := by
    have := hC.q
    rw [hst, stL_app, List.length_append, List.length_singleton, ← stL_len st] at this
    exact this
  obtain ⟨g, off, rfl, lg, hcap, hlast, hq2⟩ := hq.pop
  rw [stL_len] at hcap hlast hq2
  obtain ⟨e0, _, e2, _⟩ : w.cell? ⟨cb, 0, none⟩ = some (P0 sb) ∧ True ∧ w.cell? ⟨cb, 2, none⟩ = some (.slice (some ⟨g, off, none⟩) (st.length + 1) cap) ∧ True := by simp [World.cell?, hC2]
  have z2 : w.frozen? ⟨cb, 2, none⟩ = false := by simp [World.frozen?, hC2]
  have lc := heap_lt hC2
  have ls := cell_lt h0
  have lp := hP.p.lt
  have p2 := hP.p.cell (k * 3 + 2) (by omega)
  rw [plc_2, hkd] at p2
  have hsl : slV true (f (k + 1)) (M (k + 1)).length = .slice (some ⟨f (k + 1), 0, none⟩) (M (k + 1)).length (M (k + 1)).length := rfl
  rw [hsl] at p2
  have hne := plc_cyb hP hC
  have nsc : ¬ sb = cb := fun e => hsb (Or.inl e)
  have npc : ¬ pb = cb := fun e => hne.1 (Or.inl e)
  have ngc : g ≠ cb := by
    obtain ⟨cu, h⟩ := hq.ty g rfl
    exact cells_ne h hC2 (by decide)
  have ncg : ¬ cb = g := fun e => ngc e.symm
  have hl8 := hP.l _ hkd
  have hsb2 : st.length ≤ 200 := by omega
  have hcl : st.length ≤ cap := by omega
  -- the stack is cut
  have KT : Hid (Thr w (w.setCell ⟨cb, 2, none⟩ (.slice (some ⟨g, off, none⟩) st.length cap)) cb rd sb n pb (some ⟨g, off, none⟩) c st on f M []) := by
    have ncr : rd ≠ cb := by obtain ⟨cu', h', _⟩ := hC.r; exact cells_ne h' hC2 (by decide)
    refine ⟨only_setCell (only_refl _ _) (Or.inl (Or.inl rfl)) _, hP.block (Below.heap_setCell _ _ _ _ (fun e => npc e)) (fun p a b d => Below.heap_setCell _ _ _ _ (fun e => hne.2 p a b d (Or.inl e))), some ⟨g, off, none⟩, cap, Nad.refl _ _, ⟨?_, hC.r.off ncr, hq2.block (fun x hx => Below.heap_setCell _ _ _ _ ?_)⟩⟩
    · simp [World.setCell, Array.getElem?_modify, hC2, B.seenL]
    · have e : g = x := by injection hx
      subst e; exact ngc
  have HV := hid hv
  have HST := hid hs
  have HPL := hid hp
  have hki : (k : Int) < (n : Int) := by omega
  have hli : (st.length : Int) < (st.length : Int) + 1 := by omega
  have hsub : (st.length : Int) + 1 - 1 = (st.length : Int) := by omega
  have hwr : IntKind.i64.wrap (st.length : Int) = (st.length : Int) := by simp [IntKind.wrap, IntKind.bits, IntKind.signed]; omega
  have hwr2 : wrap64 (st.length : Int) = (st.length : Int) := IntWalk.wrap64_in _ ⟨by omega, by omega⟩
  generalize hln : st.length = ln at *
  have HLN := hid hln
  clear hC hP hC2 hq hq2 hst hne hs hv hsl hp hln hsb
  go_enter Tryz.func189, Tryz.ntmps189
  go_wp2_with fail
  generalize hW : w.setCell ⟨cb, 2, none⟩ (.slice (some ⟨g, off, none⟩) ln cap) = w1 at *
  clear hW e0 e2 z2 h0 p2 hlast
  go_loopw [40] (fun i wr => ∃ j : Nat, j ≤ (M (k + 1)).length ∧ i = .int .i64 j ∧ Hid (Thr w wr cb rd sb n pb (some ⟨g, off, none⟩) c st on f M ((M (k + 1)).take j))) (fun i _ => (M (k + 1)).length - (intOf i).toNat)
  case atStart => exact ⟨0, by omega, rfl, KT⟩
  case round =>
    obtain ⟨j, hj, rfl, hX⟩ := hrel
    by_cases hlt : j < (M (k + 1)).length
    · have hF := hX.out.2.1.s (k + 1) HPL.out.1 HPL.out.2.1 HPL.out.2.2
      have r0 := hF.cell (j * 2) (by omega)
      have r1 := hF.cell (j * 2 + 1) (by omega)
      rw [regP_0] at r0
      rw [regP_1] at r1
      have lr := hF.lt
      clear hF
      have hmem : slots M (k + 1) j ∈ M (k + 1) := by
        show (M (k + 1)).getD j (0, 0) ∈ M (k + 1)
        rw [List.getD_eq_getElem?_getD, List.getElem?_eq_getElem hlt]
        exact List.getElem_mem hlt
      have htk : (M (k + 1)).take (j + 1) = (M (k + 1)).take j ++ [slots M (k + 1) j] := by
        rw [List.take_succ_eq_append_getElem hlt]
        congr 1
        show [_] = [(M (k + 1)).getD j (0, 0)]
        rw [List.getD_eq_getElem?_getD, List.getElem?_eq_getElem hlt]; rfl
      generalize hvv : slots M (k + 1) j = vv at *
      have HTK := hid htk
      have HMem := hid hmem
      clear htk hmem hvv
      have hji : (j : Int) < ((M (k + 1)).length : Int) := by omega
      generalize hll : (M (k + 1)).length = ml at *
      have HLL := hid hll
      clear hll
      go_wp2_with fail
      refine (thr_step vv (hX.out.kept (World.grownBy_alloc _ _ _)) hn (by rw [HLN.out]; exact HST.out) (fun v hv h0 => HV.out v (List.mem_of_mem_take hv) h0) (HV.out vv HMem.out)).mono ?_
      rintro e w5 ⟨rfl, hV5⟩
      rw [← HTK.out] at hV5
      have KV5 := hid hV5
      clear hV5 r0 r1
      go_wp2_with fail
      go_roundw
      case rel => exact ⟨j + 1, by omega, by go_num, KV5⟩
      case measure => simp [intOf]; omega
    · have hjl : j = (M (k + 1)).length := by omega
      have hge : decide ((j : Int) < ((M (k + 1)).length : Int)) = false := by simp; omega
      have hX2 := hX.out
      rw [hjl, List.take_length] at hX2
      have KX := hid hX2
      clear hX2
      go_wp2_with fail
      go_end0
      obtain ⟨x1, x2, ad', cap', x3, x4⟩ := KX.out
      exact ⟨rfl, x2, x1, ad', cap', x3, x4⟩

set_option maxRecDepth 100000 in
set_option maxHeartbeats 1000000 in
/-- A unit. -/
theorem unitc_any (cb rd sb pb n : Nat) (ad : Option Addr) (cap : Nat) (c : B.Cy) (on : Nat → Bool) (f : Nat → Nat) (M : Nat → List B.V) (T : Nat → Prop) (w : World) (hC : Cym w cb rd sb n ad cap c) (hP : Plc w pb n on f M) (h0 : w.cell? ⟨sb, 0, none⟩ = some (.slice (some ⟨pb, 0, none⟩) n n)) (hsb : ¬ CyB cb rd ad sb) (hT : B.Snap on n M c T) (hs : c.st.length + B.cnt c.m n ≤ n) (hx : c.nx < n) (hn : n ≤ 200) :
    Calls Tryz.prog 136 #[P0 cb] w fun e w' => e = .returned (.tuple #[]) ∧ Plc w' pb n (B.unit M on c).1 f M ∧ Only (fun k => k = pb ∨ CyB cb rd ad k) w w' ∧ ∃ ad' cap', Nad ad ad' w.heap.size ∧ Cym w' cb rd sb n ad' cap' (B.unit M on c).2 := by
  obtain ⟨_, _, e2, _, _, _⟩ := hC.c1
  have lc := heap_lt hC.b
  rcases List.eq_nil_or_concat c.st with hst | ⟨st, p, hst⟩
  · have HL := hid (lookc_any cb rd sb pb n ad cap c on f M w hC hP h0 hx hn)
    rw [B.unit_look hst]
    rw [hst] at e2
    have e2' : w.cell? ⟨cb, 2, none⟩ = some (.slice ad 0 cap) := e2
    clear hC hP h0 hsb hT hs e2
    go_enter Tryz.func136, Tryz.ntmps136
    go_wp2_with fail
    refine HL.out.mono ?_
    rintro e w1 ⟨rfl, h1, h2, h3⟩
    have HR := hid (And.intro h2 (And.intro (h3.mono (S1 := fun k => k = pb ∨ CyB cb rd ad k) (fun k hk _ => hk.imp id (fun h => Or.inl h))) h1))
    clear h1 h2 h3 e2'
    go_wp2_with fail
    go_end0
    exact ⟨rfl, HR.out.1, HR.out.2.1, ad, cap, Nad.refl _ _, HR.out.2.2⟩
  · rw [List.concat_eq_append] at hst
    have hpT : T p := hT.hc p (hT.hd p (by rw [hst]; simp))
    have hs' : st.length + B.cnt c.m n ≤ n := by rw [hst] at hs; simp at hs; omega
    have HL := hid (thruc_any cb rd sb pb n p ad cap c st on f M w hC hP h0 hsb hst (hT.ha p hpT) (fun v hv h0 => (hT.ha _ ((hT.hb p hpT v hv).2 h0)).2.1) hs' hn)
    rw [B.unit_thru hst]
    rw [hst, List.length_append, List.length_singleton] at e2
    have hpos : (0 : Int) < (st.length : Int) + 1 := by omega
    clear hC hP h0 hsb hT hs hs'
    go_enter Tryz.func136, Tryz.ntmps136
    go_wp2_with fail
    refine HL.out.mono ?_
    rintro e w1 ⟨rfl, h1, h2, h3⟩
    have HR := hid (And.intro h1 (And.intro (h2.mono (S1 := fun k => k = pb ∨ CyB cb rd ad k) (fun k hk _ => Or.inr hk)) h3))
    clear h1 h2 h3 e2
    go_wp2_with fail
    go_end0
    exact ⟨rfl, HR.out⟩
end Go.Proofs.YtnjiinbhbjpfkaaGreatDoor

/-
  The collector: a forced collection.
-/
namespace Go.Proofs.YtnjiinbhbjpfkaaGreatDoor
open Go.RowKit

theorem wrap_succ (a : Nat) : wrap64 (wrap64 (a : Int) + 1) = wrap64 ((a + 1 : Nat) : Int) := by unfold wrap64; omega

/-- How much is left to do, as it can be read off the memory. -/
def lenAt (w : World) (cb : Nat) : Nat := match w.cell? ⟨cb, 2, none⟩ with | some (.slice _ n _) => n | _ => 0
def nxAt (w : World) (cb : Nat) : Nat := match w.cell? ⟨cb, 3, none⟩ with | some (.int _ n) => n.toNat | _ => 0
def falses (w : World) (rd : Nat) : Nat → Nat
  | 0 => 0
  | k + 1 => falses w rd k + (match w.cell? ⟨rd, k, none⟩ with | some (.bool true) => 0 | _ => 1)
def todo (w : World) (cb rd n : Nat) : Nat := lenAt w cb + falses w rd n + (n - nxAt w cb)
theorem falses_is {w : World} {rd n : Nat} {m : Nat → Bool} (h : Full w rd 4 n n (fun j => .bool (m (j + 1)))) : ∀ k, k ≤ n → falses w rd k = B.cnt m k
  | 0, _ => rfl
  | k + 1, hk => by
    rw [falses, B.cnt, falses_is h k (by omega), h.cell k (by omega)]
    cases m (k + 1) <;> rfl
theorem todo_is {w : World} {cb rd sb n : Nat} {ad : Option Addr} {cap : Nat} {c : B.Cy} (h : Cym w cb rd sb n ad cap c) : todo w cb rd n = c.st.length + B.cnt c.m n + (n - c.nx) := by
  obtain ⟨_, _, c2, c3, _⟩ := h.c1
  unfold todo lenAt nxAt
  rw [falses_is h.r n (Nat.le_refl _), c2, c3]
  simp
/-- A unit leaves less to do. -/
theorem unit_less {on : Nat → Bool} {n : Nat} {M : Nat → List B.V} {c : B.Cy} {T : Nat → Prop} (h : B.Snap on n M c T) (hx : c.nx < n) :
    (B.unit M on c).2.st.length + B.cnt (B.unit M on c).2.m n + (n - (B.unit M on c).2.nx) + 1 = c.st.length + B.cnt c.m n + (n - c.nx) ∧ (B.unit M on c).2.st.length + B.cnt (B.unit M on c).2.m n ≤ c.st.length + B.cnt c.m n := by
  rcases List.eq_nil_or_concat c.st with hst | ⟨st, p, hst⟩
  · rw [B.unit_look hst]
    show c.st.length + B.cnt c.m n + (n - (c.nx + 1)) + 1 = _ ∧ c.st.length + B.cnt c.m n ≤ _
    omega
  · rw [List.concat_eq_append] at hst
    have hpT : T p := h.hc p (h.hd p (by rw [hst]; simp))
    have := B.seenL_sum (n := n) (M p) c.m st (fun v hv h0 => (h.ha _ ((h.hb p hpT v hv).2 h0)).2.1)
    rw [B.unit_thru hst]
    show (B.seenL c.m st (M p)).2.length + B.cnt (B.seenL c.m st (M p)).1 n + (n - c.nx) + 1 = _ ∧ (B.seenL c.m st (M p)).2.length + B.cnt (B.seenL c.m st (M p)).1 n ≤ _
    rw [hst, List.length_append, List.length_singleton]
    omega
/-- What begins has no more to do than there are places. -/
theorem begun_sum {kd : B.Kd} {nr n : Nat} {s : B.St} (h : B.Held kd nr n s) : (B.begun s.2.1 nr).st.length + B.cnt (B.begun s.2.1 nr).m n ≤ n := by
  have := B.seenL_sum (n := n) (B.regs s.2.1 nr) (fun _ => false) [] (fun v hv h0 => by
    obtain ⟨i, hi, rfl⟩ := B.regs_mem.1 hv
    exact (B.reach_kd h (B.reach_reg i hi h0)).2.2)
  rw [B.cnt_all] at this
  show (B.seenL (fun _ => false) [] (B.regs s.2.1 nr)).2.length + B.cnt (B.seenL (fun _ => false) [] (B.regs s.2.1 nr)).1 n ≤ n
  simp at this
  omega

/-- What the collector needs: the roots can be visited, the store, and what is held in it. -/
structure Rts (w : World) (Q : Nat → Prop) (eb sb pb n nr : Nat) (kd : B.Kd) (vb : Vs) (s : B.St) : Prop where
  hv : Vis Q w eb nr s.2.1
  hq : ∀ k, Q k → k < w.heap.size ∧ k ≠ sb
  hs : Str w sb pb eb n kd vb s.2.2
  hh : B.Held kd nr n s
  n1 : 1 ≤ n
  n2 : n ≤ 200
theorem Rts.kept {w w' : World} {Q : Nat → Prop} {eb sb pb n nr : Nat} {kd : B.Kd} {vb : Vs} {s : B.St} (h : Rts w Q eb sb pb n nr kd vb s) (hg : w.grownBy w' none) : Rts w' Q eb sb pb n nr kd vb s :=
  ⟨h.hv.block (fun k hk => hg.block k (h.hq k hk).1 (by intro e; cases e)), fun k hk => ⟨Nat.lt_of_lt_of_le (h.hq k hk).1 hg.size, (h.hq k hk).2⟩, h.hs.kept hg, h.hh, h.n1, h.n2⟩
theorem Rts.roots {w : World} {Q : Nat → Prop} {eb sb pb n nr : Nat} {kd : B.Kd} {vb : Vs} {s : B.St} (h : Rts w Q eb sb pb n nr kd vb s) : ∀ i, i < nr → (s.2.1 i).1 ≠ 0 → (s.2.1 i).1 ≤ n := fun i hi h0 => (B.reach_kd h.hh (B.reach_reg i hi h0)).2.2

theorem Str.cells {w : World} {sb pb eb n : Nat} {kd : B.Kd} {vb : Vs} {M : Nat → List B.V} (h : Str w sb pb eb n kd vb M) :
    w.cell? ⟨sb, 1, none⟩ = some (.func (.func 59) #[P0 eb] #[]) ∧ w.cell? ⟨sb, 2, none⟩ = some (cyV kd vb) ∧ w.cell? ⟨sb, 3, none⟩ = some (.int .i64 (wrap64 (kd.un : Int))) ∧ w.cell? ⟨sb, 4, none⟩ = some (.int .i64 (wrap64 (kd.fo : Int))) ∧ w.cell? ⟨sb, 5, none⟩ = some (.int .i64 (wrap64 (kd.cc : Int))) ∧ w.frozen? ⟨sb, 2, none⟩ = false ∧ w.frozen? ⟨sb, 3, none⟩ = false ∧ w.frozen? ⟨sb, 4, none⟩ = false ∧ w.frozen? ⟨sb, 5, none⟩ = false := by
  simp [World.cell?, World.frozen?, h.b]

/-- A forced collection under way. -/
def Frc (w wr : World) (cb rd sb pb n nr : Nat) (kd : B.Kd) (vb : Vs) (s : B.St) (o : Obj) : Prop :=
  ∃ c on ad cap, Cym wr cb rd sb n ad cap c ∧ Plc wr pb n on vb.f s.2.2 ∧ B.Snap on n s.2.2 c (B.Reach nr s) ∧ c.st.length + B.cnt c.m n ≤ n ∧ (∀ p, on p = true → kd.on p = true) ∧ (∀ k, CyB cb rd ad k → w.heap.size ≤ k) ∧ Only (fun k => k = sb ∨ k = pb) w wr ∧ wr.heap[sb]? = some o
theorem Frc.kept {w wr w' : World} {cb rd sb pb n nr : Nat} {kd : B.Kd} {vb : Vs} {s : B.St} {o : Obj} (h : Frc w wr cb rd sb pb n nr kd vb s o) (hg : wr.grownBy w' none) : Frc w w' cb rd sb pb n nr kd vb s o := by
  obtain ⟨c, on, ad, cap, h1, h2, h3, h4, h5, h6, h7, h8⟩ := h
  exact ⟨c, on, ad, cap, h1.kept hg, h2.kept hg, h3, h4, h5, h6, h7.then0 hg, grown_heap hg h8 (by intro e; cases e)⟩

set_option maxRecDepth 100000 in
set_option maxHeartbeats 4000000 in
theorem force_any (Q : Nat → Prop) (eb sb pb n nr : Nat) (kd : B.Kd) (vb : Vs) (s : B.St) (w : World) (hR : Rts w Q eb sb pb n nr kd vb s) :
    Calls Tryz.prog 219 #[P0 sb] w fun e w' => e = .returned (.tuple #[]) ∧ ∃ on : Nat → Bool, (∀ p, 1 ≤ p → p ≤ n → (on p = true ↔ B.Reach nr s p)) ∧ (∀ p, on p = true → kd.on p = true) ∧ (∀ p, B.Reach nr s p → on p = true) ∧ Only (fun k => k = sb ∨ k = pb) w w' ∧ Str w' sb pb eb n ⟨on, none, kd.un, kd.fo + 1, kd.cc⟩ vb s.2.2 := by
  have KR := hid hR
  obtain ⟨c1, c2, c3, c4, c5, z2, z3, z4, z5⟩ := hR.hs.cells
  have c0 := hR.hs.c0
  have ls := heap_lt hR.hs.b
  have hn := hR.n2
  have hn1 := hR.n1
  have nsp : sb ≠ pb := by obtain ⟨cu, h, _⟩ := hR.hs.p.p; exact cells_ne hR.hs.b h (by decide)
  have hb := hR.hs.b
  have HB := hid hb
  clear hR hb
  generalize hy : wrap64 (kd.fo : Int) = y at *
  generalize hcv : cyV kd vb = cv at *
  have HY := hid hy
  clear hy hcv
  go_enter Tryz.func219, Tryz.ntmps219
  go_wp2_with fail
  generalize hW : (w.setCell ⟨sb, 4, none⟩ (.int .i64 (wrap64 (y + 1)))).setCell ⟨sb, 2, none⟩ (.pointer none) = w2
  have hz2 : w2.heap.size = w.heap.size := by rw [← hW]; simp [World.setCell]
  have hbk : ∀ k, k ≠ sb → w2.heap[k]? = w.heap[k]? := fun k hk => by rw [← hW, Below.heap_setCell _ _ _ _ hk, Below.heap_setCell _ _ _ _ hk]
  have hs2 : w2.heap[sb]? = some (.cells #[.slice (some ⟨pb, 0, none⟩) n n, .func (.func 59) #[P0 eb] #[], .pointer none, .int .i64 (wrap64 (kd.un : Int)), .int .i64 (wrap64 (y + 1)), .int .i64 (wrap64 (kd.cc : Int))] 207 (0, 0)) := by
    rw [← hW]
    have := HB.out
    simp [World.setCell, Array.getElem?_modify, this]
  have KO2 : Hid (Only (fun k => k = sb ∨ k = pb) w w2) := by
    show Only _ _ _
    rw [← hW]
    exact only_setCell (only_setCell (only_refl _ _) (Or.inl (Or.inl rfl)) _) (Or.inl (Or.inl rfl)) _
  have d0 : w2.cell? ⟨sb, 0, none⟩ = some (.slice (some ⟨pb, 0, none⟩) n n) := by simp [World.cell?, hs2]
  have d1 : w2.cell? ⟨sb, 1, none⟩ = some (.func (.func 59) #[P0 eb] #[]) := by simp [World.cell?, hs2]
  generalize ho : (.cells #[.slice (some ⟨pb, 0, none⟩) n n, .func (.func 59) #[P0 eb] #[], .pointer none, .int .i64 (wrap64 (kd.un : Int)), .int .i64 (wrap64 (y + 1)), .int .i64 (wrap64 (kd.cc : Int))] 207 (0, 0) : Obj) = o at *
  have HO := hid ho
  have HS2 := hid hs2
  have HP2 : Hid (Plc w2 pb n kd.on vb.f s.2.2) := KR.out.hs.p.block (hbk pb (fun e => nsp e.symm)) (fun p a b d => hbk _ (by
    obtain ⟨cu, h, _⟩ := KR.out.hs.p.s p a b d
    exact cells_ne h HB.out (by decide)))
  have HVS : Hid (Vis Q w2 eb nr s.2.1) := KR.out.hv.block (fun k hk => hbk k (KR.out.hq k hk).2)
  clear hW hbk ho hs2 c0 c1 c2 c3 c4 c5 z2 z3 z4 z5
  refine (beginc_any Q eb sb pb n nr s.2.1 w2 d0 d1 HVS.out (fun k hk => by have := (KR.out.hq k hk).1; omega) hn KR.out.roots).mono ?_
  rintro e w3 ⟨cb, rd, ad, cap, rfl, hB3, hC3, hY3⟩
  have HF3 : Hid (Frc w w3 cb rd sb pb n nr kd vb s o) := by
    refine ⟨_, kd.on, ad, cap, hY3, HP2.out.block (hB3.block pb HP2.out.p.lt) (fun p a b d => hB3.block _ (HP2.out.s p a b d).lt), B.snap_begun KR.out.hh, begun_sum KR.out.hh, fun _ h => h, fun k hk => by have := hC3 k hk; omega, ?_, (hB3.block sb (by omega)).trans HS2.out⟩
    exact KO2.out.trans (S1 := fun _ => False) ⟨hB3.os, hB3.tape, hB3.output, hB3.size, fun k hk _ => hB3.block k hk⟩ (fun _ h _ => h.elim)
  clear hB3 hC3 hY3 d0 d1 HVS HP2 HS2 KO2 HB
  go_wp2_with fail
  go_loopw [] (fun wr => Hid (Frc w wr cb rd sb pb n nr kd vb s o)) (fun wr => todo wr cb rd n)
  case atStart => exact HF3
  case round =>
    obtain ⟨c, on, ad', cap', h1, h2, h3, h4, h5, h6, h7, h8⟩ := hrel.out
    have HT := hid (todo_is h1)
    have HX := hid (And.intro h1 (And.intro h2 (And.intro h3 (And.intro h4 (And.intro h5 (And.intro h6 (And.intro h7 h8)))))))
    have HE := hid (endedc_any cb rd sb n ad' cap' c wr h1)
    clear h1 h2 h3 h4 h5 h6 h7 h8
    by_cases hx : c.nx = n
    · have hd : decide (c.nx = n) = true := by simpa using hx
      rw [hd] at HE
      have HXN := hid hx
      clear hx hd
      go_wp2_with fail
      refine HE.out.mono ?_
      rintro e w4 ⟨rfl, hg4⟩
      have HG4 := hid hg4
      clear hg4
      go_wp2_with fail
      go_end0
      obtain ⟨h1, h2, h3, h4, h5, h6, h7, h8⟩ := HX.out
      have hst : c.st = [] := h3.hg (by have := HXN.out; omega)
      refine ⟨rfl, on, fun p a b => ?_, h5, fun p hp => (h3.ha p hp).2.2, h7.then0 HG4.out, ⟨?_, h2.kept HG4.out, fun c hc => by cases hc⟩⟩
      · rw [← h3.last hst p]
        exact ⟨h3.hi p a (by have := HXN.out; omega), fun hm => (h3.ha p (h3.hc p hm)).2.2⟩
      · have := grown_heap HG4.out h8 (by intro e; cases e)
        rw [this, ← HO.out, ← HY.out, wrap_succ]
        rfl
    · have hd : decide (c.nx = n) = false := by simpa using hx
      rw [hd] at HE
      have hlt : c.nx < n := by have := HX.out.2.2.1.hh; omega
      have HLT := hid hlt
      clear hx hd hlt
      go_wp2_with fail
      refine HE.out.mono ?_
      rintro e w4 ⟨rfl, hg4⟩
      have HG4 := hid hg4
      clear hg4
      go_wp2_with fail
      have hs0 : w4.cell? ⟨sb, 0, none⟩ = some (.slice (some ⟨pb, 0, none⟩) n n) := by
        have := grown_heap HG4.out HX.out.2.2.2.2.2.2.2 (by intro e; cases e)
        rw [← HO.out] at this
        simp [World.cell?, this]
      refine (unitc_any cb rd sb pb n ad' cap' c on vb.f s.2.2 (B.Reach nr s) w4 (HX.out.1.kept HG4.out) (HX.out.2.1.kept HG4.out) hs0 (fun h => ?_) HX.out.2.2.1 HX.out.2.2.2.1 HLT.out hn).mono ?_
      · have := HX.out.2.2.2.2.2.1 sb h
        omega
      rintro e w5 ⟨rfl, u1, u2, ad2, cap2, u3, u4⟩
      have hun := unit_less HX.out.2.2.1 HLT.out
      have hT5 := todo_is u4
      have hz4 := HG4.out.size
      have hz3 := HX.out.2.2.2.2.2.2.1.size
      have HF5 : Hid (Frc w w5 cb rd sb pb n nr kd vb s o) := by
        obtain ⟨h1, h2, h3, h4, h5, h6, h7, h8⟩ := HX.out
        refine ⟨_, _, ad2, cap2, u4, u1, B.snap_unit h3 HLT.out, by omega, fun p hp => h5 p (B.unit_dn hp), fun k hk => ?_, (h7.then0 HG4.out).trans u2 (fun k hk hl => ?_), (u2.same (by omega) (fun h => ?_)).trans (grown_heap HG4.out h8 (by intro e; cases e))⟩
        · rcases u3.cyb hk with h | h
          · exact h6 k h
          · omega
        · rcases hk with h | h
          · exact Or.inr h
          · exact absurd (h6 k h) (by omega)
        · rcases h with h | h
          · exact nsp h
          · exact absurd (h6 sb h) (by omega)
      have HLS : Hid (todo w5 cb rd n < todo wr cb rd n) := by show _ < _; have := HT.out; omega
      clear u1 u2 u3 u4 hun hT5 hs0
      go_wp2_with fail
      go_roundw
      case rel => exact HF5
      case measure => exact HLS.out
end Go.Proofs.YtnjiinbhbjpfkaaGreatDoor
