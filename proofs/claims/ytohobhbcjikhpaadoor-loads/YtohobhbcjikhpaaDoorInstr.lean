/-
  The program's 'instruction' answers as the plain function 'ins' says, where the variable of the operands' letters holds its table.
-/
import Derived.Test.YtohobhbcjikhpaaDoorOpers
namespace Go.Proofs.YtohobhbcjikhpaaDoor
open Go.RowKit

/-- The table of the operands' letters lies in the program's variable. -/
def Tab (w : World) : Prop := 0 < w.heap.size ∧ ∀ op, op < 23 → w.cell? ⟨0, op, none⟩ = some (.string (M.KS op))
theorem Tab.kept {w w' : World} {b : Nat} (h : Tab w) (hg : w.grownBy w' (some b)) (hb : b ≠ 0) : Tab w' :=
  ⟨Nat.lt_of_lt_of_le h.1 hg.size, fun op ho => (World.cell?_of_block (a := ⟨0, op, none⟩) (hg.block 0 h.1 (by intro e; injection e; omega))).trans (h.2 op ho)⟩
theorem Tab.alloc {w : World} (h : Tab w) (o : Obj) : Tab (w.alloc o) := h.kept (b := 1) (World.grownBy_alloc _ _ _) (by omega)

def Instr4 (s : ByteArray) (p : Nat) (e : Ending) (ok : Bool) : Prop := ∃ a0 a1 a2 a3 : Int, e = .returned (.tuple #[.agg #[.int .u8 a0, .int .u8 a1, .int .u8 a2, .int .u8 a3], .bool ok]) ∧ (ok = true → a0 = (M.bt s p : Int) ∧ a1 = (M.bt s (p + 1) : Int) ∧ a2 = (M.bt s (p + 2) : Int) ∧ a3 = (M.bt s (p + 3) : Int))

theorem rdA_alloc {w : World} {b : Nat} {s : ByteArray} {p f r l : Int} (h : w.heap[b]? = some (rdA s p f r l)) (o : Obj) : (w.alloc o).heap[b]? = some (rdA s p f r l) := (Below.heap_alloc _ _ _ (heap_lt h)).trans h

/-- A new block of four cells, behind a call that wrote into another. -/
theorem four_cells {w w1 : World} {b k : Nat} {a0 a1 a2 a3 : Value} {T : TypeId} (h : w.heap[k]? = some (.cells #[a0, a1, a2, a3] T (0, 0))) (hg : w.grownBy w1 (some b)) (hk : k ≠ b) :
    k < w1.heap.size ∧ w1.cell? ⟨k, 0, none⟩ = some a0 ∧ w1.cell? ⟨k, 1, none⟩ = some a1 ∧ w1.cell? ⟨k, 2, none⟩ = some a2 ∧ w1.cell? ⟨k, 3, none⟩ = some a3 ∧
    w1.frozen? ⟨k, 0, none⟩ = false ∧ w1.frozen? ⟨k, 1, none⟩ = false ∧ w1.frozen? ⟨k, 2, none⟩ = false ∧ w1.frozen? ⟨k, 3, none⟩ = false := by
  have h1 := grown_heap hg h (by intro e; injection e; omega)
  exact ⟨heap_lt h1, by simp [World.cell?, World.frozen?, h1]⟩

set_option maxHeartbeats 400000 in
theorem instruction_no1 (b : Nat) (s : ByteArray) (p : Nat) (f r l : Int) (w : World) (h : w.heap[b]? = some (rdA s p f r l)) (hp : p ≤ s.size) (ht : M.tk s p 0 22 = false) :
    Calls Tryd.prog 61 #[.pointer (some ⟨b, 0, none⟩)] w fun e w' => Instr4 s p e false ∧ w'.heap[b]? = some (rdA s p f r l) ∧ w.grownBy w' (some b) := by
  have hb := heap_lt h
  obtain ⟨c0, c1, _, _, _⟩ := rdA_cells h
  have H : Hid (w.heap[b]? = some (rdA s p f r l)) := h
  clear h
  go_enter Tryd.func61, Tryd.ntmps61
  go_wp2_with fail
  refine (take_bad b s p 0 22 f r l _ _ _ (rdA_alloc H.out _) hp rfl rfl ht).mono ?_
  rintro e w1 ⟨rfl, hh, hg⟩
  obtain ⟨hz, d0, d1, d2, d3, e0, e1, e2, e3⟩ := four_cells (k := w.heap.size) (heap_alloc_new w _) hg (by omega)
  have HH : Hid (w1.heap[b]? = some (rdA s p f r l)) := hh
  clear hh
  go_wp2_with fail
  refine bodyPost_ret (v := .tuple #[.agg #[.int .u8 0, .int .u8 0, .int .u8 0, .int .u8 0], .bool false]) (by simp [results, Tryd.results61, go_sem, *]) rfl ⟨⟨0, 0, 0, 0, rfl, fun h => by cases h⟩, ?_, ?_⟩
  · repeat (rw [Below.heap_setCell _ _ _ _ (by simp; omega)])
    exact HH.out
  · repeat (refine grown_setCell ?_ (Or.inr (by simp)) _)
    exact grown_trans (World.grownBy_alloc _ _ _) hg

set_option maxHeartbeats 400000 in
theorem instruction_no2 (b : Nat) (s : ByteArray) (p R F L : Nat) (f r l : Int) (w : World) (h : w.heap[b]? = some (rdA s p f r l)) (hs : s.size ≤ maxLen) (hb0 : b ≠ 0) (hT : Tab w) (hr : Hid (r = R)) (hf : Hid (f = F)) (hl : Hid (l = L)) (h1 : 1 ≤ R) (h2 : 1 ≤ F) (h3 : R ≤ 8) (h4 : F ≤ 8)
    (ht : M.tk s p 0 22 = true) (ho : Hid ((M.opn s (p + 1) (M.bt s p) R F L).2 = false)) :
    Calls Tryd.prog 61 #[.pointer (some ⟨b, 0, none⟩)] w fun e w' => Instr4 s p e false ∧ w'.heap[b]? = some (rdA s ((M.opn s (p + 1) (M.bt s p) R F L).1 : Nat) f r l) ∧ w.grownBy w' (some b) := by
  have hb := heap_lt h
  obtain ⟨c0, c1, _, _, _⟩ := rdA_cells h
  have H : Hid (w.heap[b]? = some (rdA s p f r l)) := h
  have HS : Hid (s.size ≤ maxLen) := hs
  obtain ⟨hp, _, hop⟩ := M.tk_lt ht
  have HO : Hid (M.ops s R F L (M.letters (M.KS (M.bt s p))) (p + 1) = M.opn s (p + 1) (M.bt s p) R F L) := by
    show _ = _
    rw [(M.KS_facts _ (by omega)).1, M.ops_opn _ _ _ _ _ _ (by omega)]
  have HK : Hid ((M.KS (M.bt s p)).size ≤ 3) := by show _ ≤ _; rw [(M.KS_facts _ (by omega)).2]; exact Nat.le_refl _
  have HT : Hid (M.tk s p 0 22 = true) := ht
  have HTab : Hid (Tab w) := hT
  clear h hs ht hT
  go_enter Tryd.func61, Tryd.ntmps61
  go_wp2_with fail
  refine (take_good b s p 0 22 f r l _ _ _ (rdA_alloc H.out _) HS.out rfl rfl HT.out).mono ?_
  rintro e w1 ⟨rfl, hh, hg⟩
  have hT1 := (HTab.out.alloc _).kept hg hb0
  have hc := hT1.2 (M.bt s p) (by omega)
  have hz1 := hT1.1
  have HH : Hid (w1.heap[b]? = some (rdA s ((p + 1 : Nat) : Int) f r l)) := hh
  clear hh
  generalize hq : M.bt s p = q at *
  have HQ : Hid (M.bt s p = q) := hq
  clear hq hT1
  go_wp2_with fail
  refine (operands_any b s (M.KS q) (p + 1) R F L f r l _ HH.out HS.out HK.out (by omega) hr hf hl h1 h2 h3 h4).mono ?_
  rintro e w2 ⟨rfl, hh, hg2⟩
  rw [HO.out] at hh ⊢
  rw [ho.out]
  obtain ⟨hz, d0, d1, d2, d3, e0, e1, e2, e3⟩ := four_cells (k := w.heap.size) (heap_alloc_new w _) (grown_trans hg hg2) (by omega)
  have HH2 : Hid (w2.heap[b]? = some (rdA s ((M.opn s (p + 1) q R F L).1 : Nat) f r l)) := hh
  clear hh
  go_wp2_with fail
  refine bodyPost_ret (v := .tuple #[.agg #[.int .u8 0, .int .u8 0, .int .u8 0, .int .u8 0], .bool false]) (by simp [results, Tryd.results61, go_sem, *]) rfl ⟨⟨0, 0, 0, 0, rfl, fun h => by cases h⟩, ?_, ?_⟩
  · repeat (rw [Below.heap_setCell _ _ _ _ (by simp; omega)])
    rw [HQ.out]; exact HH2.out
  · repeat (refine grown_setCell ?_ (Or.inr (by simp)) _)
    exact grown_trans (grown_trans (World.grownBy_alloc _ _ _) hg) hg2
set_option maxHeartbeats 400000 in
theorem instruction_yes (b : Nat) (s : ByteArray) (p R F L : Nat) (f r l : Int) (w : World) (h : w.heap[b]? = some (rdA s p f r l)) (hs : s.size ≤ maxLen) (hb0 : b ≠ 0) (hT : Tab w) (hr : Hid (r = R)) (hf : Hid (f = F)) (hl : Hid (l = L)) (h1 : 1 ≤ R) (h2 : 1 ≤ F) (h3 : R ≤ 8) (h4 : F ≤ 8)
    (ht : M.tk s p 0 22 = true) (ho : Hid ((M.opn s (p + 1) (M.bt s p) R F L).2 = true)) :
    Calls Tryd.prog 61 #[.pointer (some ⟨b, 0, none⟩)] w fun e w' => Instr4 s p e true ∧ w'.heap[b]? = some (rdA s ((p + 4 : Nat) : Int) f r l) ∧ w.grownBy w' (some b) := by
  have hb := heap_lt h
  obtain ⟨c0, c1, _, _, _⟩ := rdA_cells h
  have H : Hid (w.heap[b]? = some (rdA s p f r l)) := h
  have HS : Hid (s.size ≤ maxLen) := hs
  obtain ⟨hp, _, hop⟩ := M.tk_lt ht
  have HO : Hid (M.ops s R F L (M.letters (M.KS (M.bt s p))) (p + 1) = M.opn s (p + 1) (M.bt s p) R F L) := by
    show _ = _
    rw [(M.KS_facts _ (by omega)).1, M.ops_opn _ _ _ _ _ _ (by omega)]
  have HK : Hid ((M.KS (M.bt s p)).size ≤ 3) := by show _ ≤ _; rw [(M.KS_facts _ (by omega)).2]; exact Nat.le_refl _
  have HT : Hid (M.tk s p 0 22 = true) := ht
  have HTab : Hid (Tab w) := hT
  clear h hs ht hT
  go_enter Tryd.func61, Tryd.ntmps61
  go_wp2_with fail
  refine (take_good b s p 0 22 f r l _ _ _ (rdA_alloc H.out _) HS.out rfl rfl HT.out).mono ?_
  rintro e w1 ⟨rfl, hh, hg⟩
  have hT1 := (HTab.out.alloc _).kept hg hb0
  have hc := hT1.2 (M.bt s p) (by omega)
  have hz1 := hT1.1
  have HH : Hid (w1.heap[b]? = some (rdA s ((p + 1 : Nat) : Int) f r l)) := hh
  clear hh
  generalize hq : M.bt s p = q at *
  have HQ : Hid (M.bt s p = q) := hq
  clear hq hT1
  go_wp2_with fail
  refine (operands_any b s (M.KS q) (p + 1) R F L f r l _ HH.out HS.out HK.out (by omega) hr hf hl h1 h2 h3 h4).mono ?_
  rintro e w2 ⟨rfl, hh, hg2⟩
  rw [HO.out] at hh ⊢
  rw [ho.out]
  rw [M.opn_yes ho.out] at hh
  have hle := (M.opn_le (s := s) (p := p + 1) (op := q) (r := R) (f := F) (l := L) (by omega)).2
  rw [M.opn_yes ho.out] at hle
  obtain ⟨hz, d0, d1, d2, d3, e0, e1, e2, e3⟩ := four_cells (k := w.heap.size) (heap_alloc_new w _) (grown_trans hg hg2) (by omega)
  have HH2 : Hid (w2.heap[b]? = some (rdA s ((p + 4 : Nat) : Int) f r l)) := hh
  obtain ⟨x0, x1, _, _, _⟩ := rdA_cells hh
  clear hh
  go_wp2_with fail
  go_quiet (fail)
  go_wp2_with fail
  have h4 : (s.extract p (p + 1 + 3)).size = 4 := by simp; omega
  have HX : Hid (M.bt (s.extract p (p + 1 + 3)) 0 = M.bt s p ∧ M.bt (s.extract p (p + 1 + 3)) 1 = M.bt s (p + 1) ∧ M.bt (s.extract p (p + 1 + 3)) 2 = M.bt s (p + 2) ∧ M.bt (s.extract p (p + 1 + 3)) 3 = M.bt s (p + 3)) :=
    ⟨M.bt_extract s p _ 0 (by omega) (by omega), M.bt_extract s p _ 1 (by omega) (by omega), M.bt_extract s p _ 2 (by omega) (by omega), M.bt_extract s p _ 3 (by omega) (by omega)⟩
  generalize s.extract p (p + 1 + 3) = x at *
  go_region
  go_wp2_with fail
  refine bodyPost_ret (v := .tuple #[.agg #[.int .u8 (x[0].toNat : Int), .int .u8 (x[1].toNat : Int), .int .u8 (x[2].toNat : Int), .int .u8 (x[3].toNat : Int)], .bool true]) (by simp [results, Tryd.results61, go_sem, *]) rfl ⟨⟨_, _, _, _, rfl, fun _ => ?_⟩, ?_, ?_⟩
  · obtain ⟨k0, k1, k2, k3⟩ := HX.out
    rw [M.bt_at x 0 (by omega)] at k0
    rw [M.bt_at x 1 (by omega)] at k1
    rw [M.bt_at x 2 (by omega)] at k2
    rw [M.bt_at x 3 (by omega)] at k3
    rw [k0, k1, k2, k3]
    exact ⟨rfl, rfl, rfl, rfl⟩
  · repeat (rw [Below.heap_setCell _ _ _ _ (by simp; omega)])
    exact HH2.out
  · repeat (refine grown_setCell ?_ (Or.inr (by simp)) _)
    exact grown_drewN (grown_trans (grown_trans (World.grownBy_alloc _ _ _) hg) hg2) _

/-- An instruction: just as 'ins' says. -/
theorem instruction_any (b : Nat) (s : ByteArray) (p R F L : Nat) (f r l : Int) (w : World) (h : w.heap[b]? = some (rdA s p f r l)) (hs : s.size ≤ maxLen) (hp : p ≤ s.size) (hb0 : b ≠ 0) (hT : Tab w) (hr : Hid (r = R)) (hf : Hid (f = F)) (hl : Hid (l = L)) (h1 : 1 ≤ R) (h2 : 1 ≤ F) (h3 : R ≤ 8) (h4 : F ≤ 8) :
    Calls Tryd.prog 61 #[.pointer (some ⟨b, 0, none⟩)] w fun e w' => Instr4 s p e (M.ins s p R F L).2 ∧ w'.heap[b]? = some (rdA s ((M.ins s p R F L).1 : Nat) f r l) ∧ w.grownBy w' (some b) := by
  by_cases ht : M.tk s p 0 22 = true
  · have e : M.ins s p R F L = M.opn s (p + 1) (M.bt s p) R F L := by unfold M.ins; rw [if_pos ht]
    rw [e]
    by_cases ho : (M.opn s (p + 1) (M.bt s p) R F L).2 = true
    · rw [ho, M.opn_yes ho]
      exact instruction_yes b s p R F L f r l w h hs hb0 hT hr hf hl h1 h2 h3 h4 ht ho
    · have ho' : (M.opn s (p + 1) (M.bt s p) R F L).2 = false := by simpa using ho
      rw [ho']
      exact instruction_no2 b s p R F L f r l w h hs hb0 hT hr hf hl h1 h2 h3 h4 ht ho'
  · have e : M.ins s p R F L = (p, false) := by unfold M.ins; rw [if_neg ht]
    rw [e]
    exact instruction_no1 b s p f r l w h hp (by simpa using ht)

end Go.Proofs.YtohobhbcjikhpaaDoor
